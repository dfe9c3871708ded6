/-
  THE WALK of realskeep's number.
-/
import Derived.Test.YtmepffenlgedbaaDoorKPick
import Derived.Test.YtmepffenlgedbaaDoorTText2
import Derived.Test.YtmepffenlgedbaaDoorHeld
import Derived.Deep.RegionWith
set_option linter.unusedSimpArgs false
namespace Go.Proofs.YtmepffenlgedbaaDoor
open Go.RowKit

/-- A text comes out, and nothing old has turned. -/
def StrPost (w : World) (l : List UInt8) (e : Ending) (w' : World) : Prop := ∃ u, e = .returned (.string u) ∧ Str u l ∧ Below w.heap.size w w'

theorem byte_convK (wr : World) (x : Nat) (hx : x < 10) : (convert 51 9 (.slice (some ⟨wr.heap.size, 0, none⟩) 1 1)).run Tryd.prog (wr.alloc (.cells #[.int .u8 (48 + (x : Int))] 5)) = .ok (.string ⟨#[UInt8.ofNat (48 + x)]⟩) (wr.alloc (.cells #[.int .u8 (48 + (x : Int))] 5)) := by
  have h : ((UInt8.ofNat (48 + x)).toNat : Int) = 48 + (x : Int) := by
    rw [UInt8.toNat_ofNat']
    omega
  refine run_convert_bytes_back (P := Tryd.prog) _ 51 9 5 ⟨wr.heap.size, 0, none⟩ 1 [UInt8.ofNat (48 + x)] Tryd.underlying51 Tryd.underlying5 Tryd.underlying9 ?_
  intro j hj
  obtain rfl : j = 0 := by simpa using hj
  show _ = some (Value.int .u8 ((UInt8.ofNat (48 + x)).toNat : Int))
  rw [h]
  exact cell_of_block (cells_new _ _) rfl

theorem conv_at (W : World) (b x : Nat) (h : W.cell? ⟨b, 0, none⟩ = some (.int .u8 (48 + (x : Int) % 10))) : (convert 51 9 (.slice (some ⟨b, 0, none⟩) 1 1)).run Tryd.prog W = .ok (.string ⟨#[UInt8.ofNat (48 + x % 10)]⟩) W := by
  have hn : ((UInt8.ofNat (48 + x % 10)).toNat : Int) = 48 + (x : Int) % 10 := by
    rw [UInt8.toNat_ofNat']
    omega
  refine run_convert_bytes_back (P := Tryd.prog) _ 51 9 5 ⟨b, 0, none⟩ 1 [UInt8.ofNat (48 + x % 10)] Tryd.underlying51 Tryd.underlying5 Tryd.underlying9 ?_
  intro j hj
  obtain rfl : j = 0 := by simpa using hj
  show _ = some (Value.int .u8 ((UInt8.ofNat (48 + x % 10)).toNat : Int))
  rw [hn]
  simpa [Addr.add] using h

theorem add_namedK {a b : ByteArray} {l m : List UInt8} (ha : Str a l) (hb : Str b m) (h : l.length + m.length ≤ 9000000) :
    ∃ y : ByteArray, (∀ W : World, (Op.stringOp .add a b).run Tryd.prog W = .ok (.string y) W) ∧ Str y (l ++ m) :=
  ⟨a ++ b, fun W => run_string_add_sum W a b (by rw [ha.size, hb.size]; omega), ha.app hb⟩

theorem cell_conv {w w1 : World} {v z : Int} (h : v = z) (hb : Below (w.alloc (.cells #[.int .u8 v] 5)).drew.heap.size (w.alloc (.cells #[.int .u8 v] 5)).drew w1) : w1.cell? ⟨w.heap.size, 0, none⟩ = some (.int .u8 z) := by
  subst h
  have e : (w.alloc (.cells #[.int .u8 v] 5)).cell? ⟨w.heap.size, 0, none⟩ = some (.int .u8 v) := cell_of_block (o := 0) (cells_new w _) rfl
  refine (hb.cell (p := ⟨w.heap.size, 0, none⟩) ?_).trans e
  show w.heap.size < (w.alloc (.cells #[.int .u8 v] 5)).heap.size
  simp

theorem belK1 {w w1 : World} (h : Below w.drew.heap.size w.drew w1) (o : Obj) : Below w.heap.size w (w1.alloc o) := by
  have h' : Below w.heap.size w w1 := ⟨h.os, h.tape, h.output, h.size, h.block⟩
  exact h'.alloc h'.size o
theorem belK2 {w w1 : World} {o : Obj} (h : Below (w.alloc o).drew.heap.size (w.alloc o).drew w1) : Below w.heap.size w w1 := by
  have h' : Below (w.alloc o).heap.size (w.alloc o) w1 := ⟨h.os, h.tape, h.output, h.size, h.block⟩
  have h0 : Below w.heap.size w (w.alloc o) := (Below.refl _ _).alloc (Nat.le_refl _) o
  exact h0.trans (h'.mono h0.size)

theorem undrewK {w w' : World} (h : Below w.drew.heap.size w.drew w') : Below w.heap.size w w' := ⟨h.os, h.tape, h.output, h.size, h.block⟩

set_option maxRecDepth 100000 in
set_option maxHeartbeats 1000000 in
theorem number_one (x : Nat) (w : World) (hx : x < 10) : Calls Tryd.prog 8 #[.int .i64 x] w (StrPost w (Rd.dec x)) := by
  have hcv := byte_convK w x hx
  go_enter Tryd.func8, Tryd.ntmps8
  go_wp2_with fail
  go_ret
  refine ⟨_, rfl, ⟨?_⟩, (Below.refl _ _).alloc (Nat.le_refl _) _⟩
  show [48 + UInt8.ofNat x] = Rd.dec x
  rw [Rd.dec, Int.toNat_natCast, Lib.decDigits_one hx, UInt8.ofNat_add]
  rfl

set_option maxRecDepth 100000 in
set_option maxHeartbeats 1000000 in
theorem number_two (x : Nat) (w : World) (h0 : 10 ≤ x) (hx : x < 100) : Calls Tryd.prog 8 #[.int .i64 x] w (StrPost w (Rd.dec x)) := by
  have N : Hid (∀ (y : Int) (w : World), y = ((x / 10 : Nat) : Int) → Calls Tryd.prog 8 #[.int .i64 y] w (StrPost w (Rd.dec (x / 10 : Nat)))) := by
    rintro y w rfl
    exact number_one (x / 10) w (by omega)
  have hcv := fun W b h => conv_at W b x h
  have hw : IntKind.u8.wrap (IntKind.i64.wrap (48 + (x : Int).tmod 10)) = 48 + (x : Int) % 10 := by
    rw [Int.tmod_eq_emod_of_nonneg (by omega), IntKind.wrap_i64, IntKind.wrap_u8]
    omega
  have hl : (Rd.dec ((x / 10 : Nat) : Int)).length ≤ 9 := Rd.dec_len ⟨by omega, by omega⟩
  go_enter Tryd.func8, Tryd.ntmps8
  go_wp2_with fail
  go_region_with (go_at_call 8; refine (N.out _ _ (by first | rfl | omega | (rw [IntKind.wrap_i64]; omega))).mono ?_; rintro e w1 ⟨u, rfl, hu, hb⟩; (first | have hcc := cell_conv hw hb | have hcc := cell_conv (rfl : (48 + (x : Int) % 10) = 48 + (x : Int) % 10) hb | have hcc := 0); obtain ⟨y1, ya1, ys1⟩ := add_namedK hu (Str.mk' [UInt8.ofNat (48 + x % 10)]) (show (Rd.dec ((x / 10 : Nat) : Int)).length + 1 ≤ 9000000 by omega); obtain ⟨y2, ya2, ys2⟩ := add_namedK hu (Str.mk' [48 + UInt8.ofNat (x % 10)]) (show (Rd.dec ((x / 10 : Nat) : Int)).length + 1 ≤ 9000000 by omega); have HU := hideq hu; have HB := hideq hb; clear hu hb)
  all_goals
    have e1 : Rd.dec ((x / 10 : Nat) : Int) ++ [UInt8.ofNat (48 + x % 10)] = Rd.dec x := by
      have e0 : Lib.decDigits x = Lib.decDigits (x / 10) ++ [UInt8.ofNat (48 + x % 10)] := by
        conv => lhs; rw [Lib.decDigits, dif_neg (by omega)]
      rw [Rd.dec, Rd.dec, Int.toNat_natCast, Int.toNat_natCast, e0]
    have e2 : Rd.dec ((x / 10 : Nat) : Int) ++ [48 + UInt8.ofNat (x % 10)] = Rd.dec x := by
      rw [← e1, UInt8.ofNat_add]
      rfl
    have E1 := hideq e1
    have E2 := hideq e2
    clear e1 e2
    go_wp2_with fail
    go_ret
    first
      | exact ⟨_, rfl, ys1.to E1.out, belK1 HB.out _⟩
      | exact ⟨_, rfl, ys1.to E1.out, belK2 HB.out⟩
      | exact ⟨_, rfl, ys2.to E2.out, belK1 HB.out _⟩
      | exact ⟨_, rfl, ys2.to E2.out, belK2 HB.out⟩

/-- A number below 100 as a text. -/
theorem number_any (x : Nat) (w : World) (hx : x < 100) : Calls Tryd.prog 8 #[.int .i64 x] w (StrPost w (Rd.dec x)) := by
  rcases Nat.lt_or_ge x 10 with h | h
  · exact number_one x w h
  · exact number_two x w h hx
end Go.Proofs.YtmepffenlgedbaaDoor
