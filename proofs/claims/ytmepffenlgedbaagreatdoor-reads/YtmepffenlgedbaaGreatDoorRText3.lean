/-
  THE WALKS of realstree's Text, node by node.
-/
import Derived.Test.YtmepffenlgedbaaGreatDoorRText2
import Derived.Deep.RegionWith
set_option linter.unusedSimpArgs false
namespace Go.Proofs.YtmepffenlgedbaaGreatDoor
open Go.RowKit
open Go.Deep (BT)

theorem terms_form {sb : Nat} {w : World} {ts : List Int} {v : Value} (h : TermsAt sb w ts v) : ∃ ao ln cp, v = .slice ao ln cp := by
  rcases h with ⟨_, h⟩ | ⟨tb, cap, cur, h, _⟩
  · exact ⟨_, _, _, h⟩
  · exact ⟨_, _, _, h⟩

/-- A sum of two texts under a name of its own. -/
theorem add_named {a b : ByteArray} {l m : List UInt8} (ha : Str a l) (hb : Str b m) (h : l.length + m.length ≤ 9000000) :
    ∃ y : ByteArray, (∀ W : World, (Op.stringOp .add a b).run Tryz.prog W = .ok (.string y) W) ∧ Str y (l ++ m) :=
  ⟨a ++ b, fun W => run_string_add_sum W a b (by rw [ha.size, hb.size]; omega), ha.app hb⟩

theorem drew_below (w : World) : Below w.heap.size w w.drew := ⟨rfl, rfl, rfl, Nat.le_refl _, fun _ _ => rfl⟩
theorem undrew {w w' : World} (h : Below w.drew.heap.size w.drew w') : Below w.heap.size w w' := ⟨h.os, h.tape, h.output, h.size, h.block⟩
/-- What is said of every world from here on is said of every world from a later one on. -/
theorem later {w w1 : World} {Q : World → Prop} (h : ∀ w', Below w.heap.size w w' → Q w') (hb : Below w.heap.size w w1) : ∀ w', Below w1.heap.size w1 w' → Q w' := fun w' h' => h w' (hb.trans (h'.mono hb.size))

set_option maxRecDepth 100000 in
set_option maxHeartbeats 1000000 in
theorem rt_num (sb b n : Nat) (w : World) (hn : n < 1000000000) (pv qv tv lv : Value) (h : w.heap[b]? = some (.cells #[.string (Rd.opName 1), .bool false, pv, .bool false, qv, tv, lv] 62 (0, 0))) (hp : TermsAt sb w (Rd.places 5 n) pv) :
    Calls Tryz.prog 85 #[.pointer (some ⟨b, 0, none⟩)] w (TxtPost w (Rd.dec n)) := by
  have NT := hidp (ntext_any sb n w pv hp hn)
  obtain ⟨ao, ln, cp, rfl⟩ := terms_form hp
  have c0 : w.cell? ⟨b, 0, none⟩ = some (.string ⟨#[113]⟩) := cell_of_block h rfl
  have c1 : w.cell? ⟨b, 1, none⟩ = some (.bool false) := cell_of_block h rfl
  have c2 : w.cell? ⟨b, 2, none⟩ = some (.slice ao ln cp) := cell_of_block h rfl
  clear h hp
  go_enter Tryz.func85, Tryz.ntmps85
  go_wp2_with (go_at_call 116; refine (NT.out).mono ?_; rintro e w1 ⟨u, rfl, hu, hb1⟩)
  go_ret
  exact ⟨_, rfl, hu, hb1⟩

set_option maxRecDepth 100000 in
set_option maxHeartbeats 1000000 in
theorem rt_const (b : Nat) (w : World) (k : Int) (hk : k = 2 ∨ k = 3) (hc : w.cell? ⟨b, 0, none⟩ = some (.string (Rd.opName k))) :
    Calls Tryz.prog 85 #[.pointer (some ⟨b, 0, none⟩)] w (TxtPost w (Rd.sym k)) := by
  rcases hk with rfl | rfl
  all_goals
    simp only [Rd.opName] at hc
    go_enter Tryz.func85, Tryz.ntmps85
    go_wp2_with fail
    go_ret
    exact ⟨_, rfl, Str.mk' _, Below.refl _ _⟩

set_option maxRecDepth 100000 in
set_option maxHeartbeats 1000000 in
theorem rt_neg (b kb lb : Nat) (w : World) (l : List UInt8) (pv qv tv : Value) (h : w.heap[b]? = some (.cells #[.string (Rd.opName 5), .bool false, pv, .bool false, qv, tv, .slice (some ⟨kb, 0, none⟩) 1 1] 62 (0, 0))) (hkb : w.heap[kb]? = some (.cells #[.pointer (some ⟨lb, 0, none⟩)] 28 (0, 0))) (hlen : l.length ≤ 1000010)
    (hT : ∀ w1, Below w.heap.size w w1 → Calls Tryz.prog 117 #[.pointer (some ⟨lb, 0, none⟩), .int .i64 3] w1 (TxtPost w1 l)) :
    Calls Tryz.prog 85 #[.pointer (some ⟨b, 0, none⟩)] w (TxtPost w (45 :: l)) := by
  have c0 : w.cell? ⟨b, 0, none⟩ = some (.string ⟨#[110, 101, 103]⟩) := cell_of_block h rfl
  have c6 : w.cell? ⟨b, 6, none⟩ = some (.slice (some ⟨kb, 0, none⟩) 1 1) := cell_of_block h rfl
  have k0 : w.cell? ⟨kb, 0, none⟩ = some (.pointer (some ⟨lb, 0, none⟩)) := cell_of_block hkb rfl
  have HT := hidp hT
  clear h hkb hT
  go_enter Tryz.func85, Tryz.ntmps85
  go_wp2_with (go_at_call 117; refine (HT.out w (Below.refl _ _)).mono ?_; rintro e w1 ⟨u, rfl, hu, hb1⟩; have hsz : u.size ≤ 1000010 := by (rw [hu.size]; exact hlen))
  go_ret
  exact ⟨_, rfl, (Str.mk' [45]).app hu, hb1⟩

end Go.Proofs.YtmepffenlgedbaaGreatDoor
