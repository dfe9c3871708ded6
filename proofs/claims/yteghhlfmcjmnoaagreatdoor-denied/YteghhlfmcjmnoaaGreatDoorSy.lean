import Derived.Test.YteghhlfmcjmnoaaGreatDoorNums2
import Derived.Test.YteghhlfmcjmnoaaGreatDoorPure
import Derived.WalkSmall
import Derived.BigQuiet
import Derived.Lib.OthersKept
import Derived.Deep.LoopGhost
import Derived.Deep.OwnRows
import Derived.Deep.RegionWith
import Derived.Deep.RegionHeld3
set_option linter.unusedSimpArgs false
namespace Go.Proofs.YteghhlfmcjmnoaaGreatDoor
open Go.RowKit
theorem hid {p : Prop} (h : p) : Hid p := h
def IntsB (B : Nat) (w : World) (xs : List Int) (v : Value) : Prop := w.ownsRow B 3 1 v xs.length (xs.map (Value.int .i64))
abbrev Ints (w : World) (xs : List Int) (v : Value) : Prop := IntsB 0 w xs v
theorem own_below {w w' : World} {B e s n : Nat} {v : Value} {xs : List Value} (h : w.ownsRow B e s v n xs) (hb : Below w.heap.size w w') : w'.ownsRow B e s v n xs := by
  obtain ⟨h1, h2⟩ := h
  refine ⟨h1, ?_⟩
  rcases h2 with h2 | ⟨g, cap, cur, hv, hg, hh, r⟩
  · exact Or.inl h2
  · exact Or.inr ⟨g, cap, cur, hv, hg, by rw [hb.block g (heap_lt hh)]; exact hh, r⟩
theorem own_base {w : World} {B B' e s n : Nat} {v : Value} {xs : List Value} (h : w.ownsRow B e s v n xs) (hb : B' ≤ B) : w.ownsRow B' e s v n xs := by
  obtain ⟨h1, h2⟩ := h
  refine ⟨h1, ?_⟩
  rcases h2 with h2 | ⟨g, cap, cur, hv, hg, hh, r⟩
  · exact Or.inl h2
  · exact Or.inr ⟨g, cap, cur, hv, by omega, hh, r⟩
theorem IntsB.below {B : Nat} {w w' : World} {xs : List Int} {v : Value} (h : IntsB B w xs v) (hb : Below w.heap.size w w') : IntsB B w' xs v := own_below h hb
theorem IntsB.alloc {B : Nat} {w : World} {xs : List Int} {v : Value} (h : IntsB B w xs v) (o : Obj) : IntsB B (w.alloc o) xs v := h.below ((Below.refl _ _).alloc (Nat.le_refl _) o)
theorem IntsB.nil (B : Nat) (w : World) : IntsB B w [] (.slice none 0 0) := ⟨rfl, Or.inl ⟨rfl, rfl⟩⟩
theorem IntsB.weak {B B' : Nat} {w : World} {xs : List Int} {v : Value} (h : IntsB B w xs v) (hb : B' ≤ B) : IntsB B' w xs v := own_base h hb
theorem IntsB.shape {B : Nat} {w : World} {xs : List Int} {v : Value} (h : IntsB B w xs v) : ∃ ao cap, v = .slice ao xs.length cap ∧ xs.length ≤ cap := by
  rcases h.2 with ⟨h, h'⟩ | ⟨g, cap, cur, h, _, _, hc, _⟩
  · exact ⟨none, 0, by rw [h, h'], by omega⟩
  · exact ⟨_, _, h, hc⟩
theorem IntsB.place {B : Nat} {w : World} {xs : List Int} {ao : Option Addr} {n cap : Nat} (h : IntsB B w xs (.slice ao n cap)) (hp : 0 < xs.length) : ∃ g, ao = some ⟨g, 0, none⟩ ∧ ∀ j, j < xs.length → w.cell? ⟨g, j, none⟩ = some (.int .i64 (Nm.at' xs j)) := by
  rcases h.2 with ⟨_, h'⟩ | ⟨g, cap', cur, h, _, hh, hc, _, _, ht⟩
  · omega
  · cases h
    refine ⟨g, rfl, fun j hj => cell_of_block hh ?_⟩
    have : (xs.map (Value.int .i64))[j]? = some (.int .i64 (Nm.at' xs j)) := by
      simp [Nm.at', List.getD, List.getElem?_eq_getElem hj]
    rw [← ht, List.getElem?_take_of_lt (by omega)] at this
    simpa using this
theorem IntsB.take {B : Nat} {w : World} {xs : List Int} {ao : Option Addr} {n cap : Nat} (h : IntsB B w xs (.slice ao n cap)) (k : Nat) (hk : k ≤ xs.length) (hp : 0 < xs.length) : IntsB B w (xs.take k) (.slice ao k cap) := by
  rcases h.2 with ⟨_, h'⟩ | ⟨g, cap', cur, h, h0, hh, hc, hm, hs, ht⟩
  · omega
  · cases h
    have hl : (xs.take k).length = k := by rw [List.length_take]; omega
    refine ⟨by simp, Or.inr ⟨g, cap, cur, by rw [hl], h0, hh, by omega, hm, hs, ?_⟩⟩
    rw [hl, List.map_take, ← ht, List.take_take]
    congr 1
    omega
def NumAt (w : World) (z : Int) (v : Value) : Prop := ∃ ds dv, v = .agg #[.bool (decide (z < 0)), dv] ∧ Ints w ds dv ∧ Nm.Good 10000 ds ∧ Nm.val 10000 ds = z.natAbs
theorem NumAt.below {w w' : World} {z : Int} {v : Value} (h : NumAt w z v) (hb : Below w.heap.size w w') : NumAt w' z v := by
  obtain ⟨ds, dv, h1, h2, h3⟩ := h
  exact ⟨ds, dv, h1, h2.below hb, h3⟩
theorem NumAt.alloc {w : World} {z : Int} {v : Value} (h : NumAt w z v) (o : Obj) : NumAt (w.alloc o) z v := h.below ((Below.refl _ _).alloc (Nat.le_refl _) o)
def NumPost (w : World) (z : Int) : Ending → World → Prop := fun e w' => ∃ v, e = .returned v ∧ NumAt w' z v ∧ Below w.heap.size w w'
def FrsC (B : Nat) : Value → Prop
  | .slice (some a) _ _ => B ≤ a.block
  | _ => True
def Frs (B : Nat) : Value → Prop
  | .agg xs => ∀ x ∈ xs.toList, FrsC B x
  | _ => True
theorem FrsC.weak {B B' : Nat} {v : Value} (h : FrsC B v) (hb : B' ≤ B) : FrsC B' v := by
  unfold FrsC at *
  split
  · exact Nat.le_trans hb h
  · trivial
theorem Frs.weak {B B' : Nat} {v : Value} (h : Frs B v) (hb : B' ≤ B) : Frs B' v := by
  unfold Frs at *
  split
  · exact fun x hx => (h x hx).weak hb
  · trivial
theorem Frs.c1 {B : Nat} {a b : Value} (h : Frs B (.agg #[a, b])) : FrsC B b := h b (by simp)
def NumPostB (B : Nat) (w : World) (z : Int) : Ending → World → Prop := fun e w' => ∃ v, e = .returned v ∧ NumAt w' z v ∧ Below w.heap.size w w' ∧ Frs B v
theorem NumPostB.any {B : Nat} {w w' : World} {z : Int} {e : Ending} (h : NumPostB B w z e w') : NumPost w z e w' := by
  obtain ⟨v, h1, h2, h3, _⟩ := h
  exact ⟨v, h1, h2, h3⟩
end Go.Proofs.YteghhlfmcjmnoaaGreatDoor
set_option linter.unusedSimpArgs false
namespace Go.Proofs.YteghhlfmcjmnoaaGreatDoor
open Go.RowKit
theorem infoU : (Tryz.prog.info? 142).map (fun i => (i.zero, i.size, i.bytes)) = some (some (.int .u32 0), 1, 4) := by kernel_rfl
def LimsB (B : Nat) (w : World) (xs : List Int) (v : Value) : Prop := w.ownsRow B 142 1 v xs.length (xs.map (Value.int .u32))
abbrev Lims (w : World) (xs : List Int) (v : Value) : Prop := LimsB 0 w xs v
theorem LimsB.below {B : Nat} {w w' : World} {xs : List Int} {v : Value} (h : LimsB B w xs v) (hb : Below w.heap.size w w') : LimsB B w' xs v := own_below h hb
theorem LimsB.alloc {B : Nat} {w : World} {xs : List Int} {v : Value} (h : LimsB B w xs v) (o : Obj) : LimsB B (w.alloc o) xs v := h.below ((Below.refl _ _).alloc (Nat.le_refl _) o)
theorem LimsB.nil (B : Nat) (w : World) : LimsB B w [] (.slice none 0 0) := ⟨rfl, Or.inl ⟨rfl, rfl⟩⟩
theorem LimsB.weak {B B' : Nat} {w : World} {xs : List Int} {v : Value} (h : LimsB B w xs v) (hb : B' ≤ B) : LimsB B' w xs v := own_base h hb
theorem LimsB.shape {B : Nat} {w : World} {xs : List Int} {v : Value} (h : LimsB B w xs v) : ∃ ao cap, v = .slice ao xs.length cap ∧ xs.length ≤ cap := by
  rcases h.2 with ⟨h, h'⟩ | ⟨g, cap, cur, h, _, _, hc, _⟩
  · exact ⟨none, 0, by rw [h, h'], by omega⟩
  · exact ⟨_, _, h, hc⟩
theorem LimsB.place {B : Nat} {w : World} {xs : List Int} {ao : Option Addr} {n cap : Nat} (h : LimsB B w xs (.slice ao n cap)) (hp : 0 < xs.length) : ∃ g, ao = some ⟨g, 0, none⟩ ∧ ∀ j, j < xs.length → w.cell? ⟨g, j, none⟩ = some (.int .u32 (Nm.at' xs j)) := by
  rcases h.2 with ⟨_, h'⟩ | ⟨g, cap', cur, h, _, hh, hc, _, _, ht⟩
  · omega
  · cases h
    refine ⟨g, rfl, fun j hj => cell_of_block hh ?_⟩
    have : (xs.map (Value.int .u32))[j]? = some (.int .u32 (Nm.at' xs j)) := by
      simp [Nm.at', List.getD, List.getElem?_eq_getElem hj]
    rw [← ht, List.getElem?_take_of_lt (by omega)] at this
    simpa using this
theorem LimsB.take {B : Nat} {w : World} {xs : List Int} {ao : Option Addr} {n cap : Nat} (h : LimsB B w xs (.slice ao n cap)) (k : Nat) (hk : k ≤ xs.length) (hp : 0 < xs.length) : LimsB B w (xs.take k) (.slice ao k cap) := by
  rcases h.2 with ⟨_, h'⟩ | ⟨g, cap', cur, h, h0, hh, hc, hm, hs, ht⟩
  · omega
  · cases h
    have hl : (xs.take k).length = k := by rw [List.length_take]; omega
    refine ⟨by simp, Or.inr ⟨g, cap, cur, by rw [hl], h0, hh, by omega, hm, hs, ?_⟩⟩
    rw [hl, List.map_take, ← ht, List.take_take]
    congr 1
    omega
theorem LimsB.other {b : Nat} {w : World} {xs : List Int} {v : Value} (h : LimsB b w xs v) {B o : Nat} {ys : Array Value} {T : TypeId} {m : Nat × Nat} (hB : w.heap[B]? = some (.cells ys T m)) (hT : T ≠ 142) (u : Value) : LimsB b (w.setCell ⟨B, o, none⟩ u) xs v := by
  obtain ⟨h1, h2⟩ := h
  refine ⟨h1, ?_⟩
  rcases h2 with h2 | ⟨g, cap, cur, hv, hg, hh, r⟩
  · exact Or.inl h2
  · refine Or.inr ⟨g, cap, cur, hv, hg, ?_, r⟩
    rw [Below.heap_setCell _ _ _ _ ?_]
    · exact hh
    · intro e
      simp only at e
      rw [e] at hh
      rw [hh] at hB
      simp at hB
      exact hT hB.2.1.symm
def LBlk (w : World) (G : Nat) (xs : List Int) : Prop := ∃ cur, w.heap[G]? = some (.cells cur 142 (0, 0)) ∧ cur.toList = xs.map (Value.int .u32)
theorem LBlk.cell {w : World} {G : Nat} {xs : List Int} (h : LBlk w G xs) (j : Nat) (hj : j < xs.length) : w.cell? ⟨G, j, none⟩ = some (.int .u32 (Nm.at' xs j)) := by
  obtain ⟨cur, h1, h2⟩ := h
  refine cell_of_block h1 ?_
  have : (xs.map (Value.int .u32))[j]? = some (.int .u32 (Nm.at' xs j)) := by
    simp [Nm.at', List.getD, List.getElem?_eq_getElem hj]
  rw [← h2] at this
  simpa using this
theorem LBlk.frozen {w : World} {G : Nat} {xs : List Int} (h : LBlk w G xs) (j : Nat) : w.frozen? ⟨G, j, none⟩ = false := by
  obtain ⟨cur, h1, h2⟩ := h
  exact frozen_of_block h1
theorem LBlk.set {w : World} {G : Nat} {xs : List Int} (h : LBlk w G xs) (j : Nat) (x : Int) : LBlk (w.setCell ⟨G, j, none⟩ (.int .u32 x)) G (xs.set j x) := by
  obtain ⟨cur, h1, h2⟩ := h
  refine ⟨_, heap_set h1 _, ?_⟩
  rw [Array.toList_setIfInBounds, h2, List.map_set]
theorem LBlk.lt {w : World} {G : Nat} {xs : List Int} (h : LBlk w G xs) : G < w.heap.size := by
  obtain ⟨cur, h1, h2⟩ := h
  exact heap_lt h1
theorem LBlk.drew {w : World} {G : Nat} {xs : List Int} (h : LBlk w G xs) : LBlk w.drew G xs := h
theorem LBlk.lims {w : World} {G : Nat} {xs : List Int} (h : LBlk w G xs) (hl : xs.length ≤ 100000000000) : Lims w xs (.slice (some ⟨G, 0, none⟩) xs.length xs.length) := by
  obtain ⟨cur, h1, h2⟩ := h
  refine ⟨by simp, Or.inr ⟨G, xs.length, cur, rfl, Nat.zero_le _, h1, Nat.le_refl _, by unfold maxLen; omega, ?_, ?_⟩⟩
  · rw [← Array.length_toList, h2]; simp
  · rw [h2]; exact List.take_of_length_le (by simp)
theorem LimsB.cellG {B : Nat} {w : World} {xs : List Int} {g n cap : Nat} (h : LimsB B w xs (.slice (some ⟨g, 0, none⟩) n cap)) (j : Nat) (hj : j < xs.length) : w.cell? ⟨g, j, none⟩ = some (.int .u32 (Nm.at' xs j)) := by
  obtain ⟨g', hg, hc⟩ := h.place (by omega)
  cases hg
  exact hc j hj
theorem LBlk.made (w : World) (n : Nat) : LBlk (w.alloc (.cells (madeCells #[.int .u32 0] n) 142)) w.heap.size (List.replicate n 0) := ⟨madeCells #[.int .u32 0] n, by show (w.heap.push _)[w.heap.size]? = _; simp, by rw [toList_madeCells_one]; simp⟩
theorem LimsB.lowSet {B : Nat} {w : World} {xs : List Int} {v : Value} (h : LimsB B w xs v) {G o : Nat} (hG : G < B) (u : Value) : LimsB B (w.setCell ⟨G, o, none⟩ u) xs v := by
  obtain ⟨h1, h2⟩ := h
  refine ⟨h1, ?_⟩
  rcases h2 with h2 | ⟨g, cap, cur, hv, hg, hh, r⟩
  · exact Or.inl h2
  · exact Or.inr ⟨g, cap, cur, hv, hg, by rw [Below.heap_setCell _ _ _ _ (by simp only; omega)]; exact hh, r⟩
theorem LBlk.below {w w' : World} {G : Nat} {xs : List Int} (h : LBlk w G xs) (hb : Below w.heap.size w w') : LBlk w' G xs := by
  obtain ⟨cur, h1, h2⟩ := h
  exact ⟨cur, by rw [hb.block _ (heap_lt h1)]; exact h1, h2⟩
def LimPost (w : World) (p : List Int → Prop) : Ending → World → Prop := fun e w' => ∃ v xs, e = .returned v ∧ p xs ∧ LimsB w.heap.size w' xs v ∧ Below w.heap.size w w'
def WhoAt (w : World) (z : Int) (v : Value) : Prop := ∃ ds dv, v = .agg #[.bool (decide (z < 0)), dv] ∧ Lims w ds dv ∧ Nm.Good 4294967296 ds ∧ Nm.val 4294967296 ds = z.natAbs
theorem WhoAt.below {w w' : World} {z : Int} {v : Value} (h : WhoAt w z v) (hb : Below w.heap.size w w') : WhoAt w' z v := by
  obtain ⟨ds, dv, h1, h2, h3⟩ := h
  exact ⟨ds, dv, h1, h2.below hb, h3⟩
theorem WhoAt.alloc {w : World} {z : Int} {v : Value} (h : WhoAt w z v) (o : Obj) : WhoAt (w.alloc o) z v := h.below ((Below.refl _ _).alloc (Nat.le_refl _) o)
theorem WhoAt.open {w : World} {z : Int} {v : Value} (h : WhoAt w z v) : ∃ ds ao cap, v = .agg #[.bool (decide (z < 0)), .slice ao ds.length cap] ∧ Lims w ds (.slice ao ds.length cap) ∧ Nm.Good 4294967296 ds ∧ Nm.val 4294967296 ds = z.natAbs := by
  obtain ⟨ds, dv, h1, h2, h3, h4⟩ := h
  obtain ⟨ao, cap, rfl, _⟩ := h2.shape
  exact ⟨ds, ao, cap, h1, h2, h3, h4⟩
theorem WhoAt.other {w : World} {z : Int} {v : Value} (h : WhoAt w z v) {B o : Nat} {ys : Array Value} {T : TypeId} {m : Nat × Nat} (hB : w.heap[B]? = some (.cells ys T m)) (hT : T ≠ 142) (u : Value) : WhoAt (w.setCell ⟨B, o, none⟩ u) z v := by
  obtain ⟨ds, dv, h1, h2, h3⟩ := h
  exact ⟨ds, dv, h1, h2.other hB hT u, h3⟩
def WhoPost (w : World) (z : Int) : Ending → World → Prop := fun e w' => ∃ v, e = .returned v ∧ WhoAt w' z v ∧ Below w.heap.size w w'
theorem lims_len {ds : List Int} {z : Int} {n : Nat} (hg : Nm.Good 4294967296 ds) (hv : Nm.val 4294967296 ds = z.natAbs) (hz : z.natAbs < 2 ^ n) : ds.length ≤ n := by
  refine Nm.good_len (by decide) hg ?_
  rw [hv]
  have : ((z.natAbs : Nat) : Int) < ((2 ^ n : Nat) : Int) := Int.ofNat_lt.2 hz
  simpa using this
theorem at_newW (w : World) (o : Obj) : (w.alloc o).heap[w.heap.size]? = some o := by show (w.heap.push o)[w.heap.size]? = some o; simp
theorem belowW {B : Nat} {a w : World} (h : Below B a w) (hB : B ≤ w.heap.size) (o : Obj) : Below B a (w.alloc o) := h.alloc hB o
theorem newW {w w' : World} {k : Nat} {o : Obj} (hk : k < w.heap.size) (h : w.heap[k]? = some o) (hb : Below w.heap.size w w') : w'.heap[k]? = some o := by rw [hb.block k hk]; exact h
theorem drewW (w : World) : Below w.heap.size w w.drew := ⟨rfl, rfl, rfl, Nat.le_refl _, fun _ _ => rfl⟩
theorem undrewW {w w' : World} (h : Below w.drew.heap.size w.drew w') : Below w.heap.size w w' := ⟨h.os, h.tape, h.output, h.size, h.block⟩
end Go.Proofs.YteghhlfmcjmnoaaGreatDoor
set_option linter.unusedSimpArgs false
namespace Go.Proofs.YteghhlfmcjmnoaaGreatDoor
def Bits (n : Nat) (z : Int) : Prop := z.natAbs < 2 ^ n
theorem bits_add {n : Nat} {x y : Int} (hx : Bits n x) (hy : Bits n y) : Bits (n + 1) (x + y) := by
  unfold Bits at *
  rw [Nat.pow_succ]
  omega
theorem bits_neg {n : Nat} {x : Int} (hx : Bits n x) : Bits n (-x) := by
  unfold Bits at *
  rwa [Int.natAbs_neg]
theorem bits_mono {n m : Nat} {x : Int} (hx : Bits n x) (h : n ≤ m) : Bits m x := Nat.lt_of_lt_of_le hx (Nat.pow_le_pow_right (by decide) h)
theorem bits_mul {n m : Nat} {x y : Int} (hx : Bits n x) (hy : Bits m y) : Bits (n + m) (x * y) := by
  unfold Bits at *
  rw [Int.natAbs_mul, Nat.pow_add]
  exact Nat.mul_lt_mul'' hx hy
theorem bits_of {n m : Nat} {x y : Int} (hy : Bits n y) (h : x.natAbs ≤ y.natAbs) (hm : n ≤ m) : Bits m x := Nat.lt_of_lt_of_le (Nat.lt_of_le_of_lt h hy) (Nat.pow_le_pow_right (by decide) hm)
theorem bits_max {n m : Nat} {x y : Int} (hx : Bits n x) (hy : Bits m y) : Bits (max n m) x ∧ Bits (max n m) y := ⟨bits_mono hx (Nat.le_max_left _ _), bits_mono hy (Nat.le_max_right _ _)⟩
theorem bits_subt {n : Nat} {x y : Int} (hx : Bits n x) (hy : Bits n y) : Bits (n + 1) (x - y) := by
  rw [Int.sub_eq_add_neg]
  exact bits_add hx (bits_neg hy)
theorem bits_abs {z : Int} {n : Nat} (h : Bits n z) : Bits n (z.natAbs : Int) := by
  unfold Bits at *
  simpa using h
theorem bits_log (n : Int) : Bits (Nat.log2 n.natAbs + 1) n := by
  unfold Bits
  exact Nat.lt_log2_self
end Go.Proofs.YteghhlfmcjmnoaaGreatDoor
set_option linter.unusedSimpArgs false
set_option linter.unusedVariables false
namespace Go.Proofs.YteghhlfmcjmnoaaGreatDoor
open Go.RowKit
namespace Ab
def Bits (u : Nat) (z : Int) : Prop := z.natAbs < 2 ^ (10000000 * u)
theorem bits_mono {n m : Nat} {x : Int} (hx : Bits n x) (h : n ≤ m) : Bits m x := Nat.lt_of_lt_of_le hx (Nat.pow_le_pow_right (by decide) (Nat.mul_le_mul_left _ h))
theorem bits_neg {n : Nat} {x : Int} (hx : Bits n x) : Bits n (-x) := by
  unfold Bits at *
  rwa [Int.natAbs_neg]
theorem bits_abs {z : Int} {n : Nat} (h : Bits n z) : Bits n (z.natAbs : Int) := by
  unfold Bits at *
  simpa using h
theorem bits_add {n : Nat} {x y : Int} (hx : Bits n x) (hy : Bits n y) : Bits (n + 1) (x + y) := by
  have h : Go.Proofs.YteghhlfmcjmnoaaGreatDoor.Bits (10000000 * n + 1) (x + y) := Go.Proofs.YteghhlfmcjmnoaaGreatDoor.bits_add hx hy
  exact Go.Proofs.YteghhlfmcjmnoaaGreatDoor.bits_mono h (by omega)
theorem bits_subt {n : Nat} {x y : Int} (hx : Bits n x) (hy : Bits n y) : Bits (n + 1) (x - y) := by
  rw [Int.sub_eq_add_neg]
  exact bits_add hx (bits_neg hy)
theorem bits_mul {n m : Nat} {x y : Int} (hx : Bits n x) (hy : Bits m y) : Bits (n + m) (x * y) := by
  have h : Go.Proofs.YteghhlfmcjmnoaaGreatDoor.Bits (10000000 * n + 10000000 * m) (x * y) := Go.Proofs.YteghhlfmcjmnoaaGreatDoor.bits_mul hx hy
  rw [← Nat.mul_add] at h
  exact h
theorem bits_of {n m : Nat} {x y : Int} (hy : Bits n y) (h : x.natAbs ≤ y.natAbs) (hm : n ≤ m) : Bits m x := bits_mono (Nat.lt_of_le_of_lt h hy) hm
theorem bits_max {n m : Nat} {x y : Int} (hx : Bits n x) (hy : Bits m y) : Bits (max n m) x ∧ Bits (max n m) y := ⟨bits_mono hx (Nat.le_max_left _ _), bits_mono hy (Nat.le_max_right _ _)⟩
theorem bits_log (n : Int) : Bits (Nat.log2 n.natAbs + 1) n := by
  have h : Go.Proofs.YteghhlfmcjmnoaaGreatDoor.Bits (Nat.log2 n.natAbs + 1) n := Go.Proofs.YteghhlfmcjmnoaaGreatDoor.bits_log n
  exact Go.Proofs.YteghhlfmcjmnoaaGreatDoor.bits_mono h (by omega)
theorem bits_in {n u : Nat} {z : Int} (h : Go.Proofs.YteghhlfmcjmnoaaGreatDoor.Bits n z) (hu : n ≤ 10000000 * u) : Bits u z := Go.Proofs.YteghhlfmcjmnoaaGreatDoor.bits_mono h hu
def mag : Bool → World → Int → Value → Prop
  | false, w, z, x => ∃ ds, Ints w ds x ∧ Nm.Good 10000 ds ∧ Nm.val 10000 ds = z.natAbs
  | true, w, z, x => ∃ ds, Lims w ds x ∧ Nm.Good 4294967296 ds ∧ Nm.val 4294967296 ds = z.natAbs
theorem own_on {bt : List TypeId} {w W : World} (h : On bt w W) {B e s n : Nat} {v : Value} {xs : List Value} (he : bt.contains e = false) (ho : w.ownsRow B e s v n xs) : W.ownsRow B e s v n xs := by
  obtain ⟨h1, h2⟩ := ho
  refine ⟨h1, ?_⟩
  rcases h2 with h2 | ⟨g, cap, cur, hv, hg, hh, r⟩
  · exact Or.inl h2
  · refine Or.inr ⟨g, cap, cur, hv, hg, ?_, r⟩
    rcases h.blk g _ hh with h3 | ⟨h3, _⟩
    · exact h3
    · simp only [boxy] at h3
      rw [he] at h3
      cases h3
theorem own_one {w : World} {B e s n : Nat} {v : Value} {xs : List Value} (ho : w.ownsRow B e s v n xs) : One v := by
  rcases ho.2 with ⟨rfl, _⟩ | ⟨g, cap, cur, rfl, _⟩ <;> rfl
noncomputable def mkC (bt : List TypeId) (h1 : bt.contains 3 = false) (h2 : bt.contains 142 = false) : Cfg where
  P := Tryz.prog
  bt := bt
  dig := mag
  bits := Bits
  digOn := by
    intro k w W z x h hm
    cases k with
    | false => obtain ⟨ds, g1, g2⟩ := hm; exact ⟨ds, own_on h h1 g1, g2⟩
    | true => obtain ⟨ds, g1, g2⟩ := hm; exact ⟨ds, own_on h h2 g1, g2⟩
  digOne := by
    intro k w z x hm
    cases k with
    | false => obtain ⟨ds, g1, _⟩ := hm; exact own_one g1
    | true => obtain ⟨ds, g1, _⟩ := hm; exact own_one g1
def bt0 : List TypeId := [80, 90, 115, 199, 201, 205, 273, 192, 197, 195, 138, 172, 100]
noncomputable def Z : Cfg := mkC bt0 (by decide) (by decide)
theorem mixed : Z.P.follows .mixedOrders = true := by kernel_rfl
theorem mag_zero (k : Bool) (w : World) : mag k w 0 (.slice none 0 0) := by
  cases k
  · exact ⟨[], IntsB.nil 0 w, (Nm.Good.nil _), by simp [Nm.val]⟩
  · exact ⟨[], LimsB.nil 0 w, (Nm.Good.nil _), by simp [Nm.val]⟩
end Ab
end Go.Proofs.YteghhlfmcjmnoaaGreatDoor
set_option linter.unusedSimpArgs false
set_option linter.unusedVariables false
namespace Go.Proofs.YteghhlfmcjmnoaaGreatDoor
open Go.RowKit
namespace Ab
def numsT (k : Bool) : List Tok → Option (List Int × Nat)
  | [] => some ([], 0)
  | .num k' z n :: r => bif k == k' then (numsT k r).map fun (zs, m) => (z :: zs, max n m) else none
  | .c (.bool false) :: .c (.lit (.slice none 0 0)) :: r => (numsT k r).map fun (zs, m) => (0 :: zs, m)
  | _ => none
def leAll : List Nat → List Nat → Bool
  | [], [] => true
  | a :: r, b :: t => Nat.ble a b && leAll r t
  | _, _ => false
def Hold (k : Bool) (w : World) : List Int → List Value → Prop
  | [], [] => True
  | z :: zs, x :: y :: xs => x = .bool (decide (z < 0)) ∧ mag k w z y ∧ Hold k w zs xs
  | _, _ => False
theorem numsT_ok {k : Bool} {w : World} : ∀ (ts : List Tok) (zs : List Int) (n : Nat) (xs : List Value), numsT k ts = some (zs, n) → RT Z w ts xs → Hold k w zs xs ∧ ∀ z ∈ zs, Bits n z
  | [], zs, n, xs, h, r => by
    simp [numsT] at h
    obtain ⟨rfl, rfl⟩ := h
    cases xs with
    | nil => exact ⟨trivial, fun z hz => by cases hz⟩
    | cons => exact r.elim
  | .num k' z m :: ts, zs, n, xs, h, r => by
    simp only [numsT] at h
    cases e : k == k' with
    | false => rw [e] at h; cases h
    | true =>
      rw [e] at h
      simp only [cond_true] at h
      have : k = k' := by simpa using e
      subst this
      obtain ⟨⟨zs', m'⟩, h1, h2⟩ := mpd h
      simp only [Prod.mk.injEq] at h2
      obtain ⟨rfl, rfl⟩ := h2
      match xs, r with
      | x :: y :: xs, ⟨r1, r2, r3, r4⟩ =>
        obtain ⟨g1, g2⟩ := numsT_ok ts zs' m' xs h1 r4
        refine ⟨⟨r1, r2, g1⟩, fun z' hz => ?_⟩
        simp at hz
        rcases hz with rfl | hz
        · exact bits_mono r3 (Nat.le_max_left _ _)
        · exact bits_mono (g2 z' hz) (Nat.le_max_right _ _)
  | [.c c], zs, n, xs, h, r => by
    cases c <;> (try (simp [numsT] at h; done)) <;> (rename_i b; cases b <;> simp [numsT] at h)
  | .c c :: .num _ _ _ :: ts, zs, n, xs, h, r => by
    cases c <;> (try (simp [numsT] at h; done)) <;> (rename_i b; cases b <;> simp [numsT] at h)
  | .c c :: .c d :: ts, zs, n, xs, h, r => by
    cases c <;> try (simp [numsT] at h; done)
    case bool b =>
      cases b with
      | true => simp [numsT] at h
      | false =>
        cases d <;> try (simp [numsT] at h; done)
        case lit v =>
          cases v <;> try (simp [numsT] at h; done)
          case slice o l c =>
            cases o with
            | some a => simp [numsT] at h
            | none =>
              cases l with
              | succ l => simp [numsT] at h
              | zero =>
                cases c with
                | succ c => simp [numsT] at h
                | zero =>
                  simp only [numsT] at h
                  obtain ⟨⟨zs', m'⟩, h1, h2⟩ := mpd h
                  simp only [Prod.mk.injEq] at h2
                  obtain ⟨rfl, rfl⟩ := h2
                  match xs, r with
                  | x :: y :: xs, ⟨_, r1, _, r2, r4⟩ =>
                    obtain ⟨g1, g2⟩ := numsT_ok ts zs' m' xs h1 r4
                    have r1 : x = .bool false := r1
                    have r2 : y = .slice none 0 0 := r2.1
                    subst r1 r2
                    refine ⟨⟨rfl, mag_zero k w, g1⟩, fun z' hz => ?_⟩
                    simp at hz
                    rcases hz with rfl | hz
                    · unfold Bits
                      simp
                      exact Nat.pow_pos (by decide)
                    · exact g2 z' hz
theorem hold_tok {k : Bool} {w : World} {n : Nat} : ∀ (zs : List Int) (xs : List Value), Hold k w zs xs → (∀ z ∈ zs, Bits n z) → RT Z w (zs.map fun z => .num k z n) xs
  | [], [], _, _ => trivial
  | z :: zs, x :: y :: xs, ⟨h1, h2, h3⟩, hb => ⟨h1, h2, hb z (by simp), hold_tok zs xs h3 fun z' hz => hb z' (by simp [hz])⟩
  | [], _ :: _, h, _ => h.elim
  | _ :: _, [], h, _ => h.elim
  | _ :: _, [_], h, _ => h.elim
end Ab
end Go.Proofs.YteghhlfmcjmnoaaGreatDoor
set_option linter.unusedSimpArgs false
set_option linter.unusedVariables false
namespace Go.Proofs.YteghhlfmcjmnoaaGreatDoor
open Go.RowKit
namespace Ab
theorem enters_of {P : Program} {f : FuncId} {fn : Func} (hf : P.funcs[f]? = some fn) (hn : (fn.name == "runtime.NumGoroutine") = false) (hb : fn.body.isNone = false) : Enters P f := by
  intro xs w
  have hn' : ¬ fn.name = "runtime.NumGoroutine" := by simpa using hn
  have hb' : ¬ fn.body = none := by intro e; rw [e] at hb; cases hb
  simp [callFunc, hf, hn', hb']
def bodyOf (fn : Func) : Code := fn.body.getD .skip
structure Fn (f : FuncId) (fn : Func) : Prop where
  en : Enters Z.P f
  at' : Z.P.funcs[f]? = some fn
  body : fn.body = some (bodyOf fn)
theorem fn_of {f : FuncId} {fn : Func} (hf : Tryz.prog.funcs[f]? = some fn) (hn : (fn.name == "runtime.NumGoroutine") = false) (hb : fn.body.isNone = false) : Fn f fn := by
  refine ⟨enters_of hf hn hb, hf, ?_⟩
  unfold bodyOf
  cases h : fn.body with
  | none => rw [h] at hb; cases hb
  | some c => rfl
theorem nobody : BodiesOk Z (fun _ => none) := fun f fn h => by cases h
def iT : VT → Option (Int × List Prop)
  | .one (.int .i64 n) => bif decide (n.natAbs < 1000000000000000000) then some (n, []) else none
  | .one (.sint .i64 n) => some (n, [n.natAbs < 1000000000000000000])
  | _ => none
def teI (k : Bool) (F : List Int → Option (List Int)) : TE := fun ts =>
  (mapO iT ts).bind fun xs => (F (xs.map (·.1))).map fun out => (.val (.agg (out.map fun z => .num k z 1)), (xs.map (·.2)).flatten)
def outAll (k : Bool) : Out → Option (List Int × List Prop)
  | .ret (.val (.agg ts)) => (numsT k ts).map fun p => (p.1, [])
  | .need p o => (outAll k o).map fun (zs, q) => (zs, p ++ q)
  | _ => none
theorem holds_cons {p : Prop} {ps : List Prop} (h : p) (hs : Holds ps) : Holds (p :: ps) := by
  intro q hq
  simp only [List.mem_cons] at hq
  rcases hq with rfl | hq
  · exact h
  · exact hs q hq
def tsI (xs : List (Int × List Prop)) : List VT := (xs.map (·.1)).map fun z => .one (.sint .i64 z)
theorem iTs_ok {w : World} : ∀ (ts : List VT) (xs : List (Int × List Prop)) (vs : List Value), mapO iT ts = some xs → Holds (xs.map (·.2)).flatten → All2 (RVT Z w) ts vs → All2 (RVT Z w) (tsI xs) vs ∧ ∀ x ∈ xs, x.1.natAbs < 1000000000000000000
  | [], xs, vs, h, _, r => by
    simp [mapO] at h
    subst h
    cases vs with
    | cons => exact r.elim
    | nil => exact ⟨trivial, fun x hx => by cases hx⟩
  | t :: ts, xs, vs, h, hp, r => by
    unfold mapO at h
    obtain ⟨x, h1, h2⟩ := bnd h
    obtain ⟨xs', h3, rfl⟩ := mpd h2
    match vs, r with
    | v :: vs, ⟨r1, r2⟩ =>
      obtain ⟨g1, g2⟩ := iTs_ok ts xs' vs h3 (fun q hq => hp q (by simp only [List.map_cons, List.flatten_cons, List.mem_append]; exact Or.inr hq)) r2
      have key : RVT Z w (.one (.sint .i64 x.1)) v ∧ x.1.natAbs < 1000000000000000000 := by
        unfold iT at h1
        split at h1
        · rename_i n
          cases hb : decide (n.natAbs < 1000000000000000000) with
          | false => rw [hb] at h1; cases h1
          | true => rw [hb] at h1; cases h1; exact ⟨⟨rfl, r1.2⟩, by simpa using hb⟩
        · cases h1
          exact ⟨⟨rfl, r1.2⟩, hp _ (by simp)⟩
        · cases h1
      refine ⟨⟨key.1, g1⟩, fun y hy => ?_⟩
      simp at hy
      rcases hy with rfl | hy
      · exact key.2
      · exact g2 y hy
theorem out_all {k : Bool} {G : RV → Prop} : ∀ {o : Out} {zs : List Int} {ps : List Prop}, outAll k o = some (zs, ps) → Holds ps → (∀ ts, (numsT k ts).map (·.1) = some zs → G (.val (.agg ts))) → o.ok G
  | .ret (.val (.agg ts)), zs, ps, h, _, hG => by
    simp only [outAll] at h
    obtain ⟨p, h1, h2⟩ := mpd h
    cases h2
    exact hG ts (by rw [h1]; rfl)
  | .need p o, zs, ps, h, hp, hG => by
    simp only [outAll] at h
    obtain ⟨⟨z, q⟩, h1, h2⟩ := mpd h
    cases h2
    exact ⟨fun x hx => hp x (by simp [hx]), out_all h1 (fun x hx => hp x (by simp [hx])) hG⟩
  | .ret (.val (.one _)), _, _, h, _, _ => by cases h
  | .ret (.tup _), _, _, h, _, _ => by cases h
  | .br _ _ _, _, _, h, _, _ => by cases h
theorem walkI {k : Bool} {l : List (FuncId × TE)} (hl : AllTE Z l) {f : FuncId} {fn : Func} (Fn' : Fn f fn) {F : List Int → Option (List Int)}
    (h : ∀ zs out, F zs = some out → ∃ ps, ((run Z (tabSp l) (fun _ => none) (drawA Z (tabSp l)) (fun _ => false) 300 [.code (bodyOf fn), .top fn] (start fn (zs.map fun z => .one (.sint .i64 z)))).bind outcome).bind (outAll k) = some (out, ps) ∧ ((∀ z ∈ zs, z.natAbs < 1000000000000000000) → Holds ps))
    (hb : ∀ zs out, F zs = some out → (∀ z ∈ zs, z.natAbs < 1000000000000000000) → ∀ z ∈ out, Bits 1 z) : TEok Z f (teI k F) := by
  refine ⟨Fn'.en, fun ts r p hts hp w vs hvs => ?_⟩
  unfold teI at hts
  obtain ⟨xs, h1, h2⟩ := bnd hts
  obtain ⟨out, h3, h4⟩ := mpd h2
  cases h4
  obtain ⟨g1, g2⟩ := iTs_ok ts xs vs h1 hp hvs
  obtain ⟨ps, q1, q2⟩ := h _ out h3
  obtain ⟨o, o1, o2⟩ := bnd q1
  obtain ⟨tr, t1, t2⟩ := bnd o1
  have hsm : ∀ z ∈ xs.map (·.1), z.natAbs < 1000000000000000000 := by
    intro z hz
    obtain ⟨x, hx, rfl⟩ := List.mem_map.1 hz
    exact g2 x hx
  have hA : At (avsOf 0 (tsI xs)).2 0 (avsOf 0 (tsI xs)).2 := fun i y hy => by rw [Nat.zero_add]; exact hy
  refine engine (w0 := w) (ψ := fun _ => none) (φ := fun _ => none) (s := start fn (tsI xs)) (vs := (avsOf 0 (tsI xs)).1) (tabSp_ok hl) nobody (drawA_ok mixed (tabSp_ok hl)) Fn'.at' Fn'.body rfl (avsOf_ok _ 0 vs hA g1) (rep_start fn _ w) 300 t1 _ (fun _ _ => False) (fun _ _ h => h.elim)
    (outcome_ok (G := fun r => ∃ ts, r = .val (.agg ts) ∧ (numsT k ts).map (·.1) = some out) t2 (out_all o2 (q2 hsm) fun ts hts => ⟨ts, rfl, hts⟩)) ?_
  rintro r0 s φ v w' ⟨hc, r', h5, tk, rfl, h6⟩ hr hw
  obtain ⟨⟨zs, m⟩, e1, e2⟩ := mpd h6
  simp only at e2
  subst e2
  obtain ⟨ws, e, r1⟩ := rvOf_ok h5 hr
  obtain ⟨k1, _⟩ := numsT_ok tk zs m ws e1 r1
  exact ⟨v, rfl, ⟨ws, e, hold_tok zs ws k1 (hb _ zs h3 hsm)⟩, RepF.below hw hc⟩
theorem bits60 {z : Int} (h : z.natAbs < 1000000000000000000) : Bits 1 z := bits_in (n := 60) (Nat.lt_of_lt_of_le h (by decide)) (by decide)
def numCs (k : Bool) : Nat → Nat → List AC
  | _, 0 => []
  | i, n + 1 => .sg i :: .dg k i :: numCs k (i + 1) n
def anys (n : Nat) : List AC := List.replicate n .any
def ext (cs : List AC) (ty : TypeId) : Box := ⟨cs, ty, false, true, false⟩
def Seg (C : Cfg) (φ : Nat → Option (Nat × Nat)) (ν : List (Int × Nat)) (w : World) (k o : Nat) (ty : TypeId) (cs : List AC) : Prop := ∃ pre ys post : List Value, w.heap[k]? = some (.cells (pre ++ ys ++ post).toArray ty (0, 0)) ∧ pre.length = o ∧ All2 (relC C φ ν w) cs ys
theorem rep_ext {C : Cfg} {w : World} {φ : Nat → Option (Nat × Nat)} {s : AS} (hd : s.dirty = []) (hb : ∀ b B, look s.boxes b = some B → B.own = false ∧ B.ro = true ∧ B.tip = false ∧ ∃ k o, φ b = some (k, o) ∧ Seg C φ s.nums w k o B.ty B.cs) (hn : ∀ b, s.next ≤ b → φ b = none) (hl : ∀ b k o, φ b = some (k, o) → k < w.heap.size) : RepW C w φ φ s w := by
  refine ⟨fun b B hB => ?_, fun b B k o hB ho => ?_, fun b b' B B' k o o' h1 h2 h3 h4 => ?_, fun b B hB ht => ?_, hn, hl, fun k _ _ => rfl, On.refl _ _, fun b x e => e, fun b B k o h1 h2 => (by rw [(hb b B h1).1] at h2; cases h2)⟩
  · obtain ⟨_, _, _, k, o, h1, pre, ys, post, h2, h3, h4⟩ := hb b B hB
    exact ⟨k, o, pre, ys, post, h1, h2, h3, h4⟩
  · have := (hb b B hB).1
    rw [ho] at this
    cases this
  · obtain ⟨_, r1, t1, _⟩ := hb b B h1
    obtain ⟨_, r2, t2, _⟩ := hb b' B' h2
    exact Or.inr ⟨r1, r2, fun ⟨a, _⟩ => (by rw [t1] at a; cases a), fun a => (by rw [t1] at a; cases a)⟩
  · have := (hb b B hB).2.2.1
    rw [ht] at this
    cases this
theorem ext_run {sp : Spec} {bodies : FuncId → Option Func} {f : FuncId} {fn : Func} (F : Fn f fn) {w : World} {φ : Nat → Option (Nat × Nat)} {s : AS} {vs : List AV} {args : List Value} (hsp : SpecOk Z w φ sp) (hbo : BodiesOk Z bodies) (hs : s.tmps = vs.map .val ++ List.replicate (fn.ntmps - vs.length) .und) (hv : All2 (relV Z φ s.nums w) vs args) (hw : RepW Z w φ φ s w)
    {n : Nat} {tr : Tr} (ht : run Z sp bodies (drawA Z sp) (fun _ => false) n [.code (bodyOf fn), .top fn] s = some tr) (G : AT → AS → Prop) (hok : tr.ok G fun _ _ => False) {R : Ending → World → Prop} (hG : ∀ r s' φ' v w', G r s' → relT Z φ' s'.nums w' r v → RepW Z w φ φ' s' w' → R (.returned v) w') : Calls Tryz.prog f args.toArray w R :=
  engine (C := Z) hsp hbo (drawA_ok mixed hsp) F.at' F.body hs hv hw n ht G (fun _ _ => False) (fun _ _ h => h.elim) hok hG
theorem hold_cs {k : Bool} {φ : Nat → Option (Nat × Nat)} {w : World} {n : Nat} : ∀ (zs : List Int) (xs : List Value) (i : Nat) (ν : List (Int × Nat)), Hold k w zs xs → (∀ z ∈ zs, Bits n z) → (∀ (j : Nat) (z : Int), zs[j]? = some z → ν[i + j]? = some (z, n)) → All2 (relC Z φ ν w) (numCs k i zs.length) xs
  | [], [], _, _, _, _, _ => trivial
  | z :: zs, x :: y :: xs, i, ν, ⟨h1, h2, h3⟩, hb, hν => by
    have h0 := hν 0 z rfl
    refine ⟨⟨z, n, h0, h1⟩, ⟨z, n, h0, h2, hb z (by simp)⟩, hold_cs zs xs (i + 1) ν h3 (fun z' hz => hb z' (by simp [hz])) fun j z' hz => ?_⟩
    rw [show i + 1 + j = i + (j + 1) by omega]
    exact hν (j + 1) z' (by simpa using hz)
  | [], _ :: _, _, _, h, _, _ => h.elim
  | _ :: _, [], _, _, h, _, _ => h.elim
  | _ :: _, [_], _, _, h, _, _ => h.elim
def orSp (a b : Spec) : Spec := fun f d ν id bx vs => match a f d ν id bx vs with | some x => some x | none => b f d ν id bx vs
theorem orSp_ok {C : Cfg} {w0 : World} {ψ : Nat → Option (Nat × Nat)} {a b : Spec} (ha : SpecOk C w0 ψ a) (hb : SpecOk C w0 ψ b) : SpecOk C w0 ψ (orSp a b) := by
  intro f d ν id bx vs ν' r p nbx h
  unfold orSp at h
  cases e : a f d ν id bx vs with
  | some x => rw [e] at h; cases h; exact ha f d ν id bx vs ν' r p nbx e
  | none => rw [e] at h; exact hb f d ν id bx vs ν' r p nbx h
theorem hold_len {k : Bool} {w : World} : ∀ (zs : List Int) (xs : List Value), Hold k w zs xs → xs.length = 2 * zs.length
  | [], [], _ => rfl
  | _ :: zs, _ :: _ :: xs, ⟨_, _, h⟩ => by
    have := hold_len zs xs h
    simp only [List.length_cons]
    omega
  | [], _ :: _, h => h.elim
  | _ :: _, [], h => h.elim
  | _ :: _, [_], h => h.elim
def zipB (t : Bool) : List Int → List Int → Option (List Int)
  | [], [] => some []
  | a :: x, b :: y => (zipB t x y).map ((bif t then a else b) :: ·)
  | _, _ => none
theorem zipB_ok {t : Bool} : ∀ {x y z : List Int}, zipB t x y = some z → z = bif t then x else y
  | [], [], z, h => by cases h; cases t <;> rfl
  | a :: x, b :: y, z, h => by
    simp only [zipB] at h
    obtain ⟨r, h1, rfl⟩ := mpd h
    have := zipB_ok h1
    cases t <;> simp_all
  | [], _ :: _, _, h => by cases h
  | _ :: _, [], _, h => by cases h
end Ab
end Go.Proofs.YteghhlfmcjmnoaaGreatDoor
