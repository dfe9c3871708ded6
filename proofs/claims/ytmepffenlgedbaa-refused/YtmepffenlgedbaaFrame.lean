/-
  THE READER IN MEMORY: what a call of one of its methods keeps.
-/
import Derived.Test.YtmepffenlgedbaaValue
namespace Go.Proofs.Ytmepffenlgedbaa
open Go.RowKit

/-- But for block rb the old blocks are as they were. -/
structure Keep (rb : Nat) (w w' : World) : Prop where
  os : w'.os = w.os
  tape : w'.tape = w.tape
  output : w'.output = w.output
  size : w.heap.size ≤ w'.heap.size
  block : ∀ k, k < w.heap.size → k ≠ rb → w'.heap[k]? = w.heap[k]?

theorem Keep.refl (rb : Nat) (w : World) : Keep rb w w := ⟨rfl, rfl, rfl, Nat.le_refl _, fun _ _ _ => rfl⟩

theorem Keep.trans {rb : Nat} {a b c : World} (h : Keep rb a b) (k : Keep rb b c) : Keep rb a c :=
  ⟨k.os.trans h.os, k.tape.trans h.tape, k.output.trans h.output, Nat.le_trans h.size k.size, fun i hi hn => (k.block i (Nat.lt_of_lt_of_le hi h.size) hn).trans (h.block i hi hn)⟩

theorem Keep.of_below {rb : Nat} {w w' : World} (h : Below w.heap.size w w') : Keep rb w w' := ⟨h.os, h.tape, h.output, h.size, fun k hk _ => h.block k hk⟩

theorem Keep.drew {rb : Nat} {a w : World} (h : Keep rb a w) : Keep rb a w.drew := ⟨h.os, h.tape, h.output, h.size, h.block⟩

theorem Keep.drewN {rb : Nat} {a w : World} (h : Keep rb a w) (n : Nat) : Keep rb a (w.drewN n) := ⟨h.os, h.tape, h.output, h.size, h.block⟩

theorem Keep.alloc {rb : Nat} {a w : World} (h : Keep rb a w) (o : Obj) : Keep rb a (w.alloc o) :=
  h.trans (Keep.of_below ((Below.refl _ _).alloc (Nat.le_refl _) o))

theorem Keep.setCell {rb : Nat} {a w : World} (h : Keep rb a w) (o : Nat) (u : Value) : Keep rb a (w.setCell ⟨rb, o, none⟩ u) :=
  h.trans ⟨rfl, rfl, rfl, by simp [World.setCell], fun k _ hn => Below.heap_setCell _ _ _ _ hn⟩

/-- Behind a store into block rb. -/
theorem Keep.setNew {rb : Nat} {a w : World} (h : Keep rb a w) {p : Addr} (hp : a.heap.size ≤ p.block) (u : Value) : Keep rb a (w.setCell p u) := by
  refine ⟨h.os, h.tape, h.output, Nat.le_trans h.size (by simp [World.setCell]), fun k hk hn => ?_⟩
  rw [Below.heap_setCell _ _ _ _ (by omega)]
  exact h.block k hk hn

/-- The reader's five cells at block rb, its words at block g. -/
structure Rdr (w : World) (rb g cap : Nat) (ws : List Rd.Wd) (st : Rd.St) : Prop where
  rd : w.heap[rb]? = some (.cells #[.slice (some ⟨g, 0, none⟩) ws.length cap, .int .i64 st.next, .int .i64 st.around, .int .i64 st.deepest, .int .i64 st.nodes] 45 (0, 0))
  row : ∃ cur, w.heap[g]? = some (.cells cur 41 (0, 0)) ∧ cur.toList.take (ws.length * 3) = Rd.wcells ws
  ne : g ≠ rb

theorem heap_lt {w : World} {k : Nat} {o : Obj} (h : w.heap[k]? = some o) : k < w.heap.size := by
  rcases Nat.lt_or_ge k w.heap.size with h1 | h1
  · exact h1
  · rw [Array.getElem?_eq_none h1] at h; cases h

theorem Rdr.lt {w : World} {rb g cap : Nat} {ws : List Rd.Wd} {st : Rd.St} (h : Rdr w rb g cap ws st) : rb < w.heap.size := heap_lt h.rd

theorem Rdr.keep {w w' : World} {rb g cap : Nat} {ws : List Rd.Wd} {st st' : Rd.St} (h : Rdr w rb g cap ws st) (hk : Keep rb w w')
    (hr : w'.heap[rb]? = some (.cells #[.slice (some ⟨g, 0, none⟩) ws.length cap, .int .i64 st'.next, .int .i64 st'.around, .int .i64 st'.deepest, .int .i64 st'.nodes] 45 (0, 0))) : Rdr w' rb g cap ws st' := by
  obtain ⟨cur, h1, h2⟩ := h.row
  exact ⟨hr, ⟨cur, by rw [hk.block g (heap_lt h1) h.ne]; exact h1, h2⟩, h.ne⟩

theorem Rdr.below {w w' : World} {rb g cap : Nat} {ws : List Rd.Wd} {st : Rd.St} (h : Rdr w rb g cap ws st) (hb : Below w.heap.size w w') : Rdr w' rb g cap ws st :=
  h.keep (Keep.of_below hb) (by rw [hb.block rb h.lt]; exact h.rd)

theorem cell_of_block {w : World} {b o : Nat} {xs : Array Value} {t : TypeId} {v : Value} (h : w.heap[b]? = some (.cells xs t (0, 0))) (hv : xs[o]? = some v) : w.cell? ⟨b, o, none⟩ = some v := by
  simp [World.cell?, h, hv]

theorem frozen_of_block {w : World} {b o : Nat} {xs : Array Value} {t : TypeId} (h : w.heap[b]? = some (.cells xs t (0, 0))) : w.frozen? ⟨b, o, none⟩ = false := by
  simp [World.frozen?, h]

theorem heap_set {w : World} {b o : Nat} {xs : Array Value} {t : TypeId} {m : Nat × Nat} (h : w.heap[b]? = some (.cells xs t m)) (u : Value) : (w.setCell ⟨b, o, none⟩ u).heap[b]? = some (.cells (xs.setIfInBounds o u) t m) := by
  simp [World.setCell, Array.getElem?_modify, h]

section
variable {w : World} {rb g cap : Nat} {ws : List Rd.Wd} {st : Rd.St}

theorem Rdr.c0 (h : Rdr w rb g cap ws st) : w.cell? ⟨rb, 0, none⟩ = some (.slice (some ⟨g, 0, none⟩) ws.length cap) := cell_of_block h.rd rfl
theorem Rdr.c1 (h : Rdr w rb g cap ws st) : w.cell? ⟨rb, 1, none⟩ = some (.int .i64 st.next) := cell_of_block h.rd rfl
theorem Rdr.c2 (h : Rdr w rb g cap ws st) : w.cell? ⟨rb, 2, none⟩ = some (.int .i64 st.around) := cell_of_block h.rd rfl
theorem Rdr.c3 (h : Rdr w rb g cap ws st) : w.cell? ⟨rb, 3, none⟩ = some (.int .i64 st.deepest) := cell_of_block h.rd rfl
theorem Rdr.c4 (h : Rdr w rb g cap ws st) : w.cell? ⟨rb, 4, none⟩ = some (.int .i64 st.nodes) := cell_of_block h.rd rfl
theorem Rdr.fz (h : Rdr w rb g cap ws st) (o : Nat) : w.frozen? ⟨rb, o, none⟩ = false := frozen_of_block h.rd

theorem Rdr.alloc (h : Rdr w rb g cap ws st) (o : Obj) : Rdr (w.alloc o) rb g cap ws st := h.below ((Below.refl _ _).alloc (Nat.le_refl _) o)
theorem Rdr.drewN (h : Rdr w rb g cap ws st) (n : Nat) : Rdr (w.drewN n) rb g cap ws st := ⟨h.rd, h.row, h.ne⟩

theorem Rdr.set1 (h : Rdr w rb g cap ws st) (n : Nat) {m : Int} (hm : m = (n : Int)) : Rdr (w.setCell ⟨rb, 1, none⟩ (.int .i64 m)) rb g cap ws { st with next := n } :=
  h.keep ((Keep.refl _ _).setCell 1 _) (by subst hm; rw [heap_set h.rd]; rfl)
theorem Rdr.set2 (h : Rdr w rb g cap ws st) (n : Nat) {m : Int} (hm : m = (n : Int)) : Rdr (w.setCell ⟨rb, 2, none⟩ (.int .i64 m)) rb g cap ws { st with around := n } :=
  h.keep ((Keep.refl _ _).setCell 2 _) (by subst hm; rw [heap_set h.rd]; rfl)
theorem Rdr.set3 (h : Rdr w rb g cap ws st) (n : Nat) {m : Int} (hm : m = (n : Int)) : Rdr (w.setCell ⟨rb, 3, none⟩ (.int .i64 m)) rb g cap ws { st with deepest := n } :=
  h.keep ((Keep.refl _ _).setCell 3 _) (by subst hm; rw [heap_set h.rd]; rfl)
theorem Rdr.set4 (h : Rdr w rb g cap ws st) (n : Nat) {m : Int} (hm : m = (n : Int)) : Rdr (w.setCell ⟨rb, 4, none⟩ (.int .i64 m)) rb g cap ws { st with nodes := n } :=
  h.keep ((Keep.refl _ _).setCell 4 _) (by subst hm; rw [heap_set h.rd]; rfl)
end

end Go.Proofs.Ytmepffenlgedbaa
