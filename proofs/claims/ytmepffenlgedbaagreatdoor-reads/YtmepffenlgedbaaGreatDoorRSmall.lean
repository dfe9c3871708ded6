/-
  THE WALKS of realstree: function, number, (reads).t.
-/
import Derived.Test.YtmepffenlgedbaaGreatDoorRWords
import Derived.Test.YtmepffenlgedbaaGreatDoorStop
import Derived.Test.YtmepffenlgedbaaGreatDoorFrame
import Derived.BigQuiet
import Derived.Lib.OthersKept
import Derived.Deep.LoopGhost
set_option linter.unusedSimpArgs false
namespace Go.Proofs.YtmepffenlgedbaaGreatDoor
open Go.RowKit

theorem isFn_eq (t : ByteArray) : Rd.isFn t.data.toList = (t.toList == [115, 113, 114, 116] || t.toList == [101, 120, 112] || t.toList == [108, 110, 49, 112] || t.toList == [97, 116, 97, 110]) := by
  rw [ByteArray.toList_eq]; rfl

set_option maxHeartbeats 400000 in
theorem function_any (t : ByteArray) (w : World) :
    Calls Tryz.prog 38 #[.string t] w fun e w' => e = .returned (.bool (Rd.isFn t.data.toList)) ∧ w = w' := by
  rw [isFn_eq]
  cases h1 : (t.toList == [115, 113, 114, 116])
  all_goals cases h2 : (t.toList == [101, 120, 112])
  all_goals cases h3 : (t.toList == [108, 110, 49, 112])
  all_goals cases h4 : (t.toList == [97, 116, 97, 110])
  all_goals
    go_enter Tryz.func38, Tryz.ntmps38
    go_wp2
    go_ret
    exact ⟨rfl, rfl⟩

/-- All bytes are digits. -/
def allDig (t : ByteArray) : Prop := ∀ k, k < t.size → Rd.isDig (Rd.byteAt t k) = true

set_option maxHeartbeats 400000 in
theorem number_any (t : ByteArray) (w : World) (ht : t.size ≤ 9) (hd : allDig t) :
    Calls Tryz.prog 41 #[.string t] w fun e w' => e = .returned (.int .i64 (Rd.valTo t t.size)) ∧ Below w.heap.size w w' := by
  have HD : Hid (allDig t) := hd
  clear hd
  go_enter Tryz.func41, Tryz.ntmps41
  go_wp2_with fail
  go_loopg [3] t.size (fun n v wr => ∃ k : Nat, k + n = t.size ∧ v = .int .i64 (Rd.valTo t k) ∧ wr = w.iter t k)
  case atStart => exact ⟨0, by omega, rfl, rfl⟩
  case round =>
    obtain ⟨k, hk, rfl, hwr⟩ := hrel
    have HK : Hid (k + gk = t.size) := hk
    have v0 := Rd.valTo_lo t k
    have v1 := Rd.valTo_bd t k (by omega)
    by_cases c1 : k < t.size
    · have hb := HD.out k c1
      rw [Rd.byteAt_eq t k c1] at hb
      have b0 : 48 ≤ (t[k].toNat : Int) := by simp [Rd.isDig] at hb; omega
      have b1 : (t[k].toNat : Int) ≤ 57 := by simp [Rd.isDig] at hb; omega
      have HB : Hid (Rd.isDig (t[k].toNat : Int) = true) := hb
      have hnext := fun ty => run_next_ascii (P := Tryz.prog) w t k ty c1 (by omega)
      subst hwr
      clear hb hk
      go_wp2_with fail
      go_roundg (gk - 1)
      case measure => have := HK.out; omega
      case rel => exact ⟨k + 1, by have := HK.out; omega, by rw [Rd.valTo, Rd.byteAt_eq t k c1, HB.out]; simp; omega, rfl⟩
    · have hnext := fun ty => run_next_end (P := Tryz.prog) w t k ty c1
      subst hwr
      clear hk
      go_wp2_with fail
      go_ret
      exact ⟨ret_int (by rw [show k = t.size by have := HK.out; omega]), (Below.refl _ _).alloc (Nat.le_refl _) _⟩

/-- The reader of words at block rb, its words at block g. -/
structure RRd (w : World) (rb g cap : Nat) (ws : List Rd.Wd) (n : Nat) : Prop where
  rd : w.heap[rb]? = some (.cells #[.slice (some ⟨g, 0, none⟩) ws.length cap, .int .i64 n] 50 (0, 0))
  row : ∃ cur, w.heap[g]? = some (.cells cur 53 (0, 0)) ∧ cur.toList.take (ws.length * 2) = Rd.rcells ws
  ne : g ≠ rb

section
variable {w w' : World} {rb g cap : Nat} {ws : List Rd.Wd} {n : Nat}

theorem RRd.lt (h : RRd w rb g cap ws n) : rb < w.heap.size := heap_lt h.rd
theorem RRd.glt (h : RRd w rb g cap ws n) : g < w.heap.size := by obtain ⟨cur, h1, _⟩ := h.row; exact heap_lt h1

theorem RRd.keep {n' : Nat} (h : RRd w rb g cap ws n) (hk : Keep rb w w') (hr : w'.heap[rb]? = some (.cells #[.slice (some ⟨g, 0, none⟩) ws.length cap, .int .i64 n'] 50 (0, 0))) : RRd w' rb g cap ws n' := by
  obtain ⟨cur, h1, h2⟩ := h.row
  exact ⟨hr, ⟨cur, by rw [hk.block g (heap_lt h1) h.ne]; exact h1, h2⟩, h.ne⟩

theorem RRd.below (h : RRd w rb g cap ws n) (hb : Below w.heap.size w w') : RRd w' rb g cap ws n :=
  h.keep (Keep.of_below hb) (by rw [hb.block rb h.lt]; exact h.rd)

theorem RRd.c0 (h : RRd w rb g cap ws n) : w.cell? ⟨rb, 0, none⟩ = some (.slice (some ⟨g, 0, none⟩) ws.length cap) := cell_of_block h.rd rfl
theorem RRd.c1 (h : RRd w rb g cap ws n) : w.cell? ⟨rb, 1, none⟩ = some (.int .i64 n) := cell_of_block h.rd rfl
theorem RRd.fz (h : RRd w rb g cap ws n) (o : Nat) : w.frozen? ⟨rb, o, none⟩ = false := frozen_of_block h.rd
theorem RRd.alloc (h : RRd w rb g cap ws n) (o : Obj) : RRd (w.alloc o) rb g cap ws n := h.below ((Below.refl _ _).alloc (Nat.le_refl _) o)
theorem RRd.set1 (h : RRd w rb g cap ws n) (k : Nat) {m : Int} (hm : m = (k : Int)) : RRd (w.setCell ⟨rb, 1, none⟩ (.int .i64 m)) rb g cap ws k :=
  h.keep ((Keep.refl _ _).setCell 1 _) (by subst hm; rw [heap_set h.rd]; rfl)
end

/-- The words at a row. -/
theorem row_cells {w : World} {g : Nat} {ws : List Rd.Wd} (h : ∃ cur, w.heap[g]? = some (.cells cur 53 (0, 0)) ∧ cur.toList.take (ws.length * 2) = Rd.rcells ws) (n : Nat) (hn : n < ws.length) :
    w.cell? ⟨g, n * 2, none⟩ = some (.string (Rd.wordAt ws n).text) ∧ w.cell? ⟨g, n * 2 + 1, none⟩ = some (.int .i64 (Rd.wordAt ws n).pos) := by
  obtain ⟨cur, h1, h2⟩ := h
  have key : ∀ i v, i < ws.length * 2 → (Rd.rcells ws)[i]? = some v → w.cell? ⟨g, i, none⟩ = some v := by
    intro i v hi hv
    refine cell_of_block h1 ?_
    rw [← h2, List.getElem?_take_of_lt hi] at hv
    simpa using hv
  obtain ⟨a, b⟩ := Rd.rcells_at ws n hn
  exact ⟨key _ _ (by omega) a, key _ _ (by omega) b⟩

set_option maxHeartbeats 400000 in
theorem rt_any (w : World) (rb g cap : Nat) (ws : List Rd.Wd) (n : Nat) (h : RRd w rb g cap ws n) (hn : n < ws.length) :
    Calls Tryz.prog 36 #[.pointer (some ⟨rb, 0, none⟩)] w fun e w' => e = .returned (.string (Rd.wordAt ws n).text) ∧ Below w.heap.size w w' := by
  have c0 := h.c0
  have c1 := h.c1
  obtain ⟨e0, _⟩ := row_cells h.row n hn
  clear h
  go_enter Tryz.func36, Tryz.ntmps36
  go_wp2_with fail
  go_quiet (fail)
  go_wp2_with fail
  go_ret
  exact ⟨rfl, below_drewN (Below.refl _ _) _⟩

end Go.Proofs.YtmepffenlgedbaaGreatDoor
