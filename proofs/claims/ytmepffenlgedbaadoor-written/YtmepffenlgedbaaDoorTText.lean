/-
  THE WALKS of the program's texts: rank, symbol, termsText.
-/
import Derived.Test.YtmepffenlgedbaaDoorExpr
import Derived.Test.YtmepffenlgedbaaDoorTxt
import Derived.Test.YtmepffenlgedbaaDoorShelf
import Derived.Lib.AppendIntMem
set_option linter.unusedSimpArgs false
namespace Go.Proofs.YtmepffenlgedbaaDoor
open Go.RowKit

/-- The library's table of powers stands as the program's text has it. -/
def Tab (w : World) : Prop := Lib.TabIs Tryd.prog w "internal/strconv.uint64pow10" .u64 Lib.pow10Tab

theorem Tab.below {w w' : World} (h : Tab w) (hb : Below w.heap.size w w') : Tab w' := Lib.tabBelow_of_tabIs h w' hb

theorem itoa_any (v : Int) (hv : Rd.numOk v) (w : World) (ht : Tab w) :
    Calls Tryd.prog 38 #[.int .i64 v] w fun e w' => ∃ s : ByteArray, e = .returned (.string s) ∧ s.data.toList = Rd.dec v ∧ s.size ≤ 9 ∧ Below w.heap.size w w' := by
  obtain ⟨u, rfl⟩ : ∃ u : Nat, v = u := ⟨v.toNat, by have := hv.1; omega⟩
  refine (itoa_laid u (by omega) (by have := hv.2; omega) w ht).mono ?_
  rintro e w' ⟨rfl, k, os, rfl⟩
  refine ⟨_, rfl, ?_, ?_, Lib.below_grow _ _ (Nat.le_refl _) _ _⟩
  · rw [Lib.itoa_nonneg]; simp [Rd.dec]
  · have := Rd.dec_len hv
    rw [Lib.itoa_nonneg]
    simpa [Rd.dec, ByteArray.size] using this

set_option maxRecDepth 100000 in
set_option maxHeartbeats 1000000 in
theorem trank_any (k : Int) (hk : 1 ≤ k ∧ k ≤ 13) (w : World) : Calls Tryd.prog 42 #[.int .i64 k] w fun e w' => e = .returned (.int .i64 (Rd.rankK k)) ∧ w = w' := by
  have h : k = 1 ∨ k = 2 ∨ k = 3 ∨ k = 4 ∨ k = 5 ∨ k = 6 ∨ k = 7 ∨ k = 8 ∨ k = 9 ∨ k = 10 ∨ k = 11 ∨ k = 12 ∨ k = 13 := by omega
  clear hk
  rcases h with rfl | rfl | rfl | rfl | rfl | rfl | rfl | rfl | rfl | rfl | rfl | rfl | rfl
  all_goals
    go_enter Tryd.func42, Tryd.ntmps42
    go_wp2_with fail
    go_ret
    exact ⟨rfl, rfl⟩

set_option maxRecDepth 100000 in
set_option maxHeartbeats 1000000 in
theorem tsymbol_any (k : Int) (hk : 2 ≤ k ∧ k ≤ 13) (w : World) : Calls Tryd.prog 41 #[.int .i64 k] w fun e w' => e = .returned (.string ⟨(Rd.sym k).toArray⟩) ∧ w = w' := by
  have h : k = 2 ∨ k = 3 ∨ k = 4 ∨ k = 5 ∨ k = 6 ∨ k = 7 ∨ k = 8 ∨ k = 9 ∨ k = 10 ∨ k = 11 ∨ k = 12 ∨ k = 13 := by omega
  clear hk
  rcases h with rfl | rfl | rfl | rfl | rfl | rfl | rfl | rfl | rfl | rfl | rfl | rfl
  all_goals
    go_enter Tryd.func41, Tryd.ntmps41
    go_wp2_with fail
    go_ret
    exact ⟨rfl, rfl⟩

end Go.Proofs.YtmepffenlgedbaaDoor
