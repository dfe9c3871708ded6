/-
  pick: which of n things a raw number speaks of.
-/
import Derived.Test.YtmepffenlgedbaaDoorExpr
set_option linter.unusedSimpArgs false
namespace Go.Proofs.YtmepffenlgedbaaDoor
open Go.RowKit
open Go.Deep (BT)

def pickI (c : Int) (n : Nat) : Nat := if c < 0 then ((-(c + 1)) % (n : Int)).toNat else (c % (n : Int)).toNat

theorem pickI_lt (c : Int) (n : Nat) (hn : 0 < n) : pickI c n < n := by
  unfold pickI
  split
  · have := Int.emod_lt_of_pos (-(c + 1)) (show (0 : Int) < n by omega)
    omega
  · have := Int.emod_lt_of_pos c (show (0 : Int) < n by omega)
    omega

set_option maxHeartbeats 400000 in
theorem pick_any (c : Int) (n : Nat) (w : World) (h0 : -9223372036854775808 ≤ c) (h1 : c ≤ 9223372036854775807) (hn : 0 < n) (hm : n ≤ 4000000) :
    Calls Tryd.prog 6 #[.int .i64 c, .int .i64 n] w fun e w' => e = .returned (.int .i64 (pickI c n)) ∧ w = w' := by
  by_cases hc : c < 0
  · have e1 : -(c + 1).tmod (n : Int) = (pickI c n : Int) := by
      rw [pickI, if_pos hc, ← Int.neg_tmod, Int.tmod_eq_emod_of_nonneg (by omega), Int.toNat_of_nonneg (Int.emod_nonneg _ (by omega))]
    generalize pickI c n = i at *
    have E := hideq e1
    clear e1
    go_enter Tryd.func6, Tryd.ntmps6
    go_wp2_with fail
    go_ret
    exact ⟨ret_int E.out, rfl⟩
  · have e1 : c % (n : Int) = (pickI c n : Int) := by
      rw [pickI, if_neg hc, Int.toNat_of_nonneg (Int.emod_nonneg _ (by omega))]
    generalize pickI c n = i at *
    have E := hideq e1
    clear e1
    go_enter Tryd.func6, Tryd.ntmps6
    go_wp2_with fail
    go_ret
    exact ⟨ret_int E.out, rfl⟩
end Go.Proofs.YtmepffenlgedbaaDoor
