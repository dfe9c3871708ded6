/-
  THE WALKS of (words.Word).Value, tree.named.
-/
import Derived.Test.YtmepffenlgedbaaDoorSplit
namespace Go.Proofs.YtmepffenlgedbaaDoor
open Go.RowKit

set_option maxHeartbeats 400000 in
theorem value_any (kd p : Int) (t : ByteArray) (w : World) (ht : t.size ≤ 9) :
    Calls Tryd.prog 62 #[.agg #[.int .i64 kd, .string t, .int .i64 p]] w fun e w' => e = .returned (.int .i64 (Rd.valTo t t.size)) ∧ w.alloc (.cells #[.int .i64 kd, .string t, .int .i64 p] 67) = w' := by
  go_enter Tryd.func62, Tryd.ntmps62
  go_wp2_with fail
  go_loop [3, 4] (fun v i => ∃ k : Nat, k ≤ t.size ∧ i = .int .i64 k ∧ v = .int .i64 (Rd.valTo t k)) (fun _ i => t.size - (intOf i).toNat)
  case atStart => exact ⟨0, Nat.zero_le _, rfl, rfl⟩
  case round =>
    obtain ⟨k, hk, rfl, rfl⟩ := hrel
    have v0 := Rd.valTo_lo t k
    have v1 := Rd.valTo_bd t k (by omega)
    by_cases c1 : k < t.size
    · have HB : Hid (Rd.byteAt t k = (t[k].toNat : Int)) := Rd.byteAt_eq t k c1
      cases c2 : Rd.isDig (t[k].toNat : Int)
      · go_wp2_with (go_at_call 54; refine (isDigit_any _ _).mono ?_; rintro e w' ⟨rfl, rfl⟩)
        go_round
        case rel => exact ⟨k + 1, by omega, by go_num, by rw [Rd.valTo, HB.out, c2]; rfl⟩
        case measure => simp [intOf]; omega
      · have b0 : 48 ≤ (t[k].toNat : Int) := by simp [Rd.isDig] at c2; omega
        have b1 : (t[k].toNat : Int) ≤ 57 := by simp [Rd.isDig] at c2; omega
        go_wp2_with (go_at_call 54; refine (isDigit_any _ _).mono ?_; rintro e w' ⟨rfl, rfl⟩)
        go_round
        case rel => exact ⟨k + 1, by omega, by go_num, by rw [Rd.valTo, HB.out, c2]; simp⟩
        case measure => simp [intOf]; omega
    · go_wp2_with fail
      go_ret
      exact ⟨ret_int (by rw [show k = t.size by omega]), rfl⟩

set_option maxHeartbeats 400000 in
theorem named_any (t : ByteArray) (w : World) :
    Calls Tryd.prog 64 #[.string t] w fun e w' => e = .returned (.int .i64 (Rd.named t)) ∧ w = w' := by
  go_enter Tryd.func64, Tryd.ntmps64
  go_wp2
  all_goals
    go_ret
    exact ⟨ret_int (by simp [Rd.named, ← Rd.isT_eq, *]), rfl⟩

end Go.Proofs.YtmepffenlgedbaaDoor
