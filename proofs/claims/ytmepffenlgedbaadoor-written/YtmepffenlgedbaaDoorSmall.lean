/-
  THE WALKS of package words but for Split.
-/
import Derived.Test.YtmepffenlgedbaaDoorRows
import Derived.WalkKit
import Derived.WalkSpells
import Derived.WalkLawsBesides
import Derived.Test.YtmepffenlgedbaaDoorPure
namespace Go.Proofs.YtmepffenlgedbaaDoor
open Go.RowKit

theorem ret_int {k : IntKind} {a b : Int} (h : a = b) : Ending.returned (.int k a) = .returned (.int k b) := by rw [h]

set_option maxHeartbeats 400000 in
theorem isDigit_any (n : Int) (w : World) :
    Calls Tryd.prog 54 #[.int .u8 n] w fun e w' => e = .returned (.bool (Rd.isDig n)) ∧ w = w' := by
  by_cases h1 : 48 ≤ n
  all_goals by_cases h2 : n ≤ 57
  all_goals
    go_enter Tryd.func54, Tryd.ntmps54
    go_wp2
    go_ret
    exact ⟨by simp [Rd.isDig]; omega, rfl⟩

set_option maxHeartbeats 400000 in
theorem isLetter_any (n : Int) (w : World) :
    Calls Tryd.prog 55 #[.int .u8 n] w fun e w' => e = .returned (.bool (Rd.isLet n)) ∧ w = w' := by
  by_cases h1 : 97 ≤ n
  all_goals by_cases h2 : n ≤ 122
  all_goals
    go_enter Tryd.func55, Tryd.ntmps55
    go_wp2
    go_ret
    exact ⟨by simp [Rd.isLet]; omega, rfl⟩

set_option maxHeartbeats 400000 in
theorem kindOf_any (n : Int) (w : World) :
    Calls Tryd.prog 49 #[.int .u8 n] w fun e w' => e = .returned (.int .i64 (Rd.kindOf n)) ∧ w = w' := by
  cases h1 : Rd.isDig n
  all_goals cases h2 : Rd.isLet n
  all_goals
    go_enter Tryd.func49, Tryd.ntmps49
    go_wp2_with (first | (go_at_call 54; refine (isDigit_any _ _).mono ?_; rintro e w' ⟨rfl, rfl⟩) | (go_at_call 55; refine (isLetter_any _ _).mono ?_; rintro e w' ⟨rfl, rfl⟩))
    go_ret
    exact ⟨by simp [Rd.kindOf, h1, h2], rfl⟩

set_option maxHeartbeats 400000 in
theorem numberEnd_any (s : ByteArray) (a : Nat) (w : World) (hs : s.size ≤ 120) (ha : a < s.size) :
    Calls Tryd.prog 50 #[.string s, .int .i64 a] w fun e w' => e = .returned (.int .i64 (Rd.numEnd s a 9 (a + 1))) ∧ w = w' := by
  go_enter Tryd.func50, Tryd.ntmps50
  go_wp2_with fail
  go_loop [5] (fun e => ∃ k : Nat, a + 1 ≤ k ∧ k ≤ a + 9 ∧ k ≤ s.size ∧ e = .int .i64 k ∧ Hid (Rd.numEnd s a (a + 10 - k) k = Rd.numEnd s a 9 (a + 1))) (fun e => s.size - (intOf e).toNat)
  case atStart => exact ⟨a + 1, by omega, by omega, by omega, by go_num, by rw [show a + 10 - (a + 1) = 9 by omega]; rfl⟩
  case round =>
    obtain ⟨k, h1, h2, h3, rfl, HE⟩ := hrel
    obtain ⟨f, hf⟩ : ∃ f, a + 10 - k = f + 1 := ⟨a + 9 - k, by omega⟩
    have HF : Hid (a + 10 - k = f + 1) := hf
    clear hf
    by_cases c1 : k < s.size
    · by_cases c2 : (k : Int) - a < 9
      · cases c3 : Rd.isDig (s[k].toNat : Int)
        · go_wp2_with (go_at_call 54; refine (isDigit_any _ _).mono ?_; rintro e w' ⟨rfl, rfl⟩)
          go_ret
          refine ⟨ret_int ?_, rfl⟩
          rw [← HE.out, HF.out, Rd.numEnd, Rd.byteAt_eq s k c1, c3]
          simp
        · go_wp2_with (go_at_call 54; refine (isDigit_any _ _).mono ?_; rintro e w' ⟨rfl, rfl⟩)
          go_round
          case rel =>
            refine ⟨k + 1, by omega, by omega, by omega, by go_num, ?_⟩
            show Rd.numEnd s a (a + 10 - (k + 1)) (k + 1) = _
            have e1 : a + 10 - (k + 1) = f := by have := HF.out; omega
            rw [e1, ← HE.out, HF.out]
            conv => rhs; rw [Rd.numEnd, Rd.byteAt_eq s k c1, c3]
            simp [c1, show k - a < 9 by omega]
          case measure => simp [intOf]; omega
      · go_wp2_with fail
        go_ret
        refine ⟨ret_int ?_, rfl⟩
        rw [← HE.out, HF.out, Rd.numEnd, decide_eq_false (by omega)]
        simp
    · go_wp2_with fail
      go_ret
      refine ⟨ret_int ?_, rfl⟩
      rw [← HE.out, HF.out, Rd.numEnd, decide_eq_false (by omega)]
      simp

set_option maxHeartbeats 400000 in
theorem nameEnd_any (s : ByteArray) (a : Nat) (w : World) (hs : s.size ≤ 120) (ha : a < s.size) :
    Calls Tryd.prog 51 #[.string s, .int .i64 a] w fun e w' => e = .returned (.int .i64 (Rd.nameEnd s s.size (a + 1))) ∧ w = w' := by
  go_enter Tryd.func51, Tryd.ntmps51
  go_wp2_with fail
  go_loop [5] (fun e => ∃ k : Nat, a + 1 ≤ k ∧ k ≤ s.size ∧ e = .int .i64 k ∧ Hid (Rd.nameEnd s (s.size + a + 1 - k) k = Rd.nameEnd s s.size (a + 1))) (fun e => s.size - (intOf e).toNat)
  case atStart => exact ⟨a + 1, by omega, by omega, by go_num, by rw [show s.size + a + 1 - (a + 1) = s.size by omega]; rfl⟩
  case round =>
    obtain ⟨k, h1, h3, rfl, HE⟩ := hrel
    obtain ⟨f, hf⟩ : ∃ f, s.size + a + 1 - k = f + 1 := ⟨s.size + a - k, by omega⟩
    have HF : Hid (s.size + a + 1 - k = f + 1) := hf
    clear hf
    by_cases c1 : k < s.size
    · cases c2 : Rd.isLet (s[k].toNat : Int)
      · cases c3 : Rd.isDig (s[k].toNat : Int)
        · go_wp2_with (first | (go_at_call 54; refine (isDigit_any _ _).mono ?_; rintro e w' ⟨rfl, rfl⟩) | (go_at_call 55; refine (isLetter_any _ _).mono ?_; rintro e w' ⟨rfl, rfl⟩))
          go_ret
          refine ⟨ret_int ?_, rfl⟩
          rw [← HE.out, HF.out, Rd.nameEnd, Rd.byteAt_eq s k c1, c2, c3]
          simp
        · go_wp2_with (first | (go_at_call 54; refine (isDigit_any _ _).mono ?_; rintro e w' ⟨rfl, rfl⟩) | (go_at_call 55; refine (isLetter_any _ _).mono ?_; rintro e w' ⟨rfl, rfl⟩))
          go_round
          case rel =>
            refine ⟨k + 1, by omega, by omega, by go_num, ?_⟩
            show Rd.nameEnd s (s.size + a + 1 - (k + 1)) (k + 1) = _
            have e1 : s.size + a + 1 - (k + 1) = f := by have := HF.out; omega
            rw [e1, ← HE.out, HF.out]
            conv => rhs; rw [Rd.nameEnd, Rd.byteAt_eq s k c1, c2, c3]
            simp [c1]
          case measure => simp [intOf]; omega
      · go_wp2_with (first | (go_at_call 54; refine (isDigit_any _ _).mono ?_; rintro e w' ⟨rfl, rfl⟩) | (go_at_call 55; refine (isLetter_any _ _).mono ?_; rintro e w' ⟨rfl, rfl⟩))
        go_round
        case rel =>
          refine ⟨k + 1, by omega, by omega, by go_num, ?_⟩
          show Rd.nameEnd s (s.size + a + 1 - (k + 1)) (k + 1) = _
          have e1 : s.size + a + 1 - (k + 1) = f := by have := HF.out; omega
          rw [e1, ← HE.out, HF.out]
          conv => rhs; rw [Rd.nameEnd, Rd.byteAt_eq s k c1, c2]
          simp [c1]
        case measure => simp [intOf]; omega
    · go_wp2_with fail
      go_ret
      refine ⟨ret_int ?_, rfl⟩
      rw [← HE.out, HF.out, Rd.nameEnd, decide_eq_false (by omega)]
      simp

end Go.Proofs.YtmepffenlgedbaaDoor
