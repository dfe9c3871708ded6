/-
  THE WALKS of realstree's rank and inside; numbers' texts.
-/
import Derived.Test.YtmepffenlgedbaaGreatDoorRText
import Derived.Test.YtmepffenlgedbaaGreatDoorRTree
set_option linter.unusedSimpArgs false
namespace Go.Proofs.YtmepffenlgedbaaGreatDoor
open Go.RowKit
open Go.Deep (BT)

set_option maxRecDepth 100000 in
theorem ntext_zero (w : World) (ao : Option Addr) (cap : Nat) : Calls Tryz.prog 116 #[.agg #[.bool false, .slice ao 0 cap]] w (TxtPost w [48]) := by
  go_enter Tryz.func116, Tryz.ntmps116
  go_wp2_with fail
  go_ret
  exact ⟨_, rfl, Str.mk' [48], (Below.refl _ _).alloc (Nat.le_refl _) _⟩

/-- The text of a number. -/
theorem ntext_any (sb n : Nat) (w : World) (dv : Value) (h : TermsAt sb w (Rd.places 5 n) dv) (hn : n < 1000000000) : Calls Tryz.prog 116 #[.agg #[.bool false, dv]] w (TxtPost w (Rd.dec n)) := by
  by_cases h0 : n = 0
  · subst h0
    have e : Rd.dec ((0 : Nat) : Int) = [48] := by
      unfold Rd.dec
      rw [Lib.decDigits_one (by decide)]; rfl
    rw [e]
    rcases h with ⟨_, rfl⟩ | ⟨tb, cap, cur, h1, _⟩
    · exact ntext_zero w none 0
    · rw [h1]; exact ntext_zero w _ cap
  · have e : Rd.dec (n : Int) = Rd.ntxt (Rd.places 5 n) [] := by
      rw [Rd.ntxt_places 5 n [] (by omega) (by omega)]
      simp [Rd.dec]
    rw [e]
    have hne : 0 < (Rd.places 5 n).length := by
      rw [Rd.places, show (n == 0) = false by simp; omega]
      simp
    rcases h with ⟨h, _⟩ | ⟨tb, cap, cur, h1, _, h3, _, h5⟩
    · rw [h] at hne; simp at hne
    · rw [h1]
      exact ntext_some w _ tb cap cur h3 h5 hne (Rd.places_len 5 n) (Rd.places_ok 5 n)

set_option maxRecDepth 100000 in
set_option maxHeartbeats 1000000 in
theorem rrank_any (k : Int) (hk : 1 ≤ k ∧ k ≤ 13) (b : Nat) (w : World) (hc : w.cell? ⟨b, 0, none⟩ = some (.string (Rd.opName k))) : Calls Tryz.prog 118 #[.pointer (some ⟨b, 0, none⟩)] w fun e w' => e = .returned (.int .i64 (Rd.rankK k)) ∧ w = w' := by
  have h : k = 1 ∨ k = 2 ∨ k = 3 ∨ k = 4 ∨ k = 5 ∨ k = 6 ∨ k = 7 ∨ k = 8 ∨ k = 9 ∨ k = 10 ∨ k = 11 ∨ k = 12 ∨ k = 13 := by omega
  clear hk
  rcases h with rfl | rfl | rfl | rfl | rfl | rfl | rfl | rfl | rfl | rfl | rfl | rfl | rfl
  all_goals
    simp only [Rd.opName] at hc
    go_enter Tryz.func118, Tryz.ntmps118
    go_wp2_with fail
    go_ret
    exact ⟨rfl, rfl⟩

set_option maxRecDepth 100000 in
set_option maxHeartbeats 1000000 in
theorem inside_of (b : Nat) (k least : Int) (l : List UInt8) (w : World) (hk : 1 ≤ k ∧ k ≤ 13) (hc : w.cell? ⟨b, 0, none⟩ = some (.string (Rd.opName k))) (hlen : l.length ≤ 1000000) (hT : Calls Tryz.prog 85 #[.pointer (some ⟨b, 0, none⟩)] w (TxtPost w l)) :
    Calls Tryz.prog 117 #[.pointer (some ⟨b, 0, none⟩), .int .i64 least] w (TxtPost w (Rd.brk (decide (Rd.rankK k < least)) l)) := by
  have HT := hidp hT
  have RK := hidp (rrank_any k hk b w hc)
  clear hT hc hk
  generalize Rd.rankK k = r at *
  by_cases hrl : r < least
  · rw [decide_eq_true hrl]
    go_enter Tryz.func117, Tryz.ntmps117
    go_wp2_with (first | (go_at_call 118; refine (RK.out).mono ?_; rintro e w2 ⟨rfl, rfl⟩) | (go_at_call 85; refine (HT.out).mono ?_; rintro e w1 ⟨s, rfl, hS, hb1⟩; have hsz : s.size ≤ 1000000 := by (rw [hS.size]; exact hlen)))
    go_ret
    exact ⟨_, rfl, (((Str.mk' [40]).app hS).app (Str.mk' [41])).to (by simp [Rd.brk]), hb1⟩
  · rw [decide_eq_false hrl]
    go_enter Tryz.func117, Tryz.ntmps117
    go_wp2_with (first | (go_at_call 118; refine (RK.out).mono ?_; rintro e w2 ⟨rfl, rfl⟩) | (go_at_call 85; refine (HT.out).mono ?_; rintro e w1 ⟨s, rfl, hS, hb1⟩))
    go_ret
    exact ⟨_, rfl, hS, hb1⟩

end Go.Proofs.YtmepffenlgedbaaGreatDoor
