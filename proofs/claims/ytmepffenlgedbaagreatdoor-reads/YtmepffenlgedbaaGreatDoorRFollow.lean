/-
  THE WALK of (reads).follows.
-/
import Derived.Test.YtmepffenlgedbaaGreatDoorRList
set_option linter.unusedSimpArgs false
namespace Go.Proofs.YtmepffenlgedbaaGreatDoor
open Go.RowKit

def folRel (rb g cap : Nat) (ws : List Rd.Wd) (w : World) (R : Bool × Nat) (k : Nat) (o b : Value) (wr : World) : Prop :=
  ∃ (a on : Nat) (bo : Bool), o = .int .i64 on ∧ b = .bool bo ∧ on ≤ a ∧ a < ws.length ∧ RRd wr rb g cap ws a ∧ Keep rb w wr ∧ Rd.follows ws k a on bo = some R

theorem listEnd_true {ws : List Rd.Wd} : ∀ f a n, Rd.listEnd ws f a = (true, n) → (Rd.txt ws n == [93]) = true ∧ a < n := by
  intro f
  induction f with
  | zero => intro a n h; cases h
  | succ f ih =>
    intro a n h
    rw [Rd.listEnd] at h
    cases h1 : (Rd.kd (Rd.txt ws (a + 1)) == 1 && !(Rd.valAt ws (a + 1) == 0)) with
    | false => rw [h1] at h; cases h
    | true =>
      rw [h1] at h
      cases h2 : (Rd.txt ws (a + 2) == [93]) with
      | true =>
        rw [h2] at h
        simp only [cond_true, Prod.mk.injEq, true_and] at h
        subst h
        exact ⟨h2, by omega⟩
      | false =>
        rw [h2] at h
        cases h3 : (f == 0) with
        | true => rw [h3] at h; cases h
        | false =>
          rw [h3] at h
          cases h4 : (Rd.txt ws (a + 2) == [44]) with
          | false => rw [h4] at h; cases h
          | true =>
            rw [h4] at h
            have := ih (a + 2) n h
            exact ⟨this.1, by omega⟩

theorem listM_true {ws : List Rd.Wd} {a n : Nat} (h : Rd.listM ws a = (true, n)) : (Rd.txt ws n == [93]) = true ∧ a < n := by
  unfold Rd.listM at h
  cases h1 : (Rd.txt ws (a + 1) == [91]) with
  | false => rw [h1] at h; cases h
  | true =>
    cases h2 : (Rd.kd (Rd.txt ws (a + 2)) == 1) with
    | false => rw [h1, h2] at h; cases h
    | true =>
      cases h3 : (Rd.txt ws (a + 3) == [59]) with
      | false => rw [h1, h2, h3] at h; cases h
      | true =>
        rw [h1, h2, h3] at h
        have := listEnd_true 8 (a + 3) n h
        exact ⟨this.1, by omega⟩

theorem tl {t : ByteArray} {l : List UInt8} {b : Bool} (h : (t.data.toList == l) = b) : (t.toList == l) = b := by rw [ByteArray.toList_eq]; exact h

theorem lit_of {t : ByteArray} {l : List UInt8} (h : (t.data.toList == l) = true) : t = ⟨l.toArray⟩ := by
  obtain ⟨d⟩ := t
  obtain ⟨x⟩ := d
  have : x = l := by simpa using h
  rw [this]

set_option maxRecDepth 100000 in
set_option maxHeartbeats 4000000 in
theorem rfollows_any (w : World) (rb g cap : Nat) (ws : List Rd.Wd) (k0 : Nat) (R : Bool × Nat) (h : RRd w rb g cap ws 0) (hl : ws.length ≤ 121) (he : EndOk ws) (hd : DigOk ws) (hf : Rd.follows ws k0 0 0 true = some R) :
    Calls Tryz.prog 24 #[.pointer (some ⟨rb, 0, none⟩)] w fun e w' => e = .returned (.bool R.1) ∧ RRd w' rb g cap ws R.2 ∧ Keep rb w w' := by
  have HE : Hid (EndOk ws) := he
  have HD : Hid (DigOk ws) := hd
  have HF0 := hide1 hf
  have hlen := he.1
  clear he hd hf
  go_enter Tryz.func24, Tryz.ntmps24
  go_wp2_with fail
  go_loopg [3, 4] k0 (fun k o b wr => folRel rb g cap ws w R k o b wr)
  case atStart => exact ⟨0, 0, true, rfl, rfl, Nat.le_refl _, hlen, h, Keep.refl _ _, HF0.out⟩
  case round =>
    obtain ⟨a, on, bo, rfl, rfl, hon, halt, hR, hK, hfo⟩ := hrel
    clear h HF0
    obtain ⟨k, hgk⟩ : ∃ k, gk = k + 1 := by
      cases gk with
      | zero => cases hfo
      | succ k => exact ⟨k, rfl⟩
    rw [hgk] at hfo
    have HGK := hide1 hgk
    have HFO := hide1 hfo
    clear hgk hfo
    have HT := hide1 (rt_any _ rb g cap ws a hR halt)
    have UX : Hid (Rd.txt ws a = (Rd.wordAt ws a).text.data.toList) := rfl
    generalize (Rd.wordAt ws a).text = t at *
    cases bo with
    | true =>
      cases t1 : (t.data.toList == [45]) with
      | true =>
        have ht := lit_of t1
        subst ht
        go_wp2_with fail
        refine (HT.out).mono ?_
        rintro e w1 ⟨rfl, hb⟩
        have hR1 := hR.below hb
        have hK1 := hK.trans (Keep.of_below hb)
        have d1 := hR1.c1
        have f1 := hR1.fz 1
        go_wp2_with (go_at_call 34; refine (rdigit_any _ _).mono ?_; rintro e w' ⟨rfl, rfl⟩)
        go_roundg k
        case measure => have := HGK.out; omega
        case rel =>
          have e1 := HFO.out
          rw [Rd.follows, UX.out] at e1
          exact ⟨a + 1, on, true, rfl, rfl, by omega, HE.out.2 a (by rw [UX.out]; simp), hR1.set1 (a + 1) (by simp), hK1.setCell 1 _, e1⟩
      | false =>
        cases t2 : (t.data.toList == [40]) with
        | true =>
          have ht := lit_of t2
          subst ht
          go_wp2_with fail
          refine (HT.out).mono ?_
          rintro e w1 ⟨rfl, hb⟩
          have hR1 := hR.below hb
          have hK1 := hK.trans (Keep.of_below hb)
          have d1 := hR1.c1
          have f1 := hR1.fz 1
          go_wp2_with (go_at_call 34; refine (rdigit_any _ _).mono ?_; rintro e w' ⟨rfl, rfl⟩)
          go_roundg k
          case measure => have := HGK.out; omega
          case rel =>
            have e1 := HFO.out
            rw [Rd.follows, UX.out] at e1
            exact ⟨a + 1, on + 1, true, by go_num, rfl, by omega, HE.out.2 a (by rw [UX.out]; simp), hR1.set1 (a + 1) (by simp), hK1.setCell 1 _, e1⟩
        | false =>
          cases t4 : (t.data.toList == [112, 105]) with
          | true =>
            have ht := lit_of t4
            subst ht
            have hnd : Rd.isDig 112 = false := rfl
            go_wp2_with fail
            refine (HT.out).mono ?_
            rintro e w1 ⟨rfl, hb⟩
            have hR1 := hR.below hb
            have hK1 := hK.trans (Keep.of_below hb)
            have d1 := hR1.c1
            have f1 := hR1.fz 1
            go_wp2_with (go_at_call 34; refine (rdigit_any _ _).mono ?_; rintro e w' ⟨rfl, rfl⟩)
            go_roundg k
            case measure => have := HGK.out; omega
            case rel =>
              have e1 := HFO.out
              rw [Rd.follows, UX.out] at e1
              exact ⟨a + 1, on, false, rfl, rfl, by omega, HE.out.2 a (by rw [UX.out]; simp), hR1.set1 (a + 1) (by simp), hK1.setCell 1 _, e1⟩
          | false =>
            cases t5 : (t.data.toList == [101]) with
            | true =>
              have ht := lit_of t5
              subst ht
              have hnd : Rd.isDig 101 = false := rfl
              go_wp2_with fail
              refine (HT.out).mono ?_
              rintro e w1 ⟨rfl, hb⟩
              have hR1 := hR.below hb
              have hK1 := hK.trans (Keep.of_below hb)
              have d1 := hR1.c1
              have f1 := hR1.fz 1
              go_wp2_with (go_at_call 34; refine (rdigit_any _ _).mono ?_; rintro e w' ⟨rfl, rfl⟩)
              go_roundg k
              case measure => have := HGK.out; omega
              case rel =>
                have e1 := HFO.out
                rw [Rd.follows, UX.out] at e1
                exact ⟨a + 1, on, false, rfl, rfl, by omega, HE.out.2 a (by rw [UX.out]; simp), hR1.set1 (a + 1) (by simp), hK1.setCell 1 _, e1⟩
            | false =>
              cases t6 : (t.data.toList == [99, 102]) with
              | true =>
                have ht := lit_of t6
                subst ht
                have hnd : Rd.isDig 99 = false := rfl
                have hne : Hid (Rd.txt ws a ≠ []) := by show _ ≠ _; rw [UX.out]; simp
                generalize hLM : Rd.listM ws a = LM
                obtain ⟨lb, ln⟩ := LM
                have RL : Hid (∀ W, RRd W rb g cap ws a → Calls Tryz.prog 37 #[.pointer (some ⟨rb, 0, none⟩)] W fun e w' => e = .returned (.bool lb) ∧ RRd w' rb g cap ws ln ∧ Keep rb W w') := by
                  intro W hW
                  have := rlist_any W rb g cap ws a hW hl HE.out HD.out hne.out
                  rw [hLM] at this
                  exact this
                have HLM := hide1 hLM
                clear hLM
                cases lb with
                | false =>
                  go_wp2_with fail
                  refine (HT.out).mono ?_
                  rintro e w1 ⟨rfl, hb⟩
                  have hR1 := hR.below hb
                  have hK1 := hK.trans (Keep.of_below hb)
                  have d1 := hR1.c1
                  have f1 := hR1.fz 1
                  go_wp2_with (go_at_call 34; refine (rdigit_any _ _).mono ?_; rintro e w' ⟨rfl, rfl⟩)
                  refine (RL.out _ hR1).mono ?_
                  rintro e w2 ⟨rfl, hR3, hK3⟩
                  go_wp2_with fail
                  go_ret
                  have e1 := HFO.out
                  rw [Rd.follows, UX.out, HLM.out] at e1
                  have e2 := (Option.some.inj e1).symm
                  subst e2
                  exact ⟨rfl, hR3, hK1.trans hK3⟩
                | true =>
                  obtain ⟨m1, m2⟩ := listM_true HLM.out
                  have hn1 := HE.out.2 ln (beq_ne m1)
                  have M1 := hide1 m1
                  clear m1
                  go_wp2_with fail
                  refine (HT.out).mono ?_
                  rintro e w1 ⟨rfl, hb⟩
                  have hR1 := hR.below hb
                  have hK1 := hK.trans (Keep.of_below hb)
                  have d1 := hR1.c1
                  have f1 := hR1.fz 1
                  go_wp2_with (go_at_call 34; refine (rdigit_any _ _).mono ?_; rintro e w' ⟨rfl, rfl⟩)
                  refine (RL.out _ hR1).mono ?_
                  rintro e w2 ⟨rfl, hR3, hK3⟩
                  clear d1 f1
                  have d1 := hR3.c1
                  have f1 := hR3.fz 1
                  go_wp2_with fail
                  go_roundg k
                  case measure => have := HGK.out; omega
                  case rel =>
                    have e1 := HFO.out
                    rw [Rd.follows, UX.out, HLM.out] at e1
                    exact ⟨ln + 1, on, false, rfl, rfl, by omega, hn1, hR3.set1 (ln + 1) (by simp), (hK1.trans hK3).setCell 1 _, e1⟩
              | false =>
                by_cases hz : 0 < t.size
                · cases u : Rd.isDig (t[0].toNat : Int)
                  · cases t7 : (t.data.toList == [115, 113, 114, 116]) with
                    | true =>
                      have ht := lit_of t7
                      subst ht
                      have hn1 := HE.out.2 a (by rw [UX.out]; simp)
                      have UX2 : Hid (Rd.txt ws (a + 1) = (Rd.wordAt ws (a + 1)).text.data.toList) := rfl
                      have HT2 : Hid (∀ W, RRd W rb g cap ws (a + 1) → Calls Tryz.prog 36 #[.pointer (some ⟨rb, 0, none⟩)] W fun e w' => e = .returned (.string (Rd.wordAt ws (a + 1)).text) ∧ Below W.heap.size W w') := fun W hW => rt_any W rb g cap ws (a + 1) hW hn1
                      generalize (Rd.wordAt ws (a + 1)).text = t2 at *
                      cases y : (t2.data.toList == [40]) with
                      | true =>
                        have ht2 := lit_of y
                        subst ht2
                        go_wp2_with fail
                        refine (HT.out).mono ?_
                        rintro e w1 ⟨rfl, hb⟩
                        have hR1 := hR.below hb
                        have hK1 := hK.trans (Keep.of_below hb)
                        have d1 := hR1.c1
                        have f1 := hR1.fz 1
                        go_wp2_with (first | (go_at_call 34; refine (rdigit_any _ _).mono ?_; rintro e w' ⟨rfl, rfl⟩) | (go_at_call 38; refine (function_any _ _).mono ?_; rintro e w' ⟨rfl, rfl⟩))
                        have hR2 := hR1.set1 (m := (↑a + 1)) (a + 1) (by simp)
                        have hK2 := hK1.setCell 1 (.int .i64 (↑a + 1))
                        refine (HT2.out _ hR2).mono ?_
                        rintro e w2 ⟨rfl, hb2⟩
                        have hR3 := hR2.below hb2
                        have hK3 := hK2.trans (Keep.of_below hb2)
                        clear d1 f1 hR2 hK2 hb2 hb
                        have d1 := hR3.c1
                        have f1 := hR3.fz 1
                        go_wp2_with fail
                        go_roundg k
                        case measure => have := HGK.out; omega
                        case rel =>
                          have e1 := HFO.out
                          rw [Rd.follows, UX.out, UX2.out] at e1
                          exact ⟨a + 2, on + 1, true, by go_num, rfl, by omega, HE.out.2 (a + 1) (by rw [UX2.out]; simp), hR3.set1 (a + 2) (by simp; omega), hK3.setCell 1 _, e1⟩
                      | false =>
                        have y2 := tl y
                        go_wp2_with fail
                        refine (HT.out).mono ?_
                        rintro e w1 ⟨rfl, hb⟩
                        have hR1 := hR.below hb
                        have hK1 := hK.trans (Keep.of_below hb)
                        have d1 := hR1.c1
                        have f1 := hR1.fz 1
                        go_wp2_with (first | (go_at_call 34; refine (rdigit_any _ _).mono ?_; rintro e w' ⟨rfl, rfl⟩) | (go_at_call 38; refine (function_any _ _).mono ?_; rintro e w' ⟨rfl, rfl⟩))
                        have hR2 := hR1.set1 (m := (↑a + 1)) (a + 1) (by simp)
                        have hK2 := hK1.setCell 1 (.int .i64 (↑a + 1))
                        refine (HT2.out _ hR2).mono ?_
                        rintro e w2 ⟨rfl, hb2⟩
                        have hR3 := hR2.below hb2
                        have hK3 := hK2.trans (Keep.of_below hb2)
                        clear d1 f1 hR2 hK2 hb2 hb
                        go_wp2_with fail
                        go_ret
                        have e1 := HFO.out
                        rw [Rd.follows, UX.out, UX2.out, y] at e1
                        have e2 := (Option.some.inj e1).symm
                        subst e2
                        exact ⟨rfl, hR3, hK3⟩
                    | false =>
                      cases t8 : (t.data.toList == [101, 120, 112]) with
                      | true =>
                        have ht := lit_of t8
                        subst ht
                        have hn1 := HE.out.2 a (by rw [UX.out]; simp)
                        have UX2 : Hid (Rd.txt ws (a + 1) = (Rd.wordAt ws (a + 1)).text.data.toList) := rfl
                        have HT2 : Hid (∀ W, RRd W rb g cap ws (a + 1) → Calls Tryz.prog 36 #[.pointer (some ⟨rb, 0, none⟩)] W fun e w' => e = .returned (.string (Rd.wordAt ws (a + 1)).text) ∧ Below W.heap.size W w') := fun W hW => rt_any W rb g cap ws (a + 1) hW hn1
                        generalize (Rd.wordAt ws (a + 1)).text = t2 at *
                        cases y : (t2.data.toList == [40]) with
                        | true =>
                          have ht2 := lit_of y
                          subst ht2
                          go_wp2_with fail
                          refine (HT.out).mono ?_
                          rintro e w1 ⟨rfl, hb⟩
                          have hR1 := hR.below hb
                          have hK1 := hK.trans (Keep.of_below hb)
                          have d1 := hR1.c1
                          have f1 := hR1.fz 1
                          go_wp2_with (first | (go_at_call 34; refine (rdigit_any _ _).mono ?_; rintro e w' ⟨rfl, rfl⟩) | (go_at_call 38; refine (function_any _ _).mono ?_; rintro e w' ⟨rfl, rfl⟩))
                          have hR2 := hR1.set1 (m := (↑a + 1)) (a + 1) (by simp)
                          have hK2 := hK1.setCell 1 (.int .i64 (↑a + 1))
                          refine (HT2.out _ hR2).mono ?_
                          rintro e w2 ⟨rfl, hb2⟩
                          have hR3 := hR2.below hb2
                          have hK3 := hK2.trans (Keep.of_below hb2)
                          clear d1 f1 hR2 hK2 hb2 hb
                          have d1 := hR3.c1
                          have f1 := hR3.fz 1
                          go_wp2_with fail
                          go_roundg k
                          case measure => have := HGK.out; omega
                          case rel =>
                            have e1 := HFO.out
                            rw [Rd.follows, UX.out, UX2.out] at e1
                            exact ⟨a + 2, on + 1, true, by go_num, rfl, by omega, HE.out.2 (a + 1) (by rw [UX2.out]; simp), hR3.set1 (a + 2) (by simp; omega), hK3.setCell 1 _, e1⟩
                        | false =>
                          have y2 := tl y
                          go_wp2_with fail
                          refine (HT.out).mono ?_
                          rintro e w1 ⟨rfl, hb⟩
                          have hR1 := hR.below hb
                          have hK1 := hK.trans (Keep.of_below hb)
                          have d1 := hR1.c1
                          have f1 := hR1.fz 1
                          go_wp2_with (first | (go_at_call 34; refine (rdigit_any _ _).mono ?_; rintro e w' ⟨rfl, rfl⟩) | (go_at_call 38; refine (function_any _ _).mono ?_; rintro e w' ⟨rfl, rfl⟩))
                          have hR2 := hR1.set1 (m := (↑a + 1)) (a + 1) (by simp)
                          have hK2 := hK1.setCell 1 (.int .i64 (↑a + 1))
                          refine (HT2.out _ hR2).mono ?_
                          rintro e w2 ⟨rfl, hb2⟩
                          have hR3 := hR2.below hb2
                          have hK3 := hK2.trans (Keep.of_below hb2)
                          clear d1 f1 hR2 hK2 hb2 hb
                          go_wp2_with fail
                          go_ret
                          have e1 := HFO.out
                          rw [Rd.follows, UX.out, UX2.out, y] at e1
                          have e2 := (Option.some.inj e1).symm
                          subst e2
                          exact ⟨rfl, hR3, hK3⟩
                      | false =>
                        cases t9 : (t.data.toList == [108, 110, 49, 112]) with
                        | true =>
                          have ht := lit_of t9
                          subst ht
                          have hn1 := HE.out.2 a (by rw [UX.out]; simp)
                          have UX2 : Hid (Rd.txt ws (a + 1) = (Rd.wordAt ws (a + 1)).text.data.toList) := rfl
                          have HT2 : Hid (∀ W, RRd W rb g cap ws (a + 1) → Calls Tryz.prog 36 #[.pointer (some ⟨rb, 0, none⟩)] W fun e w' => e = .returned (.string (Rd.wordAt ws (a + 1)).text) ∧ Below W.heap.size W w') := fun W hW => rt_any W rb g cap ws (a + 1) hW hn1
                          generalize (Rd.wordAt ws (a + 1)).text = t2 at *
                          cases y : (t2.data.toList == [40]) with
                          | true =>
                            have ht2 := lit_of y
                            subst ht2
                            go_wp2_with fail
                            refine (HT.out).mono ?_
                            rintro e w1 ⟨rfl, hb⟩
                            have hR1 := hR.below hb
                            have hK1 := hK.trans (Keep.of_below hb)
                            have d1 := hR1.c1
                            have f1 := hR1.fz 1
                            go_wp2_with (first | (go_at_call 34; refine (rdigit_any _ _).mono ?_; rintro e w' ⟨rfl, rfl⟩) | (go_at_call 38; refine (function_any _ _).mono ?_; rintro e w' ⟨rfl, rfl⟩))
                            have hR2 := hR1.set1 (m := (↑a + 1)) (a + 1) (by simp)
                            have hK2 := hK1.setCell 1 (.int .i64 (↑a + 1))
                            refine (HT2.out _ hR2).mono ?_
                            rintro e w2 ⟨rfl, hb2⟩
                            have hR3 := hR2.below hb2
                            have hK3 := hK2.trans (Keep.of_below hb2)
                            clear d1 f1 hR2 hK2 hb2 hb
                            have d1 := hR3.c1
                            have f1 := hR3.fz 1
                            go_wp2_with fail
                            go_roundg k
                            case measure => have := HGK.out; omega
                            case rel =>
                              have e1 := HFO.out
                              rw [Rd.follows, UX.out, UX2.out] at e1
                              exact ⟨a + 2, on + 1, true, by go_num, rfl, by omega, HE.out.2 (a + 1) (by rw [UX2.out]; simp), hR3.set1 (a + 2) (by simp; omega), hK3.setCell 1 _, e1⟩
                          | false =>
                            have y2 := tl y
                            go_wp2_with fail
                            refine (HT.out).mono ?_
                            rintro e w1 ⟨rfl, hb⟩
                            have hR1 := hR.below hb
                            have hK1 := hK.trans (Keep.of_below hb)
                            have d1 := hR1.c1
                            have f1 := hR1.fz 1
                            go_wp2_with (first | (go_at_call 34; refine (rdigit_any _ _).mono ?_; rintro e w' ⟨rfl, rfl⟩) | (go_at_call 38; refine (function_any _ _).mono ?_; rintro e w' ⟨rfl, rfl⟩))
                            have hR2 := hR1.set1 (m := (↑a + 1)) (a + 1) (by simp)
                            have hK2 := hK1.setCell 1 (.int .i64 (↑a + 1))
                            refine (HT2.out _ hR2).mono ?_
                            rintro e w2 ⟨rfl, hb2⟩
                            have hR3 := hR2.below hb2
                            have hK3 := hK2.trans (Keep.of_below hb2)
                            clear d1 f1 hR2 hK2 hb2 hb
                            go_wp2_with fail
                            go_ret
                            have e1 := HFO.out
                            rw [Rd.follows, UX.out, UX2.out, y] at e1
                            have e2 := (Option.some.inj e1).symm
                            subst e2
                            exact ⟨rfl, hR3, hK3⟩
                        | false =>
                          cases t10 : (t.data.toList == [97, 116, 97, 110]) with
                          | true =>
                            have ht := lit_of t10
                            subst ht
                            have hn1 := HE.out.2 a (by rw [UX.out]; simp)
                            have UX2 : Hid (Rd.txt ws (a + 1) = (Rd.wordAt ws (a + 1)).text.data.toList) := rfl
                            have HT2 : Hid (∀ W, RRd W rb g cap ws (a + 1) → Calls Tryz.prog 36 #[.pointer (some ⟨rb, 0, none⟩)] W fun e w' => e = .returned (.string (Rd.wordAt ws (a + 1)).text) ∧ Below W.heap.size W w') := fun W hW => rt_any W rb g cap ws (a + 1) hW hn1
                            generalize (Rd.wordAt ws (a + 1)).text = t2 at *
                            cases y : (t2.data.toList == [40]) with
                            | true =>
                              have ht2 := lit_of y
                              subst ht2
                              go_wp2_with fail
                              refine (HT.out).mono ?_
                              rintro e w1 ⟨rfl, hb⟩
                              have hR1 := hR.below hb
                              have hK1 := hK.trans (Keep.of_below hb)
                              have d1 := hR1.c1
                              have f1 := hR1.fz 1
                              go_wp2_with (first | (go_at_call 34; refine (rdigit_any _ _).mono ?_; rintro e w' ⟨rfl, rfl⟩) | (go_at_call 38; refine (function_any _ _).mono ?_; rintro e w' ⟨rfl, rfl⟩))
                              have hR2 := hR1.set1 (m := (↑a + 1)) (a + 1) (by simp)
                              have hK2 := hK1.setCell 1 (.int .i64 (↑a + 1))
                              refine (HT2.out _ hR2).mono ?_
                              rintro e w2 ⟨rfl, hb2⟩
                              have hR3 := hR2.below hb2
                              have hK3 := hK2.trans (Keep.of_below hb2)
                              clear d1 f1 hR2 hK2 hb2 hb
                              have d1 := hR3.c1
                              have f1 := hR3.fz 1
                              go_wp2_with fail
                              go_roundg k
                              case measure => have := HGK.out; omega
                              case rel =>
                                have e1 := HFO.out
                                rw [Rd.follows, UX.out, UX2.out] at e1
                                exact ⟨a + 2, on + 1, true, by go_num, rfl, by omega, HE.out.2 (a + 1) (by rw [UX2.out]; simp), hR3.set1 (a + 2) (by simp; omega), hK3.setCell 1 _, e1⟩
                            | false =>
                              have y2 := tl y
                              go_wp2_with fail
                              refine (HT.out).mono ?_
                              rintro e w1 ⟨rfl, hb⟩
                              have hR1 := hR.below hb
                              have hK1 := hK.trans (Keep.of_below hb)
                              have d1 := hR1.c1
                              have f1 := hR1.fz 1
                              go_wp2_with (first | (go_at_call 34; refine (rdigit_any _ _).mono ?_; rintro e w' ⟨rfl, rfl⟩) | (go_at_call 38; refine (function_any _ _).mono ?_; rintro e w' ⟨rfl, rfl⟩))
                              have hR2 := hR1.set1 (m := (↑a + 1)) (a + 1) (by simp)
                              have hK2 := hK1.setCell 1 (.int .i64 (↑a + 1))
                              refine (HT2.out _ hR2).mono ?_
                              rintro e w2 ⟨rfl, hb2⟩
                              have hR3 := hR2.below hb2
                              have hK3 := hK2.trans (Keep.of_below hb2)
                              clear d1 f1 hR2 hK2 hb2 hb
                              go_wp2_with fail
                              go_ret
                              have e1 := HFO.out
                              rw [Rd.follows, UX.out, UX2.out, y] at e1
                              have e2 := (Option.some.inj e1).symm
                              subst e2
                              exact ⟨rfl, hR3, hK3⟩
                          | false =>
                            obtain ⟨z1, z2⟩ := nonempty_of hz
                            have UF := hide1 (kd_first hz)
                            have hfn : Rd.isFn t.data.toList = false := by simp only [Rd.isFn, t7, t8, t9, t10]; rfl
                            have y1 := tl t1
                            have y2 := tl t2
                            have y4 := tl t4
                            have y5 := tl t5
                            have y6 := tl t6
                            go_wp2_with fail
                            refine (HT.out).mono ?_
                            rintro e w1 ⟨rfl, hb⟩
                            have hR1 := hR.below hb
                            have hK1 := hK.trans (Keep.of_below hb)
                            have d1 := hR1.c1
                            have f1 := hR1.fz 1
                            go_wp2_with (first | (go_at_call 34; refine (rdigit_any _ _).mono ?_; rintro e w' ⟨rfl, rfl⟩) | (go_at_call 38; refine (function_any _ _).mono ?_; rintro e w' ⟨rfl, rfl⟩))
                            go_ret
                            have e1 := HFO.out
                            rw [Rd.follows, UX.out, t1, t2, t4, t5, t6, hfn, show (Rd.kd t.data.toList == 1) = false by rw [UF.out, u]] at e1
                            have e2 := (Option.some.inj e1).symm
                            subst e2
                            exact ⟨rfl, hR1, hK1⟩
                  · obtain ⟨z1, z2⟩ := nonempty_of hz
                    have UF := hide1 (kd_first hz)
                    have y1 := tl t1
                    have y2 := tl t2
                    go_wp2_with fail
                    refine (HT.out).mono ?_
                    rintro e w1 ⟨rfl, hb⟩
                    have hR1 := hR.below hb
                    have hK1 := hK.trans (Keep.of_below hb)
                    have d1 := hR1.c1
                    have f1 := hR1.fz 1
                    go_wp2_with (go_at_call 34; refine (rdigit_any _ _).mono ?_; rintro e w' ⟨rfl, rfl⟩)
                    go_roundg k
                    case measure => have := HGK.out; omega
                    case rel =>
                      have e1 := HFO.out
                      have e2 : (Rd.kd t.data.toList == 1) = true := by rw [UF.out, u]
                      rw [Rd.follows, UX.out, t1, t2, e2] at e1
                      exact ⟨a + 1, on, false, rfl, rfl, by omega, HE.out.2 a (by rw [UX.out]; exact kd_ne e2), hR1.set1 (a + 1) (by simp), hK1.setCell 1 _, e1⟩
                · have hz' := empty_of hz
                  subst hz'
                  clear hz
                  go_wp2_with fail
                  refine (HT.out).mono ?_
                  rintro e w1 ⟨rfl, hb⟩
                  have hR1 := hR.below hb
                  have hK1 := hK.trans (Keep.of_below hb)
                  have d1 := hR1.c1
                  have f1 := hR1.fz 1
                  go_wp2_with (first | (go_at_call 34; refine (rdigit_any _ _).mono ?_; rintro e w' ⟨rfl, rfl⟩) | (go_at_call 38; refine (function_any _ _).mono ?_; rintro e w' ⟨rfl, rfl⟩))
                  go_ret
                  have e1 := HFO.out
                  rw [Rd.follows, UX.out] at e1
                  have e2 := (Option.some.inj e1).symm
                  subst e2
                  exact ⟨rfl, hR1, hK1⟩
    | false =>
      cases t1 : (t.data.toList == [43]) with
      | true =>
        have ht := lit_of t1
        subst ht
        go_wp2_with fail
        refine (HT.out).mono ?_
        rintro e w1 ⟨rfl, hb⟩
        have hR1 := hR.below hb
        have hK1 := hK.trans (Keep.of_below hb)
        have d1 := hR1.c1
        have f1 := hR1.fz 1
        go_wp2_with (go_at_call 34; refine (rdigit_any _ _).mono ?_; rintro e w' ⟨rfl, rfl⟩)
        go_roundg k
        case measure => have := HGK.out; omega
        case rel =>
          have e1 := HFO.out
          rw [Rd.follows, UX.out] at e1
          exact ⟨a + 1, on, true, rfl, rfl, by omega, HE.out.2 a (by rw [UX.out]; simp), hR1.set1 (a + 1) (by simp), hK1.setCell 1 _, e1⟩
      | false =>
        cases t2 : (t.data.toList == [45]) with
        | true =>
          have ht := lit_of t2
          subst ht
          go_wp2_with fail
          refine (HT.out).mono ?_
          rintro e w1 ⟨rfl, hb⟩
          have hR1 := hR.below hb
          have hK1 := hK.trans (Keep.of_below hb)
          have d1 := hR1.c1
          have f1 := hR1.fz 1
          go_wp2_with (go_at_call 34; refine (rdigit_any _ _).mono ?_; rintro e w' ⟨rfl, rfl⟩)
          go_roundg k
          case measure => have := HGK.out; omega
          case rel =>
            have e1 := HFO.out
            rw [Rd.follows, UX.out] at e1
            exact ⟨a + 1, on, true, rfl, rfl, by omega, HE.out.2 a (by rw [UX.out]; simp), hR1.set1 (a + 1) (by simp), hK1.setCell 1 _, e1⟩
        | false =>
          cases t3 : (t.data.toList == [42]) with
          | true =>
            have ht := lit_of t3
            subst ht
            go_wp2_with fail
            refine (HT.out).mono ?_
            rintro e w1 ⟨rfl, hb⟩
            have hR1 := hR.below hb
            have hK1 := hK.trans (Keep.of_below hb)
            have d1 := hR1.c1
            have f1 := hR1.fz 1
            go_wp2_with (go_at_call 34; refine (rdigit_any _ _).mono ?_; rintro e w' ⟨rfl, rfl⟩)
            go_roundg k
            case measure => have := HGK.out; omega
            case rel =>
              have e1 := HFO.out
              rw [Rd.follows, UX.out] at e1
              exact ⟨a + 1, on, true, rfl, rfl, by omega, HE.out.2 a (by rw [UX.out]; simp), hR1.set1 (a + 1) (by simp), hK1.setCell 1 _, e1⟩
          | false =>
            cases t4 : (t.data.toList == [47]) with
            | true =>
              have ht := lit_of t4
              subst ht
              go_wp2_with fail
              refine (HT.out).mono ?_
              rintro e w1 ⟨rfl, hb⟩
              have hR1 := hR.below hb
              have hK1 := hK.trans (Keep.of_below hb)
              have d1 := hR1.c1
              have f1 := hR1.fz 1
              go_wp2_with (go_at_call 34; refine (rdigit_any _ _).mono ?_; rintro e w' ⟨rfl, rfl⟩)
              go_roundg k
              case measure => have := HGK.out; omega
              case rel =>
                have e1 := HFO.out
                rw [Rd.follows, UX.out] at e1
                exact ⟨a + 1, on, true, rfl, rfl, by omega, HE.out.2 a (by rw [UX.out]; simp), hR1.set1 (a + 1) (by simp), hK1.setCell 1 _, e1⟩
            | false =>
              cases t5 : (t.data.toList == [41]) with
              | true =>
                have ht := lit_of t5
                subst ht
                by_cases ho : 0 < on
                · go_wp2_with fail
                  refine (HT.out).mono ?_
                  rintro e w1 ⟨rfl, hb⟩
                  have hR1 := hR.below hb
                  have hK1 := hK.trans (Keep.of_below hb)
                  have d1 := hR1.c1
                  have f1 := hR1.fz 1
                  go_wp2_with (go_at_call 34; refine (rdigit_any _ _).mono ?_; rintro e w' ⟨rfl, rfl⟩)
                  go_roundg k
                  case measure => have := HGK.out; omega
                  case rel =>
                    have e1 := HFO.out
                    rw [Rd.follows, UX.out, decide_eq_true ho] at e1
                    exact ⟨a + 1, on - 1, false, by rw [show ((on - 1 : Nat) : Int) = (on : Int) - 1 by omega], rfl, by omega, HE.out.2 a (by rw [UX.out]; simp), hR1.set1 (a + 1) (by simp), hK1.setCell 1 _, e1⟩
                · go_wp2_with fail
                  refine (HT.out).mono ?_
                  rintro e w1 ⟨rfl, hb⟩
                  have hR1 := hR.below hb
                  have hK1 := hK.trans (Keep.of_below hb)
                  have d1 := hR1.c1
                  have f1 := hR1.fz 1
                  go_wp2_with (go_at_call 34; refine (rdigit_any _ _).mono ?_; rintro e w' ⟨rfl, rfl⟩)
                  go_ret
                  have e1 := HFO.out
                  rw [Rd.follows, UX.out, decide_eq_false ho] at e1
                  have e2 := (Option.some.inj e1).symm
                  subst e2
                  exact ⟨rfl, hR1, hK1⟩
              | false =>
                cases t6 : (t.data.toList == []) with
                | true =>
                  have ht := lit_of t6
                  subst ht
                  go_wp2_with fail
                  refine (HT.out).mono ?_
                  rintro e w1 ⟨rfl, hb⟩
                  have hR1 := hR.below hb
                  have hK1 := hK.trans (Keep.of_below hb)
                  have d1 := hR1.c1
                  have f1 := hR1.fz 1
                  go_wp2_with (go_at_call 34; refine (rdigit_any _ _).mono ?_; rintro e w' ⟨rfl, rfl⟩)
                  go_ret
                  have e1 := HFO.out
                  rw [Rd.follows, UX.out] at e1
                  have e2 := (Option.some.inj e1).symm
                  subst e2
                  refine ⟨?_, hR1, hK1⟩
                  show Ending.returned (.bool ((on : Int) == 0)) = .returned (.bool (decide (on = 0)))
                  by_cases ho : on = 0 <;> simp [ho]
                | false =>
                  have y1 := tl t1
                  have y2 := tl t2
                  have y3 := tl t3
                  have y4 := tl t4
                  have y5 := tl t5
                  have hz : 0 < t.size := by
                    rcases Nat.lt_or_ge 0 t.size with h | h
                    · exact h
                    · rw [empty_of (t := t) (by omega)] at t6; cases t6
                  obtain ⟨z1, z2⟩ := nonempty_of hz
                  go_wp2_with fail
                  refine (HT.out).mono ?_
                  rintro e w1 ⟨rfl, hb⟩
                  have hR1 := hR.below hb
                  have hK1 := hK.trans (Keep.of_below hb)
                  have d1 := hR1.c1
                  have f1 := hR1.fz 1
                  go_wp2_with (go_at_call 34; refine (rdigit_any _ _).mono ?_; rintro e w' ⟨rfl, rfl⟩)
                  go_ret
                  have e1 := HFO.out
                  rw [Rd.follows, UX.out, show Rd.isOp t.data.toList = false by simp only [Rd.isOp, t1, t2, t3, t4]; rfl, t5, t6] at e1
                  have e2 := (Option.some.inj e1).symm
                  subst e2
                  exact ⟨rfl, hR1, hK1⟩

end Go.Proofs.YtmepffenlgedbaaGreatDoor
