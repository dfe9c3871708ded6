/-
  THE WALKS of the reader's signed and brackets, given those of what they call.
-/
import Derived.Test.YtmepffenlgedbaaCont
set_option linter.unusedSimpArgs false
namespace Go.Proofs.Ytmepffenlgedbaa
open Go.RowKit

theorem out_cast {st : Rd.St} (h : 1 ≤ st.around) : (st.around : Int) - 1 = ((st.around - 1 : Nat) : Int) := by omega

theorem okOut_parts {st : Rd.St} (h : st.okOut = true) : st.ok ∧ 1 ≤ st.around := by
  simp only [Rd.St.okOut, Bool.and_eq_true, decide_eq_true_eq] at h
  exact ⟨Rd.St.okB_ok h.1, h.2⟩

theorem unary_ok {k : Int} {x : Rd.Tr} {st : Rd.St} {y : Option Rd.Tr × Rd.St} (h : Rd.unaryOf k (some x) st = some y) : st.ok ∧ y = (some (Rd.unT k x), st.node) := by
  simp only [Rd.unaryOf] at h
  cases ho : st.okB with
  | false => rw [ho] at h; cases h
  | true =>
    rw [ho] at h
    exact ⟨Rd.St.okB_ok ho, (Option.some.inj h).symm⟩

set_option maxHeartbeats 1000000 in
theorem signed_step (rb g cap : Nat) (ws : List Rd.Wd) (f : Nat) (IH : Hid (∀ k, k < f → Said rb g cap ws 17 4 k)) (IA : Hid (∀ k, k < f → Said rb g cap ws 20 5 k)) : Said rb g cap ws 17 4 f := by
  intro w st res st' hR hp
  obtain ⟨f0, rfl⟩ : ∃ f0, f = f0 + 1 := by
    cases f with
    | zero => cases hp
    | succ f0 => exact ⟨f0, rfl⟩
  rw [Rd.parse] at hp
  cases ho : st.okB with
  | false => rw [ho] at hp; cases hp
  | true =>
    rw [ho] at hp
    simp only [cond_true] at hp
    have ok := Rd.St.okB_ok ho
    have b1 : st.next < 1000 := ok.1
    have b2 : st.adv.around < 1000 := ok.2.1
    clear ho ok
    cases u1 : Rd.tk ws st ⟨#[45]⟩
    · rw [u1] at hp
      simp only [cond_false] at hp
      have HP := hideq hp
      clear hp
      go_enter Try.func17, Try.ntmps17
      go_wp2_with fail
      refine (take_no _ rb g cap ws st _ hR b1 u1).mono ?_
      rintro e w1 ⟨rfl, hR1, hK1⟩
      go_wp2_with fail
      refine (IA.out f0 (by omega) _ st res st' hR1 HP.out).mono ?_
      rintro e w2 ⟨v2, rfl, hE2, hR2, hK2⟩
      go_wp2_with fail
      go_ret
      exact ⟨_, rfl, hE2, hR2, hK1.trans hK2⟩
    · rw [u1] at hp
      simp only [cond_true] at hp
      obtain ⟨x, st2, hp1, hp2⟩ := next_some hp
      cases ho2 : st2.okOut with
      | false => rw [ho2] at hp2; cases hp2
      | true =>
        rw [ho2] at hp2
        simp only [cond_true] at hp2
        obtain ⟨ok2, out2⟩ := okOut_parts ho2
        have b3 : st2.around < 1000 := ok2.2.1
        have HP1 := hideq hp1
        have HP2 := hideq hp2
        clear hp hp1 hp2 ho2 ok2
        go_enter Try.func17, Try.ntmps17
        go_wp2_with fail
        refine (take_yes _ rb g cap ws st _ hR b1 u1).mono ?_
        rintro e w1 ⟨rfl, hR1, hK1⟩
        have d2 := hR1.c2
        have f2 := hR1.fz 2
        go_wp2_with fail
        refine (IH.out f0 (by omega) _ st.adv.inn x st2 (hR1.set2 (st.adv.around + 1) (by simp)) HP1.out).mono ?_
        rintro e w2 ⟨v2, rfl, hE2, hR2, hK2⟩
        have hK3 : Keep rb w w2 := (hK1.setCell 2 _).trans hK2
        clear d2 f2 hK1 hK2 hR1 hR HP1
        have d2 := hR2.c2
        have f2 := hR2.fz 2
        have hR3 := hR2.set2 (st2.around - 1) (out_cast out2)
        have hlt := hR2.lt
        cases x with
        | none =>
          rw [show v2 = Value.pointer none from hE2]
          clear hE2
          have e := HP2.out
          simp only [Rd.unaryOf, Option.some.injEq, Prod.mk.injEq] at e
          obtain ⟨rfl, rfl⟩ := e
          go_wp2_with fail
          refine (unary_nil _ _ _).mono ?_
          rintro e w5 ⟨rfl, rfl⟩
          go_wp2_with fail
          go_ret
          exact Post.nil hR3 (hK3.setCell 2 _)
        | some x =>
          obtain ⟨⟨b4, hb4⟩, hE6⟩ := hE2
          rw [hb4]
          rw [hb4] at hE6
          clear hb4
          obtain ⟨ok3, hy⟩ := unary_ok HP2.out
          simp only [Prod.mk.injEq] at hy
          obtain ⟨rfl, rfl⟩ := hy
          have hK4 : Keep rb w2 (w2.setCell ⟨rb, 2, none⟩ (.int .i64 ((st2.around : Int) - 1))) := (Keep.refl _ _).setCell 2 _
          clear HP2
          go_wp2_with fail
          refine (unary_some _ rb g cap ws st2.out _ _ hR3 ok3).mono ?_
          rintro e w5 ⟨rfl, hR5, hK6, hnew⟩
          rw [size_set] at hnew
          have hne : w2.heap.size ≠ rb := by omega
          go_wp2_with fail
          go_ret
          refine ⟨_, rfl, enc_node hne hnew (Or.inl ⟨rfl, rfl⟩) (Enc.keep (hK4.trans hK6) hE6) rfl, hR5, (hK3.setCell 2 _).trans hK6⟩

set_option maxHeartbeats 1000000 in
theorem brackets_step (rb g cap : Nat) (ws : List Rd.Wd) (f : Nat) (IH : Hid (∀ k, k < f → Said rb g cap ws 8 0 k)) : Said rb g cap ws 26 6 f := by
  intro w st res st' hR hp
  obtain ⟨f0, rfl⟩ : ∃ f0, f = f0 + 1 := by
    cases f with
    | zero => cases hp
    | succ f0 => exact ⟨f0, rfl⟩
  rw [Rd.parse] at hp
  · cases ho : st.okB with
    | false => rw [ho] at hp; cases hp
    | true =>
      rw [ho] at hp
      simp only [cond_true] at hp
      have ok := Rd.St.okB_ok ho
      have b1 : st.next < 1000 := ok.1
      have b2 : st.adv.around < 1000 := ok.2.1
      clear ho ok
      cases u1 : Rd.tk ws st ⟨#[40]⟩
      · rw [u1] at hp
        simp only [cond_false, Option.some.injEq, Prod.mk.injEq] at hp
        obtain ⟨rfl, rfl⟩ := hp
        go_enter Try.func26, Try.ntmps26
        go_wp2_with fail
        refine (take_no _ rb g cap ws st _ hR b1 u1).mono ?_
        rintro e w1 ⟨rfl, hR1, hK1⟩
        go_wp2_with fail
        go_ret
        exact Post.nil hR1 hK1
      · rw [u1] at hp
        simp only [cond_true] at hp
        obtain ⟨x, st2, hp1, hp2⟩ := next_some hp
        unfold Rd.closeOf at hp2
        cases ho2 : st2.okOut with
        | false => rw [ho2] at hp2; cases hp2
        | true =>
          rw [ho2] at hp2
          simp only [cond_true] at hp2
          obtain ⟨ok2, out2⟩ := okOut_parts ho2
          have b3 : st2.around < 1000 := ok2.2.1
          have b4 : st2.out.next < 1000 := ok2.1
          have HP1 := hideq hp1
          have HP2 := hideq hp2
          clear hp hp1 hp2 ho2 ok2
          go_enter Try.func26, Try.ntmps26
          go_wp2_with fail
          refine (take_yes _ rb g cap ws st _ hR b1 u1).mono ?_
          rintro e w1 ⟨rfl, hR1, hK1⟩
          have d2 := hR1.c2
          have f2 := hR1.fz 2
          go_wp2_with fail
          refine (IH.out f0 (by omega) _ st.adv.inn x st2 (hR1.set2 (st.adv.around + 1) (by simp)) HP1.out).mono ?_
          rintro e w2 ⟨v2, rfl, hE2, hR2, hK2⟩
          have hK3 : Keep rb w w2 := (hK1.setCell 2 _).trans hK2
          clear d2 f2 hK1 hK2 hR1 hR HP1
          have d2 := hR2.c2
          have f2 := hR2.fz 2
          have hR3 := hR2.set2 (st2.around - 1) (out_cast out2)
          have hlt := hR2.lt
          cases x with
          | none =>
            rw [show v2 = Value.pointer none from hE2]
            clear hE2
            have e := HP2.out
            simp only [Option.some.injEq, Prod.mk.injEq] at e
            obtain ⟨rfl, rfl⟩ := e
            go_wp2_with fail
            go_ret
            exact Post.nil hR3 (hK3.setCell 2 _)
          | some x =>
            obtain ⟨⟨b5, hb5⟩, hE6⟩ := hE2
            rw [hb5]
            rw [hb5] at hE6
            clear hb5
            have hK4 : Keep rb w2 (w2.setCell ⟨rb, 2, none⟩ (.int .i64 ((st2.around : Int) - 1))) := (Keep.refl _ _).setCell 2 _
            have e := HP2.out
            clear HP2
            cases u2 : Rd.tk ws st2.out ⟨#[41]⟩
            · simp only [u2, cond_false, Option.some.injEq, Prod.mk.injEq] at e
              obtain ⟨rfl, rfl⟩ := e
              go_wp2_with fail
              refine (take_no _ rb g cap ws st2.out _ hR3 b4 u2).mono ?_
              rintro e w5 ⟨rfl, hR5, hK6⟩
              go_wp2_with fail
              go_ret
              exact Post.nil hR5 ((hK3.setCell 2 _).trans hK6)
            · simp only [u2, cond_true, Option.some.injEq, Prod.mk.injEq] at e
              obtain ⟨rfl, rfl⟩ := e
              go_wp2_with fail
              refine (take_yes _ rb g cap ws st2.out _ hR3 b4 u2).mono ?_
              rintro e w5 ⟨rfl, hR5, hK6⟩
              go_wp2_with fail
              go_ret
              exact ⟨_, rfl, ⟨⟨b5, rfl⟩, Enc.keep (hK4.trans hK6) hE6⟩, hR5, (hK3.setCell 2 _).trans hK6⟩
  all_goals omega

end Go.Proofs.Ytmepffenlgedbaa
