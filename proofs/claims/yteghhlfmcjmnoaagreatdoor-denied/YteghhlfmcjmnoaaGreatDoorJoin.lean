import Derived.Test.YteghhlfmcjmnoaaGreatDoorCont
import Derived.Deep.LoopGhost
set_option linter.unusedSimpArgs false
namespace Go.Proofs.YteghhlfmcjmnoaaGreatDoor
open Go.RowKit
set_option maxHeartbeats 2000000 in
theorem sum_step (rb g cap : Nat) (ws : List Rd.Wd) (f : Nat) (IH : Hid (∀ k, k < f → Said rb g cap ws 98 2 k)) : Said rb g cap ws 64 0 f := by
  intro w st res st' hR hp
  obtain ⟨f0, rfl⟩ : ∃ f0, f = f0 + 1 := by
    cases f with
    | zero => cases hp
    | succ f0 => exact ⟨f0, rfl⟩
  obtain ⟨l0, st1, hp1, hp2⟩ := next_some hp
  have HP1 : Hid (Rd.parse ws f0 2 none st = some (l0, st1)) := hp1
  have HP2 : Hid (Rd.parse ws f0 1 l0 st1 = some (res, st')) := hp2
  clear hp hp1 hp2
  go_enter Tryz.func64, Tryz.ntmps64
  go_wp2_with fail
  refine (IH.out f0 (by omega) _ st l0 st1 hR HP1.out).mono ?_
  rintro e w1 ⟨v1, rfl, hE1, hR1, hK1⟩
  clear hR HP1
  go_wp2_with fail
  go_loopg [3] f0 (fun k l wr => ∃ lt st2, k ≤ f0 ∧ EncO rb wr lt l ∧ Rdr wr rb g cap ws st2 ∧ Keep rb w wr ∧ Rd.parse ws k 1 lt st2 = some (res, st'))
  case atStart => exact ⟨l0, st1, Nat.le_refl _, hE1, hR1, hK1, HP2.out⟩
  case round =>
    obtain ⟨lt, st2, hk, hE, hR, hK, hp⟩ := hrel
    clear HP2 hE1 hR1 hK1
    obtain ⟨k, hgk⟩ : ∃ k, gk = k + 1 := by
      cases gk with
      | zero => cases hp
      | succ k => exact ⟨k, rfl⟩
    rw [hgk] at hp
    have HGK : Hid (gk = k + 1) := hgk
    have hkf : k < f0 + 1 := by omega
    clear hgk
    cases lt with
    | none =>
      simp only [Rd.parse, Option.some.injEq, Prod.mk.injEq] at hp
      obtain ⟨rfl, rfl⟩ := hp
      rw [show _ = Value.pointer none from hE]
      clear hE
      go_wp2_with fail
      go_ret
      exact Post.nil hR hK
    | some t =>
      obtain ⟨⟨b, hb⟩, hE2⟩ := hE
      rw [hb]
      rw [hb] at hE2
      clear hb
      rw [Rd.parse] at hp
      cases ho : st2.okB with
      | false => rw [ho] at hp; cases hp
      | true =>
        rw [ho] at hp
        simp only [cond_true] at hp
        have ok := Rd.St.okB_ok ho
        have b2 : st2.next < 1000 := ok.1
        clear ho ok
        cases u1 : Rd.tk ws st2 ⟨#[43]⟩
        · cases u2 : Rd.tk ws st2 ⟨#[45]⟩
          · rw [u1, u2] at hp
            simp only [cond_false, Option.some.injEq, Prod.mk.injEq] at hp
            obtain ⟨rfl, rfl⟩ := hp
            go_wp2_with fail
            refine (take_no _ rb g cap ws st2 _ hR b2 u1).mono ?_
            rintro e w2 ⟨rfl, hR2, hK2⟩
            go_wp2_with fail
            refine (take_no _ rb g cap ws st2 _ hR2 b2 u2).mono ?_
            rintro e w3 ⟨rfl, hR3, hK3⟩
            go_wp2_with fail
            go_ret
            exact ⟨_, rfl, ⟨⟨b, rfl⟩, Enc.keep (hK2.trans hK3) hE2⟩, hR3, (hK.trans hK2).trans hK3⟩
          · rw [u1, u2] at hp
            simp only [cond_true, cond_false] at hp
            obtain ⟨r, st3, hp1, hp2⟩ := next_some hp
            have HP1 : Hid (Rd.parse ws k 2 none st2.adv = some (r, st3)) := hp1
            have HP2 := hideq hp2
            clear hp hp1 hp2
            go_wp2_with fail
            refine (take_no _ rb g cap ws st2 _ hR b2 u1).mono ?_
            rintro e w2 ⟨rfl, hR2, hK2⟩
            go_wp2_with fail
            refine (take_yes _ rb g cap ws st2 _ hR2 b2 u2).mono ?_
            rintro e w3 ⟨rfl, hR3, hK3⟩
            go_wp2_with fail
            refine (IH.out k hkf _ st2.adv r st3 hR3 HP1.out).mono ?_
            rintro e w4 ⟨v4, rfl, hE4, hR4, hK4⟩
            have hE5 : Enc rb w4 t (.pointer (some ⟨b, 0, none⟩)) := Enc.keep ((hK2.trans hK3).trans hK4) hE2
            have hK5 : Keep rb w w4 := ((hK.trans hK2).trans hK3).trans hK4
            clear hK hK2 hK3 hK4 hR hR2 hR3 hE2 HP1
            cases r with
            | none =>
              rw [show v4 = Value.pointer none from hE4]
              clear hE4
              go_wp2_with fail
              refine (operation_nil _ _ _ _).mono ?_
              rintro e w5 ⟨rfl, rfl⟩
              go_wp2_with fail
              go_roundg k
              case measure => have := HGK.out; omega
              case rel => exact ⟨none, st3, by omega, rfl, hR4, hK5, HP2.out⟩
            | some r =>
              obtain ⟨⟨b4, hb4⟩, hE6⟩ := hE4
              rw [hb4]
              rw [hb4] at hE6
              clear hb4
              obtain ⟨ok3, hp3⟩ := oper_some HP2.out
              clear HP2
              have HP3 := hideq hp3
              have hlt := hR4.lt
              clear hp3
              go_wp2_with fail
              refine (operation_some _ rb g cap ws st3 _ _ _ hR4 ok3).mono ?_
              rintro e w5 ⟨rfl, hR5, hK6, hnew⟩
              clear hR4
              go_wp2_with fail
              go_roundg k
              case measure => have := HGK.out; omega
              case rel => exact ⟨some (Rd.opT 7 t r), st3.node, by omega, enc_node (by omega) hnew (Or.inl ⟨rfl, rfl⟩) (Enc.keep hK6 hE5) (Enc.keep hK6 hE6), hR5, hK5.trans hK6, HP3.out⟩
        · rw [u1] at hp
          simp only [cond_true, cond_false] at hp
          obtain ⟨r, st3, hp1, hp2⟩ := next_some hp
          have HP1 : Hid (Rd.parse ws k 2 none st2.adv = some (r, st3)) := hp1
          have HP2 := hideq hp2
          clear hp hp1 hp2
          go_wp2_with fail
          refine (take_yes _ rb g cap ws st2 _ hR b2 u1).mono ?_
          rintro e w3 ⟨rfl, hR3, hK3⟩
          go_wp2_with fail
          refine (IH.out k hkf _ st2.adv r st3 hR3 HP1.out).mono ?_
          rintro e w4 ⟨v4, rfl, hE4, hR4, hK4⟩
          have hE5 : Enc rb w4 t (.pointer (some ⟨b, 0, none⟩)) := Enc.keep (hK3.trans hK4) hE2
          have hK5 : Keep rb w w4 := (hK.trans hK3).trans hK4
          clear hK hK3 hK4 hR hR3 hE2 HP1
          cases r with
          | none =>
            rw [show v4 = Value.pointer none from hE4]
            clear hE4
            go_wp2_with fail
            refine (operation_nil _ _ _ _).mono ?_
            rintro e w5 ⟨rfl, rfl⟩
            go_wp2_with fail
            go_roundg k
            case measure => have := HGK.out; omega
            case rel => exact ⟨none, st3, by omega, rfl, hR4, hK5, HP2.out⟩
          | some r =>
            obtain ⟨⟨b4, hb4⟩, hE6⟩ := hE4
            rw [hb4]
            rw [hb4] at hE6
            clear hb4
            obtain ⟨ok3, hp3⟩ := oper_some HP2.out
            clear HP2
            have HP3 := hideq hp3
            have hlt := hR4.lt
            clear hp3
            go_wp2_with fail
            refine (operation_some _ rb g cap ws st3 _ _ _ hR4 ok3).mono ?_
            rintro e w5 ⟨rfl, hR5, hK6, hnew⟩
            clear hR4
            go_wp2_with fail
            go_roundg k
            case measure => have := HGK.out; omega
            case rel => exact ⟨some (Rd.opT 6 t r), st3.node, by omega, enc_node (by omega) hnew (Or.inl ⟨rfl, rfl⟩) (Enc.keep hK6 hE5) (Enc.keep hK6 hE6), hR5, hK5.trans hK6, HP3.out⟩
end Go.Proofs.YteghhlfmcjmnoaaGreatDoor
set_option linter.unusedSimpArgs false
namespace Go.Proofs.YteghhlfmcjmnoaaGreatDoor
open Go.RowKit
set_option maxHeartbeats 2000000 in
theorem product_step (rb g cap : Nat) (ws : List Rd.Wd) (f : Nat) (IH : Hid (∀ k, k < f → Said rb g cap ws 142 4 k)) : Said rb g cap ws 98 2 f := by
  intro w st res st' hR hp
  obtain ⟨f0, rfl⟩ : ∃ f0, f = f0 + 1 := by
    cases f with
    | zero => cases hp
    | succ f0 => exact ⟨f0, rfl⟩
  obtain ⟨l0, st1, hp1, hp2⟩ := next_some hp
  have HP1 : Hid (Rd.parse ws f0 4 none st = some (l0, st1)) := hp1
  have HP2 : Hid (Rd.parse ws f0 3 l0 st1 = some (res, st')) := hp2
  clear hp hp1 hp2
  go_enter Tryz.func98, Tryz.ntmps98
  go_wp2_with fail
  refine (IH.out f0 (by omega) _ st l0 st1 hR HP1.out).mono ?_
  rintro e w1 ⟨v1, rfl, hE1, hR1, hK1⟩
  clear hR HP1
  go_wp2_with fail
  go_loopg [3] f0 (fun k l wr => ∃ lt st2, k ≤ f0 ∧ EncO rb wr lt l ∧ Rdr wr rb g cap ws st2 ∧ Keep rb w wr ∧ Rd.parse ws k 3 lt st2 = some (res, st'))
  case atStart => exact ⟨l0, st1, Nat.le_refl _, hE1, hR1, hK1, HP2.out⟩
  case round =>
    obtain ⟨lt, st2, hk, hE, hR, hK, hp⟩ := hrel
    clear HP2 hE1 hR1 hK1
    obtain ⟨k, hgk⟩ : ∃ k, gk = k + 1 := by
      cases gk with
      | zero => cases hp
      | succ k => exact ⟨k, rfl⟩
    rw [hgk] at hp
    have HGK : Hid (gk = k + 1) := hgk
    have hkf : k < f0 + 1 := by omega
    clear hgk
    cases lt with
    | none =>
      simp only [Rd.parse, Option.some.injEq, Prod.mk.injEq] at hp
      obtain ⟨rfl, rfl⟩ := hp
      rw [show _ = Value.pointer none from hE]
      clear hE
      go_wp2_with fail
      go_ret
      exact Post.nil hR hK
    | some t =>
      obtain ⟨⟨b, hb⟩, hE2⟩ := hE
      rw [hb]
      rw [hb] at hE2
      clear hb
      rw [Rd.parse] at hp
      cases ho : st2.okB with
      | false => rw [ho] at hp; cases hp
      | true =>
        rw [ho] at hp
        simp only [cond_true] at hp
        have ok := Rd.St.okB_ok ho
        have b2 : st2.next < 1000 := ok.1
        clear ho ok
        cases u1 : Rd.tk ws st2 ⟨#[42]⟩
        · cases u2 : Rd.tk ws st2 ⟨#[47]⟩
          · rw [u1, u2] at hp
            simp only [cond_false, Option.some.injEq, Prod.mk.injEq] at hp
            obtain ⟨rfl, rfl⟩ := hp
            go_wp2_with fail
            refine (take_no _ rb g cap ws st2 _ hR b2 u1).mono ?_
            rintro e w2 ⟨rfl, hR2, hK2⟩
            go_wp2_with fail
            refine (take_no _ rb g cap ws st2 _ hR2 b2 u2).mono ?_
            rintro e w3 ⟨rfl, hR3, hK3⟩
            go_wp2_with fail
            go_ret
            exact ⟨_, rfl, ⟨⟨b, rfl⟩, Enc.keep (hK2.trans hK3) hE2⟩, hR3, (hK.trans hK2).trans hK3⟩
          · rw [u1, u2] at hp
            simp only [cond_true, cond_false] at hp
            obtain ⟨r, st3, hp1, hp2⟩ := next_some hp
            have HP1 : Hid (Rd.parse ws k 4 none st2.adv = some (r, st3)) := hp1
            have HP2 := hideq hp2
            clear hp hp1 hp2
            go_wp2_with fail
            refine (take_no _ rb g cap ws st2 _ hR b2 u1).mono ?_
            rintro e w2 ⟨rfl, hR2, hK2⟩
            go_wp2_with fail
            refine (take_yes _ rb g cap ws st2 _ hR2 b2 u2).mono ?_
            rintro e w3 ⟨rfl, hR3, hK3⟩
            go_wp2_with fail
            refine (IH.out k hkf _ st2.adv r st3 hR3 HP1.out).mono ?_
            rintro e w4 ⟨v4, rfl, hE4, hR4, hK4⟩
            have hE5 : Enc rb w4 t (.pointer (some ⟨b, 0, none⟩)) := Enc.keep ((hK2.trans hK3).trans hK4) hE2
            have hK5 : Keep rb w w4 := ((hK.trans hK2).trans hK3).trans hK4
            clear hK hK2 hK3 hK4 hR hR2 hR3 hE2 HP1
            cases r with
            | none =>
              rw [show v4 = Value.pointer none from hE4]
              clear hE4
              go_wp2_with fail
              refine (operation_nil _ _ _ _).mono ?_
              rintro e w5 ⟨rfl, rfl⟩
              go_wp2_with fail
              go_roundg k
              case measure => have := HGK.out; omega
              case rel => exact ⟨none, st3, by omega, rfl, hR4, hK5, HP2.out⟩
            | some r =>
              obtain ⟨⟨b4, hb4⟩, hE6⟩ := hE4
              rw [hb4]
              rw [hb4] at hE6
              clear hb4
              obtain ⟨ok3, hp3⟩ := oper_some HP2.out
              clear HP2
              have HP3 := hideq hp3
              have hlt := hR4.lt
              clear hp3
              go_wp2_with fail
              refine (operation_some _ rb g cap ws st3 _ _ _ hR4 ok3).mono ?_
              rintro e w5 ⟨rfl, hR5, hK6, hnew⟩
              clear hR4
              go_wp2_with fail
              go_roundg k
              case measure => have := HGK.out; omega
              case rel => exact ⟨some (Rd.opT 9 t r), st3.node, by omega, enc_node (by omega) hnew (Or.inl ⟨rfl, rfl⟩) (Enc.keep hK6 hE5) (Enc.keep hK6 hE6), hR5, hK5.trans hK6, HP3.out⟩
        · rw [u1] at hp
          simp only [cond_true, cond_false] at hp
          obtain ⟨r, st3, hp1, hp2⟩ := next_some hp
          have HP1 : Hid (Rd.parse ws k 4 none st2.adv = some (r, st3)) := hp1
          have HP2 := hideq hp2
          clear hp hp1 hp2
          go_wp2_with fail
          refine (take_yes _ rb g cap ws st2 _ hR b2 u1).mono ?_
          rintro e w3 ⟨rfl, hR3, hK3⟩
          go_wp2_with fail
          refine (IH.out k hkf _ st2.adv r st3 hR3 HP1.out).mono ?_
          rintro e w4 ⟨v4, rfl, hE4, hR4, hK4⟩
          have hE5 : Enc rb w4 t (.pointer (some ⟨b, 0, none⟩)) := Enc.keep (hK3.trans hK4) hE2
          have hK5 : Keep rb w w4 := (hK.trans hK3).trans hK4
          clear hK hK3 hK4 hR hR3 hE2 HP1
          cases r with
          | none =>
            rw [show v4 = Value.pointer none from hE4]
            clear hE4
            go_wp2_with fail
            refine (operation_nil _ _ _ _).mono ?_
            rintro e w5 ⟨rfl, rfl⟩
            go_wp2_with fail
            go_roundg k
            case measure => have := HGK.out; omega
            case rel => exact ⟨none, st3, by omega, rfl, hR4, hK5, HP2.out⟩
          | some r =>
            obtain ⟨⟨b4, hb4⟩, hE6⟩ := hE4
            rw [hb4]
            rw [hb4] at hE6
            clear hb4
            obtain ⟨ok3, hp3⟩ := oper_some HP2.out
            clear HP2
            have HP3 := hideq hp3
            have hlt := hR4.lt
            clear hp3
            go_wp2_with fail
            refine (operation_some _ rb g cap ws st3 _ _ _ hR4 ok3).mono ?_
            rintro e w5 ⟨rfl, hR5, hK6, hnew⟩
            clear hR4
            go_wp2_with fail
            go_roundg k
            case measure => have := HGK.out; omega
            case rel => exact ⟨some (Rd.opT 8 t r), st3.node, by omega, enc_node (by omega) hnew (Or.inl ⟨rfl, rfl⟩) (Enc.keep hK6 hE5) (Enc.keep hK6 hE6), hR5, hK5.trans hK6, HP3.out⟩
end Go.Proofs.YteghhlfmcjmnoaaGreatDoor
set_option linter.unusedSimpArgs false
namespace Go.Proofs.YteghhlfmcjmnoaaGreatDoor
open Go.RowKit
theorem out_cast {st : Rd.St} (h : 1 ≤ st.around) : (st.around : Int) - 1 = ((st.around - 1 : Nat) : Int) := by omega
theorem okOut_parts {st : Rd.St} (h : st.okOut = true) : st.ok ∧ 1 ≤ st.around := by
  simp only [Rd.St.okOut, Bool.and_eq_true, decide_eq_true_eq] at h
  exact ⟨Rd.St.okB_ok h.1, h.2⟩
theorem unary_ok {k : Int} {x : Rd.Tr} {st : Rd.St} {y : Option Rd.Tr × Rd.St} (h : Rd.unaryOf k (some x) st = some y) : st.ok ∧ y = (some (Rd.unT k x), st.node) := by
  simp only [Rd.unaryOf] at h
  cases ho : st.okB with
  | false => rw [ho] at h; cases h
  | true =>
    rw [ho] at h
    exact ⟨Rd.St.okB_ok ho, (Option.some.inj h).symm⟩
set_option maxHeartbeats 1000000 in
theorem signed_step (rb g cap : Nat) (ws : List Rd.Wd) (f : Nat) (IH : Hid (∀ k, k < f → Said rb g cap ws 142 4 k)) (IA : Hid (∀ k, k < f → Said rb g cap ws 170 5 k)) : Said rb g cap ws 142 4 f := by
  intro w st res st' hR hp
  obtain ⟨f0, rfl⟩ : ∃ f0, f = f0 + 1 := by
    cases f with
    | zero => cases hp
    | succ f0 => exact ⟨f0, rfl⟩
  rw [Rd.parse] at hp
  cases ho : st.okB with
  | false => rw [ho] at hp; cases hp
  | true =>
    rw [ho] at hp
    simp only [cond_true] at hp
    have ok := Rd.St.okB_ok ho
    have b1 : st.next < 1000 := ok.1
    have b2 : st.adv.around < 1000 := ok.2.1
    clear ho ok
    cases u1 : Rd.tk ws st ⟨#[45]⟩
    · rw [u1] at hp
      simp only [cond_false] at hp
      have HP := hideq hp
      clear hp
      go_enter Tryz.func142, Tryz.ntmps142
      go_wp2_with fail
      refine (take_no _ rb g cap ws st _ hR b1 u1).mono ?_
      rintro e w1 ⟨rfl, hR1, hK1⟩
      go_wp2_with fail
      refine (IA.out f0 (by omega) _ st res st' hR1 HP.out).mono ?_
      rintro e w2 ⟨v2, rfl, hE2, hR2, hK2⟩
      go_wp2_with fail
      go_ret
      exact ⟨_, rfl, hE2, hR2, hK1.trans hK2⟩
    · rw [u1] at hp
      simp only [cond_true] at hp
      obtain ⟨x, st2, hp1, hp2⟩ := next_some hp
      cases ho2 : st2.okOut with
      | false => rw [ho2] at hp2; cases hp2
      | true =>
        rw [ho2] at hp2
        simp only [cond_true] at hp2
        obtain ⟨ok2, out2⟩ := okOut_parts ho2
        have b3 : st2.around < 1000 := ok2.2.1
        have HP1 := hideq hp1
        have HP2 := hideq hp2
        clear hp hp1 hp2 ho2 ok2
        go_enter Tryz.func142, Tryz.ntmps142
        go_wp2_with fail
        refine (take_yes _ rb g cap ws st _ hR b1 u1).mono ?_
        rintro e w1 ⟨rfl, hR1, hK1⟩
        have d2 := hR1.c2
        have f2 := hR1.fz 2
        go_wp2_with fail
        refine (IH.out f0 (by omega) _ st.adv.inn x st2 (hR1.set2 (st.adv.around + 1) (by simp)) HP1.out).mono ?_
        rintro e w2 ⟨v2, rfl, hE2, hR2, hK2⟩
        have hK3 : Keep rb w w2 := (hK1.setCell 2 _).trans hK2
        clear d2 f2 hK1 hK2 hR1 hR HP1
        have d2 := hR2.c2
        have f2 := hR2.fz 2
        have hR3 := hR2.set2 (st2.around - 1) (out_cast out2)
        have hlt := hR2.lt
        cases x with
        | none =>
          rw [show v2 = Value.pointer none from hE2]
          clear hE2
          have e := HP2.out
          simp only [Rd.unaryOf, Option.some.injEq, Prod.mk.injEq] at e
          obtain ⟨rfl, rfl⟩ := e
          go_wp2_with fail
          refine (unary_nil _ _ _).mono ?_
          rintro e w5 ⟨rfl, rfl⟩
          go_wp2_with fail
          go_ret
          exact Post.nil hR3 (hK3.setCell 2 _)
        | some x =>
          obtain ⟨⟨b4, hb4⟩, hE6⟩ := hE2
          rw [hb4]
          rw [hb4] at hE6
          clear hb4
          obtain ⟨ok3, hy⟩ := unary_ok HP2.out
          simp only [Prod.mk.injEq] at hy
          obtain ⟨rfl, rfl⟩ := hy
          have hK4 : Keep rb w2 (w2.setCell ⟨rb, 2, none⟩ (.int .i64 ((st2.around : Int) - 1))) := (Keep.refl _ _).setCell 2 _
          clear HP2
          go_wp2_with fail
          refine (unary_some _ rb g cap ws st2.out _ _ hR3 ok3).mono ?_
          rintro e w5 ⟨rfl, hR5, hK6, hnew⟩
          rw [size_set] at hnew
          have hne : w2.heap.size ≠ rb := by omega
          go_wp2_with fail
          go_ret
          refine ⟨_, rfl, enc_node hne hnew (Or.inl ⟨rfl, rfl⟩) (Enc.keep (hK4.trans hK6) hE6) rfl, hR5, (hK3.setCell 2 _).trans hK6⟩
set_option maxHeartbeats 1000000 in
theorem brackets_step (rb g cap : Nat) (ws : List Rd.Wd) (f : Nat) (IH : Hid (∀ k, k < f → Said rb g cap ws 64 0 k)) : Said rb g cap ws 187 6 f := by
  intro w st res st' hR hp
  obtain ⟨f0, rfl⟩ : ∃ f0, f = f0 + 1 := by
    cases f with
    | zero => cases hp
    | succ f0 => exact ⟨f0, rfl⟩
  rw [Rd.parse] at hp
  · cases ho : st.okB with
    | false => rw [ho] at hp; cases hp
    | true =>
      rw [ho] at hp
      simp only [cond_true] at hp
      have ok := Rd.St.okB_ok ho
      have b1 : st.next < 1000 := ok.1
      have b2 : st.adv.around < 1000 := ok.2.1
      clear ho ok
      cases u1 : Rd.tk ws st ⟨#[40]⟩
      · rw [u1] at hp
        simp only [cond_false, Option.some.injEq, Prod.mk.injEq] at hp
        obtain ⟨rfl, rfl⟩ := hp
        go_enter Tryz.func187, Tryz.ntmps187
        go_wp2_with fail
        refine (take_no _ rb g cap ws st _ hR b1 u1).mono ?_
        rintro e w1 ⟨rfl, hR1, hK1⟩
        go_wp2_with fail
        go_ret
        exact Post.nil hR1 hK1
      · rw [u1] at hp
        simp only [cond_true] at hp
        obtain ⟨x, st2, hp1, hp2⟩ := next_some hp
        unfold Rd.closeOf at hp2
        cases ho2 : st2.okOut with
        | false => rw [ho2] at hp2; cases hp2
        | true =>
          rw [ho2] at hp2
          simp only [cond_true] at hp2
          obtain ⟨ok2, out2⟩ := okOut_parts ho2
          have b3 : st2.around < 1000 := ok2.2.1
          have b4 : st2.out.next < 1000 := ok2.1
          have HP1 := hideq hp1
          have HP2 := hideq hp2
          clear hp hp1 hp2 ho2 ok2
          go_enter Tryz.func187, Tryz.ntmps187
          go_wp2_with fail
          refine (take_yes _ rb g cap ws st _ hR b1 u1).mono ?_
          rintro e w1 ⟨rfl, hR1, hK1⟩
          have d2 := hR1.c2
          have f2 := hR1.fz 2
          go_wp2_with fail
          refine (IH.out f0 (by omega) _ st.adv.inn x st2 (hR1.set2 (st.adv.around + 1) (by simp)) HP1.out).mono ?_
          rintro e w2 ⟨v2, rfl, hE2, hR2, hK2⟩
          have hK3 : Keep rb w w2 := (hK1.setCell 2 _).trans hK2
          clear d2 f2 hK1 hK2 hR1 hR HP1
          have d2 := hR2.c2
          have f2 := hR2.fz 2
          have hR3 := hR2.set2 (st2.around - 1) (out_cast out2)
          have hlt := hR2.lt
          cases x with
          | none =>
            rw [show v2 = Value.pointer none from hE2]
            clear hE2
            have e := HP2.out
            simp only [Option.some.injEq, Prod.mk.injEq] at e
            obtain ⟨rfl, rfl⟩ := e
            go_wp2_with fail
            go_ret
            exact Post.nil hR3 (hK3.setCell 2 _)
          | some x =>
            obtain ⟨⟨b5, hb5⟩, hE6⟩ := hE2
            rw [hb5]
            rw [hb5] at hE6
            clear hb5
            have hK4 : Keep rb w2 (w2.setCell ⟨rb, 2, none⟩ (.int .i64 ((st2.around : Int) - 1))) := (Keep.refl _ _).setCell 2 _
            have e := HP2.out
            clear HP2
            cases u2 : Rd.tk ws st2.out ⟨#[41]⟩
            · simp only [u2, cond_false, Option.some.injEq, Prod.mk.injEq] at e
              obtain ⟨rfl, rfl⟩ := e
              go_wp2_with fail
              refine (take_no _ rb g cap ws st2.out _ hR3 b4 u2).mono ?_
              rintro e w5 ⟨rfl, hR5, hK6⟩
              go_wp2_with fail
              go_ret
              exact Post.nil hR5 ((hK3.setCell 2 _).trans hK6)
            · simp only [u2, cond_true, Option.some.injEq, Prod.mk.injEq] at e
              obtain ⟨rfl, rfl⟩ := e
              go_wp2_with fail
              refine (take_yes _ rb g cap ws st2.out _ hR3 b4 u2).mono ?_
              rintro e w5 ⟨rfl, hR5, hK6⟩
              go_wp2_with fail
              go_ret
              exact ⟨_, rfl, ⟨⟨b5, rfl⟩, Enc.keep (hK4.trans hK6) hE6⟩, hR5, (hK3.setCell 2 _).trans hK6⟩
  all_goals omega
end Go.Proofs.YteghhlfmcjmnoaaGreatDoor
set_option linter.unusedSimpArgs false
namespace Go.Proofs.YteghhlfmcjmnoaaGreatDoor
open Go.RowKit
theorem leaf_ok {t : Rd.Tr} {st st1 : Rd.St} {y : Option Rd.Tr × Rd.St} (h : (bif st.okB then some (some t, st1) else none) = some y) : st.ok ∧ y = (some t, st1) := by
  cases ho : st.okB with
  | false => rw [ho] at h; cases h
  | true =>
    rw [ho] at h
    exact ⟨Rd.St.okB_ok ho, (Option.some.inj h).symm⟩
set_option maxHeartbeats 1000000 in
theorem name_step (rb g cap : Nat) (ws : List Rd.Wd) (f : Nat) (hws : WsOk ws) (IH : Hid (Said rb g cap ws 187 6 f)) (w : World) (k : Int) (st : Rd.St) (res : Option Rd.Tr) (st' : Rd.St) (hR : Rdr w rb g cap ws st) (b1 : st.next < 1000)
    (hp : Rd.nameOf ws k st (fun s => Rd.parse ws f 6 none s) = some (res, st')) : Calls Tryz.prog 186 #[.pointer (some ⟨rb, 0, none⟩), .int .i64 k] w (Post rb g cap ws w res st') := by
  unfold Rd.nameOf at hp
  have HWS := hideq hws
  clear hws
  cases u0 : (k == 0)
  · have d1 := hR.c1
    have f1 := hR.fz 1
    have hR1 := hR.set1 (st.next + 1) (m := (st.next : Int) + 1) (by simp)
    have hK1 : Keep rb w (w.setCell ⟨rb, 1, none⟩ (.int .i64 ((st.next : Int) + 1))) := (Keep.refl _ _).setCell 1 _
    have hlt := hR1.lt
    cases u2 : (k == 2)
    · cases u3 : (k == 3)
      · cases u4 : (k == 4)
        · rw [u0, u2, u3, u4] at hp
          simp only [cond_false, Bool.or_self] at hp
          obtain ⟨x, st2, hp1, hp2⟩ := next_some hp
          have HP1 := hideq hp1
          have HP2 := hideq hp2
          clear hp hp1 hp2
          go_enter Tryz.func186, Tryz.ntmps186
          go_wp2_with fail
          refine (IH.out _ st.adv x st2 hR1 HP1.out).mono ?_
          rintro e w2 ⟨v2, rfl, hE2, hR2, hK2⟩
          have hlt2 := hR2.lt
          clear hR hR1 d1 f1
          cases x with
          | none =>
            rw [show v2 = Value.pointer none from hE2]
            clear hE2
            have e := HP2.out
            simp only [Rd.unaryOf, Option.some.injEq, Prod.mk.injEq] at e
            obtain ⟨rfl, rfl⟩ := e
            go_wp2_with fail
            refine (unary_nil _ _ _).mono ?_
            rintro e w5 ⟨rfl, rfl⟩
            go_wp2_with fail
            go_ret
            exact Post.nil hR2 (hK1.trans hK2)
          | some x =>
            obtain ⟨⟨b4, hb4⟩, hE6⟩ := hE2
            rw [hb4]
            rw [hb4] at hE6
            clear hb4
            obtain ⟨ok3, hy⟩ := unary_ok HP2.out
            simp only [Prod.mk.injEq] at hy
            obtain ⟨rfl, rfl⟩ := hy
            clear HP2
            go_wp2_with fail
            refine (unary_some _ rb g cap ws st2 _ _ hR2 ok3).mono ?_
            rintro e w5 ⟨rfl, hR5, hK6, hnew⟩
            go_wp2_with fail
            go_ret
            exact ⟨_, rfl, enc_node (by omega) hnew (Or.inl ⟨rfl, rfl⟩) (Enc.keep hK6 hE6) rfl, hR5, (hK1.trans hK2).trans hK6⟩
        · rw [u0, u2, u3, u4] at hp
          simp only [cond_true, cond_false, Bool.or_self] at hp
          have HP := hideq hp
          clear hp
          go_enter Tryz.func186, Tryz.ntmps186
          go_wp2_with fail
          refine (continued_any _ rb g cap ws st.adv hR1 HWS.out res st' HP.out).mono ?_
          rintro e w2 ⟨v2, rfl, hE2, hR2, hK2⟩
          go_wp2_with fail
          go_ret
          exact ⟨_, rfl, hE2, hR2, hK1.trans hK2⟩
      · rw [u0, u2, u3] at hp
        simp only [cond_true, cond_false, Bool.or_true] at hp
        obtain ⟨ok, hy⟩ := leaf_ok hp
        simp only [Prod.mk.injEq] at hy
        obtain ⟨rfl, rfl⟩ := hy
        clear hp
        go_enter Tryz.func186, Tryz.ntmps186
        go_wp2_with fail
        refine (leaf_any _ rb g cap ws st.adv _ (hR1.alloc _) ok).mono ?_
        rintro e w2 ⟨rfl, hR2, hK2⟩
        have hnew := block_new (b := w.heap.size) hK2 (size_set _ _ _).symm (by have := hR.lt; omega)
        go_wp2_with fail
        go_ret
        exact ⟨_, rfl, enc_node (by have := hR.lt; omega) hnew (Or.inl ⟨rfl, rfl⟩) rfl rfl, hR2, (hK1.alloc _).trans hK2⟩
    · rw [u0, u2] at hp
      simp only [cond_true, cond_false, Bool.true_or] at hp
      obtain ⟨ok, hy⟩ := leaf_ok hp
      simp only [Prod.mk.injEq] at hy
      obtain ⟨rfl, rfl⟩ := hy
      clear hp
      go_enter Tryz.func186, Tryz.ntmps186
      go_wp2_with fail
      refine (leaf_any _ rb g cap ws st.adv _ (hR1.alloc _) ok).mono ?_
      rintro e w2 ⟨rfl, hR2, hK2⟩
      have hnew := block_new (b := w.heap.size) hK2 (size_set _ _ _).symm (by have := hR.lt; omega)
      go_wp2_with fail
      go_ret
      exact ⟨_, rfl, enc_node (by have := hR.lt; omega) hnew (Or.inl ⟨rfl, rfl⟩) rfl rfl, hR2, (hK1.alloc _).trans hK2⟩
  · rw [u0] at hp
    simp only [cond_true, Option.some.injEq, Prod.mk.injEq] at hp
    obtain ⟨rfl, rfl⟩ := hp
    go_enter Tryz.func186, Tryz.ntmps186
    go_wp2_with fail
    go_ret
    exact Post.nil hR (Keep.refl _ _)
set_option maxHeartbeats 1000000 in
theorem atom_step (rb g cap : Nat) (ws : List Rd.Wd) (f : Nat) (hws : WsOk ws) (IH : Hid (∀ k, k < f → Said rb g cap ws 187 6 k)) : Said rb g cap ws 170 5 f := by
  intro w st res st' hR hp
  obtain ⟨f0, rfl⟩ : ∃ f0, f = f0 + 1 := by
    cases f with
    | zero => cases hp
    | succ f0 => exact ⟨f0, rfl⟩
  rw [Rd.parse] at hp
  cases ho : st.okB with
  | false => rw [ho] at hp; cases hp
  | true =>
    rw [ho] at hp
    simp only [cond_true] at hp
    have ok := Rd.St.okB_ok ho
    have b1 : st.next < 1000 := ok.1
    clear ho ok
    have hs9 := hws st.next
    have HWS := hideq hws
    clear hws
    have WX : Hid (∀ W, Rdr W rb g cap ws st → Calls Tryz.prog 65 #[.pointer (some ⟨rb, 0, none⟩)] W fun e w' => e = .returned (.agg #[.int .i64 (Rd.wordAt ws st.next).kind, .string (Rd.wordAt ws st.next).text, .int .i64 (Rd.wordAt ws st.next).pos]) ∧ Below W.heap.size W w') := fun W hW => word_any W rb g cap ws st hW
    generalize Rd.wordAt ws st.next = x at *
    have HS9 := hideq hs9
    clear hs9
    cases u1 : (x.kind == 1)
    · cases u2 : (x.kind == 2)
      · rw [u1, u2] at hp
        simp only [cond_false] at hp
        have HP := hideq hp
        clear hp
        go_enter Tryz.func170, Tryz.ntmps170
        go_wp2_with fail
        refine (WX.out _ hR).mono ?_
        rintro e w1 ⟨rfl, hb1⟩
        have hR1 := hR.below hb1
        go_wp2_with fail
        refine (IH.out f0 (by omega) _ st res st' (hR1.alloc _) HP.out).mono ?_
        rintro e w2 ⟨v2, rfl, hE2, hR2, hK2⟩
        go_wp2_with fail
        go_ret
        exact ⟨_, rfl, hE2, hR2, ((Keep.of_below hb1).alloc _).trans hK2⟩
      · rw [u1, u2] at hp
        simp only [cond_true, cond_false] at hp
        have HP := hideq hp
        clear hp
        have IB := hideq (IH.out f0 (by omega))
        go_enter Tryz.func170, Tryz.ntmps170
        go_wp2_with fail
        refine (WX.out _ hR).mono ?_
        rintro e w1 ⟨rfl, hb1⟩
        have hR1 := hR.below hb1
        go_wp2_with (go_at_call 185; refine (named_any _ _).mono ?_; rintro e w' ⟨rfl, rfl⟩)
        refine (name_step rb g cap ws f0 HWS.out IB _ _ st res st' (hR1.alloc _) b1 HP.out).mono ?_
        rintro e w2 ⟨v2, rfl, hE2, hR2, hK2⟩
        go_wp2_with fail
        go_ret
        exact ⟨_, rfl, hE2, hR2, ((Keep.of_below hb1).alloc _).trans hK2⟩
    · have hs : x.text.size ≤ 9 := HS9.out (by simpa using u1)
      rw [u1] at hp
      simp only [cond_true] at hp
      obtain ⟨ok, hy⟩ := leaf_ok hp
      simp only [Prod.mk.injEq] at hy
      obtain ⟨rfl, rfl⟩ := hy
      clear hp
      go_enter Tryz.func170, Tryz.ntmps170
      go_wp2_with fail
      refine (WX.out _ hR).mono ?_
      rintro e w1 ⟨rfl, hb1⟩
      have hR1 := hR.below hb1
      have d1 := hR1.c1
      have f1 := hR1.fz 1
      have l1 := hR1.lt
      go_wp2_with (go_at_call 183; refine (value_any _ _ _ _ hs).mono ?_; rintro e w' ⟨rfl, rfl⟩)
      refine (leaf_any _ rb g cap ws st.adv _ ((((hR1.set1 (st.next + 1) (by simp)).alloc _).alloc _).alloc _) ok).mono ?_
      rintro e w2 ⟨rfl, hR2, hK2⟩
      have hnew := block_new (b := w1.heap.size + 1 + 1) hK2 (by simp [size_set]) (by omega)
      go_wp2_with fail
      go_ret
      exact ⟨_, rfl, enc_node (by omega) hnew (Or.inl ⟨rfl, rfl⟩) rfl rfl, hR2, (((((Keep.of_below hb1).setCell 1 _).alloc _).alloc _).alloc _).trans hK2⟩
end Go.Proofs.YteghhlfmcjmnoaaGreatDoor
set_option linter.unusedSimpArgs false
namespace Go.Proofs.YteghhlfmcjmnoaaGreatDoor
open Go.RowKit
theorem all_said (rb g cap : Nat) (ws : List Rd.Wd) (hws : WsOk ws) : ∀ n f, f ≤ n →
    Said rb g cap ws 64 0 f ∧ Said rb g cap ws 98 2 f ∧ Said rb g cap ws 142 4 f ∧ Said rb g cap ws 170 5 f ∧ Said rb g cap ws 187 6 f := by
  intro n
  induction n with
  | zero =>
    intro f hf
    obtain rfl : f = 0 := by omega
    refine ⟨?_, ?_, ?_, ?_, ?_⟩ <;> (intro w st res st' _ hp; cases hp)
  | succ n ih =>
    intro f hf
    have lt : ∀ k, k < f → k ≤ n := fun k hk => by omega
    exact ⟨sum_step rb g cap ws f (fun k hk => (ih k (lt k hk)).2.1), product_step rb g cap ws f (fun k hk => (ih k (lt k hk)).2.2.1),
      signed_step rb g cap ws f (fun k hk => (ih k (lt k hk)).2.2.1) (fun k hk => (ih k (lt k hk)).2.2.2.1),
      atom_step rb g cap ws f hws (fun k hk => (ih k (lt k hk)).2.2.2.2), brackets_step rb g cap ws f (fun k hk => (ih k (lt k hk)).1)⟩
theorem numEnd_nine (s : ByteArray) (a : Nat) : ∀ f e, e ≤ a + 9 → Rd.numEnd s a f e ≤ a + 9 := by
  intro f
  induction f with
  | zero => intro e h; exact h
  | succ f ih =>
    intro e h
    unfold Rd.numEnd
    cases hc : decide (e < s.size ∧ e - a < 9) && Rd.isDig (Rd.byteAt s e) with
    | false => exact h
    | true =>
      simp only [Bool.and_eq_true, decide_eq_true_eq] at hc
      exact ih (e + 1) (by omega)
theorem split_nine (s : ByteArray) : ∀ f a, ∀ x ∈ Rd.split s f a, x.kind = 1 → x.text.size ≤ 9 := by
  intro f
  induction f with
  | zero => intro a x hx; simp [Rd.split] at hx
  | succ f ih =>
    intro a x hx
    rw [Rd.split] at hx
    cases h1 : decide (a < s.size) with
    | false =>
      rw [h1] at hx
      simp at hx
      subst hx
      intro h
      simp at h
    | true =>
      rw [h1] at hx
      simp only [decide_eq_true_eq] at h1
      cases h2 : (Rd.byteAt s a != 32) with
      | false =>
        rw [h2] at hx
        exact ih _ x hx
      | true =>
        rw [h2] at hx
        simp only [cond_true, List.mem_cons] at hx
        rcases hx with rfl | hx
        · intro hk
          simp only at hk
          have hd : Rd.isDig (Rd.byteAt s a) = true := by
            cases hd : Rd.isDig (Rd.byteAt s a) with
            | true => rfl
            | false =>
              rw [Rd.kindOf, hd] at hk
              cases hl : Rd.isLet (Rd.byteAt s a) <;> simp [hl] at hk
          have he : Rd.wordEnd s a ≤ a + 9 := by
            rw [Rd.wordEnd, hd]
            exact numEnd_nine s a 9 (a + 1) (by omega)
          show (s.extract a (Rd.wordEnd s a)).size ≤ 9
          rw [ByteArray.size_extract]
          omega
        · exact ih _ x hx
theorem split_ok (s : ByteArray) (f a : Nat) : WsOk (Rd.split s f a) := by
  intro n hk
  unfold Rd.wordAt at *
  rcases Nat.lt_or_ge n (Rd.split s f a).length with h | h
  · rw [show (Rd.split s f a).getD n ⟨0, ⟨#[]⟩, 0⟩ = (Rd.split s f a)[n] by simp [List.getD, h]] at *
    exact split_nine s f a _ (List.getElem_mem h) hk
  · rw [show (Rd.split s f a).getD n ⟨0, ⟨#[]⟩, 0⟩ = ⟨0, ⟨#[]⟩, 0⟩ by simp [List.getD, h]] at hk
    simp at hk
theorem split_pos (s : ByteArray) : ∀ f a, s.size < f + a → a ≤ s.size → 0 < (Rd.split s f a).length := by
  intro f
  induction f with
  | zero => intro a h h'; omega
  | succ f ih =>
    intro a h h'
    rw [Rd.split]
    cases h1 : decide (a < s.size) with
    | false => simp
    | true =>
      simp only [decide_eq_true_eq] at h1
      cases h2 : (Rd.byteAt s a != 32) with
      | true => simp
      | false =>
        have e1 := Rd.wordEnd_lo s a
        have e2 := Rd.wordEnd_hi s a h1
        exact ih _ (by omega) e2
set_option maxHeartbeats 400000 in
theorem newReader_any (s : ByteArray) (w : World) (hs : s.size ≤ 120) :
    Calls Tryz.prog 63 #[.string s] w fun e w' => ∃ rb g cap, e = .returned (.pointer (some ⟨rb, 0, none⟩)) ∧ w.heap.size ≤ rb ∧ Rdr w' rb g cap (Rd.split s (s.size + 1) 0) ⟨0, 0, 0, 0⟩ ∧ Below w.heap.size w w' := by
  have hpos := split_pos s (s.size + 1) 0 (by omega) (by omega)
  have SP := hideq (split_any s w hs)
  generalize Rd.split s (s.size + 1) 0 = ws at *
  go_enter Tryz.func63, Tryz.ntmps63
  go_wp2_with fail
  refine (SP.out).mono ?_
  rintro e w1 ⟨v, rfl, hown, hb⟩
  obtain ⟨g, cap, cur, hv, hg, hh, hrow⟩ : ∃ g cap cur, v = .slice (some ⟨g, 0, none⟩) ws.length cap ∧ w.heap.size ≤ g ∧ w1.heap[g]? = some (.cells cur 127 (0, 0)) ∧ cur.toList.take (ws.length * 3) = Rd.wcells ws := by
    rcases hown.2 with ⟨_, h⟩ | ⟨g, cap, cur, h1, h2, h3, _, _, _, h4⟩
    · omega
    · exact ⟨g, cap, cur, h1, h2, h3, h4⟩
  rw [hv]
  have hsz := hb.size
  have hglt := heap_lt hh
  have HH := hideq hh
  have HR := hideq hrow
  clear hv hown hh hrow
  go_wp2_with fail
  go_ret
  refine ⟨w1.heap.size, g, cap, rfl, hsz, ⟨cells_new _ _, ⟨cur, ?_, HR.out⟩, by omega⟩, hb.alloc hsz _⟩
  rw [Below.heap_alloc _ _ _ hglt]
  exact HH.out
theorem below_keep {B rb : Nat} {w w1 w2 : World} (h : Below B w w1) (hk : Keep rb w1 w2) (hB : B ≤ rb) (hs : B ≤ w1.heap.size) : Below B w w2 :=
  h.trans ⟨hk.os, hk.tape, hk.output, hk.size, fun k hk' => hk.block k (by omega) (by omega)⟩
def ReadPost (w : World) (x : Option Rd.Tr × Int × Int) (e : Ending) (w' : World) : Prop :=
  ∃ rb v, e = .returned (.tuple #[v, .int .i64 x.2.1, .int .i64 x.2.2]) ∧ w.heap.size ≤ rb ∧ EncO rb w' x.1 v ∧ Below w.heap.size w w'
set_option maxHeartbeats 1000000 in
theorem treeRead_any (f : Nat) (s : ByteArray) (w : World) (x : Option Rd.Tr × Int × Int) (hm : s.size ≤ maxLen) (hp : Rd.read f s = some x) : Calls Tryz.prog 36 #[.string s] w (ReadPost w x) := by
  unfold maxLen at hm
  unfold Rd.read at hp
  by_cases hs : 120 < s.size
  · rw [decide_eq_true hs] at hp
    simp only [cond_true, Option.some.injEq] at hp
    subst hp
    go_enter Tryz.func36, Tryz.ntmps36
    go_wp2_with fail
    go_ret3
    exact ⟨_, _, rfl, Nat.le_refl _, rfl, Below.refl _ _⟩
  · rw [decide_eq_false hs] at hp
    simp only [cond_false] at hp
    have hws := split_ok s (s.size + 1) 0
    generalize hP : Rd.parse (Rd.split s (s.size + 1) 0) f 0 none ⟨0, 0, 0, 0⟩ = R at hp
    have NR := hideq (newReader_any s w (by omega))
    generalize Rd.split s (s.size + 1) 0 = ws at *
    have HWS := hideq hws
    have HPP := hideq hP
    clear hws hP
    cases R with
    | none => cases hp
    | some y =>
      obtain ⟨t, st⟩ := y
      have WX : Hid (∀ W rb g cap, Rdr W rb g cap ws st → Calls Tryz.prog 65 #[.pointer (some ⟨rb, 0, none⟩)] W fun e w' => e = .returned (.agg #[.int .i64 (Rd.wordAt ws st.next).kind, .string (Rd.wordAt ws st.next).text, .int .i64 (Rd.wordAt ws st.next).pos]) ∧ Below W.heap.size W w') := fun W rb g cap hW => word_any W rb g cap ws st hW
      cases t with
      | none =>
        simp only [Option.some.injEq] at hp
        generalize Rd.wordAt ws st.next = x at *
        subst hp
        go_enter Tryz.func36, Tryz.ntmps36
        go_wp2_with fail
        refine (NR.out).mono ?_
        rintro e w1 ⟨rb, g, cap, rfl, hrb, hR1, hb1⟩
        go_wp2_with fail
        refine ((all_said rb g cap ws HWS.out f f (Nat.le_refl _)).1 _ _ _ st hR1 HPP.out).mono ?_
        rintro e w2 ⟨v2, rfl, hE2, hR2, hK2⟩
        have hb2 := below_keep hb1 hK2 hrb hb1.size
        have hsz2 := hb2.size
        rw [show v2 = Value.pointer none from hE2]
        go_wp2_with fail
        refine (WX.out _ _ _ _ hR2).mono ?_
        rintro e w3 ⟨rfl, hb3⟩
        have hsz3 := hb3.size
        go_wp2_with fail
        go_quiet (fail)
        go_wp2_with fail
        go_ret3
        exact ⟨rb, _, rfl, hrb, rfl, below_drewN ((hb2.trans (hb3.mono hsz2)).alloc (by omega) _) _⟩
      | some t =>
        simp only at hp
        generalize Rd.wordAt ws st.next = x at *
        cases u1 : (x.kind == 0)
        · have u1' : (x.kind != 0) = true := by simp [bne, u1]
          rw [u1] at hp
          simp only [cond_false, Option.some.injEq] at hp
          subst hp
          go_enter Tryz.func36, Tryz.ntmps36
          go_wp2_with fail
          refine (NR.out).mono ?_
          rintro e w1 ⟨rb, g, cap, rfl, hrb, hR1, hb1⟩
          go_wp2_with fail
          refine ((all_said rb g cap ws HWS.out f f (Nat.le_refl _)).1 _ _ _ st hR1 HPP.out).mono ?_
          rintro e w2 ⟨v2, rfl, hE2, hR2, hK2⟩
          have hb2 := below_keep hb1 hK2 hrb hb1.size
          have hsz2 := hb2.size
          obtain ⟨⟨b5, hb5⟩, hE6⟩ := hE2
          rw [hb5]
          rw [hb5] at hE6
          clear hb5
          go_wp2_with fail
          refine (WX.out _ _ _ _ hR2).mono ?_
          rintro e w3 ⟨rfl, hb3⟩
          have hsz3 := hb3.size
          have hb4 : Below w.heap.size w w3 := hb2.trans (hb3.mono hsz2)
          have hR3 := hR2.below hb3
          have d3 := hR3.c3
          have d4 := hR3.c4
          have l3 := hR3.lt
          clear hb1 hR1 hK2 hb2
          go_wp2_with fail
          go_quiet (fail)
          go_wp2_with fail
          go_ret3
          exact ⟨rb, _, rfl, hrb, rfl, below_drewN (hb4.alloc (by omega) _) _⟩
        · have u1' : (x.kind != 0) = false := by simp [bne, u1]
          rw [u1] at hp
          simp only [cond_true] at hp
          by_cases u2 : (12 : Int) < st.deepest
          · rw [decide_eq_true (show 12 < st.deepest by omega)] at hp
            simp only [Bool.true_or, cond_true, Option.some.injEq] at hp
            subst hp
            go_enter Tryz.func36, Tryz.ntmps36
            go_wp2_with fail
            refine (NR.out).mono ?_
            rintro e w1 ⟨rb, g, cap, rfl, hrb, hR1, hb1⟩
            go_wp2_with fail
            refine ((all_said rb g cap ws HWS.out f f (Nat.le_refl _)).1 _ _ _ st hR1 HPP.out).mono ?_
            rintro e w2 ⟨v2, rfl, hE2, hR2, hK2⟩
            have hb2 := below_keep hb1 hK2 hrb hb1.size
            have hsz2 := hb2.size
            obtain ⟨⟨b5, hb5⟩, hE6⟩ := hE2
            rw [hb5]
            rw [hb5] at hE6
            clear hb5
            go_wp2_with fail
            refine (WX.out _ _ _ _ hR2).mono ?_
            rintro e w3 ⟨rfl, hb3⟩
            have hsz3 := hb3.size
            have hb4 : Below w.heap.size w w3 := hb2.trans (hb3.mono hsz2)
            have hR3 := hR2.below hb3
            have d3 := hR3.c3
            have d4 := hR3.c4
            have l3 := hR3.lt
            clear hb1 hR1 hK2 hb2
            go_wp2_with fail
            go_ret3
            exact ⟨rb, _, rfl, hrb, rfl, hb4.alloc (by omega) _⟩
          · rw [decide_eq_false (show ¬ 12 < st.deepest by omega)] at hp
            by_cases u3 : (40 : Int) < st.nodes
            · rw [decide_eq_true (show 40 < st.nodes by omega)] at hp
              simp only [Bool.or_true, cond_true, Option.some.injEq] at hp
              subst hp
              go_enter Tryz.func36, Tryz.ntmps36
              go_wp2_with fail
              refine (NR.out).mono ?_
              rintro e w1 ⟨rb, g, cap, rfl, hrb, hR1, hb1⟩
              go_wp2_with fail
              refine ((all_said rb g cap ws HWS.out f f (Nat.le_refl _)).1 _ _ _ st hR1 HPP.out).mono ?_
              rintro e w2 ⟨v2, rfl, hE2, hR2, hK2⟩
              have hb2 := below_keep hb1 hK2 hrb hb1.size
              have hsz2 := hb2.size
              obtain ⟨⟨b5, hb5⟩, hE6⟩ := hE2
              rw [hb5]
              rw [hb5] at hE6
              clear hb5
              go_wp2_with fail
              refine (WX.out _ _ _ _ hR2).mono ?_
              rintro e w3 ⟨rfl, hb3⟩
              have hsz3 := hb3.size
              have hb4 : Below w.heap.size w w3 := hb2.trans (hb3.mono hsz2)
              have hR3 := hR2.below hb3
              have d3 := hR3.c3
              have d4 := hR3.c4
              have l3 := hR3.lt
              clear hb1 hR1 hK2 hb2
              go_wp2_with fail
              go_ret3
              exact ⟨rb, _, rfl, hrb, rfl, hb4.alloc (by omega) _⟩
            · rw [decide_eq_false (show ¬ 40 < st.nodes by omega)] at hp
              simp only [Bool.or_false, cond_false, Option.some.injEq] at hp
              subst hp
              go_enter Tryz.func36, Tryz.ntmps36
              go_wp2_with fail
              refine (NR.out).mono ?_
              rintro e w1 ⟨rb, g, cap, rfl, hrb, hR1, hb1⟩
              go_wp2_with fail
              refine ((all_said rb g cap ws HWS.out f f (Nat.le_refl _)).1 _ _ _ st hR1 HPP.out).mono ?_
              rintro e w2 ⟨v2, rfl, hE2, hR2, hK2⟩
              have hb2 := below_keep hb1 hK2 hrb hb1.size
              have hsz2 := hb2.size
              obtain ⟨⟨b5, hb5⟩, hE6⟩ := hE2
              rw [hb5]
              rw [hb5] at hE6
              clear hb5
              go_wp2_with fail
              refine (WX.out _ _ _ _ hR2).mono ?_
              rintro e w3 ⟨rfl, hb3⟩
              have hsz3 := hb3.size
              have hb4 : Below w.heap.size w w3 := hb2.trans (hb3.mono hsz2)
              have hR3 := hR2.below hb3
              have d3 := hR3.c3
              have d4 := hR3.c4
              have l3 := hR3.lt
              clear hb1 hR1 hK2 hb2
              go_wp2_with fail
              go_ret3
              exact ⟨rb, _, rfl, hrb, ⟨⟨b5, rfl⟩, Enc.keep ((Keep.of_below hb3).alloc _) hE6⟩, hb4.alloc (by omega) _⟩
end Go.Proofs.YteghhlfmcjmnoaaGreatDoor
