/-
  THE WALK of the reader's sum, given that of product.
-/
import Derived.Test.YtmepffenlgedbaaDoorCont
import Derived.Deep.LoopGhost
set_option linter.unusedSimpArgs false
namespace Go.Proofs.YtmepffenlgedbaaDoor
open Go.RowKit

set_option maxHeartbeats 2000000 in
theorem sum_step (rb g cap : Nat) (ws : List Rd.Wd) (f : Nat) (IH : Hid (∀ k, k < f → Said rb g cap ws 45 2 k)) : Said rb g cap ws 36 0 f := by
  intro w st res st' hR hp
  obtain ⟨f0, rfl⟩ : ∃ f0, f = f0 + 1 := by
    cases f with
    | zero => cases hp
    | succ f0 => exact ⟨f0, rfl⟩
  obtain ⟨l0, st1, hp1, hp2⟩ := next_some hp
  have HP1 : Hid (Rd.parse ws f0 2 none st = some (l0, st1)) := hp1
  have HP2 : Hid (Rd.parse ws f0 1 l0 st1 = some (res, st')) := hp2
  clear hp hp1 hp2
  go_enter Tryd.func36, Tryd.ntmps36
  go_wp2_with fail
  refine (IH.out f0 (by omega) _ st l0 st1 hR HP1.out).mono ?_
  rintro e w1 ⟨v1, rfl, hE1, hR1, hK1⟩
  clear hR HP1
  go_wp2_with fail
  go_loopg [3] f0 (fun k l wr => ∃ lt st2, k ≤ f0 ∧ EncO rb wr lt l ∧ Rdr wr rb g cap ws st2 ∧ Keep rb w wr ∧ Rd.parse ws k 1 lt st2 = some (res, st'))
  case atStart => exact ⟨l0, st1, Nat.le_refl _, hE1, hR1, hK1, HP2.out⟩
  case round =>
    obtain ⟨lt, st2, hk, hE, hR, hK, hp⟩ := hrel
    clear HP2 hE1 hR1 hK1
    obtain ⟨k, hgk⟩ : ∃ k, gk = k + 1 := by
      cases gk with
      | zero => cases hp
      | succ k => exact ⟨k, rfl⟩
    rw [hgk] at hp
    have HGK : Hid (gk = k + 1) := hgk
    have hkf : k < f0 + 1 := by omega
    clear hgk
    cases lt with
    | none =>
      simp only [Rd.parse, Option.some.injEq, Prod.mk.injEq] at hp
      obtain ⟨rfl, rfl⟩ := hp
      rw [show _ = Value.pointer none from hE]
      clear hE
      go_wp2_with fail
      go_ret
      exact Post.nil hR hK
    | some t =>
      obtain ⟨⟨b, hb⟩, hE2⟩ := hE
      rw [hb]
      rw [hb] at hE2
      clear hb
      rw [Rd.parse] at hp
      cases ho : st2.okB with
      | false => rw [ho] at hp; cases hp
      | true =>
        rw [ho] at hp
        simp only [cond_true] at hp
        have ok := Rd.St.okB_ok ho
        have b2 : st2.next < 1000 := ok.1
        clear ho ok
        cases u1 : Rd.tk ws st2 ⟨#[43]⟩
        · cases u2 : Rd.tk ws st2 ⟨#[45]⟩
          · rw [u1, u2] at hp
            simp only [cond_false, Option.some.injEq, Prod.mk.injEq] at hp
            obtain ⟨rfl, rfl⟩ := hp
            go_wp2_with fail
            refine (take_no _ rb g cap ws st2 _ hR b2 u1).mono ?_
            rintro e w2 ⟨rfl, hR2, hK2⟩
            go_wp2_with fail
            refine (take_no _ rb g cap ws st2 _ hR2 b2 u2).mono ?_
            rintro e w3 ⟨rfl, hR3, hK3⟩
            go_wp2_with fail
            go_ret
            exact ⟨_, rfl, ⟨⟨b, rfl⟩, Enc.keep (hK2.trans hK3) hE2⟩, hR3, (hK.trans hK2).trans hK3⟩
          · rw [u1, u2] at hp
            simp only [cond_true, cond_false] at hp
            obtain ⟨r, st3, hp1, hp2⟩ := next_some hp
            have HP1 : Hid (Rd.parse ws k 2 none st2.adv = some (r, st3)) := hp1
            have HP2 := hideq hp2
            clear hp hp1 hp2
            go_wp2_with fail
            refine (take_no _ rb g cap ws st2 _ hR b2 u1).mono ?_
            rintro e w2 ⟨rfl, hR2, hK2⟩
            go_wp2_with fail
            refine (take_yes _ rb g cap ws st2 _ hR2 b2 u2).mono ?_
            rintro e w3 ⟨rfl, hR3, hK3⟩
            go_wp2_with fail
            refine (IH.out k hkf _ st2.adv r st3 hR3 HP1.out).mono ?_
            rintro e w4 ⟨v4, rfl, hE4, hR4, hK4⟩
            have hE5 : Enc rb w4 t (.pointer (some ⟨b, 0, none⟩)) := Enc.keep ((hK2.trans hK3).trans hK4) hE2
            have hK5 : Keep rb w w4 := ((hK.trans hK2).trans hK3).trans hK4
            clear hK hK2 hK3 hK4 hR hR2 hR3 hE2 HP1
            cases r with
            | none =>
              rw [show v4 = Value.pointer none from hE4]
              clear hE4
              go_wp2_with fail
              refine (operation_nil _ _ _ _).mono ?_
              rintro e w5 ⟨rfl, rfl⟩
              go_wp2_with fail
              go_roundg k
              case measure => have := HGK.out; omega
              case rel => exact ⟨none, st3, by omega, rfl, hR4, hK5, HP2.out⟩
            | some r =>
              obtain ⟨⟨b4, hb4⟩, hE6⟩ := hE4
              rw [hb4]
              rw [hb4] at hE6
              clear hb4
              obtain ⟨ok3, hp3⟩ := oper_some HP2.out
              clear HP2
              have HP3 := hideq hp3
              have hlt := hR4.lt
              clear hp3
              go_wp2_with fail
              refine (operation_some _ rb g cap ws st3 _ _ _ hR4 ok3).mono ?_
              rintro e w5 ⟨rfl, hR5, hK6, hnew⟩
              clear hR4
              go_wp2_with fail
              go_roundg k
              case measure => have := HGK.out; omega
              case rel => exact ⟨some (Rd.opT 7 t r), st3.node, by omega, enc_node (by omega) hnew (Or.inl ⟨rfl, rfl⟩) (Enc.keep hK6 hE5) (Enc.keep hK6 hE6), hR5, hK5.trans hK6, HP3.out⟩
        · rw [u1] at hp
          simp only [cond_true, cond_false] at hp
          obtain ⟨r, st3, hp1, hp2⟩ := next_some hp
          have HP1 : Hid (Rd.parse ws k 2 none st2.adv = some (r, st3)) := hp1
          have HP2 := hideq hp2
          clear hp hp1 hp2
          go_wp2_with fail
          refine (take_yes _ rb g cap ws st2 _ hR b2 u1).mono ?_
          rintro e w3 ⟨rfl, hR3, hK3⟩
          go_wp2_with fail
          refine (IH.out k hkf _ st2.adv r st3 hR3 HP1.out).mono ?_
          rintro e w4 ⟨v4, rfl, hE4, hR4, hK4⟩
          have hE5 : Enc rb w4 t (.pointer (some ⟨b, 0, none⟩)) := Enc.keep (hK3.trans hK4) hE2
          have hK5 : Keep rb w w4 := (hK.trans hK3).trans hK4
          clear hK hK3 hK4 hR hR3 hE2 HP1
          cases r with
          | none =>
            rw [show v4 = Value.pointer none from hE4]
            clear hE4
            go_wp2_with fail
            refine (operation_nil _ _ _ _).mono ?_
            rintro e w5 ⟨rfl, rfl⟩
            go_wp2_with fail
            go_roundg k
            case measure => have := HGK.out; omega
            case rel => exact ⟨none, st3, by omega, rfl, hR4, hK5, HP2.out⟩
          | some r =>
            obtain ⟨⟨b4, hb4⟩, hE6⟩ := hE4
            rw [hb4]
            rw [hb4] at hE6
            clear hb4
            obtain ⟨ok3, hp3⟩ := oper_some HP2.out
            clear HP2
            have HP3 := hideq hp3
            have hlt := hR4.lt
            clear hp3
            go_wp2_with fail
            refine (operation_some _ rb g cap ws st3 _ _ _ hR4 ok3).mono ?_
            rintro e w5 ⟨rfl, hR5, hK6, hnew⟩
            clear hR4
            go_wp2_with fail
            go_roundg k
            case measure => have := HGK.out; omega
            case rel => exact ⟨some (Rd.opT 6 t r), st3.node, by omega, enc_node (by omega) hnew (Or.inl ⟨rfl, rfl⟩) (Enc.keep hK6 hE5) (Enc.keep hK6 hE6), hR5, hK5.trans hK6, HP3.out⟩

end Go.Proofs.YtmepffenlgedbaaDoor
