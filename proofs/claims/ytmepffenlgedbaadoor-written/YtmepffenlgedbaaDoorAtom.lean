/-
  THE WALKS of the reader's name and atom, given that of brackets.
-/
import Derived.Test.YtmepffenlgedbaaDoorSigned
set_option linter.unusedSimpArgs false
namespace Go.Proofs.YtmepffenlgedbaaDoor
open Go.RowKit

theorem leaf_ok {t : Rd.Tr} {st st1 : Rd.St} {y : Option Rd.Tr × Rd.St} (h : (bif st.okB then some (some t, st1) else none) = some y) : st.ok ∧ y = (some t, st1) := by
  cases ho : st.okB with
  | false => rw [ho] at h; cases h
  | true =>
    rw [ho] at h
    exact ⟨Rd.St.okB_ok ho, (Option.some.inj h).symm⟩

set_option maxHeartbeats 1000000 in
theorem name_step (rb g cap : Nat) (ws : List Rd.Wd) (f : Nat) (hws : WsOk ws) (IH : Hid (Said rb g cap ws 66 6 f)) (w : World) (k : Int) (st : Rd.St) (res : Option Rd.Tr) (st' : Rd.St) (hR : Rdr w rb g cap ws st) (b1 : st.next < 1000)
    (hp : Rd.nameOf ws k st (fun s => Rd.parse ws f 6 none s) = some (res, st')) : Calls Tryd.prog 65 #[.pointer (some ⟨rb, 0, none⟩), .int .i64 k] w (Post rb g cap ws w res st') := by
  unfold Rd.nameOf at hp
  have HWS := hideq hws
  clear hws
  cases u0 : (k == 0)
  · have d1 := hR.c1
    have f1 := hR.fz 1
    have hR1 := hR.set1 (st.next + 1) (m := (st.next : Int) + 1) (by simp)
    have hK1 : Keep rb w (w.setCell ⟨rb, 1, none⟩ (.int .i64 ((st.next : Int) + 1))) := (Keep.refl _ _).setCell 1 _
    have hlt := hR1.lt
    cases u2 : (k == 2)
    · cases u3 : (k == 3)
      · cases u4 : (k == 4)
        · rw [u0, u2, u3, u4] at hp
          simp only [cond_false, Bool.or_self] at hp
          obtain ⟨x, st2, hp1, hp2⟩ := next_some hp
          have HP1 := hideq hp1
          have HP2 := hideq hp2
          clear hp hp1 hp2
          go_enter Tryd.func65, Tryd.ntmps65
          go_wp2_with fail
          refine (IH.out _ st.adv x st2 hR1 HP1.out).mono ?_
          rintro e w2 ⟨v2, rfl, hE2, hR2, hK2⟩
          have hlt2 := hR2.lt
          clear hR hR1 d1 f1
          cases x with
          | none =>
            rw [show v2 = Value.pointer none from hE2]
            clear hE2
            have e := HP2.out
            simp only [Rd.unaryOf, Option.some.injEq, Prod.mk.injEq] at e
            obtain ⟨rfl, rfl⟩ := e
            go_wp2_with fail
            refine (unary_nil _ _ _).mono ?_
            rintro e w5 ⟨rfl, rfl⟩
            go_wp2_with fail
            go_ret
            exact Post.nil hR2 (hK1.trans hK2)
          | some x =>
            obtain ⟨⟨b4, hb4⟩, hE6⟩ := hE2
            rw [hb4]
            rw [hb4] at hE6
            clear hb4
            obtain ⟨ok3, hy⟩ := unary_ok HP2.out
            simp only [Prod.mk.injEq] at hy
            obtain ⟨rfl, rfl⟩ := hy
            clear HP2
            go_wp2_with fail
            refine (unary_some _ rb g cap ws st2 _ _ hR2 ok3).mono ?_
            rintro e w5 ⟨rfl, hR5, hK6, hnew⟩
            go_wp2_with fail
            go_ret
            exact ⟨_, rfl, enc_node (by omega) hnew (Or.inl ⟨rfl, rfl⟩) (Enc.keep hK6 hE6) rfl, hR5, (hK1.trans hK2).trans hK6⟩
        · rw [u0, u2, u3, u4] at hp
          simp only [cond_true, cond_false, Bool.or_self] at hp
          have HP := hideq hp
          clear hp
          go_enter Tryd.func65, Tryd.ntmps65
          go_wp2_with fail
          refine (continued_any _ rb g cap ws st.adv hR1 HWS.out res st' HP.out).mono ?_
          rintro e w2 ⟨v2, rfl, hE2, hR2, hK2⟩
          go_wp2_with fail
          go_ret
          exact ⟨_, rfl, hE2, hR2, hK1.trans hK2⟩
      · rw [u0, u2, u3] at hp
        simp only [cond_true, cond_false, Bool.or_true] at hp
        obtain ⟨ok, hy⟩ := leaf_ok hp
        simp only [Prod.mk.injEq] at hy
        obtain ⟨rfl, rfl⟩ := hy
        clear hp
        go_enter Tryd.func65, Tryd.ntmps65
        go_wp2_with fail
        refine (leaf_any _ rb g cap ws st.adv _ (hR1.alloc _) ok).mono ?_
        rintro e w2 ⟨rfl, hR2, hK2⟩
        have hnew := block_new (b := w.heap.size) hK2 (size_set _ _ _).symm (by have := hR.lt; omega)
        go_wp2_with fail
        go_ret
        exact ⟨_, rfl, enc_node (by have := hR.lt; omega) hnew (Or.inl ⟨rfl, rfl⟩) rfl rfl, hR2, (hK1.alloc _).trans hK2⟩
    · rw [u0, u2] at hp
      simp only [cond_true, cond_false, Bool.true_or] at hp
      obtain ⟨ok, hy⟩ := leaf_ok hp
      simp only [Prod.mk.injEq] at hy
      obtain ⟨rfl, rfl⟩ := hy
      clear hp
      go_enter Tryd.func65, Tryd.ntmps65
      go_wp2_with fail
      refine (leaf_any _ rb g cap ws st.adv _ (hR1.alloc _) ok).mono ?_
      rintro e w2 ⟨rfl, hR2, hK2⟩
      have hnew := block_new (b := w.heap.size) hK2 (size_set _ _ _).symm (by have := hR.lt; omega)
      go_wp2_with fail
      go_ret
      exact ⟨_, rfl, enc_node (by have := hR.lt; omega) hnew (Or.inl ⟨rfl, rfl⟩) rfl rfl, hR2, (hK1.alloc _).trans hK2⟩
  · rw [u0] at hp
    simp only [cond_true, Option.some.injEq, Prod.mk.injEq] at hp
    obtain ⟨rfl, rfl⟩ := hp
    go_enter Tryd.func65, Tryd.ntmps65
    go_wp2_with fail
    go_ret
    exact Post.nil hR (Keep.refl _ _)

set_option maxHeartbeats 1000000 in
theorem atom_step (rb g cap : Nat) (ws : List Rd.Wd) (f : Nat) (hws : WsOk ws) (IH : Hid (∀ k, k < f → Said rb g cap ws 66 6 k)) : Said rb g cap ws 56 5 f := by
  intro w st res st' hR hp
  obtain ⟨f0, rfl⟩ : ∃ f0, f = f0 + 1 := by
    cases f with
    | zero => cases hp
    | succ f0 => exact ⟨f0, rfl⟩
  rw [Rd.parse] at hp
  cases ho : st.okB with
  | false => rw [ho] at hp; cases hp
  | true =>
    rw [ho] at hp
    simp only [cond_true] at hp
    have ok := Rd.St.okB_ok ho
    have b1 : st.next < 1000 := ok.1
    clear ho ok
    have hs9 := hws st.next
    have HWS := hideq hws
    clear hws
    have WX : Hid (∀ W, Rdr W rb g cap ws st → Calls Tryd.prog 37 #[.pointer (some ⟨rb, 0, none⟩)] W fun e w' => e = .returned (.agg #[.int .i64 (Rd.wordAt ws st.next).kind, .string (Rd.wordAt ws st.next).text, .int .i64 (Rd.wordAt ws st.next).pos]) ∧ Below W.heap.size W w') := fun W hW => word_any W rb g cap ws st hW
    generalize Rd.wordAt ws st.next = x at *
    have HS9 := hideq hs9
    clear hs9
    cases u1 : (x.kind == 1)
    · cases u2 : (x.kind == 2)
      · rw [u1, u2] at hp
        simp only [cond_false] at hp
        have HP := hideq hp
        clear hp
        go_enter Tryd.func56, Tryd.ntmps56
        go_wp2_with fail
        refine (WX.out _ hR).mono ?_
        rintro e w1 ⟨rfl, hb1⟩
        have hR1 := hR.below hb1
        go_wp2_with fail
        refine (IH.out f0 (by omega) _ st res st' (hR1.alloc _) HP.out).mono ?_
        rintro e w2 ⟨v2, rfl, hE2, hR2, hK2⟩
        go_wp2_with fail
        go_ret
        exact ⟨_, rfl, hE2, hR2, ((Keep.of_below hb1).alloc _).trans hK2⟩
      · rw [u1, u2] at hp
        simp only [cond_true, cond_false] at hp
        have HP := hideq hp
        clear hp
        have IB := hideq (IH.out f0 (by omega))
        go_enter Tryd.func56, Tryd.ntmps56
        go_wp2_with fail
        refine (WX.out _ hR).mono ?_
        rintro e w1 ⟨rfl, hb1⟩
        have hR1 := hR.below hb1
        go_wp2_with (go_at_call 64; refine (named_any _ _).mono ?_; rintro e w' ⟨rfl, rfl⟩)
        refine (name_step rb g cap ws f0 HWS.out IB _ _ st res st' (hR1.alloc _) b1 HP.out).mono ?_
        rintro e w2 ⟨v2, rfl, hE2, hR2, hK2⟩
        go_wp2_with fail
        go_ret
        exact ⟨_, rfl, hE2, hR2, ((Keep.of_below hb1).alloc _).trans hK2⟩
    · have hs : x.text.size ≤ 9 := HS9.out (by simpa using u1)
      rw [u1] at hp
      simp only [cond_true] at hp
      obtain ⟨ok, hy⟩ := leaf_ok hp
      simp only [Prod.mk.injEq] at hy
      obtain ⟨rfl, rfl⟩ := hy
      clear hp
      go_enter Tryd.func56, Tryd.ntmps56
      go_wp2_with fail
      refine (WX.out _ hR).mono ?_
      rintro e w1 ⟨rfl, hb1⟩
      have hR1 := hR.below hb1
      have d1 := hR1.c1
      have f1 := hR1.fz 1
      have l1 := hR1.lt
      go_wp2_with (go_at_call 62; refine (value_any _ _ _ _ hs).mono ?_; rintro e w' ⟨rfl, rfl⟩)
      refine (leaf_any _ rb g cap ws st.adv _ ((((hR1.set1 (st.next + 1) (by simp)).alloc _).alloc _).alloc _) ok).mono ?_
      rintro e w2 ⟨rfl, hR2, hK2⟩
      have hnew := block_new (b := w1.heap.size + 1 + 1) hK2 (by simp [size_set]) (by omega)
      go_wp2_with fail
      go_ret
      exact ⟨_, rfl, enc_node (by omega) hnew (Or.inl ⟨rfl, rfl⟩) rfl rfl, hR2, (((((Keep.of_below hb1).setCell 1 _).alloc _).alloc _).alloc _).trans hK2⟩

end Go.Proofs.YtmepffenlgedbaaDoor
