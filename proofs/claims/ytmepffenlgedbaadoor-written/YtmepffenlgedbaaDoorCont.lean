/-
  THE WALK of the reader's continued.
-/
import Derived.Test.YtmepffenlgedbaaDoorTree
set_option linter.unusedSimpArgs false
namespace Go.Proofs.YtmepffenlgedbaaDoor
open Go.RowKit

theorem infoInt : (Tryd.prog.info? 3).map (fun i => (i.zero, i.size, i.bytes)) = some (some (.int .i64 0), 1, 8) := by kernel_rfl

set_option maxHeartbeats 1000000 in
theorem cont_no1 (w : World) (rb g cap : Nat) (ws : List Rd.Wd) (st : Rd.St) (h : Rdr w rb g cap ws st) (hn : st.next < 1000) (t1 : Rd.tk ws st ⟨#[91]⟩ = false) :
    Calls Tryd.prog 72 #[.pointer (some ⟨rb, 0, none⟩)] w (Post rb g cap ws w none st) := by
  go_enter Tryd.func72, Tryd.ntmps72
  go_wp2_with fail
  refine (take_no _ rb g cap ws st _ h hn t1).mono ?_
  rintro e w1 ⟨rfl, hR1, hK1⟩
  go_wp2_with fail
  go_ret
  exact Post.nil hR1 hK1

set_option maxHeartbeats 1000000 in
theorem cont_no2 (w : World) (rb g cap : Nat) (ws : List Rd.Wd) (st : Rd.St) (h : Rdr w rb g cap ws st) (hn : st.next < 900) (t1 : Rd.tk ws st ⟨#[91]⟩ = true) (t2 : ((Rd.wordAt ws st.adv.next).kind != 1) = true) :
    Calls Tryd.prog 72 #[.pointer (some ⟨rb, 0, none⟩)] w (Post rb g cap ws w none st.adv) := by
  go_enter Tryd.func72, Tryd.ntmps72
  go_wp2_with fail
  refine (take_yes _ rb g cap ws st _ h (by omega) t1).mono ?_
  rintro e w1 ⟨rfl, hR1, hK1⟩
  go_wp2_with fail
  refine (word_any _ rb g cap ws _ hR1).mono ?_
  unfold wagg
  rintro e w2 ⟨rfl, hb2⟩
  go_wp2_with fail
  go_ret
  exact Post.nil ((hR1.below hb2).alloc _) ((hK1.trans (Keep.of_below hb2)).alloc _)

set_option maxHeartbeats 1000000 in
theorem cont_no3 (w : World) (rb g cap : Nat) (ws : List Rd.Wd) (st : Rd.St) (h : Rdr w rb g cap ws st) (hn : st.next < 900) (t1 : Rd.tk ws st ⟨#[91]⟩ = true) (t2 : ((Rd.wordAt ws st.adv.next).kind != 1) = false) (t3 : Rd.tk ws st.adv.adv ⟨#[59]⟩ = false) :
    Calls Tryd.prog 72 #[.pointer (some ⟨rb, 0, none⟩)] w (Post rb g cap ws w none st.adv.adv) := by
  have b1 : st.adv.next < 901 := by show st.next + 1 < 901; omega
  go_enter Tryd.func72, Tryd.ntmps72
  go_wp2_with fail
  refine (take_yes _ rb g cap ws st _ h (by omega) t1).mono ?_
  rintro e w1 ⟨rfl, hR1, hK1⟩
  go_wp2_with fail
  refine (word_any _ rb g cap ws _ hR1).mono ?_
  unfold wagg
  rintro e w2 ⟨rfl, hb2⟩
  have hR2 := hR1.below hb2
  have d1 := hR2.c1
  have f1 := hR2.fz 1
  have l1 := hR2.lt
  go_wp2_with fail
  refine (take_no _ rb g cap ws st.adv.adv _ ((hR2.set1 (st.adv.next + 1) (by simp)).alloc _) (by show st.adv.next + 1 < 1000; omega) t3).mono ?_
  rintro e w3 ⟨rfl, hR3, hK3⟩
  go_wp2_with fail
  go_ret
  exact Post.nil hR3 ((((hK1.trans (Keep.of_below hb2)).setCell 1 _).alloc _).trans hK3)

theorem cells_new2 (w : World) (o o' : Obj) : ((w.alloc o).alloc o').heap[w.heap.size + 1]? = some o' := by
  have := cells_new (w.alloc o) o'
  simpa using this

/-- One round of the terms. -/
theorem terms_round {ws : List Rd.Wd} {c : Nat} {ts : List Int} {st1 st2 : Rd.St} {tv : Int} {R : Option (Option (List Int) × Rd.St)} {x : Option Rd.Tr × Rd.St} (h8 : c ≤ 8) (h : Rd.terms ws (9 - c) c ts st1 = R) (hp : Rd.cfOf R = some x) (ht : Rd.term ws st1 = (tv, st2)) :
    st1.ok ∧ st2.ok ∧ R = bif tv == 0 then some (none, st2) else bif Rd.tk ws st2 ⟨#[93]⟩ then some (some (ts ++ [tv]), st2.adv) else bif c == 8 then some (none, st2) else bif Rd.tk ws st2 ⟨#[44]⟩ then Rd.terms ws (9 - (c + 1)) (c + 1) (ts ++ [tv]) st2.adv else some (none, st2) := by
  obtain ⟨f, hf⟩ : ∃ f, 9 - c = f + 1 := ⟨8 - c, by omega⟩
  have hf' : 9 - (c + 1) = f := by omega
  rw [hf, Rd.terms, ht] at h
  rw [hf']
  cases hg : (st1.okB && st2.okB) with
  | false =>
    simp only [hg, cond_false] at h
    rw [← h] at hp
    cases hp
  | true =>
    simp only [hg, cond_true] at h
    simp only [Bool.and_eq_true] at hg
    exact ⟨Rd.St.okB_ok hg.1, Rd.St.okB_ok hg.2, h.symm⟩

/-- The loop's relation: c terms are there. -/
def contRel (rb g cap : Nat) (ws : List Rd.Wd) (w : World) (R : Option (Option (List Int) × Rd.St)) (l i : Value) (wr : World) : Prop :=
  ∃ (c : Nat) (ts : List Int) (st : Rd.St), i = .int .i64 c ∧ 1 ≤ c ∧ c ≤ 8 ∧ ts.length = c ∧ wr.ownsRow w.heap.size 3 1 l c (ts.map (Value.int .i64)) ∧ Rdr wr rb g cap ws st ∧ Keep rb w wr ∧ Rd.terms ws (9 - c) c ts st = R

theorem block_new {rb b : Nat} {w w' : World} {o : Obj} (hk : Keep rb (w.alloc o) w') (hb : b = w.heap.size) (hn : b ≠ rb) : w'.heap[b]? = some o := by
  subst hb
  rw [hk.block w.heap.size (by simp) hn]
  exact cells_new _ _

set_option maxRecDepth 100000 in
set_option maxHeartbeats 2000000 in
theorem cont_yes (w : World) (rb g cap : Nat) (ws : List Rd.Wd) (st : Rd.St) (h : Rdr w rb g cap ws st) (hn : st.next < 900) (hws : WsOk ws) (t1 : Rd.tk ws st ⟨#[91]⟩ = true) (t2 : ((Rd.wordAt ws st.adv.next).kind != 1) = false) (t3 : Rd.tk ws st.adv.adv ⟨#[59]⟩ = true)
    (res : Option Rd.Tr) (st' : Rd.St) (hp : Rd.cfOf (Rd.terms ws 8 1 [Rd.valTo (Rd.wordAt ws st.adv.next).text (Rd.wordAt ws st.adv.next).text.size] st.adv.adv.adv) = some (res, st')) :
    Calls Tryd.prog 72 #[.pointer (some ⟨rb, 0, none⟩)] w (Post rb g cap ws w res st') := by
  have b1 : st.adv.next < 901 := by show st.next + 1 < 901; omega
  have hrb := h.lt
  have hg : g < w.heap.size := by obtain ⟨cur, h1, _⟩ := h.row; exact heap_lt h1
  have hs9 : (Rd.wordAt ws st.adv.next).text.size ≤ 9 := hws _ (by simpa [bne] using t2)
  obtain ⟨i, hi, hz, hsize, hby⟩ := info_parts infoInt
  have HWS : Hid (WsOk ws) := hws
  clear hws
  have HP : Hid (Rd.cfOf (Rd.terms ws 8 1 [Rd.valTo (Rd.wordAt ws st.adv.next).text (Rd.wordAt ws st.adv.next).text.size] st.adv.adv.adv) = some (res, st')) := hp
  clear hp
  have WX : Hid (∀ W, Rdr W rb g cap ws st.adv → Calls Tryd.prog 37 #[.pointer (some ⟨rb, 0, none⟩)] W fun e w' => e = .returned (.agg #[.int .i64 (Rd.wordAt ws st.adv.next).kind, .string (Rd.wordAt ws st.adv.next).text, .int .i64 (Rd.wordAt ws st.adv.next).pos]) ∧ Below W.heap.size W w') := fun W hW => word_any W rb g cap ws st.adv hW
  generalize Rd.wordAt ws st.adv.next = x at *
  generalize hR0 : Rd.terms ws 8 1 [Rd.valTo x.text x.text.size] st.adv.adv.adv = R at *
  have HR0 : Hid (Rd.terms ws 8 1 [Rd.valTo x.text x.text.size] st.adv.adv.adv = R) := hR0
  clear hR0
  go_enter Tryd.func72, Tryd.ntmps72
  go_wp2_with fail
  refine (take_yes _ rb g cap ws st _ h (by omega) t1).mono ?_
  rintro e w1 ⟨rfl, hR1, hK1⟩
  go_wp2_with fail
  refine (WX.out _ hR1).mono ?_
  rintro e w2 ⟨rfl, hb2⟩
  have hR2 := hR1.below hb2
  have d1 := hR2.c1
  have f1 := hR2.fz 1
  have l1 := hR2.lt
  go_wp2_with fail
  refine (take_yes _ rb g cap ws st.adv.adv _ ((hR2.set1 (st.adv.next + 1) (by simp)).alloc _) (by show st.adv.next + 1 < 1000; omega) t3).mono ?_
  rintro e w3 ⟨rfl, hR3, hK3⟩
  have hx := block_new (b := w2.heap.size) hK3 (size_set _ _ _).symm (by omega)
  have x0 : w3.cell? ⟨w2.heap.size, 0, none⟩ = some (.int .i64 x.kind) := cell_of_block hx rfl
  have x1 : w3.cell? ⟨w2.heap.size, 1, none⟩ = some (.string x.text) := cell_of_block hx rfl
  have x2 : w3.cell? ⟨w2.heap.size, 2, none⟩ = some (.int .i64 x.pos) := cell_of_block hx rfl
  have hK4 : Keep rb w w3 := (((hK1.trans (Keep.of_below hb2)).setCell 1 _).alloc _).trans hK3
  clear hx hK3 hR2 d1 f1 l1 hb2 hR1 hK1 WX
  go_wp2_with (go_at_call 62; refine (value_any _ _ _ _ hs9).mono ?_; rintro e w' ⟨rfl, rfl⟩)
  have hsz3 := hK4.size
  go_loopw [4, 5] (fun l i wr => contRel rb g cap ws w R l i wr) (fun _ i _ => 9 - (intOf i).toNat)
  case atStart =>
    refine ⟨1, [Rd.valTo x.text x.text.size], st.adv.adv.adv, rfl, Nat.le_refl _, by omega, rfl, ?_, (hR3.alloc _).alloc _, (hK4.alloc _).alloc _, HR0.out⟩
    refine ⟨rfl, Or.inr ⟨w3.heap.size + 1, 1, #[.int .i64 (Rd.valTo x.text x.text.size)], rfl, by omega, ?_, Nat.le_refl _, by decide, rfl, rfl⟩⟩
    exact cells_new2 _ _ _
  case round =>
    obtain ⟨c, ts, st1, rfl, c1, c8, hts, hown, hR, hK, hR'⟩ := hrel
    generalize hT : Rd.term ws st1 = T
    obtain ⟨tv, st2⟩ := T
    obtain ⟨o1, o2, hRR⟩ := terms_round c8 hR' HP.out hT
    have TM : Hid (Calls Tryd.prog 75 #[.pointer (some ⟨rb, 0, none⟩)] wr fun e w' => e = .returned (.int .i64 tv) ∧ Rdr w' rb g cap ws st2 ∧ Keep rb wr w') := by
      have := term_any wr rb g cap ws st1 hR o1.1 HWS.out
      rw [hT] at this
      exact this
    have HRR : Hid (R = bif tv == 0 then some (none, st2) else bif Rd.tk ws st2 ⟨#[93]⟩ then some (some (ts ++ [tv]), st2.adv) else bif c == 8 then some (none, st2) else bif Rd.tk ws st2 ⟨#[44]⟩ then Rd.terms ws (9 - (c + 1)) (c + 1) (ts ++ [tv]) st2.adv else some (none, st2)) := hRR
    have HTS : Hid (ts.length = c) := hts
    have b2 : st2.next < 1000 := o2.1
    have hsz := hK.size
    clear hR' hts hRR hT o1 HWS HR0 x0 x1 x2 hR3 hK4 h
    cases u1 : (tv == 0)
    · cases u2 : Rd.tk ws st2 ⟨#[93]⟩
      · cases u3 : ((c : Int) == 8)
        · have u3' : (c == 8) = false := by simp at u3; simp; omega
          cases u4 : Rd.tk ws st2 ⟨#[44]⟩
          · go_wp2_with fail
            refine (TM.out).mono ?_
            rintro e w5 ⟨rfl, hR5, hK5⟩
            have hsz5 := hK5.size
            go_wp2_with (at_builtin; refine wpList_append_own _ rfl _ _ 60 rfl w.heap.size 3 i (.int .i64 0) 1 8 Tryd.underlying60 hi hz hsize hby rfl (by decide) _ _ _ rfl ((own_keep hown hK5 hrb).alloc _) ⟨w5.heap.size, 0, none⟩ 1 1 [.int .i64 tv] rfl rfl (cell_one_new _ _ _) (fun u hu => by simp at hu; subst hu; rfl) (by unfold maxLen; omega) (by omega) (by simp; omega) ?_; intro v' w6 hown6 hgrow6 hnil6)
            have hR6 := rdr_own hR5 (own_keep hown hK5 hrb) hrb hg _ hgrow6
            have hK6 := keep_own (own_keep hown hK5 hrb) (hK.trans hK5) (Nat.le_refl _) _ hgrow6
            clear hnil6 hgrow6 hR5 hK5 hown hR hK
            refine (take_no _ rb g cap ws st2 _ hR6 b2 u2).mono ?_
            rintro e w7 ⟨rfl, hR7, hK7⟩
            go_wp2_with fail
            refine (take_no _ rb g cap ws st2 _ hR7 b2 u4).mono ?_
            rintro e w8 ⟨rfl, hR8, hK8⟩
            go_wp2_with fail
            go_ret
            have e := HP.out
            rw [HRR.out, u1, u2, u3', u4] at e
            simp only [cond_true, cond_false, Rd.cfOf, Option.some.injEq, Prod.mk.injEq] at e
            obtain ⟨rfl, rfl⟩ := e
            exact Post.nil hR8 ((hK6.trans hK7).trans hK8)
          · go_wp2_with fail
            refine (TM.out).mono ?_
            rintro e w5 ⟨rfl, hR5, hK5⟩
            have hsz5 := hK5.size
            go_wp2_with (at_builtin; refine wpList_append_own _ rfl _ _ 60 rfl w.heap.size 3 i (.int .i64 0) 1 8 Tryd.underlying60 hi hz hsize hby rfl (by decide) _ _ _ rfl ((own_keep hown hK5 hrb).alloc _) ⟨w5.heap.size, 0, none⟩ 1 1 [.int .i64 tv] rfl rfl (cell_one_new _ _ _) (fun u hu => by simp at hu; subst hu; rfl) (by unfold maxLen; omega) (by omega) (by simp; omega) ?_; intro v' w6 hown6 hgrow6 hnil6)
            have hR6 := rdr_own hR5 (own_keep hown hK5 hrb) hrb hg _ hgrow6
            have hK6 := keep_own (own_keep hown hK5 hrb) (hK.trans hK5) (Nat.le_refl _) _ hgrow6
            clear hnil6 hgrow6 hR5 hK5 hown hR hK
            refine (take_no _ rb g cap ws st2 _ hR6 b2 u2).mono ?_
            rintro e w7 ⟨rfl, hR7, hK7⟩
            go_wp2_with fail
            refine (take_yes _ rb g cap ws st2 _ hR7 b2 u4).mono ?_
            rintro e w8 ⟨rfl, hR8, hK8⟩
            go_wp2_with fail
            go_roundw
            case rel =>
              refine ⟨c + 1, ts ++ [tv], st2.adv, by go_num, by omega, by have := u3'; simp at this; omega, by simp [HTS.out], ?_, hR8, (hK6.trans hK7).trans hK8, ?_⟩
              · have := own_keep (own_keep hown6 hK7 hrb) hK8 hrb
                simpa using this
              · have e := HRR.out
                rw [u1, u2, u3', u4] at e
                exact e.symm
            case measure => simp [intOf]; omega
        · have u3' : (c == 8) = true := by simp at u3; simp; omega
          go_wp2_with fail
          refine (TM.out).mono ?_
          rintro e w5 ⟨rfl, hR5, hK5⟩
          have hsz5 := hK5.size
          go_wp2_with (at_builtin; refine wpList_append_own _ rfl _ _ 60 rfl w.heap.size 3 i (.int .i64 0) 1 8 Tryd.underlying60 hi hz hsize hby rfl (by decide) _ _ _ rfl ((own_keep hown hK5 hrb).alloc _) ⟨w5.heap.size, 0, none⟩ 1 1 [.int .i64 tv] rfl rfl (cell_one_new _ _ _) (fun u hu => by simp at hu; subst hu; rfl) (by unfold maxLen; omega) (by omega) (by simp; omega) ?_; intro v' w6 hown6 hgrow6 hnil6)
          have hR6 := rdr_own hR5 (own_keep hown hK5 hrb) hrb hg _ hgrow6
          have hK6 := keep_own (own_keep hown hK5 hrb) (hK.trans hK5) (Nat.le_refl _) _ hgrow6
          clear hnil6 hgrow6 hR5 hK5 hown hR hK
          refine (take_no _ rb g cap ws st2 _ hR6 b2 u2).mono ?_
          rintro e w7 ⟨rfl, hR7, hK7⟩
          go_wp2_with fail
          go_ret
          have e := HP.out
          rw [HRR.out, u1, u2, u3'] at e
          simp only [cond_true, cond_false, Rd.cfOf, Option.some.injEq, Prod.mk.injEq] at e
          obtain ⟨rfl, rfl⟩ := e
          exact Post.nil hR7 (hK6.trans hK7)
      · go_wp2_with fail
        refine (TM.out).mono ?_
        rintro e w5 ⟨rfl, hR5, hK5⟩
        have hsz5 := hK5.size
        go_wp2_with (at_builtin; refine wpList_append_own _ rfl _ _ 60 rfl w.heap.size 3 i (.int .i64 0) 1 8 Tryd.underlying60 hi hz hsize hby rfl (by decide) _ _ _ rfl ((own_keep hown hK5 hrb).alloc _) ⟨w5.heap.size, 0, none⟩ 1 1 [.int .i64 tv] rfl rfl (cell_one_new _ _ _) (fun u hu => by simp at hu; subst hu; rfl) (by unfold maxLen; omega) (by omega) (by simp; omega) ?_; intro v' w6 hown6 hgrow6 hnil6)
        have hR6 := rdr_own hR5 (own_keep hown hK5 hrb) hrb hg _ hgrow6
        have hK6 := keep_own (own_keep hown hK5 hrb) (hK.trans hK5) (Nat.le_refl _) _ hgrow6
        clear hnil6 hgrow6 hR5 hK5 hown hR hK
        refine (take_yes _ rb g cap ws st2 _ hR6 b2 u2).mono ?_
        rintro e w7 ⟨rfl, hR7, hK7⟩
        have hown7 := own_keep hown6 hK7 hrb
        obtain ⟨g6, cap6, hv6⟩ : ∃ g6 cap6, v' = .slice (some ⟨g6, 0, none⟩) (c + 1) cap6 := by
          rcases hown7.2 with ⟨_, hh⟩ | ⟨g6, cap6, cur, hv, _⟩
          · omega
          · exact ⟨g6, cap6, hv⟩
        have HV : Hid (v' = .slice (some ⟨g6, 0, none⟩) (c + 1) cap6) := hv6
        rw [hv6]
        clear hv6
        have e := HP.out
        rw [HRR.out, u1, u2] at e
        simp only [cond_true, cond_false, Rd.cfOf] at e
        have o3 : st2.adv.okB = true := by
          cases ho : st2.adv.okB with
          | true => rfl
          | false => rw [ho] at e; cases e
        have HE : Hid ((bif st2.adv.okB then some (some (Rd.leafT 4 0 (ts ++ [tv])), st2.adv.leaf) else none) = some (res, st')) := e
        have HO : Hid (st2.adv.okB = true) := o3
        clear e o3
        go_wp2_with fail
        refine (leaf_any _ rb g cap ws st2.adv _ (hR7.alloc _) (Rd.St.okB_ok HO.out)).mono ?_
        rintro e w8 ⟨rfl, hR8, hK8⟩
        go_wp2_with fail
        go_ret
        have e := HE.out
        rw [HO.out] at e
        simp only [cond_true, Option.some.injEq, Prod.mk.injEq] at e
        obtain ⟨rfl, rfl⟩ := e
        have hne : w7.heap.size ≠ rb := by have := hR7.lt; omega
        refine ⟨_, rfl, ?_, hR8, ((hK6.trans hK7).alloc _).trans hK8⟩
        refine enc_node (ts := ts ++ [tv]) (l := .nil) (r := .nil) hne (block_new hK8 rfl hne) ?_ rfl rfl
        rw [← HV.out]
        refine terms_own (B := w.heap.size) (n := c + 1) ?_ hrb (by simp [HTS.out]) (by omega)
        have := own_keep (hown7.alloc _) hK8 hrb
        simpa using this
    · go_wp2_with fail
      refine (TM.out).mono ?_
      rintro e w5 ⟨rfl, hR5, hK5⟩
      go_wp2_with fail
      go_ret
      have e := HP.out
      rw [HRR.out, u1] at e
      simp only [cond_true, Rd.cfOf, Option.some.injEq, Prod.mk.injEq] at e
      obtain ⟨rfl, rfl⟩ := e
      exact Post.nil hR5 (hK.trans hK5)
/-- What stands behind the word cf. -/
theorem continued_any (w : World) (rb g cap : Nat) (ws : List Rd.Wd) (st : Rd.St) (h : Rdr w rb g cap ws st) (hws : WsOk ws) (res : Option Rd.Tr) (st' : Rd.St) (hp : Rd.continued ws st = some (res, st')) :
    Calls Tryd.prog 72 #[.pointer (some ⟨rb, 0, none⟩)] w (Post rb g cap ws w res st') := by
  unfold Rd.continued at hp
  cases ho : (decide (st.next < 900) && st.okB) with
  | false => rw [ho] at hp; cases hp
  | true =>
    rw [ho] at hp
    simp only [Bool.and_eq_true, decide_eq_true_eq] at ho
    have hn := ho.1
    cases t1 : Rd.tk ws st ⟨#[91]⟩ with
    | false =>
      rw [t1] at hp
      simp only [cond_true, cond_false, Option.some.injEq, Prod.mk.injEq] at hp
      obtain ⟨rfl, rfl⟩ := hp
      exact cont_no1 w rb g cap ws st h (by omega) t1
    | true =>
      cases t2 : ((Rd.wordAt ws st.adv.next).kind == 1) with
      | false =>
        rw [t1, t2] at hp
        simp only [cond_true, cond_false, Option.some.injEq, Prod.mk.injEq] at hp
        obtain ⟨rfl, rfl⟩ := hp
        exact cont_no2 w rb g cap ws st h hn t1 (by simp [bne, t2])
      | true =>
        cases t3 : Rd.tk ws st.adv.adv ⟨#[59]⟩ with
        | false =>
          rw [t1, t2, t3] at hp
          simp only [cond_true, cond_false, Option.some.injEq, Prod.mk.injEq] at hp
          obtain ⟨rfl, rfl⟩ := hp
          exact cont_no3 w rb g cap ws st h hn t1 (by simp [bne, t2]) t3
        | true =>
          rw [t1, t2, t3] at hp
          exact cont_yes w rb g cap ws st h hn hws t1 (by simp [bne, t2]) t3 res st' hp

/-- The contract of the method fn, which reads the part of that tag, with so much fuel. -/
def Said (rb g cap : Nat) (ws : List Rd.Wd) (fn : FuncId) (tag f : Nat) : Prop :=
  ∀ (w : World) (st : Rd.St) (res : Option Rd.Tr) (st' : Rd.St), Rdr w rb g cap ws st → Rd.parse ws f tag none st = some (res, st') → Calls Tryd.prog fn #[.pointer (some ⟨rb, 0, none⟩)] w (Post rb g cap ws w res st')

theorem next_some {a : Rd.Ans} {F : Option Rd.Tr → Rd.St → Rd.Ans} {y : Option Rd.Tr × Rd.St} (h : Rd.Ans.next a F = some y) : ∃ l st, a = some (l, st) ∧ F l st = some y := by
  cases a with
  | none => cases h
  | some x => exact ⟨x.1, x.2, rfl, h⟩

theorem hideq {p : Prop} (h : p) : Hid p := h

theorem oper_some {k : Int} {l r : Rd.Tr} {st : Rd.St} {F : Option Rd.Tr → Rd.St → Rd.Ans} {y : Option Rd.Tr × Rd.St} (h : Rd.Ans.next (Rd.operOf k l (some r) st) F = some y) : st.ok ∧ F (some (Rd.opT k l r)) st.node = some y := by
  simp only [Rd.operOf] at h
  cases ho : st.okB with
  | false => rw [ho] at h; cases h
  | true =>
    rw [ho] at h
    exact ⟨Rd.St.okB_ok ho, h⟩

end Go.Proofs.YtmepffenlgedbaaDoor
