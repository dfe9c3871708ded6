import Derived.Test.YteghhlfmcjmnoaaGreatDoorCDe18
import Derived.Lib.ItoaNum
set_option linter.unusedSimpArgs false
set_option linter.unusedVariables false
set_option maxRecDepth 100000
set_option maxHeartbeats 2000000
namespace Go.Proofs.YteghhlfmcjmnoaaGreatDoor
open Go.RowKit
theorem out_cast {st:Rd.St} (h:1≤st.around):(st.around:Int) - 1=((st.around - 1:Nat):Int):=by omega
theorem okOut_parts {st:Rd.St} (h:st.okOut=true):st.ok∧1≤st.around:=by
 simp only [Rd.St.okOut,Bool.and_eq_true,decide_eq_true_eq] at h
 exact ⟨Rd.St.okB_ok h.1,h.2⟩
theorem unary_ok {k:Int} {x:Rd.Tr} {st:Rd.St} {y:Option Rd.Tr×Rd.St} (h:Rd.unaryOf k (some x) st=some y):st.ok∧y=(some (Rd.unT k x),st.node):=by
 simp only [Rd.unaryOf] at h
 cases ho:st.okB with
 | false=>rw [ho] at h;cases h
 | true=>
  rw [ho] at h
  exact ⟨Rd.St.okB_ok ho,(Option.some.inj h).symm⟩
theorem signed_step (rb g cap:Nat) (ws:List Rd.Wd) (f:Nat) (IH:Hid (∀ k,k < f→Said rb g cap ws 142 4 k)) (IA:Hid (∀ k,k < f→Said rb g cap ws 170 5 k)):Said rb g cap ws 142 4 f:=by
 intro w st res st' hR hp
 obtain ⟨f0,rfl⟩:∃ f0,f=f0+1:=by
  cases f with
  | zero=>cases hp
  | succ f0=>exact ⟨f0,rfl⟩
 rw [Rd.parse] at hp
 cases ho:st.okB with
 | false=>rw [ho] at hp;cases hp
 | true=>
  rw [ho] at hp
  simp only [cond_true] at hp
  have ok:=Rd.St.okB_ok ho
  have b1:st.next < 1000:=ok.1
  have b2:st.adv.around < 1000:=ok.2.1
  clear ho ok
  cases u1:Rd.tk ws st ⟨#[45]⟩
  ·rw [u1] at hp
   simp only [cond_false] at hp
   have HP:=hideq hp
   clear hp
   go_enter Tryz.func142,Tryz.ntmps142
   go_wp2_with fail
   refine (take_no _ rb g cap ws st _ hR b1 u1).mono ?_
   rintro e w1 ⟨rfl,hR1,hK1⟩
   go_wp2_with fail
   refine (IA.out f0 (by omega) _ st res st' hR1 HP.out).mono ?_
   rintro e w2 ⟨v2,rfl,hE2,hR2,hK2⟩
   go_wp2_with fail
   go_ret
   exact ⟨_,rfl,hE2,hR2,hK1.trans hK2⟩
  ·rw [u1] at hp
   simp only [cond_true] at hp
   obtain ⟨x,st2,hp1,hp2⟩:=next_some hp
   cases ho2:st2.okOut with
   | false=>rw [ho2] at hp2;cases hp2
   | true=>
    rw [ho2] at hp2
    simp only [cond_true] at hp2
    obtain ⟨ok2,out2⟩:=okOut_parts ho2
    have b3:st2.around < 1000:=ok2.2.1
    have HP1:=hideq hp1
    have HP2:=hideq hp2
    clear hp hp1 hp2 ho2 ok2
    go_enter Tryz.func142,Tryz.ntmps142
    go_wp2_with fail
    refine (take_yes _ rb g cap ws st _ hR b1 u1).mono ?_
    rintro e w1 ⟨rfl,hR1,hK1⟩
    have d2:=hR1.c2
    have f2:=hR1.fz 2
    go_wp2_with fail
    refine (IH.out f0 (by omega) _ st.adv.inn x st2 (hR1.set2 (st.adv.around+1) (by simp)) HP1.out).mono ?_
    rintro e w2 ⟨v2,rfl,hE2,hR2,hK2⟩
    have hK3:Keep rb w w2:=(hK1.setCell 2 _).trans hK2
    clear d2 f2 hK1 hK2 hR1 hR HP1
    have d2:=hR2.c2
    have f2:=hR2.fz 2
    have hR3:=hR2.set2 (st2.around - 1) (out_cast out2)
    have hlt:=hR2.lt
    cases x with
    | none=>
     rw [show v2=Value.pointer none from hE2]
     clear hE2
     have e:=HP2.out
     simp only [Rd.unaryOf,Option.some.injEq,Prod.mk.injEq] at e
     obtain ⟨rfl,rfl⟩:=e
     go_wp2_with fail
     refine (unary_nil _ _ _).mono ?_
     rintro e w5 ⟨rfl,rfl⟩
     go_wp2_with fail
     go_ret
     exact Post.nil hR3 (hK3.setCell 2 _)
    | some x=>
     obtain ⟨⟨b4,hb4⟩,hE6⟩:=hE2
     rw [hb4]
     rw [hb4] at hE6
     clear hb4
     obtain ⟨ok3,hy⟩:=unary_ok HP2.out
     simp only [Prod.mk.injEq] at hy
     obtain ⟨rfl,rfl⟩:=hy
     have hK4:Keep rb w2 (w2.setCell ⟨rb,2,none⟩ (.int .i64 ((st2.around:Int) - 1))):=(Keep.refl _ _).setCell 2 _
     clear HP2
     go_wp2_with fail
     refine (unary_some _ rb g cap ws st2.out _ _ hR3 ok3).mono ?_
     rintro e w5 ⟨rfl,hR5,hK6,hnew⟩
     rw [size_set] at hnew
     have hne:w2.heap.size≠rb:=by omega
     go_wp2_with fail
     go_ret
     refine ⟨_,rfl,enc_node hne hnew (Or.inl ⟨rfl,rfl⟩) (Enc.keep (hK4.trans hK6) hE6) rfl,hR5,(hK3.setCell 2 _).trans hK6⟩
theorem brackets_step (rb g cap:Nat) (ws:List Rd.Wd) (f:Nat) (IH:Hid (∀ k,k < f→Said rb g cap ws 64 0 k)):Said rb g cap ws 187 6 f:=by
 intro w st res st' hR hp
 obtain ⟨f0,rfl⟩:∃ f0,f=f0+1:=by
  cases f with
  | zero=>cases hp
  | succ f0=>exact ⟨f0,rfl⟩
 rw [Rd.parse] at hp
 ·cases ho:st.okB with
  | false=>rw [ho] at hp;cases hp
  | true=>
   rw [ho] at hp
   simp only [cond_true] at hp
   have ok:=Rd.St.okB_ok ho
   have b1:st.next < 1000:=ok.1
   have b2:st.adv.around < 1000:=ok.2.1
   clear ho ok
   cases u1:Rd.tk ws st ⟨#[40]⟩
   ·rw [u1] at hp
    simp only [cond_false,Option.some.injEq,Prod.mk.injEq] at hp
    obtain ⟨rfl,rfl⟩:=hp
    go_enter Tryz.func187,Tryz.ntmps187
    go_wp2_with fail
    refine (take_no _ rb g cap ws st _ hR b1 u1).mono ?_
    rintro e w1 ⟨rfl,hR1,hK1⟩
    go_wp2_with fail
    go_ret
    exact Post.nil hR1 hK1
   ·rw [u1] at hp
    simp only [cond_true] at hp
    obtain ⟨x,st2,hp1,hp2⟩:=next_some hp
    unfold Rd.closeOf at hp2
    cases ho2:st2.okOut with
    | false=>rw [ho2] at hp2;cases hp2
    | true=>
     rw [ho2] at hp2
     simp only [cond_true] at hp2
     obtain ⟨ok2,out2⟩:=okOut_parts ho2
     have b3:st2.around < 1000:=ok2.2.1
     have b4:st2.out.next < 1000:=ok2.1
     have HP1:=hideq hp1
     have HP2:=hideq hp2
     clear hp hp1 hp2 ho2 ok2
     go_enter Tryz.func187,Tryz.ntmps187
     go_wp2_with fail
     refine (take_yes _ rb g cap ws st _ hR b1 u1).mono ?_
     rintro e w1 ⟨rfl,hR1,hK1⟩
     have d2:=hR1.c2
     have f2:=hR1.fz 2
     go_wp2_with fail
     refine (IH.out f0 (by omega) _ st.adv.inn x st2 (hR1.set2 (st.adv.around+1) (by simp)) HP1.out).mono ?_
     rintro e w2 ⟨v2,rfl,hE2,hR2,hK2⟩
     have hK3:Keep rb w w2:=(hK1.setCell 2 _).trans hK2
     clear d2 f2 hK1 hK2 hR1 hR HP1
     have d2:=hR2.c2
     have f2:=hR2.fz 2
     have hR3:=hR2.set2 (st2.around - 1) (out_cast out2)
     have hlt:=hR2.lt
     cases x with
     | none=>
      rw [show v2=Value.pointer none from hE2]
      clear hE2
      have e:=HP2.out
      simp only [Option.some.injEq,Prod.mk.injEq] at e
      obtain ⟨rfl,rfl⟩:=e
      go_wp2_with fail
      go_ret
      exact Post.nil hR3 (hK3.setCell 2 _)
     | some x=>
      obtain ⟨⟨b5,hb5⟩,hE6⟩:=hE2
      rw [hb5]
      rw [hb5] at hE6
      clear hb5
      have hK4:Keep rb w2 (w2.setCell ⟨rb,2,none⟩ (.int .i64 ((st2.around:Int) - 1))):=(Keep.refl _ _).setCell 2 _
      have e:=HP2.out
      clear HP2
      cases u2:Rd.tk ws st2.out ⟨#[41]⟩
      ·simp only [u2,cond_false,Option.some.injEq,Prod.mk.injEq] at e
       obtain ⟨rfl,rfl⟩:=e
       go_wp2_with fail
       refine (take_no _ rb g cap ws st2.out _ hR3 b4 u2).mono ?_
       rintro e w5 ⟨rfl,hR5,hK6⟩
       go_wp2_with fail
       go_ret
       exact Post.nil hR5 ((hK3.setCell 2 _).trans hK6)
      ·simp only [u2,cond_true,Option.some.injEq,Prod.mk.injEq] at e
       obtain ⟨rfl,rfl⟩:=e
       go_wp2_with fail
       refine (take_yes _ rb g cap ws st2.out _ hR3 b4 u2).mono ?_
       rintro e w5 ⟨rfl,hR5,hK6⟩
       go_wp2_with fail
       go_ret
       exact ⟨_,rfl,⟨⟨b5,rfl⟩,Enc.keep (hK4.trans hK6) hE6⟩,hR5,(hK3.setCell 2 _).trans hK6⟩
 all_goals omega
open Go.RowKit
theorem leaf_ok {t:Rd.Tr} {st st1:Rd.St} {y:Option Rd.Tr×Rd.St} (h:(bif st.okB then some (some t,st1) else none)=some y):st.ok∧y=(some t,st1):=by
 cases ho:st.okB with
 | false=>rw [ho] at h;cases h
 | true=>
  rw [ho] at h
  exact ⟨Rd.St.okB_ok ho,(Option.some.inj h).symm⟩
theorem name_step (rb g cap:Nat) (ws:List Rd.Wd) (f:Nat) (hws:WsOk ws) (IH:Hid (Said rb g cap ws 187 6 f)) (w:World) (k:Int) (st:Rd.St) (res:Option Rd.Tr) (st':Rd.St) (hR:Rdr w rb g cap ws st) (b1:st.next < 1000)
  (hp:Rd.nameOf ws k st (fun s=>Rd.parse ws f 6 none s)=some (res,st')):Calls Tryz.prog 186 #[.pointer (some ⟨rb,0,none⟩),.int .i64 k] w (Post rb g cap ws w res st'):=by
 unfold Rd.nameOf at hp
 have HWS:=hideq hws
 clear hws
 cases u0:(k==0)
 ·have d1:=hR.c1
  have f1:=hR.fz 1
  have hR1:=hR.set1 (st.next+1) (m:=(st.next:Int)+1) (by simp)
  have hK1:Keep rb w (w.setCell ⟨rb,1,none⟩ (.int .i64 ((st.next:Int)+1))):=(Keep.refl _ _).setCell 1 _
  have hlt:=hR1.lt
  cases u2:(k==2)
  ·cases u3:(k==3)
   ·cases u4:(k==4)
    ·rw [u0,u2,u3,u4] at hp
     simp only [cond_false,Bool.or_self] at hp
     obtain ⟨x,st2,hp1,hp2⟩:=next_some hp
     have HP1:=hideq hp1
     have HP2:=hideq hp2
     clear hp hp1 hp2
     go_enter Tryz.func186,Tryz.ntmps186
     go_wp2_with fail
     refine (IH.out _ st.adv x st2 hR1 HP1.out).mono ?_
     rintro e w2 ⟨v2,rfl,hE2,hR2,hK2⟩
     have hlt2:=hR2.lt
     clear hR hR1 d1 f1
     cases x with
     | none=>
      rw [show v2=Value.pointer none from hE2]
      clear hE2
      have e:=HP2.out
      simp only [Rd.unaryOf,Option.some.injEq,Prod.mk.injEq] at e
      obtain ⟨rfl,rfl⟩:=e
      go_wp2_with fail
      refine (unary_nil _ _ _).mono ?_
      rintro e w5 ⟨rfl,rfl⟩
      go_wp2_with fail
      go_ret
      exact Post.nil hR2 (hK1.trans hK2)
     | some x=>
      obtain ⟨⟨b4,hb4⟩,hE6⟩:=hE2
      rw [hb4]
      rw [hb4] at hE6
      clear hb4
      obtain ⟨ok3,hy⟩:=unary_ok HP2.out
      simp only [Prod.mk.injEq] at hy
      obtain ⟨rfl,rfl⟩:=hy
      clear HP2
      go_wp2_with fail
      refine (unary_some _ rb g cap ws st2 _ _ hR2 ok3).mono ?_
      rintro e w5 ⟨rfl,hR5,hK6,hnew⟩
      go_wp2_with fail
      go_ret
      exact ⟨_,rfl,enc_node (by omega) hnew (Or.inl ⟨rfl,rfl⟩) (Enc.keep hK6 hE6) rfl,hR5,(hK1.trans hK2).trans hK6⟩
    ·rw [u0,u2,u3,u4] at hp
     simp only [cond_true,cond_false,Bool.or_self] at hp
     have HP:=hideq hp
     clear hp
     go_enter Tryz.func186,Tryz.ntmps186
     go_wp2_with fail
     refine (continued_any _ rb g cap ws st.adv hR1 HWS.out res st' HP.out).mono ?_
     rintro e w2 ⟨v2,rfl,hE2,hR2,hK2⟩
     go_wp2_with fail
     go_ret
     exact ⟨_,rfl,hE2,hR2,hK1.trans hK2⟩
   ·rw [u0,u2,u3] at hp
    simp only [cond_true,cond_false,Bool.or_true] at hp
    obtain ⟨ok,hy⟩:=leaf_ok hp
    simp only [Prod.mk.injEq] at hy
    obtain ⟨rfl,rfl⟩:=hy
    clear hp
    go_enter Tryz.func186,Tryz.ntmps186
    go_wp2_with fail
    refine (leaf_any _ rb g cap ws st.adv _ (hR1.alloc _) ok).mono ?_
    rintro e w2 ⟨rfl,hR2,hK2⟩
    have hnew:=block_new (b:=w.heap.size) hK2 (size_set _ _ _).symm (by have:=hR.lt;omega)
    go_wp2_with fail
    go_ret
    exact ⟨_,rfl,enc_node (by have:=hR.lt;omega) hnew (Or.inl ⟨rfl,rfl⟩) rfl rfl,hR2,(hK1.alloc _).trans hK2⟩
  ·rw [u0,u2] at hp
   simp only [cond_true,cond_false,Bool.true_or] at hp
   obtain ⟨ok,hy⟩:=leaf_ok hp
   simp only [Prod.mk.injEq] at hy
   obtain ⟨rfl,rfl⟩:=hy
   clear hp
   go_enter Tryz.func186,Tryz.ntmps186
   go_wp2_with fail
   refine (leaf_any _ rb g cap ws st.adv _ (hR1.alloc _) ok).mono ?_
   rintro e w2 ⟨rfl,hR2,hK2⟩
   have hnew:=block_new (b:=w.heap.size) hK2 (size_set _ _ _).symm (by have:=hR.lt;omega)
   go_wp2_with fail
   go_ret
   exact ⟨_,rfl,enc_node (by have:=hR.lt;omega) hnew (Or.inl ⟨rfl,rfl⟩) rfl rfl,hR2,(hK1.alloc _).trans hK2⟩
 ·rw [u0] at hp
  simp only [cond_true,Option.some.injEq,Prod.mk.injEq] at hp
  obtain ⟨rfl,rfl⟩:=hp
  go_enter Tryz.func186,Tryz.ntmps186
  go_wp2_with fail
  go_ret
  exact Post.nil hR (Keep.refl _ _)
theorem atom_step (rb g cap:Nat) (ws:List Rd.Wd) (f:Nat) (hws:WsOk ws) (IH:Hid (∀ k,k < f→Said rb g cap ws 187 6 k)):Said rb g cap ws 170 5 f:=by
 intro w st res st' hR hp
 obtain ⟨f0,rfl⟩:∃ f0,f=f0+1:=by
  cases f with
  | zero=>cases hp
  | succ f0=>exact ⟨f0,rfl⟩
 rw [Rd.parse] at hp
 cases ho:st.okB with
 | false=>rw [ho] at hp;cases hp
 | true=>
  rw [ho] at hp
  simp only [cond_true] at hp
  have ok:=Rd.St.okB_ok ho
  have b1:st.next < 1000:=ok.1
  clear ho ok
  have hs9:=hws st.next
  have HWS:=hideq hws
  clear hws
  have WX:Hid (∀ W,Rdr W rb g cap ws st→Calls Tryz.prog 65 #[.pointer (some ⟨rb,0,none⟩)] W fun e w'=>e=.returned (.agg #[.int .i64 (Rd.wordAt ws st.next).kind,.string (Rd.wordAt ws st.next).text,.int .i64 (Rd.wordAt ws st.next).pos])∧Below W.heap.size W w'):=fun W hW=>word_any W rb g cap ws st hW
  generalize Rd.wordAt ws st.next=x at*
  have HS9:=hideq hs9
  clear hs9
  cases u1:(x.kind==1)
  ·cases u2:(x.kind==2)
   ·rw [u1,u2] at hp
    simp only [cond_false] at hp
    have HP:=hideq hp
    clear hp
    go_enter Tryz.func170,Tryz.ntmps170
    go_wp2_with fail
    refine (WX.out _ hR).mono ?_
    rintro e w1 ⟨rfl,hb1⟩
    have hR1:=hR.below hb1
    go_wp2_with fail
    refine (IH.out f0 (by omega) _ st res st' (hR1.alloc _) HP.out).mono ?_
    rintro e w2 ⟨v2,rfl,hE2,hR2,hK2⟩
    go_wp2_with fail
    go_ret
    exact ⟨_,rfl,hE2,hR2,((Keep.of_below hb1).alloc _).trans hK2⟩
   ·rw [u1,u2] at hp
    simp only [cond_true,cond_false] at hp
    have HP:=hideq hp
    clear hp
    have IB:=hideq (IH.out f0 (by omega))
    go_enter Tryz.func170,Tryz.ntmps170
    go_wp2_with fail
    refine (WX.out _ hR).mono ?_
    rintro e w1 ⟨rfl,hb1⟩
    have hR1:=hR.below hb1
    go_wp2_with (go_at_call 185;refine (named_any _ _).mono ?_;rintro e w' ⟨rfl,rfl⟩)
    refine (name_step rb g cap ws f0 HWS.out IB _ _ st res st' (hR1.alloc _) b1 HP.out).mono ?_
    rintro e w2 ⟨v2,rfl,hE2,hR2,hK2⟩
    go_wp2_with fail
    go_ret
    exact ⟨_,rfl,hE2,hR2,((Keep.of_below hb1).alloc _).trans hK2⟩
  ·have hs:x.text.size≤9:=HS9.out (by simpa using u1)
   rw [u1] at hp
   simp only [cond_true] at hp
   obtain ⟨ok,hy⟩:=leaf_ok hp
   simp only [Prod.mk.injEq] at hy
   obtain ⟨rfl,rfl⟩:=hy
   clear hp
   go_enter Tryz.func170,Tryz.ntmps170
   go_wp2_with fail
   refine (WX.out _ hR).mono ?_
   rintro e w1 ⟨rfl,hb1⟩
   have hR1:=hR.below hb1
   have d1:=hR1.c1
   have f1:=hR1.fz 1
   have l1:=hR1.lt
   go_wp2_with (go_at_call 183;refine (value_any _ _ _ _ hs).mono ?_;rintro e w' ⟨rfl,rfl⟩)
   refine (leaf_any _ rb g cap ws st.adv _ ((((hR1.set1 (st.next+1) (by simp)).alloc _).alloc _).alloc _) ok).mono ?_
   rintro e w2 ⟨rfl,hR2,hK2⟩
   have hnew:=block_new (b:=w1.heap.size+1+1) hK2 (by simp [size_set]) (by omega)
   go_wp2_with fail
   go_ret
   exact ⟨_,rfl,enc_node (by omega) hnew (Or.inl ⟨rfl,rfl⟩) rfl rfl,hR2,(((((Keep.of_below hb1).setCell 1 _).alloc _).alloc _).alloc _).trans hK2⟩
open Go.RowKit
theorem all_said (rb g cap:Nat) (ws:List Rd.Wd) (hws:WsOk ws):∀ n f,f≤n→
  Said rb g cap ws 64 0 f∧Said rb g cap ws 98 2 f∧Said rb g cap ws 142 4 f∧Said rb g cap ws 170 5 f∧Said rb g cap ws 187 6 f:=by
 intro n
 induction n with
 | zero=>
  intro f hf
  obtain rfl:f=0:=by omega
  refine ⟨?_,?_,?_,?_,?_⟩ <;> (intro w st res st' _ hp;cases hp)
 | succ n ih=>
  intro f hf
  have lt:∀ k,k < f→k≤n:=fun k hk=>by omega
  exact ⟨sum_step rb g cap ws f (fun k hk=>(ih k (lt k hk)).2.1),product_step rb g cap ws f (fun k hk=>(ih k (lt k hk)).2.2.1),
   signed_step rb g cap ws f (fun k hk=>(ih k (lt k hk)).2.2.1) (fun k hk=>(ih k (lt k hk)).2.2.2.1),
   atom_step rb g cap ws f hws (fun k hk=>(ih k (lt k hk)).2.2.2.2),brackets_step rb g cap ws f (fun k hk=>(ih k (lt k hk)).1)⟩
theorem numEnd_nine (s:ByteArray) (a:Nat):∀ f e,e≤a+9→Rd.numEnd s a f e≤a+9:=by
 intro f
 induction f with
 | zero=>intro e h;exact h
 | succ f ih=>
  intro e h
  unfold Rd.numEnd
  cases hc:decide (e < s.size∧e - a < 9)&&Rd.isDig (Rd.byteAt s e) with
  | false=>exact h
  | true=>
   simp only [Bool.and_eq_true,decide_eq_true_eq] at hc
   exact ih (e+1) (by omega)
theorem split_nine (s:ByteArray):∀ f a,∀ x∈Rd.split s f a,x.kind=1→x.text.size≤9:=by
 intro f
 induction f with
 | zero=>intro a x hx;simp [Rd.split] at hx
 | succ f ih=>
  intro a x hx
  rw [Rd.split] at hx
  cases h1:decide (a < s.size) with
  | false=>
   rw [h1] at hx
   simp at hx
   subst hx
   intro h
   simp at h
  | true=>
   rw [h1] at hx
   simp only [decide_eq_true_eq] at h1
   cases h2:(Rd.byteAt s a != 32) with
   | false=>
    rw [h2] at hx
    exact ih _ x hx
   | true=>
    rw [h2] at hx
    simp only [cond_true,List.mem_cons] at hx
    rcases hx with rfl | hx
    ·intro hk
     simp only at hk
     have hd:Rd.isDig (Rd.byteAt s a)=true:=by
      cases hd:Rd.isDig (Rd.byteAt s a) with
      | true=>rfl
      | false=>
       rw [Rd.kindOf,hd] at hk
       cases hl:Rd.isLet (Rd.byteAt s a) <;> simp [hl] at hk
     have he:Rd.wordEnd s a≤a+9:=by
      rw [Rd.wordEnd,hd]
      exact numEnd_nine s a 9 (a+1) (by omega)
     show (s.extract a (Rd.wordEnd s a)).size≤9
     rw [ByteArray.size_extract]
     omega
    ·exact ih _ x hx
theorem split_ok (s:ByteArray) (f a:Nat):WsOk (Rd.split s f a):=by
 intro n hk
 unfold Rd.wordAt at*
 rcases Nat.lt_or_ge n (Rd.split s f a).length with h | h
 ·rw [show (Rd.split s f a).getD n ⟨0,⟨#[]⟩,0⟩=(Rd.split s f a)[n] by simp [List.getD,h]] at*
  exact split_nine s f a _ (List.getElem_mem h) hk
 ·rw [show (Rd.split s f a).getD n ⟨0,⟨#[]⟩,0⟩=⟨0,⟨#[]⟩,0⟩ by simp [List.getD,h]] at hk
  simp at hk
theorem split_pos (s:ByteArray):∀ f a,s.size < f+a→a≤s.size→0 < (Rd.split s f a).length:=by
 intro f
 induction f with
 | zero=>intro a h h';omega
 | succ f ih=>
  intro a h h'
  rw [Rd.split]
  cases h1:decide (a < s.size) with
  | false=>simp
  | true=>
   simp only [decide_eq_true_eq] at h1
   cases h2:(Rd.byteAt s a != 32) with
   | true=>simp
   | false=>
    have e1:=Rd.wordEnd_lo s a
    have e2:=Rd.wordEnd_hi s a h1
    exact ih _ (by omega) e2
theorem newReader_any (s:ByteArray) (w:World) (hs:s.size≤120):
  Calls Tryz.prog 63 #[.string s] w fun e w'=>∃ rb g cap,e=.returned (.pointer (some ⟨rb,0,none⟩))∧w.heap.size≤rb∧Rdr w' rb g cap (Rd.split s (s.size+1) 0) ⟨0,0,0,0⟩∧Below w.heap.size w w':=by
 have hpos:=split_pos s (s.size+1) 0 (by omega) (by omega)
 have SP:=hideq (split_any s w hs)
 generalize Rd.split s (s.size+1) 0=ws at*
 go_enter Tryz.func63,Tryz.ntmps63
 go_wp2_with fail
 refine (SP.out).mono ?_
 rintro e w1 ⟨v,rfl,hown,hb⟩
 obtain ⟨g,cap,cur,hv,hg,hh,hrow⟩:∃ g cap cur,v=.slice (some ⟨g,0,none⟩) ws.length cap∧w.heap.size≤g∧w1.heap[g]?=some (.cells cur 127 (0,0))∧cur.toList.take (ws.length*3)=Rd.wcells ws:=by
  rcases hown.2 with ⟨_,h⟩ | ⟨g,cap,cur,h1,h2,h3,_,_,_,h4⟩
  ·omega
  ·exact ⟨g,cap,cur,h1,h2,h3,h4⟩
 rw [hv]
 have hsz:=hb.size
 have hglt:=heap_lt hh
 have HH:=hideq hh
 have HR:=hideq hrow
 clear hv hown hh hrow
 go_wp2_with fail
 go_ret
 refine ⟨w1.heap.size,g,cap,rfl,hsz,⟨cells_new _ _,⟨cur,?_,HR.out⟩,by omega⟩,hb.alloc hsz _⟩
 rw [Below.heap_alloc _ _ _ hglt]
 exact HH.out
theorem below_keep {B rb:Nat} {w w1 w2:World} (h:Below B w w1) (hk:Keep rb w1 w2) (hB:B≤rb) (hs:B≤w1.heap.size):Below B w w2:=
 h.trans ⟨hk.os,hk.tape,hk.output,hk.size,fun k hk'=>hk.block k (by omega) (by omega)⟩
def ReadPost (w:World) (x:Option Rd.Tr×Int×Int) (e:Ending) (w':World):Prop:=
 ∃ rb v,e=.returned (.tuple #[v,.int .i64 x.2.1,.int .i64 x.2.2])∧w.heap.size≤rb∧EncO rb w' x.1 v∧Below w.heap.size w w'
theorem treeRead_any (f:Nat) (s:ByteArray) (w:World) (x:Option Rd.Tr×Int×Int) (hm:s.size≤maxLen) (hp:Rd.read f s=some x):Calls Tryz.prog 36 #[.string s] w (ReadPost w x):=by
 unfold maxLen at hm
 unfold Rd.read at hp
 by_cases hs:120 < s.size
 ·rw [decide_eq_true hs] at hp
  simp only [cond_true,Option.some.injEq] at hp
  subst hp
  go_enter Tryz.func36,Tryz.ntmps36
  go_wp2_with fail
  go_ret3
  exact ⟨_,_,rfl,Nat.le_refl _,rfl,Below.refl _ _⟩
 ·rw [decide_eq_false hs] at hp
  simp only [cond_false] at hp
  have hws:=split_ok s (s.size+1) 0
  generalize hP:Rd.parse (Rd.split s (s.size+1) 0) f 0 none ⟨0,0,0,0⟩=R at hp
  have NR:=hideq (newReader_any s w (by omega))
  generalize Rd.split s (s.size+1) 0=ws at*
  have HWS:=hideq hws
  have HPP:=hideq hP
  clear hws hP
  cases R with
  | none=>cases hp
  | some y=>
   obtain ⟨t,st⟩:=y
   have WX:Hid (∀ W rb g cap,Rdr W rb g cap ws st→Calls Tryz.prog 65 #[.pointer (some ⟨rb,0,none⟩)] W fun e w'=>e=.returned (.agg #[.int .i64 (Rd.wordAt ws st.next).kind,.string (Rd.wordAt ws st.next).text,.int .i64 (Rd.wordAt ws st.next).pos])∧Below W.heap.size W w'):=fun W rb g cap hW=>word_any W rb g cap ws st hW
   cases t with
   | none=>
    simp only [Option.some.injEq] at hp
    generalize Rd.wordAt ws st.next=x at*
    subst hp
    go_enter Tryz.func36,Tryz.ntmps36
    go_wp2_with fail
    refine (NR.out).mono ?_
    rintro e w1 ⟨rb,g,cap,rfl,hrb,hR1,hb1⟩
    go_wp2_with fail
    refine ((all_said rb g cap ws HWS.out f f (Nat.le_refl _)).1 _ _ _ st hR1 HPP.out).mono ?_
    rintro e w2 ⟨v2,rfl,hE2,hR2,hK2⟩
    have hb2:=below_keep hb1 hK2 hrb hb1.size
    have hsz2:=hb2.size
    rw [show v2=Value.pointer none from hE2]
    go_wp2_with fail
    refine (WX.out _ _ _ _ hR2).mono ?_
    rintro e w3 ⟨rfl,hb3⟩
    have hsz3:=hb3.size
    go_wp2_with fail
    go_quiet (fail)
    go_wp2_with fail
    go_ret3
    exact ⟨rb,_,rfl,hrb,rfl,below_drewN ((hb2.trans (hb3.mono hsz2)).alloc (by omega) _) _⟩
   | some t=>
    simp only at hp
    generalize Rd.wordAt ws st.next=x at*
    cases u1:(x.kind==0)
    ·have u1':(x.kind != 0)=true:=by simp [bne,u1]
     rw [u1] at hp
     simp only [cond_false,Option.some.injEq] at hp
     subst hp
     go_enter Tryz.func36,Tryz.ntmps36
     go_wp2_with fail
     refine (NR.out).mono ?_
     rintro e w1 ⟨rb,g,cap,rfl,hrb,hR1,hb1⟩
     go_wp2_with fail
     refine ((all_said rb g cap ws HWS.out f f (Nat.le_refl _)).1 _ _ _ st hR1 HPP.out).mono ?_
     rintro e w2 ⟨v2,rfl,hE2,hR2,hK2⟩
     have hb2:=below_keep hb1 hK2 hrb hb1.size
     have hsz2:=hb2.size
     obtain ⟨⟨b5,hb5⟩,hE6⟩:=hE2
     rw [hb5]
     rw [hb5] at hE6
     clear hb5
     go_wp2_with fail
     refine (WX.out _ _ _ _ hR2).mono ?_
     rintro e w3 ⟨rfl,hb3⟩
     have hsz3:=hb3.size
     have hb4:Below w.heap.size w w3:=hb2.trans (hb3.mono hsz2)
     have hR3:=hR2.below hb3
     have d3:=hR3.c3
     have d4:=hR3.c4
     have l3:=hR3.lt
     clear hb1 hR1 hK2 hb2
     go_wp2_with fail
     go_quiet (fail)
     go_wp2_with fail
     go_ret3
     exact ⟨rb,_,rfl,hrb,rfl,below_drewN (hb4.alloc (by omega) _) _⟩
    ·have u1':(x.kind != 0)=false:=by simp [bne,u1]
     rw [u1] at hp
     simp only [cond_true] at hp
     by_cases u2:(12:Int) < st.deepest
     ·rw [decide_eq_true (show 12 < st.deepest by omega)] at hp
      simp only [Bool.true_or,cond_true,Option.some.injEq] at hp
      subst hp
      go_enter Tryz.func36,Tryz.ntmps36
      go_wp2_with fail
      refine (NR.out).mono ?_
      rintro e w1 ⟨rb,g,cap,rfl,hrb,hR1,hb1⟩
      go_wp2_with fail
      refine ((all_said rb g cap ws HWS.out f f (Nat.le_refl _)).1 _ _ _ st hR1 HPP.out).mono ?_
      rintro e w2 ⟨v2,rfl,hE2,hR2,hK2⟩
      have hb2:=below_keep hb1 hK2 hrb hb1.size
      have hsz2:=hb2.size
      obtain ⟨⟨b5,hb5⟩,hE6⟩:=hE2
      rw [hb5]
      rw [hb5] at hE6
      clear hb5
      go_wp2_with fail
      refine (WX.out _ _ _ _ hR2).mono ?_
      rintro e w3 ⟨rfl,hb3⟩
      have hsz3:=hb3.size
      have hb4:Below w.heap.size w w3:=hb2.trans (hb3.mono hsz2)
      have hR3:=hR2.below hb3
      have d3:=hR3.c3
      have d4:=hR3.c4
      have l3:=hR3.lt
      clear hb1 hR1 hK2 hb2
      go_wp2_with fail
      go_ret3
      exact ⟨rb,_,rfl,hrb,rfl,hb4.alloc (by omega) _⟩
     ·rw [decide_eq_false (show ¬12 < st.deepest by omega)] at hp
      by_cases u3:(40:Int) < st.nodes
      ·rw [decide_eq_true (show 40 < st.nodes by omega)] at hp
       simp only [Bool.or_true,cond_true,Option.some.injEq] at hp
       subst hp
       go_enter Tryz.func36,Tryz.ntmps36
       go_wp2_with fail
       refine (NR.out).mono ?_
       rintro e w1 ⟨rb,g,cap,rfl,hrb,hR1,hb1⟩
       go_wp2_with fail
       refine ((all_said rb g cap ws HWS.out f f (Nat.le_refl _)).1 _ _ _ st hR1 HPP.out).mono ?_
       rintro e w2 ⟨v2,rfl,hE2,hR2,hK2⟩
       have hb2:=below_keep hb1 hK2 hrb hb1.size
       have hsz2:=hb2.size
       obtain ⟨⟨b5,hb5⟩,hE6⟩:=hE2
       rw [hb5]
       rw [hb5] at hE6
       clear hb5
       go_wp2_with fail
       refine (WX.out _ _ _ _ hR2).mono ?_
       rintro e w3 ⟨rfl,hb3⟩
       have hsz3:=hb3.size
       have hb4:Below w.heap.size w w3:=hb2.trans (hb3.mono hsz2)
       have hR3:=hR2.below hb3
       have d3:=hR3.c3
       have d4:=hR3.c4
       have l3:=hR3.lt
       clear hb1 hR1 hK2 hb2
       go_wp2_with fail
       go_ret3
       exact ⟨rb,_,rfl,hrb,rfl,hb4.alloc (by omega) _⟩
      ·rw [decide_eq_false (show ¬40 < st.nodes by omega)] at hp
       simp only [Bool.or_false,cond_false,Option.some.injEq] at hp
       subst hp
       go_enter Tryz.func36,Tryz.ntmps36
       go_wp2_with fail
       refine (NR.out).mono ?_
       rintro e w1 ⟨rb,g,cap,rfl,hrb,hR1,hb1⟩
       go_wp2_with fail
       refine ((all_said rb g cap ws HWS.out f f (Nat.le_refl _)).1 _ _ _ st hR1 HPP.out).mono ?_
       rintro e w2 ⟨v2,rfl,hE2,hR2,hK2⟩
       have hb2:=below_keep hb1 hK2 hrb hb1.size
       have hsz2:=hb2.size
       obtain ⟨⟨b5,hb5⟩,hE6⟩:=hE2
       rw [hb5]
       rw [hb5] at hE6
       clear hb5
       go_wp2_with fail
       refine (WX.out _ _ _ _ hR2).mono ?_
       rintro e w3 ⟨rfl,hb3⟩
       have hsz3:=hb3.size
       have hb4:Below w.heap.size w w3:=hb2.trans (hb3.mono hsz2)
       have hR3:=hR2.below hb3
       have d3:=hR3.c3
       have d4:=hR3.c4
       have l3:=hR3.lt
       clear hb1 hR1 hK2 hb2
       go_wp2_with fail
       go_ret3
       exact ⟨rb,_,rfl,hrb,⟨⟨b5,rfl⟩,Enc.keep ((Keep.of_below hb3).alloc _) hE6⟩,hb4.alloc (by omega) _⟩
open Go.RowKit
def ExprAt (B:Nat) (w:World) (x:Option Rd.Tr) (v:Value):Prop:=
 match x with
 | none=>v=.pointer none
 | some t=>∃ rb xb rv,v=.pointer (some ⟨xb,0,none⟩)∧B≤rb∧B≤xb∧w.heap[xb]?=some (.cells #[rv] 74 (0,0))∧EncO rb w (some t) rv
def ExprPost (w:World) (x:Option Rd.Tr×Int×Int) (e:Ending) (w':World):Prop:=
 ∃ v,e=.returned (.tuple #[v,.int .i64 x.2.1,.int .i64 x.2.2])∧ExprAt w.heap.size w' x.1 v∧Below w.heap.size w w'
theorem read_ok {f:Nat} {s:ByteArray} {x:Option Rd.Tr×Int×Int} (h:Rd.read f s=some x):(x.1=none∧(x.2.1 != 0)=true)∨(∃ t,x=(some t,0,0)):=by
 unfold Rd.read at h
 cases h1:decide (120 < s.size) with
 | true=>
  rw [h1] at h
  simp only [cond_true,Option.some.injEq] at h
  subst h
  exact Or.inl ⟨rfl,rfl⟩
 | false=>
  rw [h1] at h
  simp only [cond_false] at h
  split at h
  ·cases h
  ·simp only [Option.some.injEq] at h
   subst h
   exact Or.inl ⟨rfl,rfl⟩
  ·rename_i t st _
   generalize ((Rd.wordAt (Rd.split s (s.size+1) 0) st.next).kind==0)=b at h
   generalize (decide (12 < st.deepest) || decide (40 < st.nodes))=c at h
   cases b
   ·simp only [cond_false,Option.some.injEq] at h
    subst h
    exact Or.inl ⟨rfl,rfl⟩
   ·cases c
    ·simp only [cond_true,cond_false,Option.some.injEq] at h
     exact Or.inr ⟨t,h.symm⟩
    ·simp only [cond_true,Option.some.injEq] at h
     subst h
     exact Or.inl ⟨rfl,rfl⟩
theorem exprRead_any (f:Nat) (s:ByteArray) (w:World) (x:Option Rd.Tr×Int×Int) (hm:s.size≤maxLen) (hp:Rd.read f s=some x):Calls Tryz.prog 19 #[.string s] w (ExprPost w x):=by
 have TR:=hideq (treeRead_any f s w x hm hp)
 rcases read_ok hp with ⟨h1,h2⟩ | ⟨t,rfl⟩
 ·obtain ⟨t,er,pl⟩:=x
  simp only at h1 h2
  subst h1
  clear hp hm
  go_enter Tryz.func19,Tryz.ntmps19
  go_wp2_with fail
  refine (TR.out).mono ?_
  rintro e w1 ⟨rb,v,rfl,hrb,hE,hb⟩
  go_wp2_with fail
  go_ret3
  exact ⟨_,rfl,rfl,hb⟩
 ·clear hp hm
  go_enter Tryz.func19,Tryz.ntmps19
  go_wp2_with fail
  refine (TR.out).mono ?_
  rintro e w1 ⟨rb,v,rfl,hrb,hE,hb⟩
  obtain ⟨⟨b,hv⟩,hE2⟩:=hE
  rw [hv]
  rw [hv] at hE2
  clear hv
  have hsz:=hb.size
  go_wp2_with fail
  go_ret3
  exact ⟨_,rfl,⟨rb,w1.heap.size,_,rfl,hrb,hsz,cells_new _ _,⟨b,rfl⟩,Enc.keep ((Keep.refl _ _).alloc _) hE2⟩,hb.alloc hsz _⟩
open Go.RowKit
theorem own_slP {w:World} {B e size n:Nat} {v:Value} {xs:List Value} (h:w.ownsRow B e size v n xs):∃ ao ln cp,v=.slice ao ln cp:=by
 rcases h.2 with ⟨rfl,_⟩ | ⟨g,cap,cur,rfl,_⟩
 ·exact ⟨_,_,_,rfl⟩
 ·exact ⟨_,_,_,rfl⟩
theorem cellP_lt {w:World} {a:Addr} {v:Value} (h:w.cell? a=some v):a.block < w.heap.size:=by
 unfold World.cell? at h
 split at h
 ·rename_i e
  exact heap_lt e
 ·cases h
theorem take_next {ts:List Int} {c:Nat} (h:c < ts.length):ts.take (c+1)=ts.take c++[ts[c]]:=(List.take_append_getElem h).symm
def cstRel (w:World) (ts:List Int) (l i:Value) (wr:World):Prop:=
 ∃ c:Nat,c≤ts.length∧i=.int .i64 c∧wr.ownsRow w.heap.size 3 1 l c ((ts.take c).map (Value.int .i64))∧Below w.heap.size w wr
open Go.RowKit
namespace Ab
open Rf (Nd Inv NInv Wt)
def sT (kd x:Int) (tv lv rv:Value) (tm:List AT):AS:=⟨tm,[(0,ext [.int .i64 kd,.sint .i64 x,.lit tv,.lit lv,.lit rv] 163)],1,[],[]⟩
def sU (tm:List AT):AS:=⟨tm,[],0,[],[]⟩
def stT (ks:List (K (List AT))):Bool:=atOp (fun o=>opCalls 66 o || opCalls 103 o || opCalls 104 o || opCalls 105 o || opCalls 106 o) ks
abbrev ofT:List AT:=P0::List.replicate 78 .und
noncomputable def tRun (kt:List Nat) (ks:List (K (List AT))) (s:AS):Option XT:=(run Z (tabSp tP) bP (drawA Z (tabSp tP)) stT 400 ks s).bind (outX (nrm [0] [] 1 []) (nrm [0] kt 1 []))
noncomputable def tK':List (K (List AT)):=[.code (bodyOf Tryz.f66),.top Tryz.f66]
noncomputable def tTail (ks:List (K (List AT))) (s:AS):Option Tr:=run Z (tabSp tP) bP (drawA Z (tabSp tP)) (fun _=>false) 50 ks s
abbrev tuT (v:Value) (e:Int):AT:=tupE (.lit v) e
noncomputable def o1 (x:Int) (tv lv rv:Value):Option Tr:=run Z (tabSp tP) bP (drawA Z (tabSp tP)) (fun _=>false) 400 tK' (sT 1 x tv lv rv ofT)
noncomputable def o1S (x:Int) (tv lv rv:Value):AS:=(((o1 x tv lv rv).bind (leafT [])).map (·.2)).getD ⟨[],[],0,[],[]⟩
section
variable (x kd e:Int) (tv lv rv v v1 v2:Value)
end
end Ab
namespace Rd
open Go.Deep (BT)
def rankK (k:Int):Int:=bif k==6 || k==7 then 1 else bif k==8 || k==9 then 2 else bif k==5 then 3 else 4
def sym (k:Int):List UInt8:=
 bif k==2 then [112,105] else bif k==3 then [101] else bif k==4 then [99,102] else bif k==10 then [115,113,114,116]
 else bif k==11 then [101,120,112] else bif k==12 then [108,110,49,112] else bif k==13 then [97,116,97,110]
 else bif k==6 then [43] else bif k==5 || k==7 then [45] else bif k==8 then [42] else bif k==9 then [47] else []
def brk (b:Bool) (x:List UInt8):List UInt8:=bif b then 40::(x++[41]) else x
def kindT:Tr→Int
 | .nil=>0
 | .node _ _ a _ _=>a.1
def dec (v:Int):List UInt8:=Lib.decDigits v.toNat
def sep (k:Nat):List UInt8:=bif k==0 then [] else bif k==1 then [59,32] else [44,32]
def termsTo (ts:List Int):Nat→List UInt8
 | 0=>[99,102,91]
 | k+1=>termsTo ts k++(sep k++dec (ts.getD k 0))
def termsTxt (ts:List Int):List UInt8:=termsTo ts ts.length++[93]
def txtOf (a:Int×Int×List Int) (kl kr:Int) (x y:List UInt8):List UInt8:=
 bif a.1==1 then dec a.2.1
 else bif a.1==4 then termsTxt a.2.2
 else bif a.1==5 then 45::brk (decide (rankK kl < 3)) x
 else bif decide (10≤a.1∧a.1≤13) then sym a.1++40::(x++[41])
 else bif decide (6≤a.1∧a.1≤9) then brk (decide (rankK kl < rankK a.1)) x++32::(sym a.1++32::brk (decide (rankK kr < rankK a.1+1)) y)
 else sym a.1
def text:Tr→List UInt8
 | .nil=>[]
 | .node _ _ a l r=>txtOf a (kindT l) (kindT r) (text l) (text r)
def numOk (v:Int):Prop:=0≤v∧v < 1000000000
def Wf:Tr→Prop
 | .nil=>False
 | .node _ _ a l r=>
  (a.1=1∧numOk a.2.1∧a.2.2=[]∧l=.nil∧r=.nil)∨
  ((a.1=2∨a.1=3)∧a.2.1=0∧a.2.2=[]∧l=.nil∧r=.nil)∨
  (a.1=4∧(∀ x∈a.2.2,numOk x)∧2≤a.2.2.length∧a.2.2.length≤9∧a.2.1=0∧l=.nil∧r=.nil)∨
  ((a.1=5∨a.1=10∨a.1=11∨a.1=12∨a.1=13)∧Wf l∧a.2.2=[]∧r=.nil)∨
  ((a.1=6∨a.1=7∨a.1=8∨a.1=9)∧Wf l∧Wf r∧a.2.2=[])
def cnt:Tr→Nat
 | .nil=>0
 | .node _ _ _ l r=>cnt l+cnt r+1
theorem dec_len {v:Int} (h:numOk v):(dec v).length≤9:=by
 unfold dec
 rw [Lib.decDigits_length]
 have h1:v.toNat < 1000000000:=by have:=h.2;omega
 generalize v.toNat=u at h1
 have key:∀ k u,u < 10 ^ (k+1)→Lib.nDigits u≤k+1:=by
  intro k
  induction k with
  | zero=>intro u h;rw [Lib.nDigits_small (by simpa using h)];omega
  | succ k ih=>
   intro u h
   by_cases h2:u < 10
   ·rw [Lib.nDigits_small h2];omega
   ·rw [Lib.nDigits_big h2]
    have:=ih (u / 10) (by rw [Nat.pow_succ] at h ⊢;rw [Nat.pow_succ] at h;omega)
    omega
 exact key 8 u h1
theorem sep_len (k:Nat):(sep k).length≤2:=by
 unfold sep
 cases k==0 <;> cases k==1 <;> simp
theorem sym_len (k:Int):(sym k).length≤4:=by
 unfold sym
 cases k==2 <;> cases k==3 <;> cases k==4 <;> cases k==10 <;> cases k==11 <;> cases k==12 <;> cases k==13 <;> (try (simp;done)) <;> cases k==6 <;> (try (simp;done)) <;> cases k==5 <;> cases k==7 <;> cases k==8 <;> cases k==9 <;> simp
theorem getD_ok {ts:List Int} (h:∀ x∈ts,numOk x) (k:Nat):numOk (ts.getD k 0):=by
 unfold List.getD
 cases e:ts[k]? with
 | none=>exact ⟨by decide,by decide⟩
 | some x=>exact h x (List.mem_of_getElem? e)
theorem termsTo_len {ts:List Int} (h:∀ x∈ts,numOk x):∀ k,(termsTo ts k).length≤3+11*k:=by
 intro k
 induction k with
 | zero=>simp [termsTo]
 | succ k ih=>
  have:=dec_len (getD_ok h k)
  have:=sep_len k
  simp only [termsTo,List.length_append]
  omega
theorem brk_len (b:Bool) (x:List UInt8):(brk b x).length≤x.length+2:=by
 cases b <;> simp [brk]
theorem text_len:∀ t,Wf t→(text t).length≤200*cnt t:=by
 intro t
 induction t with
 | nil=>intro h;exact h.elim
 | node p q a l r ihl ihr=>
  intro h
  obtain ⟨k,v,ts⟩:=a
  simp only [text,cnt]
  rcases h with ⟨h1,h2,_⟩ | ⟨h1,_⟩ | ⟨h1,h2,_,h3,_⟩ | ⟨h1,h2,_,h3⟩ | ⟨h1,h2,h3,_⟩
  ·simp only at h1 h2
   subst h1
   have:=dec_len h2
   simp only [txtOf,beq_self_eq_true,cond_true]
   omega
  ·simp only at h1
   have:=sym_len k
   rcases h1 with rfl | rfl
   ·simp only [txtOf,sym];simp;omega
   ·simp only [txtOf,sym];simp;omega
  ·simp only at h1 h2 h3
   subst h1
   have:=termsTo_len h2 ts.length
   simp only [txtOf,termsTxt]
   simp
   omega
  ·simp only at h1
   have i1:=ihl h2
   have s:=sym_len k
   have b1:=brk_len (decide (rankK (kindT l) < 3)) (text l)
   rcases h1 with rfl | rfl | rfl | rfl | rfl <;> (simp only [txtOf];simp;try omega)
  ·simp only at h1
   have i1:=ihl h2
   have i2:=ihr h3
   have s:=sym_len k
   have b1:=brk_len (decide (rankK (kindT l) < rankK k)) (text l)
   have b2:=brk_len (decide (rankK (kindT r) < rankK k+1)) (text r)
   rcases h1 with rfl | rfl | rfl | rfl <;> (simp only [txtOf];simp at b1 b2 ⊢;omega)
end Rd
open Go.RowKit
theorem rb_mono {n m:Nat} {z:Int} (h:Bits n z) (hl:n≤m):Bits m z:=bits_mono h hl
theorem rb_neg {n:Nat} {z:Int} (h:Bits n z):Bits n (-z):=bits_neg h
theorem rb_mul {n m:Nat} {x y:Int} (h:Bits n x) (h2:Bits m y):Bits (n+m) (x*y):=bits_mul h h2
theorem rb_add {n:Nat} {x y:Int} (h:Bits n x) (h2:Bits n y):Bits (n+1) (x+y):=bits_add h h2
namespace Ab
open Rf (Nd Inv NInv Wt)
def opKd (k:Int):Rf.Op:=if k=2 then .pi else if k=3 then .e else if k=4 then .cf else if k=10 then .sqrt else if k=11 then .exp else if k=12 then .ln1p else .atan
def kkKd (k:Int):Rf.Kind:=if k=6 then .add else if k=7 then .sub else if k=8 then .mul else .div
def planT:Rd.Tr→Option Wt
 | .nil=>none
 | .node _ _ a l r=>
  if a.1=1 then some (.fr a.2.1 1)
  else if a.1≤4 then some (.con (opKd a.1) a.2.2)
  else if a.1=5 then (planT l).map negW
  else if a.1≤9 then (planT l).bind fun u=>(planT r).bind fun v=>opW (kkKd a.1) u v
  else (planT l).bind fun u=>fnW (opKd a.1) u
def OkB (n:Nat) (u:Wt):Prop:=u.Ok∧∀ p q,u=.fr p q→0 < q∧RB n p∧RB n q
theorem rb_num {v:Int} (h:Rd.numOk v):RB 30 v:=by
 have h1:=h.1
 have h2:=h.2
 show v.natAbs < 2 ^ 30
 have:(2:Nat) ^ 30=1073741824:=by decide
 omega
theorem rb_up {n m:Nat} {z:Int} (h:RB n z) (hl:n≤m):RB m z:=rb_mono h hl
theorem okb_fr {n:Nat} {p q:Int} (hq:0 < q) (h1:RB n p) (h2:RB n q) (hn:n≤6100):OkB n (.fr p q):=by
 refine ⟨⟨hq,rb_up h1 hn,rb_up h2 hn⟩,?_⟩
 intro p' q' e
 cases e
 exact ⟨hq,h1,h2⟩
theorem okb_no {n:Nat} {u:Wt} (h:u.Ok) (hn:∀ p q,u≠.fr p q):OkB n u:=⟨h,fun p q e=>absurd e (hn p q)⟩
theorem okb_neg {n m:Nat} {u:Wt} (h:OkB n u) (hl:n≤m) (hm:m≤6100):OkB m (negW u):=by
 cases u with
 | fr p q=>
  obtain ⟨h1,h2,h3⟩:=h.2 p q rfl
  exact okb_fr h1 (rb_up (rb_neg h2) hl) (rb_up h3 hl) hm
 | con op ts=>exact okb_no (show (Wt.con op ts).Ok from h.1) (fun _ _ e=>by cases e)
 | neg t=>exact okb_no (show (Wt.neg t).Ok from h.1) (fun _ _ e=>by cases e)
 | two k a b=>exact okb_no (show (Wt.two k a b).Ok from h.1) (fun _ _ e=>by cases e)
 | fn op t=>exact okb_no (show (Wt.fn op t).Ok from h.1) (fun _ _ e=>by cases e)
theorem okb_fn {n m:Nat} {op:Rf.Op} (hop:Rf.fn op) {u u2:Wt} (h:OkB n u) (hm:m≤6100) (h1m:1≤m) (he:fnW op u=some u2):OkB m u2:=by
 have key:∀ {t:Wt},t.Ok→(∀ p q,t=.fr p q→0 < p)→OkB m (.fn op t):=fun ht hp=>okb_no ⟨hop,ht,hp⟩ (fun _ _ e=>by cases e)
 cases u with
 | fr p q=>
  simp only [fnW] at he
  split at he
  ·cases he
  ·split at he
   ·cases he
    refine okb_fr (by decide) ?_ (Rf.bits1 h1m) hm
    split
    ·exact Rf.bits1 h1m
    ·exact Rf.bits0
   ·cases he
    refine key h.1 ?_
    intro p' q' e
    cases e
    omega
 | con op ts=>cases he;exact key h.1 (fun _ _ e=>by cases e)
 | neg t=>cases he;exact key h.1 (fun _ _ e=>by cases e)
 | two k a b=>cases he;exact key h.1 (fun _ _ e=>by cases e)
 | fn op t=>cases he;exact key h.1 (fun _ _ e=>by cases e)
theorem wo_bits {n m:Nat} {kk:Rf.Kind} {p q a b:Int} (h1:RB n p) (h2:RB n q) (h3:RB m a) (h4:RB m b):RB (n+m+1) (woN (kdK kk) p q a b)∧RB (n+m+1) (woD (kdK kk) p q a b):=by
 have s:n+m≤n+m+1:=by omega
 have e:m+n=n+m:=by omega
 cases kk with
 | add=>exact ⟨rb_add (rb_mul h1 h4) (e ▸ rb_mul h3 h2),rb_up (rb_mul h2 h4) s⟩
 | sub=>exact ⟨rb_add (rb_mul h1 h4) (e ▸ rb_mul (rb_neg h3) h2),rb_up (rb_mul h2 h4) s⟩
 | mul=>exact ⟨rb_up (rb_mul h1 h3) s,rb_up (rb_mul h2 h4) s⟩
 | div=>exact ⟨rb_up (rb_mul h1 h4) s,rb_up (rb_mul h2 h3) s⟩
theorem okb_op {n m l:Nat} {kk:Rf.Kind} {u v x:Wt} (h:OkB n u) (h2:OkB m v) (hl:n+m+1≤l) (hm:l≤6100) (he:opW kk u v=some x):OkB l x:=by
 have key:∀ {t t2:Wt},t.Ok→t2.Ok→OkB l (.two kk t t2):=fun ht ht2=>okb_no ⟨ht,ht2⟩ (fun _ _ e=>by cases e)
 by_cases hv:∃ a b,v=.fr a b
 ·obtain ⟨a,b,rfl⟩:=hv
  obtain ⟨g1,g2,g3⟩:=h2.2 a b rfl
  by_cases hu:∃ p q,u=.fr p q
  ·obtain ⟨p,q,rfl⟩:=hu
   obtain ⟨f1,f2,f3⟩:=h.2 p q rfl
   simp only [opW] at he
   split at he
   ·cases he
   ·rename_i hna
    cases he
    have hne:=woD_ne (p:=p) f1 g1 hna
    obtain ⟨w1,w2⟩:=wo_bits (kk:=kk) f2 f3 g2 g3
    obtain ⟨l1,l2⟩:=low_abs (gcd_pos_of (t:=woN (kdK kk) p q a b) hne)
    refine okb_fr (lowB_pos hne) (rb_up (Nat.lt_of_le_of_lt l1 w1) hl) (rb_up (Nat.lt_of_le_of_lt l2 w2) hl) hm
  ·have:opW kk u (.fr a b)=if kk=.div∧a=0 then none else some (.two kk u (.fr a b)):=by
    cases u with
    | fr p q=>exact absurd ⟨p,q,rfl⟩ hu
    | _=>rfl
   rw [this] at he
   split at he
   ·cases he
   ·cases he
    exact key h.1 h2.1
 ·have:opW kk u v=some (.two kk u v):=by
   cases v with
   | fr p q=>exact absurd ⟨p,q,rfl⟩ hv
   | _=>cases u <;> rfl
  rw [this] at he
  cases he
  exact key h.1 h2.1
theorem plan_ok:∀ (t:Rd.Tr) (u:Wt),Rd.Wf t→32*Rd.cnt t≤6100→planT t=some u→OkB (32*Rd.cnt t) u:=by
 intro t
 induction t with
 | nil=>intro u h;exact h.elim
 | node n1 n2 a l r ihl ihr=>
  intro u h hc he
  have hcn:Rd.cnt (.node n1 n2 a l r)=Rd.cnt l+Rd.cnt r+1:=rfl
  rw [hcn] at hc ⊢
  rw [planT] at he
  rcases h with ⟨hk,hn,_,rfl,rfl⟩ | ⟨hk,_,_,rfl,rfl⟩ | ⟨hk,hts,h2,h9,_,rfl,rfl⟩ | ⟨hk,hwl,_,rfl⟩ | ⟨hk,hwl,hwr,_⟩
  ·rw [if_pos hk] at he
   cases he
   exact okb_fr (by decide) (rb_up (rb_num hn) (by omega)) (Rf.bits1 (by omega)) hc
  ·rw [if_neg (by omega),if_pos (by omega)] at he
   cases he
   refine okb_no ?_ (fun _ _ e=>by cases e)
   rcases hk with hk | hk <;> rw [hk]
   ·exact Or.inl rfl
   ·exact Or.inr (Or.inl rfl)
  ·rw [if_neg (by omega),if_pos (by omega)] at he
   cases he
   refine okb_no ?_ (fun _ _ e=>by cases e)
   rw [hk]
   exact Or.inr (Or.inr ⟨rfl,h2,fun x hx=>rb_up (rb_num (hts x hx)) (by decide)⟩)
  ·rw [if_neg (by omega),if_neg (by omega)] at he
   rcases hk with hk | hk
   ·rw [if_pos hk] at he
    obtain ⟨v,hv,rfl⟩:=Option.map_eq_some_iff.1 he
    exact okb_neg (ihl v hwl (by omega) hv) (by omega) hc
   ·rw [if_neg (by omega),if_neg (by omega)] at he
    obtain ⟨v,hv,he2⟩:=Option.bind_eq_some_iff.1 he
    refine okb_fn ?_ (ihl v hwl (by omega) hv) hc (by omega) he2
    rcases hk with hk | hk | hk | hk <;> rw [hk]
    ·exact Or.inl rfl
    ·exact Or.inr (Or.inl rfl)
    ·exact Or.inr (Or.inr (Or.inl rfl))
    ·exact Or.inr (Or.inr (Or.inr rfl))
  ·rw [if_neg (by omega),if_neg (by omega),if_neg (by omega),if_pos (by omega)] at he
   obtain ⟨v,hv,he1⟩:=Option.bind_eq_some_iff.1 he
   obtain ⟨v2,hv2,he2⟩:=Option.bind_eq_some_iff.1 he1
   exact okb_op (ihl v hwl (by omega) hv) (ihr v2 hwr (by omega) hv2) (by omega) hc he2
end Ab
end Go.Proofs.YteghhlfmcjmnoaaGreatDoor
