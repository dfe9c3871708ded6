import Derived.Test.YteghhlfmcjmnoaaGreatDoorCDe20
import Derived.Test.YteghhlfmcjmnoaaGreatDoorCDe18
import Derived.Test.YteghhlfmcjmnoaaGreatDoorCDe19
import Derived.Test.YteghhlfmcjmnoaaGreatDoorCards
import Derived.Test.YteghhlfmcjmnoaaGreatDoorTie
import Derived.KernelRfl
import Derived.Laws.IdiomStrings
import Derived.WalkKit
import Derived.ProofKit
import Derived.OpenShut
import Derived.Carry
import Derived.Deep.DeepHandedRow
import Derived.Lib.LaidTab
import Derived.Stop.LaidErr
set_option linter.unusedSimpArgs false
set_option linter.unusedVariables false
set_option maxRecDepth 100000
set_option maxHeartbeats 2000000
namespace Go.Proofs.YteghhlfmcjmnoaaGreatDoor
namespace Rf
open Nw
open Pg (Go HC)
def denW:Wt:=.fn .sqrt (.two .sub (.fr 1 1) (.con .pi []))
def N4:Nd:={ fresh true [(1,0),(0,1)] [3] with op:=.sqrt,probe:=true }
def denN:List Nd:=[fresh true [(1,1)] [],{ fresh true [] [] with op:=.pi,terms:=[] },fresh false [(0,0),(1,0),(-1,0),(0,1)] [0,1],N3 0,N4]
theorem den_of:C.of denW []=some (denN,4):=rfl
theorem den_gp:∀ n∈denN,GP n:=by
 intro n hn
 simp only [denN,List.mem_cons,List.not_mem_nil,or_false] at hn
 rcases hn with rfl | rfl | rfl | rfl | rfl
 ·exact GP.fresh _ _ _
 ·exact with_op (t:=[]) (args:=[]) (pos:=true) rfl rfl rfl rfl
 ·exact GP.fresh _ _ _
 ·exact with_op (t:=[]) (args:=[]) (pos:=true) rfl rfl rfl rfl
 ·exact with_op (t:=[]) (args:=[]) (pos:=true) rfl rfl rfl rfl
theorem denW_ok:denW.Ok:=⟨Or.inl rfl,⟨⟨by decide,bits1 (by decide),bits1 (by decide)⟩,Or.inl rfl⟩,fun p q e=>by cases e⟩
theorem den_none {ns:List Nd} {d:Nat} (hof:of denW []=some (ns,d)) {x:St×Option Int} (hx:sym 15802 ⟨ns,3000⟩ d 0=some x):x.2=none:=by
 have e0:=of_le denW [] _ hof
 rw [den_of] at e0
 cases e0
 obtain ⟨ns',rho,d',hof',gr,hd,hrk,_⟩:=of_inv (c:=3000) denW [] (fun _=>0) denW_ok (Nat.le_refl _) (inv_nil _ _)
 rw [hof] at hof'
 cases hof'
 have hI:=gr.inv
 have hr43:rho 3 < rho 4:=((hI.at' 4 N4 rfl).arg 0 3 rfl).2
 have hr32:rho 2 < rho 3:=((hI.at' 3 (N3 0) rfl).arg 0 2 rfl).2
 have hsz:rho 4≤12800:=hrk
 unfold sym at hx
 rw [show (⟨denN,3000⟩:St).nodes[4]?=some N4 from rfl,Option.bind_some,show N4.out[0]?=none from rfl] at hx
 simp only at hx
 rw [if_pos (show N4.probe=true from rfl),Option.bind_some] at hx
 simp only at hx
 obtain ⟨y,e1,hx⟩:=Option.bind_eq_some_iff.1 hx
 have hy:y.2=false:=by
  unfold reads at e1
  rw [if_neg (show ¬N4.t=[] by simp [N4,fresh]),show side denN N4=some 0 from rfl,Option.bind_some,show wide ⟨denN,3000⟩ 4 N4 0=some ⟨denN,3000⟩ by unfold wide;rw [if_neg (by simp [N4,fresh])],Option.bind_some,show (⟨denN,3000⟩:St).nodes[4]?=some N4 from rfl,Option.bind_some,show N4.args[0]?=some 3 from rfl,Option.bind_some,show N4.read[0]?=some 0 from rfl,Option.bind_some] at e1
  obtain ⟨z,ez,e1⟩:=Option.bind_eq_some_iff.1 e1
  have hz:z.2=none:=by
   unfold sym at ez
   rw [show (⟨denN,3000⟩:St).nodes[3]?=some (N3 0) from rfl,Option.bind_some,show (N3 0).out[0]?=none from rfl] at ez
   simp only at ez
   rw [if_neg (show ¬(N3 0).probe=true by simp [N3,fresh]),show next denN (N3 0)=some none from rfl,Option.bind_some] at ez
   simp only at ez
   obtain ⟨u,eu,ez⟩:=Option.bind_eq_some_iff.1 ez
   unfold reads at eu
   rw [if_neg (show ¬(N3 0).t=[] by simp [N3,fresh]),show side denN (N3 0)=some 0 from rfl,Option.bind_some,show wide ⟨denN,3000⟩ 3 (N3 0) 0=some ⟨denN,3000⟩ by unfold wide;rw [if_neg (by simp [N3,fresh])],Option.bind_some,show (⟨denN,3000⟩:St).nodes[3]?=some (N3 0) from rfl,Option.bind_some,show (N3 0).args[0]?=some 2 from rfl,Option.bind_some,show (N3 0).read[0]?=some 0 from rfl,Option.bind_some] at eu
   obtain ⟨v,ev,eu⟩:=Option.bind_eq_some_iff.1 eu
   have hN2:denN[2]?=some (fresh false [(0,0),(1,0),(-1,0),(0,1)] [0,1]):=rfl
   obtain ⟨v',ev',hP⟩:=total 15800 ⟨denN,3000⟩ 2 0 rho 3000 rfl (Nat.le_refl _) hI _ hN2 (Nat.zero_le _) (by omega)
   rw [ev] at ev'
   cases ev'
   have hS:=denS
   rw [sym_le' _ _ _ _ _ ev,Option.map_some,Option.some.injEq,Prod.mk.injEq] at hS
   obtain ⟨s1,w⟩:=v
   obtain ⟨hw,ho⟩:=hS
   simp only at hw ho
   subst hw
   simp only at eu
   obtain ⟨rho',c',g1,g2,g3,g4,n',g5,g6⟩:=hP.ex 45 rfl
   have hgg:=sym_gg _ _ _ _ _ ev
   have h3':s1.nodes[3]?=some (N3 0):=g4.same 3 _ rfl hr32
   obtain ⟨m',q1,q2,q3,q4⟩:=hgg.go.at' 2 _ hN2
   rw [g5] at q1
   cases q1
   obtain ⟨s2,b,a1,a2⟩:=after_inv (i:=3) (sd:=0) g2 g3 (by omega) h3' (a:=2) (r:=0) rfl rfl g5 g6 (fun _=>rfl)
   have hgg2:=after_gg a1
   rw [a1] at eu
   cases eu
   have h32:b=true→s2.nodes[3]?=some (N3 1):=by
    intro hb
    unfold after at a1
    rw [h3',Option.bind_some] at a1
    obtain ⟨ns,p1,a1⟩:=Option.bind_eq_some_iff.1 a1
    have hlt:=(List.getElem?_eq_some_iff.1 h3').1
    have hns:ns=s1.nodes.set 3 (N3 1):=(put_gg p1 h3' rfl rfl rfl rfl).2
    split at a1
    ·cases a1;cases hb
    ·obtain ⟨ns1,p2,a1⟩:=Option.map_eq_some_iff.1 a1
     cases a1
     unfold settle at p2
     rw [if_neg (by simp [N3,fresh])] at p2
     cases p2
     rw [hns]
     exact List.getElem?_set_self hlt
   cases b with
   | false=>
    simp at ez
    rw [←ez]
   | true=>
    simp at ez
    obtain ⟨rho2,c2,t1,t2,t3,t4,_⟩:=a2 rfl
    obtain ⟨m2,r1,r2,r3,r4⟩:=hgg2.go.at' 2 n' g5
    have hl1:=(List.getElem?_eq_some_iff.1 h3').1
    have e3:rho2 3=rho 3:=by rw [t4.agree 3 hl1,g4.agree 3 (by decide)]
    have h45:n'.out[0]?=some 45:=by
     rw [g5] at ho
     simp only [Option.map_some,Option.some.injEq] at ho
     rw [ho]
     rfl
    exact never3 15800 s2 rho2 c2 0 m2 t2 (by omega) t3 (h32 rfl) r1 (hgg2.all (hgg.all den_gp)) (by rw [r2,q2];rfl) (r4 0 45 h45) (by omega) z ez
  obtain ⟨z1,z2⟩:=z
  simp only at hz
  subst hz
  cases e1
  rfl
 rw [hy] at hx
 simp at hx
 rw [←hx]
end Rf
namespace Rd
variable {ws:List Wd}
def Made (t:Tr) (st st':St):Prop:=Wf t∧cnt t+st.nodes≤st'.nodes
def MadeL (l t:Tr) (st st':St):Prop:=Wf t∧cnt t+st.nodes≤st'.nodes+cnt l
theorem val_ok {x:Wd} (h:x.text.size≤9):numOk (valTo x.text x.text.size):=⟨valTo_lo _ _,valTo_bd _ _ h⟩
theorem zero_ok:numOk 0:=⟨by decide,by decide⟩
theorem term_wf (hws:WsOk ws) (st:St):numOk (term ws st).1∧(term ws st).2.nodes=st.nodes:=by
 unfold term
 cases h1:((wordAt ws st.next).kind==1) with
 | false=>exact ⟨zero_ok,rfl⟩
 | true=>
  have:=val_ok (hws st.next (beq_iff_eq.1 h1))
  cases valTo (wordAt ws st.next).text (wordAt ws st.next).text.size==0 with
  | true=>exact ⟨zero_ok,rfl⟩
  | false=>exact ⟨this,rfl⟩
theorem terms_wf (hws:WsOk ws):∀ f c ts st ts' st',terms ws f c ts st=some (some ts',st')→(∀ x∈ts,numOk x)→ts.length=c→c+f=9→(∀ x∈ts',numOk x)∧c+1≤ts'.length∧ts'.length≤9∧st'.nodes=st.nodes:=by
 intro f
 induction f with
 | zero=>intro c ts st ts' st' h;cases h
 | succ f ih=>
  intro c ts st ts' st' h hts hc hf
  obtain ⟨n1,n2⟩:=term_wf hws st
  rw [terms] at h
  have happ:∀ x∈ts++[(term ws st).1],numOk x:=by
   intro x hx
   rcases List.mem_append.1 hx with hx | hx
   ·exact hts x hx
   ·rw [List.mem_singleton.1 hx];exact n1
  cases h0:(st.okB&&(term ws st).2.okB) with
  | false=>rw [h0] at h;cases h
  | true=>
   rw [h0] at h
   simp only [cond_true] at h
   cases h1:((term ws st).1==0) with
   | true=>rw [h1] at h;simp at h
   | false=>
    rw [h1] at h
    simp only [cond_false] at h
    cases h2:tk ws (term ws st).2 ⟨#[93]⟩ with
    | true=>
     rw [h2] at h
     simp only [cond_true,Option.some.injEq,Prod.mk.injEq] at h
     obtain ⟨rfl,rfl⟩:=h
     exact ⟨happ,by simp;omega,by simp;omega,n2⟩
    | false=>
     rw [h2] at h
     simp only [cond_false] at h
     cases h3:(c==8) with
     | true=>rw [h3] at h;simp at h
     | false=>
      rw [h3] at h
      simp only [cond_false] at h
      cases h4:tk ws (term ws st).2 ⟨#[44]⟩ with
      | false=>rw [h4] at h;simp at h
      | true=>
       rw [h4] at h
       simp only [cond_true] at h
       obtain ⟨a1,a2,a3,a4⟩:=ih _ _ _ _ _ h happ (by simp;omega) (by omega)
       exact ⟨a1,by omega,a3,a4.trans n2⟩
theorem continued_wf (hws:WsOk ws) {st st':St} {t:Tr} (h:continued ws st=some (some t,st')):Made t st st':=by
 unfold continued at h
 cases h0:(decide (st.next < 900)&&st.okB) with
 | false=>rw [h0] at h;cases h
 | true=>
  rw [h0] at h
  simp only [cond_true] at h
  cases h1:tk ws st ⟨#[91]⟩ with
  | false=>rw [h1] at h;simp at h
  | true=>
   rw [h1] at h
   simp only [cond_true] at h
   cases h2:((wordAt ws st.adv.next).kind==1) with
   | false=>rw [h2] at h;simp at h
   | true=>
    rw [h2] at h
    simp only [cond_true] at h
    cases h3:tk ws st.adv.adv ⟨#[59]⟩ with
    | false=>rw [h3] at h;simp at h
    | true=>
     rw [h3] at h
     simp only [cond_true] at h
     cases h4:terms ws 8 1 [valTo (wordAt ws st.adv.next).text (wordAt ws st.adv.next).text.size] st.adv.adv.adv with
     | none=>rw [h4] at h;cases h
     | some y=>
      obtain ⟨r,s1⟩:=y
      rw [h4] at h
      cases r with
      | none=>simp [cfOf] at h
      | some ts=>
       simp only [cfOf] at h
       cases h5:s1.okB with
       | false=>rw [h5] at h;cases h
       | true=>
        rw [h5] at h
        simp only [cond_true,Option.some.injEq,Prod.mk.injEq] at h
        obtain ⟨rfl,rfl⟩:=h
        obtain ⟨a1,a2,a3,a4⟩:=terms_wf hws _ _ _ _ _ _ h4 (by intro x hx;rw [List.mem_singleton.1 hx];exact val_ok (hws _ (beq_iff_eq.1 h2))) rfl rfl
        have e:st.adv.adv.adv.nodes=st.nodes:=rfl
        refine ⟨Or.inr (Or.inr (Or.inl ⟨rfl,a1,by simp only;omega,a3,rfl,rfl,rfl⟩)),?_⟩
        show 0+0+1+st.nodes≤s1.nodes+1
        omega
theorem unary_wf {k:Int} (hk:k=5∨k=10∨k=11∨k=12∨k=13) {x:Option Tr} {st0 st st':St} {t:Tr} (h:unaryOf k x st=some (some t,st')) (hx:∀ y,x=some y→Made y st0 st):Made t st0 st':=by
 cases x with
 | none=>simp [unaryOf] at h
 | some y=>
  obtain ⟨a,b⟩:=hx y rfl
  simp only [unaryOf] at h
  cases h5:st.okB with
  | false=>rw [h5] at h;cases h
  | true=>
   rw [h5] at h
   simp only [cond_true,Option.some.injEq,Prod.mk.injEq] at h
   obtain ⟨rfl,rfl⟩:=h
   refine ⟨Or.inr (Or.inr (Or.inr (Or.inl ⟨hk,a,rfl,rfl⟩))),?_⟩
   show cnt y+0+1+st0.nodes≤st.nodes+1
   omega
theorem oper_wf {k:Int} (hk:k=6∨k=7∨k=8∨k=9) {l:Tr} (hl:Wf l) {x:Option Tr} {st0 st st':St} {t:Tr} (h:operOf k l x st=some (some t,st')) (hx:∀ y,x=some y→Made y st0 st):MadeL l t st0 st':=by
 cases x with
 | none=>simp [operOf] at h
 | some y=>
  obtain ⟨a,b⟩:=hx y rfl
  simp only [operOf] at h
  cases h5:st.okB with
  | false=>rw [h5] at h;cases h
  | true=>
   rw [h5] at h
   simp only [cond_true,Option.some.injEq,Prod.mk.injEq] at h
   obtain ⟨rfl,rfl⟩:=h
   refine ⟨Or.inr (Or.inr (Or.inr (Or.inr ⟨hk,hl,a,rfl⟩))),?_⟩
   show cnt l+cnt y+1+st0.nodes≤st.nodes+1+cnt l
   omega
structure W1 (ws:List Wd) (f:Nat):Prop where
 sum:∀ l st t st',parse ws f 0 l st=some (some t,st')→Made t st st'
 sumL:∀ l st t st',Wf l→parse ws f 1 (some l) st=some (some t,st')→MadeL l t st st'
 prod:∀ l st t st',parse ws f 2 l st=some (some t,st')→Made t st st'
 prodL:∀ l st t st',Wf l→parse ws f 3 (some l) st=some (some t,st')→MadeL l t st st'
 signed:∀ l st t st',parse ws f 4 l st=some (some t,st')→Made t st st'
 atom:∀ l st t st',parse ws f 5 l st=some (some t,st')→Made t st st'
 br:∀ l st t st',parse ws f 6 l st=some (some t,st')→Made t st st'
theorem round_wf {f tag b:Nat} {k:Int} (hk:k=6∨k=7∨k=8∨k=9) {l t:Tr} {st st':St} (hl:Wf l) (hin:∀ t st1 st',parse ws f b none st1=some (some t,st')→Made t st1 st') (hL:∀ l st t st',Wf l→parse ws f tag (some l) st=some (some t,st')→MadeL l t st st')
  (hN:∀ st t st',parse ws f tag none st≠some (some t,st'))
  (h:((parse ws f b none st.adv).next fun r st2=>(operOf k l r st2).next fun l' st3=>parse ws f tag l' st3)=some (some t,st')):MadeL l t st st':=by
 obtain ⟨r,st2,e1,h⟩:=next_some h
 obtain ⟨l',st3,e2,h⟩:=next_some h
 cases l' with
 | none=>exact absurd h (hN _ _ _)
 | some l'=>
  obtain ⟨a1,a2⟩:=oper_wf hk hl (st0:=st.adv) e2 (fun y hy=>hin y _ _ (by rw [←hy];exact e1))
  obtain ⟨b1,b2⟩:=hL _ _ _ _ a1 h
  have e:st.adv.nodes=st.nodes:=rfl
  exact ⟨b1,by omega⟩
theorem none1 (f:Nat) (st:St) (t:Tr) (st':St):parse ws f 1 none st≠some (some t,st'):=by
 cases f <;> simp [parse]
theorem none3 (f:Nat) (st:St) (t:Tr) (st':St):parse ws f 3 none st≠some (some t,st'):=by
 cases f <;> simp [parse]
theorem W1_step (hws:WsOk ws) (f:Nat) (ih:W1 ws f):W1 ws (f+1):=by
 constructor
 case sum=>
  intro l st t st' h
  rw [parse] at h
  obtain ⟨r,st2,e1,h⟩:=next_some h
  cases r with
  | none=>exact absurd h (none1 _ _ _ _)
  | some r=>
   obtain ⟨a1,a2⟩:=ih.prod _ _ _ _ e1
   obtain ⟨b1,b2⟩:=ih.sumL _ _ _ _ a1 h
   exact ⟨b1,by omega⟩
 case sumL=>
  intro l st t st' hl h
  rw [parse] at h
  cases h0:st.okB with
  | false=>rw [h0] at h;cases h
  | true=>
   rw [h0] at h
   simp only [cond_true] at h
   cases h1:tk ws st ⟨#[43]⟩ with
   | true=>
    rw [h1] at h
    exact round_wf (Or.inl rfl) hl (fun t st1 st'=>ih.prod none st1 t st') ih.sumL (none1 f) h
   | false=>
    rw [h1] at h
    simp only [cond_false] at h
    cases h2:tk ws st ⟨#[45]⟩ with
    | true=>
     rw [h2] at h
     exact round_wf (Or.inr (Or.inl rfl)) hl (fun t st1 st'=>ih.prod none st1 t st') ih.sumL (none1 f) h
    | false=>
     rw [h2] at h
     simp only [cond_false,Option.some.injEq,Prod.mk.injEq] at h
     obtain ⟨rfl,rfl⟩:=h
     exact ⟨hl,by omega⟩
 case prod=>
  intro l st t st' h
  rw [parse] at h
  obtain ⟨r,st2,e1,h⟩:=next_some h
  cases r with
  | none=>exact absurd h (none3 _ _ _ _)
  | some r=>
   obtain ⟨a1,a2⟩:=ih.signed _ _ _ _ e1
   obtain ⟨b1,b2⟩:=ih.prodL _ _ _ _ a1 h
   exact ⟨b1,by omega⟩
 case prodL=>
  intro l st t st' hl h
  rw [parse] at h
  cases h0:st.okB with
  | false=>rw [h0] at h;cases h
  | true=>
   rw [h0] at h
   simp only [cond_true] at h
   cases h1:tk ws st ⟨#[42]⟩ with
   | true=>
    rw [h1] at h
    exact round_wf (Or.inr (Or.inr (Or.inl rfl))) hl (fun t st1 st'=>ih.signed none st1 t st') ih.prodL (none3 f) h
   | false=>
    rw [h1] at h
    simp only [cond_false] at h
    cases h2:tk ws st ⟨#[47]⟩ with
    | true=>
     rw [h2] at h
     exact round_wf (Or.inr (Or.inr (Or.inr rfl))) hl (fun t st1 st'=>ih.signed none st1 t st') ih.prodL (none3 f) h
    | false=>
     rw [h2] at h
     simp only [cond_false,Option.some.injEq,Prod.mk.injEq] at h
     obtain ⟨rfl,rfl⟩:=h
     exact ⟨hl,by omega⟩
 case signed=>
  intro l st t st' h
  rw [parse] at h
  cases h0:st.okB with
  | false=>rw [h0] at h;cases h
  | true=>
   rw [h0] at h
   simp only [cond_true] at h
   cases h1:tk ws st ⟨#[45]⟩ with
   | false=>
    rw [h1] at h
    exact ih.atom _ _ _ _ h
   | true=>
    rw [h1] at h
    simp only [cond_true] at h
    obtain ⟨x,st2,e1,h⟩:=next_some h
    cases h2:st2.okOut with
    | false=>rw [h2] at h;cases h
    | true=>
     rw [h2] at h
     simp only [cond_true] at h
     exact unary_wf (Or.inl rfl) (st0:=st) h (fun y hy=>by
      obtain ⟨a,b⟩:=ih.signed _ _ _ _ (by rw [←hy];exact e1)
      exact ⟨a,b⟩)
 case atom=>
  intro l st t st' h
  rw [parse] at h
  cases h0:st.okB with
  | false=>rw [h0] at h;cases h
  | true=>
   rw [h0] at h
   simp only [cond_true] at h
   cases h1:((wordAt ws st.next).kind==1) with
   | true=>
    rw [h1] at h
    simp only [cond_true] at h
    cases h2:st.adv.okB with
    | false=>rw [h2] at h;cases h
    | true=>
     rw [h2] at h
     simp only [cond_true,Option.some.injEq,Prod.mk.injEq] at h
     obtain ⟨rfl,rfl⟩:=h
     refine ⟨Or.inl ⟨rfl,val_ok (hws _ (beq_iff_eq.1 h1)),rfl,rfl,rfl⟩,?_⟩
     show 0+0+1+st.nodes≤st.nodes+1
     omega
   | false=>
    rw [h1] at h
    simp only [cond_false] at h
    cases h2:((wordAt ws st.next).kind==2) with
    | false=>rw [h2] at h;exact ih.br _ _ _ _ h
    | true=>
     rw [h2] at h
     simp only [cond_true,nameOf] at h
     have hnm:named (wordAt ws st.next).text=0∨named (wordAt ws st.next).text=2∨named (wordAt ws st.next).text=3∨named (wordAt ws st.next).text=4∨named (wordAt ws st.next).text=10∨named (wordAt ws st.next).text=11∨named (wordAt ws st.next).text=12∨named (wordAt ws st.next).text=13:=by
      unfold named
      generalize (wordAt ws st.next).text=x
      cases isT x [112,105] <;> cases isT x [101] <;> cases isT x [99,102] <;> cases isT x [115,113,114,116] <;> cases isT x [101,120,112] <;> cases isT x [108,110,49,112] <;> cases isT x [97,116,97,110] <;> simp
     generalize named (wordAt ws st.next).text=k at h hnm
     cases k0:(k==0) with
     | true=>rw [k0] at h;simp at h
     | false=>
      rw [k0] at h
      simp only [cond_false] at h
      cases k2:(k==2 || k==3) with
      | true=>
       rw [k2] at h
       simp only [cond_true] at h
       cases h2:st.adv.okB with
       | false=>rw [h2] at h;cases h
       | true=>
        rw [h2] at h
        simp only [cond_true,Option.some.injEq,Prod.mk.injEq] at h
        obtain ⟨rfl,rfl⟩:=h
        refine ⟨Or.inr (Or.inl ⟨by simpa using k2,rfl,rfl,rfl,rfl⟩),?_⟩
        show 0+0+1+st.nodes≤st.nodes+1
        omega
      | false=>
       rw [k2] at h
       simp only [cond_false] at h
       cases k4:(k==4) with
       | true=>
        rw [k4] at h
        have:=continued_wf hws h
        exact this
       | false=>
        rw [k4] at h
        simp only [cond_false] at h
        obtain ⟨x,st2,e1,h⟩:=next_some h
        simp at k0 k2 k4
        exact unary_wf (by omega) (st0:=st) h (fun y hy=>by
         obtain ⟨a,b⟩:=ih.br _ _ _ _ (by rw [←hy];exact e1)
         exact ⟨a,b⟩)
 case br=>
  intro l st t st' h
  rw [parse] at h
  ·cases h0:st.okB with
   | false=>rw [h0] at h;cases h
   | true=>
    rw [h0] at h
    simp only [cond_true] at h
    cases h1:tk ws st ⟨#[40]⟩ with
    | false=>rw [h1] at h;simp at h
    | true=>
     rw [h1] at h
     simp only [cond_true] at h
     obtain ⟨x,st2,e1,h⟩:=next_some h
     unfold closeOf at h
     cases h2:st2.okOut with
     | false=>rw [h2] at h;cases h
     | true=>
      rw [h2] at h
      simp only [cond_true] at h
      cases x with
      | none=>simp at h
      | some x=>
       simp only at h
       cases h3:tk ws st2.out ⟨#[41]⟩ with
       | false=>rw [h3] at h;simp at h
       | true=>
        rw [h3] at h
        simp only [cond_true,Option.some.injEq,Prod.mk.injEq] at h
        obtain ⟨rfl,rfl⟩:=h
        obtain ⟨a,b⟩:=ih.sum _ _ _ _ e1
        exact ⟨a,b⟩
  all_goals omega
theorem W1_all (hws:WsOk ws):∀ f,W1 ws f:=by
 intro f
 induction f with
 | zero=>constructor <;> (intros;rename_i h;cases h)
 | succ f ih=>exact W1_step hws f ih
theorem read_wf3 {f:Nat} {s:ByteArray} {t:Tr} {e p:Int} (hws:WsOk (split s (s.size+1) 0)) (h:read f s=some (some t,e,p)):Wf t∧(text t).length≤1000000∧cnt t≤40:=by
 unfold read at h
 cases h1:decide (120 < s.size) with
 | true=>rw [h1] at h;simp at h
 | false=>
  rw [h1] at h
  simp only [cond_false] at h
  split at h
  ·cases h
  ·simp at h
  ·rename_i t' st hp
   obtain ⟨a,b⟩:=(W1_all hws f).sum _ _ _ _ hp
   cases c1:((wordAt (split s (s.size+1) 0) st.next).kind==0) with
   | false=>rw [c1] at h;simp at h
   | true=>
    rw [c1] at h
    simp only [cond_true] at h
    cases c2:(decide (12 < st.deepest) || decide (40 < st.nodes)) with
    | true=>rw [c2] at h;simp at h
    | false=>
     rw [c2] at h
     simp only [cond_false,Option.some.injEq,Prod.mk.injEq] at h
     obtain ⟨rfl,_⟩:=h
     simp only [Bool.or_eq_false_iff,decide_eq_false_iff_not] at c2
     have:=text_len _ a
     simp only at b
     exact ⟨a,by omega,by omega⟩
end Rd
open Go.RowKit
open Ab
open Rf (Wt fuelF readK symsT denW denW_ok)
def denTab:List ByteArray:=[
 ⟨#[112,105,47,40,49,32,45,32,49,41]⟩,
 ⟨#[115,113,114,116,40,45,49,41]⟩,
 ⟨#[108,110,49,112,40,49,47,50,32,45,32,49,41]⟩,
 ⟨#[49,32,43,32,50,47,48]⟩]
def denAt (i:Nat):ByteArray:=denTab.getD i ⟨#[]⟩
def denOk (x:ByteArray):Bool:=
 match Rd.read 1300 x with
 | some (some T,e,a)=>e==0&&a==0&&decide (x.size≤120)&&(planT T).isNone
 | _=>false
theorem den_tab (i:Nat) (hi:i < 4):∃ T,Rd.read 1300 (denAt i)=some (some T,0,0)∧(denAt i).size≤120∧planT T=none∧Rd.Wf T∧Rd.cnt T≤40:=by
 have hl:i < denTab.length:=hi
 have hx:denAt i=denTab[i]:=by simp [denAt,List.getD,hl]
 have h:=List.all_eq_true.1 den_all denTab[i] (List.getElem_mem hl)
 rw [←hx] at h
 unfold denOk at h
 split at h
 ·rename_i T e a he
  simp only [Bool.and_eq_true,beq_iff_eq,decide_eq_true_eq,Option.isNone_iff_eq_none] at h
  obtain ⟨⟨⟨rfl,rfl⟩,h3⟩,h4⟩:=h
  obtain ⟨w1,_,w3⟩:=Rd.read_wf3 (split_ok _ _ 0) he
  exact ⟨T,he,h3,h4,w1,w3⟩
 ·cases h
def denZ:ByteArray:=⟨#[115,113,114,116,40,49,32,45,32,112,105,41]⟩
def wtEq:Wt→Wt→Bool
 | .fr p q,.fr a b=>p==a&&q==b
 | .con o ts,.con o' ts'=>decide (o=o')&&decide (ts=ts')
 | .neg t,.neg u=>wtEq t u
 | .two k a b,.two k' a' b'=>decide (k=k')&&wtEq a a'&&wtEq b b'
 | .fn o t,.fn o' t'=>decide (o=o')&&wtEq t t'
 | _,_=>false
theorem wtEq_eq:∀ {t u:Wt},wtEq t u=true→t=u:=by
 intro t
 induction t with
 | fr p q=>intro u h;cases u <;> simp [wtEq] at h;rw [h.1,h.2]
 | con o ts=>intro u h;cases u <;> simp [wtEq] at h;rw [h.1,h.2]
 | neg t ih=>intro u h;cases u <;> simp [wtEq] at h;rw [ih h]
 | two k a b iha ihb=>intro u h;cases u <;> simp [wtEq] at h;rw [h.1.1,iha h.1.2,ihb h.2]
 | fn o t ih=>intro u h;cases u <;> simp [wtEq] at h;rw [h.1,ih h.2]
def denZok:Bool:=
 match Rd.read 1300 denZ with
 | some (some T,e,a)=>e==0&&a==0&&(match planT T with | some u=>wtEq u denW | none=>false)
 | _=>false
theorem denZ_tab:∃ T,Rd.read 1300 denZ=some (some T,0,0)∧planT T=some denW∧Rd.Wf T∧Rd.cnt T≤40:=by
 have h:=denZ_all
 unfold denZok at h
 split at h
 ·rename_i T e a he
  simp only [Bool.and_eq_true,beq_iff_eq] at h
  obtain ⟨⟨rfl,rfl⟩,h4⟩:=h
  obtain ⟨w1,_,w3⟩:=Rd.read_wf3 (split_ok _ _ 0) he
  split at h4
  ·rename_i u hu
   exact ⟨T,he,by rw [hu,wtEq_eq h4],w1,w3⟩
  ·cases h4
 ·cases h
theorem denSym:symsT denW 1 3000=none:=by
 obtain ⟨ns,rho,d,hof,gr,hd,hrk,_⟩:=Rf.of_inv (c:=3000) denW [] (fun _=>0) denW_ok (Nat.le_refl _) (Rf.inv_nil _ _)
 have hn:ns[d]?=some ns[d]:=List.getElem?_eq_getElem hd
 have hf:3000+rho d+2≤fuelF denW:=by unfold fuelF;omega
 obtain ⟨x,hx,_⟩:=Rf.total (fuelF denW) ⟨ns,3000⟩ d 0 rho 3000 rfl (Nat.le_refl _) gr.inv ns[d] hn (Nat.zero_le _) hf
 have h:=Rf.den_none hof (x:=x) hx
 have key:∀ m,readK (fuelF denW) (m+1) ⟨ns,3000⟩ d 0=none:=by
  intro m
  unfold readK
  rw [hx]
  obtain ⟨s',z⟩:=x
  cases z with
  | none=>rfl
  | some z=>cases h
 unfold symsT
 rw [hof,Option.bind_some,hn,Option.bind_some]
 split
 ·show (readK (fuelF denW) 1 ⟨ns,3000⟩ d 0).map _=none
  rw [key 0];rfl
 ·exact key 1
open Go.RowKit
open Ab
open Rf (Wt fuelF readK symsT)
structure ExAt (w:World) (xb:Nat) (t:Rd.Tr):Prop where
 ex:∃ rb rv,w.heap[xb]?=some (.cells #[rv] 74 (0,0))∧Enc rb w t rv
 wf:Rd.Wf t
 cnt:Rd.cnt t≤40
theorem ExAt.keep {w w':World} {xb:Nat} {t:Rd.Tr} (h:ExAt w xb t) (hc:Chg w w' []):ExAt w' xb t:=by
 obtain ⟨rb,rv,h1,h2⟩:=h.ex
 exact ⟨⟨rb,rv,hc.at h1 (by simp),Enc.keep (keep_chg hc) h2⟩,h.wf,h.cnt⟩
theorem ExAt.ok {w:World} {xb:Nat} {t:Rd.Tr} (h:ExAt w xb t) {u:Wt} (hu:planT t=some u):u.Ok:=(plan_ok t u h.wf (by have:=h.cnt;omega) hu).1
def codeV (z:Int):Value:=.int .i64 (code z)
def SymsR (w:World) (a:Option (List Int)) (e:Ending) (w':World):Prop:=Chg w w' []∧match a with
 | none=>e=.returned (.tuple #[.slice none 0 0,.int .i64 6])
 | some zs=>∃ l g,e=.returned (.tuple #[l,.int .i64 0])∧RowOf w' 100 (zs.map codeV) l g
def lenOf:Value→Nat
 | .slice _ n _=>n
 | _=>0
theorem row_sl {w:World} {e:TypeId} {zs:List Int} {v:Value} {g:Option Nat} (h:RowOf w e (zs.map codeV) v g):∃ ao cp,v=.slice ao zs.length cp:=by
 rcases h with ⟨h1,h2,_⟩ | ⟨b,cap,rest,_,h2,_⟩
 ·have:zs=[]:=by simpa using h2
  subst this
  exact ⟨_,_,h1⟩
 ·exact ⟨_,_,by simpa using h2⟩
def symRel (u:Wt) (c:Nat) (w:World) (B nb fb d k:Nat) (ans:Option (List Int)) (l:Value) (wr:World):Prop:=
 ∃ (zs:List Int) (g:Option Nat) (own:Nat→Option Own) (s:Rf.St) (r:Nat),RowOf wr 100 (zs.map codeV) l g∧Run u c wr B nb fb own s d r∧zs.length≤k+1∧r≤zs.length∧(∀ b,g=some b→own b=none∧w.heap.size≤b)∧On Z.bt w wr∧(∀ j,j < w.heap.size→wr.heap[j]?=w.heap[j]?)∧ans=(readK (fuelF u) (k+1 - zs.length) s d r).map (zs++·)
section
variable {u:Wt} {c:Nat} {w wr:World} {B nb fb d k r:Nat} {ans:Option (List Int)} {l:Value} {zs:List Int} {g:Option Nat} {own:Nat→Option Own} {s:Rf.St}
theorem SymRel.end (hrow:RowOf wr 100 (zs.map codeV) l g) (hz:zs.length≤k+1) (hk:k < zs.length) (hon:On Z.bt w wr) (hlow:∀ j,j < w.heap.size→wr.heap[j]?=w.heap[j]?) (hans:ans=(readK (fuelF u) (k+1 - zs.length) s d r).map (zs++·)):SymsR w ans (.returned (.tuple #[l,.int .i64 0])) wr:=by
 have e:k+1 - zs.length=0:=by omega
 rw [e,show readK (fuelF u) 0 s d r=some [] from rfl,Option.map_some,List.append_nil] at hans
 subst hans
 exact ⟨⟨hon,fun j hj _=>hlow j hj⟩,l,g,rfl,hrow⟩
theorem SymRel.next (hB:w.heap.size≤B) (hR:Run u c wr B nb fb own s d r) (hrow:RowOf wr 100 (zs.map codeV) l g) (hg:∀ b,g=some b→own b=none∧w.heap.size≤b) (hon:On Z.bt w wr) (hlow:∀ j,j < w.heap.size→wr.heap[j]?=w.heap[j]?) (hans:ans=(readK (fuelF u) (k+1 - zs.length) s d r).map (zs++·)) {m:Nat} (hm:k+1 - zs.length=m+1) (hk:k≤60) (hr:r≤zs.length) {e:Ending} {w5:World} (hN:NextS u c wr B nb fb own s d r e w5):
  (e=.returned (.int .i64 0)∧ans=none∧Chg w w5 [])∨∃ z,e=.returned (.int .i64 (code z))∧∃ v' w6,(Builtin.append_ #[97,97] 97 #[l,.slice (some ⟨w5.heap.size,0,none⟩) 1 1]).run Tryz.prog (w5.alloc (.cells #[codeV z] 100))=.ok v' w6∧symRel u c w B nb fb d k ans v' w6∧k+1 - lenOf v' < k+1 - zs.length:=by
 obtain ⟨hon5,hkept,h⟩:=hN
 obtain ⟨lo1,lo2,lo3,lo4,lo5,lo6⟩:=hR.low
 have low5:∀ j,j < w.heap.size→w5.heap[j]?=w.heap[j]?:=by
  intro j hj
  rw [hkept j (Nat.lt_of_lt_of_le hj hon.size) (lo4 j (by omega)) (by omega) (by omega),hlow j hj]
 rw [hm] at hans
 rcases h with ⟨he,s',hs⟩ | ⟨s',z,own',he,hs,hR',hown⟩
 ·left
  refine ⟨he,?_,hon.trans hon5,fun j hj _=>low5 j hj⟩
  rw [hans]
  unfold readK
  rw [hs]
  rfl
 ·right
  have hg5:∀ b,g=some b→(b < wr.heap.size∧b≠fb∧b≠nb):=by
   intro b hb
   rcases hrow with ⟨_,_,h3⟩ | ⟨b',cap,rest,h1,_,h3,_⟩
   ·rw [h3] at hb;cases hb
   ·rw [h1] at hb
    cases hb
    obtain ⟨at1,rho,c',n,hNb,_⟩:=hR
    refine ⟨lt_of_heap h3,?_,?_⟩
    ·rintro rfl
     rw [hNb.net.fuel] at h3
     exact absurd (Obj.cells.inj (Option.some.inj h3)).2.1 (by decide)
    ·rintro rfl
     rw [hNb.blk] at h3
     exact absurd (Obj.cells.inj (Option.some.inj h3)).2.1 (by decide)
  have hrow5:RowOf w5 100 (zs.map codeV) l g:=by
   rcases hrow with h | ⟨b,cap,rest,h1,h2,h3,h4⟩
   ·exact Or.inl h
   ·obtain ⟨q1,q2,q3⟩:=hg5 b h1
    exact Or.inr ⟨b,cap,rest,h1,h2,by rw [hkept b q1 (hg b h1).1 q2 q3];exact h3,h4⟩
  obtain ⟨v',w6,b,own6,a1,a2,a3,a4,a5,a6,a7⟩:=sym_push hR' hrow5 (fun b hb=>⟨hown b (hg5 b hb).1 (hg b hb).1,(hg b hb).2⟩) (hon.trans hon5) low5 (by omega) z
  refine ⟨z,he,v',w6,a1,⟨zs++[z],some b,own6,s',r+1,a2,a3,by simp;omega,by simp;omega,fun b' hb'=>by cases hb';exact ⟨a4,a5⟩,a6,a7,?_⟩,?_⟩
  ·rw [hans]
   have e:k+1 - (zs++[z]).length=m:=by simp;omega
   rw [e]
   show (readK (fuelF u) (m+1) s d r).map _=_
   rw [readK,hs]
   simp only
   cases readK (fuelF u) m s' d (r+1) with
   | none=>rfl
   | some x=>simp
  ·obtain ⟨ao,cp,hv⟩:=row_sl a2
   rw [hv]
   simp [lenOf]
   omega
end
open Go.RowKit
open Ab
open Rf (Wt fuelF readK symsT)
theorem sym_start {u:Wt} {c:Nat} {w w1 w2 w3:World} {nb fb d k:Nat} {own:Nat→Option Own} {ns:List Rf.Nd} {n:Rf.Nd} (c1:Chg w w1 []) (c2:Chg w1 w2 []) (hR:Run u c w2 w1.heap.size nb fb own ⟨ns,c⟩ d 0) (hof:Rf.of u []=some (ns,d)) (hn:ns[d]?=some n) (c3:Chg (w2.alloc (.cells #[] 100)) w3 []):
  (n.pos=false→symRel u c w w1.heap.size nb fb d k (symsT u k c) (.slice (some ⟨w2.heap.size,0,none⟩) 0 0) w3)∧
  (n.pos=true→∃ v' w4,(Builtin.append_ #[97,97] 97 #[.slice (some ⟨w2.heap.size,0,none⟩) 0 0,.slice (some ⟨w3.heap.size,0,none⟩) 1 1]).run Tryz.prog (w3.alloc (.cells #[.int .i64 1] 100))=.ok v' w4∧symRel u c w w1.heap.size nb fb d k (symsT u k c) v' w4):=by
 have c12:=c1.trans c2
 have ca:Chg w2 (w2.alloc (.cells #[] 100)) []:=Chg.alloc _ _
 have cz:Chg w w3 []:=(c12.trans ca).trans c3
 have hrow:RowOf w3 100 (([]:List Int).map codeV) (.slice (some ⟨w2.heap.size,0,none⟩) 0 0) (some w2.heap.size):=Or.inr ⟨w2.heap.size,0,[],rfl,rfl,c3.at (cells_new _ _) (by simp),Nat.le_refl _,Nat.le_refl _⟩
 obtain ⟨own2,hR2,ho1,ho2⟩:=hR.cut
 have hR3:Run u c w3 w1.heap.size nb fb own2 ⟨ns,c⟩ d 0:=(hR2.still ca).still c3
 have hg:∀ b,some w2.heap.size=some b→own2 b=none∧w.heap.size≤b:=by
  intro b hb
  cases hb
  exact ⟨ho2 _ (Nat.le_refl _),c12.on.size⟩
 have hS:symsT u k c=if n.pos=true then (readK (fuelF u) k ⟨ns,c⟩ d 0).map (43::·) else readK (fuelF u) (k+1) ⟨ns,c⟩ d 0:=by
  unfold symsT
  rw [hof,Option.bind_some,hn,Option.bind_some]
 constructor
 ·intro hp
  refine ⟨[],some w2.heap.size,own2,⟨ns,c⟩,0,hrow,hR3,Nat.zero_le _,Nat.le_refl _,hg,cz.on,fun j hj=>cz.low j hj (by simp),?_⟩
  rw [hS,if_neg (by rw [hp];decide)]
  simp
 ·intro hp
  obtain ⟨v',w',b,own',a1,a2,a3,a4,a5,a6,a7⟩:=sym_push hR3 hrow hg cz.on (fun j hj=>cz.low j hj (by simp)) (Nat.zero_le _) 43
  refine ⟨v',w',a1,[43],some b,own',⟨ns,c⟩,0,a2,a3,by simp,Nat.zero_le _,fun b' hb'=>by cases hb';exact ⟨a4,a5⟩,a6,a7,?_⟩
  rw [hS,if_pos hp]
  simp
open Go.RowKit
open Ab
open Rf (Wt fuelF readK symsT)
def letC (c:Int):UInt8:=if c=1 then 43 else if c=2 then 45 else if c=3 then 111 else if c=4 then 119 else if c=5 then 45 else if c=6 then 48 else 43
def letB (z:Int):UInt8:=letC (code z)
def byteV (b:UInt8):Value:=.int .u8 (b.toNat:Int)
theorem infoU8:(Tryz.prog.info? 5).map (fun i=>(i.zero,i.size,i.bytes))=some (some (.int .u8 0),1,1):=by kernel_rfl
def DigR (w:World) (a:Option (List Int)) (e:Ending) (w':World):Prop:=Chg w w' []∧match a with
 | none=>e=.returned (.tuple #[.string ⟨#[]⟩,.int .i64 6])
 | some zs=>e=.returned (.tuple #[.string ⟨(zs.map letB).toArray⟩,.int .i64 0])
def digRel (w:World) (zs:List Int) (tx i:Value) (wr:World):Prop:=
 ∃ n:Nat,n≤zs.length∧i=.int .i64 n∧wr.ownsRow w.heap.size 5 1 tx n ((zs.take n).map (fun z=>byteV (letB z)))∧Below w.heap.size w wr
theorem row_cell {w:World} {zs:List Int} {l:Value} {g:Option Nat} (h:RowOf w 100 (zs.map codeV) l g) {n:Nat} (hn:n < zs.length):∃ b cap,l=.slice (some ⟨b,0,none⟩) zs.length cap∧b < w.heap.size∧w.cell? ⟨b,n,none⟩=some (.int .i64 (code zs[n])):=by
 rcases h with ⟨_,h2,_⟩ | ⟨b,cap,rest,_,h2,h3,_⟩
 ·have:zs=[]:=by simpa using h2
  subst this
  simp at hn
 ·refine ⟨b,cap,by simpa using h2,lt_of_heap h3,cell_of_block h3 ?_⟩
  simp [List.getElem?_append_left,hn,codeV]
theorem own_str {w:World} {B n:Nat} {v:Value} {l:List UInt8} (h:w.ownsRow B 5 1 v n (l.map byteV)) (hn:n=l.length) (h0:0 < n):(convert 84 9 v).run Tryz.prog w=.ok (.string ⟨l.toArray⟩) w:=by
 have h':=h
 rcases h.2 with ⟨_,e⟩ | ⟨g,cap,cur,rfl,h2⟩
 ·omega
 ·subst hn
  refine run_convert_bytes_back (P:=Tryz.prog) w 84 9 5 ⟨g,0,none⟩ cap l Tryz.underlying84 Tryz.underlying5 Tryz.underlying9 fun j hj=>?_
  refine h'.cells (g:=g) rfl j _ ?_
  simp [hj,byteV]
open Go.RowKit
open Go.Deep (BT)
def pickI (c:Int) (n:Nat):Nat:=if c < 0 then ((-(c+1)) % (n:Int)).toNat else (c % (n:Int)).toNat
theorem pickI_lt (c:Int) (n:Nat) (hn:0 < n):pickI c n < n:=by
 unfold pickI
 split
 ·have:=Int.emod_lt_of_pos (-(c+1)) (show (0:Int) < n by omega)
  omega
 ·have:=Int.emod_lt_of_pos c (show (0:Int) < n by omega)
  omega
theorem pick_any (c:Int) (n:Nat) (w:World) (h0:-9223372036854775808≤c) (h1:c≤9223372036854775807) (hn:0 < n) (hm:n≤4000000):
  Calls Tryz.prog 15 #[.int .i64 c,.int .i64 n] w fun e w'=>e=.returned (.int .i64 (pickI c n))∧w=w':=by
 by_cases hc:c < 0
 ·have e1:-(c+1).tmod (n:Int)=(pickI c n:Int):=by
   rw [pickI,if_pos hc,←Int.neg_tmod,Int.tmod_eq_emod_of_nonneg (by omega),Int.toNat_of_nonneg (Int.emod_nonneg _ (by omega))]
  generalize pickI c n=i at*
  have E:=hideq e1
  clear e1
  go_enter Tryz.func15,Tryz.ntmps15
  go_wp2_with fail
  go_ret
  exact ⟨ret_int E.out,rfl⟩
 ·have e1:c % (n:Int)=(pickI c n:Int):=by
   rw [pickI,if_neg hc,Int.toNat_of_nonneg (Int.emod_nonneg _ (by omega))]
  generalize pickI c n=i at*
  have E:=hideq e1
  clear e1
  go_enter Tryz.func15,Tryz.ntmps15
  go_wp2_with fail
  go_ret
  exact ⟨ret_int E.out,rfl⟩
open Go.RowKit
open Ab
open Rf (Wt fuelF readK symsT denW denW_ok)
theorem ExAt.of {B:Nat} {w:World} {T:Rd.Tr} {v:Value} (h:ExprAt B w (some T) v) (wf:Rd.Wf T) (cnt:Rd.cnt T≤40):∃ xb,v=.pointer (some ⟨xb,0,none⟩)∧ExAt w xb T:=by
 obtain ⟨rb,xb,rv,h1,_,_,h4,h5⟩:=h
 exact ⟨xb,h1,⟨rb,rv,h4,h5.2⟩,wf,cnt⟩
theorem chg_bel {w w':World} (h:Chg w w' []):Below w.heap.size w w':=h.below (Nat.le_refl _) (fun k hk=>by simp at hk)
theorem bel_app {w w1 w2:World} (h:Below w.heap.size w w1) (h2:Below w1.heap.size w1 w2):Below w.heap.size w w2:=h.trans (h2.mono h.size)
open Go.ChangeShapes Go.WideShapes Go.ChangeAt Go.RowKit
def putCells (xs:Array Value):Obj→Obj
 | .cells _ t f=>.cells xs t f
 | o=>o
def layTabs (w:World):World:=
 { w with heap:=((w.heap.modify 0 (putCells #[.int .u64 1,.int .u64 10,.int .u64 100,.int .u64 1000,.int .u64 10000,.int .u64 100000,.int .u64 1000000,.int .u64 10000000,.int .u64 100000000,.int .u64 1000000000,.int .u64 10000000000,.int .u64 100000000000,.int .u64 1000000000000,.int .u64 10000000000000,.int .u64 100000000000000,.int .u64 1000000000000000,.int .u64 10000000000000000,.int .u64 100000000000000000,.int .u64 1000000000000000000,.int .u64 10000000000000000000])).modify 1 (putCells #[.int .u8 0,.int .u8 1,.int .u8 28,.int .u8 2,.int .u8 29,.int .u8 14,.int .u8 24,.int .u8 3,.int .u8 30,.int .u8 22,.int .u8 20,.int .u8 15,.int .u8 25,.int .u8 17,.int .u8 4,.int .u8 8,.int .u8 31,.int .u8 27,.int .u8 13,.int .u8 23,.int .u8 21,.int .u8 19,.int .u8 16,.int .u8 7,.int .u8 26,.int .u8 12,.int .u8 18,.int .u8 6,.int .u8 11,.int .u8 5,.int .u8 10,.int .u8 9])).modify 2 (putCells #[.int .u8 0,.int .u8 1,.int .u8 56,.int .u8 2,.int .u8 57,.int .u8 49,.int .u8 28,.int .u8 3,.int .u8 61,.int .u8 58,.int .u8 42,.int .u8 50,.int .u8 38,.int .u8 29,.int .u8 17,.int .u8 4,.int .u8 62,.int .u8 47,.int .u8 59,.int .u8 36,.int .u8 45,.int .u8 43,.int .u8 51,.int .u8 22,.int .u8 53,.int .u8 39,.int .u8 33,.int .u8 30,.int .u8 24,.int .u8 18,.int .u8 12,.int .u8 5,.int .u8 63,.int .u8 55,.int .u8 48,.int .u8 27,.int .u8 60,.int .u8 41,.int .u8 37,.int .u8 16,.int .u8 46,.int .u8 35,.int .u8 44,.int .u8 21,.int .u8 52,.int .u8 32,.int .u8 23,.int .u8 11,.int .u8 54,.int .u8 26,.int .u8 40,.int .u8 15,.int .u8 34,.int .u8 20,.int .u8 31,.int .u8 10,.int .u8 25,.int .u8 14,.int .u8 19,.int .u8 9,.int .u8 13,.int .u8 8,.int .u8 7,.int .u8 6]) }
theorem readsDenied (os:Os) {H:Type} (enc:TypeId×Value→H):∃ places,DataW.whole enc Tryz.prog ((layTabs (World.holding Tryz.prog os ⟨#[],#[],[]⟩)).forCall (fun _ _=>0) ⟨#[],#[.int .i64 0],[]⟩).memory Tryz.f7.params.toList Rows.deniedSpec.vars false #[Value.int .i64 0].toList 8=some ([.lit (.int .i64 0)],[],places):=
 ⟨[],by kernel_rfl⟩
theorem saidDenied:Rows.DeniedSaid:=
 OpenClaim.holds_of_cond 7 Tryz.f7 rfl rfl rfl rfl rfl rfl rfl ⟨rfl,rfl,rfl,rfl,rfl⟩ rfl rfl rfl rfl rfl (by kernel_rfl) Tryz.func7 (by kernel_rfl)
  (of_decide_eq_true (by kernel_rfl)) (by unfold Func.isWrapper;first | (rw [if_pos (by decide +kernel)];kernel_rfl) | (rw [if_neg (by decide +kernel)];exact ⟨rfl,rfl⟩))
  (fun os started H enc _ F=>by rw [OpenClaim.pre_eq_preRow];exact liftedDenied os started H enc F)
theorem plainDenied (f:FuncId) (fn:Func) (hf:Tryz.pinned.checked.prog.funcNamed "reals/realskeep.Denied"=some f) (hfn:Tryz.pinned.checked.prog.funcs[f]?=some fn):
  false=Tryz.pinned.checked.prog.looks []∧∀ (j:Nat) t,fn.params[j]?=some t→Tryz.pinned.checked.prog.wantsStandIn t=false:=by
 obtain rfl:f=7:=Option.some.inj ((show Tryz.prog.funcNamed "reals/realskeep.Denied"=some 7 by kernel_rfl).symm.trans hf) |>.symm
 obtain rfl:fn=Tryz.f7:=(Option.some.inj (Tryz.func7.symm.trans hfn)).symm
 refine ⟨by kernel_rfl,fun j t ht=>?_⟩
 rw [Tryz.params7] at ht
 obtain rfl:t=3:=by simpa using Array.mem_of_getElem? ht
 exact (show Tryz.prog.wantsStandIn 3=false by kernel_rfl)
theorem denied_holds:Rows.DeniedCardSaid:=
 Claim7.holds_tied_plain_at .later [] _ _ _ _ saidDenied (fun _ h=>by cases h) (by kernel_rfl) (fun _ h=>by cases h) denied_row_tie rfl ⟨rfl,rfl⟩ (by kernel_rfl) rfl plainDenied (by kernel_rfl)
end Go.Proofs.YteghhlfmcjmnoaaGreatDoor
