import Derived.Test.YthhffdeihoofiaaGreatDoorCFu12
import Derived.Test.YthhffdeihoofiaaGreatDoorCFu10
import Derived.Test.YthhffdeihoofiaaGreatDoorCFu11
import Derived.Deep.RegionHeld3
import Derived.LoopN
set_option linter.all false
set_option maxRecDepth 100000
set_option maxHeartbeats 2000000
namespace Go.Proofs.YthhffdeihoofiaaGreatDoor
open List (length_cons)
open Nat (le_trans zero_add)
open Bool (and_eq_true)
open Go.Proofs.Tryz
namespace Rd
open Go.Deep (BT)
variable {ws:List Wd}{st:St}
theorem aTJ {x:Int}(h:dL (aB ws st.next)=(1,dec x))(b:cQ x)(a:x≠0):term ws st=(x,st.aM):=by grind [dL,aB,dec,cQ,term,Dp,aJ3,Ma]
theorem aEb (x y:Int)(r:LN):dK (x::y::r)=(1,dec x)::(3,[44])::dK (y::r):=rfl
theorem aMe:∀(r:LN) (f c:Nat) (a:LN) (st:St),r≠[]->(∀y∈r,cQ y/\y≠0)->c+r.length<=9->Seg ws st.next (dK r)->
  NO (terms ws f c a st) (some (some (a++r),{st with next:=st.next+(dK r).length})):=by
 intro r
 induction r with
 |nil=>intro f c a st h;exact absurd rfl h
 |cons x r s=>
  intro f c a st _ e hc g
  cases f with
  |zero=>exact NO.no _
  |succ f=>
   obtain⟨p,i⟩:=e x (by simp)
   have o:dL (aB ws st.next)=(1,dec x):=by
    cases r with
    |nil=>exact g.1
    |cons y r=>exact g.1
   have d:=aTJ o p i;unfold terms;rw[d]
   cases st.okB with
   |false=>exact NO.no _
   |true=>
    cases st.aM.okB with
    |false=>exact NO.no _
    |true=>
     have b:(x==0)=false:=by simpa using i
     cases r with
     |nil=>
      have j:dL (aB ws st.aM.next)=(3,[93]):=g.2.1
      have l:tk ws st.aM ⟨#[93]⟩=true:=by rw[rW j];rfl
      right;simp only[Bool.and_self,cond_true,b,cond_false,l];rfl
     |cons y r=>
      have j:dL (aB ws st.aM.next)=(3,[44]):=g.2.1
      have l:tk ws st.aM ⟨#[93]⟩=false:=by rw[rW j];rfl
      have n:tk ws st.aM ⟨#[44]⟩=true:=by rw[rW j];rfl
      have k:(c==8)=false:=by
       simp only[length_cons]at hc;exact beq_eq_false_iff_ne.2 (by omega)
      simp only[Bool.and_self,cond_true,b,cond_false,l,n,k];have:=s f (c+1) (a++[x]) st.aM.aM (by simp) (fun z q=>e z (by simp[q])) (by simp only[length_cons]at hc ⊢;omega) g.2.2;refine this.trans (Or.inr ?_);rw[aEb];simp only[List.append_assoc,List.cons_append,List.nil_append,length_cons,St.aM];rw[show st.next+1+1+(dK (y::r)).length=st.next+((dK (y::r)).length+1+1) by omega]
theorem aSl {a b:Option (Option (List Int)×St)}(h:NO a b):NO (lO a) (lO b):=by
 rcases h with h|h
 ·rw[h];exact NO.no _
 ·rw[h];exact NO.refl _
theorem aWB (ws:List Wd){ts:LN}(h:Db ts):BB ws (dD 4 0 ts):=by
 obtain⟨x,r,rfl,q,o,i,h8⟩:=h;refine Pu (k:=2) (fun e=>absurd (show(4:Int)=14 from e) (by decide)) (b:=[99,102]) (r:=(3,[91])::(1,dec x)::(3,[59])::dK r) rfl (by decide) ?_;intro f st p;have a:Seg ws st.next ((2,[99,102])::(3,[91])::(1,dec x)::(3,[59])::dK r):=p;obtain⟨j,v,l,w,d⟩:=a
 have n:named (aB ws st.next).text=4:=by
  unfold named isT;rw[Ma j];rfl
 have k1:tk ws st.aM ⟨#[91]⟩=true:=by rw[rW (st:=st.aM) v];rfl
 have u:tk ws st.aM.aM.aM ⟨#[59]⟩=true:=by rw[rW (st:=st.aM.aM.aM) w];rfl
 have s:(aB ws st.aM.aM.next).kind=1:=Dp l;have y:valTo (aB ws st.aM.aM.next).text (aB ws st.aM.aM.next).text.size=x:=aJ3 (Ma l) q.1;have g:=aMe (ws:=ws) r 8 1 [x] st.aM.aM.aM.aM (by intro e;rw[e]at i;simp at i) o (by omega) d
 cases f with
 |zero=>exact NO.no _
 |succ f=>
  rw[p5,Dp j,n];unfold nameOf continued
  cases st.okB with
  |false=>exact NO.no _
  |true=>
   cases decide (st.aM.next<900)&&st.aM.okB with
   |false=>exact NO.no _
   |true=>
    rw[k1,s,u,y];refine(aSl g).trans ?_;simp only[lO]
    cases St.okB { st.aM.aM.aM.aM with next:=st.aM.aM.aM.aM.next+(dK r).length} with
    |false=>exact NO.no _
    |true=>
     right;rw[aSS];simp only[cond_true,St.aM,bK]
     have e:st.next+1+1+1+1+(dK r).length=st.next+(tw (dD 4 0 (x::r))).length:=by
      show _=st.next+((dK r).length+1+1+1+1);omega
     rw[e];rfl
variable {k:Int}
theorem Ho {t:Tr}{b:EW}(h:dL (aB ws st.next)=(k,b))(e:b≠[43])(g:b≠[45])(f:Nat):NO (parse ws f 1 (some t) st) (some (some t,st)):=by
 cases f with
 |zero=>exact NO.no _
 |succ f=>
  have a:tk ws st ⟨#[43]⟩=false:=by rw[rW h];simp[e]
  have d:tk ws st ⟨#[45]⟩=false:=by rw[rW h];simp[g]
  rw[p1]
  cases st.okB with
  |false=>exact NO.no _
  |true=>simp only[a,d,cond_true,cond_false];exact NO.refl _
theorem Xn (x:Tr):tw (fD 14 x)=(3,[40])::(tw x++[(3,[41])]):=rfl
variable {x:Tr}
theorem aRe (h:BB ws x):∀f st,Seg ws st.next (tw (fD 14 x))->NO (parse ws f 6 none st) (some (some (strip (fD 14 x)),bK (fD 14 x) st)):=by
 intro f st e;rw[Xn]at e;obtain⟨k,a⟩:=e;rw[aJb]at a;obtain⟨a,d,_⟩:=a
 have k0:tk ws st ⟨#[40]⟩=true:=by rw[rW k];rfl
 cases f with
 |zero=>exact NO.no _
 |succ f=>
  rw[p6,k0]
  cases st.okB with
  |false=>exact NO.no _
  |true=>
   obtain⟨g,i⟩:=h.b0 f st.aM.lI a (aHh d (by decide) (by decide));have b:=Ho (st:=bK x st.aM.lI) (t:=strip x) d (by decide) (by decide) g;refine((i.trans b).next _).trans ?_;show NO (iE ws (some (strip x)) (bK x st.aM.lI)) _;unfold iE
   cases (bK x st.aM.lI).fV with
   |false=>exact NO.no _
   |true=>
    have j:tk ws (bK x st.aM.lI).out ⟨#[41]⟩=true:=by rw[rW (st:=(bK x st.aM.lI).out) d];rfl
    right;simp only[j,cond_true];simp only[bK,St.out,St.aM,St.lI,Xn,dep,ndc,fD,Option.some.injEq,Prod.mk.injEq,St.mk.injEq,true_and];refine⟨rfl,?_,by omega,?_,rfl⟩
    ·show st.next+1+(tw x).length+1=st.next+((3,[40])::(tw x++[(3,[41])]):List Tok).length;rw[length_cons,List.length_append,length_cons,List.length_nil];omega
    ·show max st.deepest (st.around+1+dep x)=max st.deepest (st.around+(dep x+1));rw[show st.around+1+dep x=st.around+(dep x+1) by omega]
theorem aT9 (h:BB ws x):BB ws (fD 14 x):=by
 refine Pu (fun _=>aRe h) (k:=3) (b:=[40]) (r:=tw x++[(3,[41])]) rfl (by decide) ?_;intro f st a;have e:dL (aB ws st.next)=(3,[40]):=a.1;have d:=aRe h
 cases f with
 |zero=>exact NO.no _
 |succ f=>
  rw[p5,Dp e]
  cases st.okB with
  |false=>exact NO.no _
  |true=>exact d f st a
theorem Xt (a:k=10\/k=11\/k=12\/k=13)(x:Tr):tw (fD k x)=(2,sym k)::tw x:=by
 rcases a with rfl|rfl|rfl|rfl<;>rfl
theorem aWC (a:k=10\/k=11\/k=12\/k=13)(h:BB ws x)(u:aR x=14):BB ws (fD k x):=by
 refine Pu (fun e=>absurd (show k=14 from e) (by omega)) (k:=2) (b:=sym k) (r:=tw x) (Xt a _) (by rcases a with rfl|rfl|rfl|rfl<;>decide) ?_;intro f st i;rw[Xt a]at i;obtain⟨j,d⟩:=i
 have s:named (aB ws st.next).text=k:=by
  unfold named isT;rw[Ma j]
  rcases a with rfl|rfl|rfl|rfl<;>rfl
 have q:=h.b6 u
 cases f with
 |zero=>exact NO.no _
 |succ f=>
  have l:(k==0)=false:=by rcases a with rfl|rfl|rfl|rfl<;>rfl
  have n:(k==2||k==3)=false:=by rcases a with rfl|rfl|rfl|rfl<;>rfl
  have o:(k==4)=false:=by rcases a with rfl|rfl|rfl|rfl<;>rfl
  have p:(k==5||k==14)=false:=by rcases a with rfl|rfl|rfl|rfl<;>rfl
  have g:(k==14)=false:=by rcases a with rfl|rfl|rfl|rfl<;>rfl
  rw[p5,Dp j,s];unfold nameOf;rw[l,n,o]
  cases st.okB with
  |false=>exact NO.no _
  |true=>
   refine((q f st.aM d).next _).trans ?_;show NO (eB k (some (strip x)) (bK x st.aM)) _;show NO (bif (bK x st.aM).okB then some (some (fD k (strip x)),(bK x st.aM).node)else none) _
   cases (bK x st.aM).okB with
   |false=>exact NO.no _
   |true=>
    right
    have w:strip (fD k x)=fD k (strip x):=by
     unfold fD;simp only[strip,g,cond_false]
    have d1:dep (fD k x)=dep x:=by
     show(bif k==5||k==14 then dep x+1 else max (dep x) (dep .nil))=_;rw[p];simp[dep]
    have v:ndc (fD k x)=ndc x+1:=by
     show(bif k==14 then ndc x else ndc x+ndc .nil+1)=_;rw[g];simp[ndc]
    simp only[cond_true,w,bK,d1,v,Xt a,St.node,St.aM,Option.some.injEq,Prod.mk.injEq,St.mk.injEq,true_and];refine⟨?_,by omega⟩;rw[length_cons];omega
theorem aRV (x:Tr):tw (fD 5 x)=(3,[45])::tw x:=rfl
theorem aT7 (h:BB ws x)(d:3<=aN (aR x)):BB ws (fD 5 x):=by
 have b4:∀f st,Seg ws st.next (tw (fD 5 x))->NO (parse ws f 4 none st) (some (some (strip (fD 5 x)),bK (fD 5 x) st)):=by
  intro f st b;rw[aRV]at b;obtain⟨j,a⟩:=b
  have k0:tk ws st ⟨#[45]⟩=true:=by rw[rW j];rfl
  cases f with
  |zero=>exact NO.no _
  |succ f=>
   rw[p4,k0]
   cases st.okB with
   |false=>exact NO.no _
   |true=>
    refine((h.b4 d f st.aM.lI a).next _).trans ?_;show NO (bif (bK x st.aM.lI).fV then eB 5 (some (strip x)) (bK x st.aM.lI).out else none) _
    cases (bK x st.aM.lI).fV with
    |false=>exact NO.no _
    |true=>
     show NO (bif (bK x st.aM.lI).out.okB then some (some (fD 5 (strip x)),(bK x st.aM.lI).out.node)else none) _
     cases (bK x st.aM.lI).out.okB with
     |false=>exact NO.no _
     |true=>
      right
      have g:ndc (fD 5 x)=ndc x+1:=by
       show ndc x+ndc .nil+1=_;simp[ndc]
      have d1:dep (fD 5 x)=dep x+1:=rfl;have i:strip (fD 5 x)=fD 5 (strip x):=rfl;simp only[cond_true,i,bK,d1,g,aRV,St.node,St.aM,St.lI,St.out,Option.some.injEq,Prod.mk.injEq,St.mk.injEq,true_and];refine⟨?_,by omega,?_,by omega⟩
      ·simp;omega
      ·rw[show st.around+1+dep x=st.around+(dep x+1) by omega]
 exact⟨fun e=>absurd (show(5:Int)=14 from e) (by decide),fun e=>absurd (show(3:Int)=4 from e) (by decide),fun _=>b4,fun _=>Xq b4,aSf (Xq b4)⟩
theorem Qo (a:k=6\/k=7\/k=8\/k=9)(l r:Tr):tw (jF k l r)=tw l++(3,sym k)::tw r:=by
 rcases a with rfl|rfl|rfl|rfl<;>rfl
theorem Vk (a:k=6\/k=7\/k=8\/k=9)(l r:Tr):strip (jF k l r)=jF k (strip l) (strip r):=by grind [strip,jF]
theorem aMv (a:k=6\/k=7\/k=8\/k=9)(l r:Tr)(st:St):(bK r (bK l st).aM).node=bK (jF k l r) st:=by
 have d1:dep (jF k l r)=max (dep l) (dep r):=by rcases a with rfl|rfl|rfl|rfl<;>rfl
 have b:ndc (jF k l r)=ndc l+ndc r+1:=by rcases a with rfl|rfl|rfl|rfl<;>rfl
 simp only[bK,d1,b,Qo a,St.node,St.aM,St.mk.injEq,true_and];refine⟨?_,?_,by omega⟩
 ·simp;omega
 ·omega
variable {X r:Tr}
theorem Ip:NO (operOf k X (some r) st) (some (some (jF k X r),st.node)):=by grind [operOf,jF,NO.no,NO.refl]
theorem aQ7 (i:k=8\/k=9)(x:BB ws X)(y:BB ws r)(v:2<=aN (aR X))(w:3<=aN (aR r)):BB ws (jF k X r):=by
 have b:k=6\/k=7\/k=8\/k=9:=by omega
 have b2:∀f st,Seg ws st.next (tw (jF k X r))->∃a,NO (parse ws f 2 none st) (parse ws a 3 (some (strip (jF k X r))) (bK (jF k X r) st)):=by
  intro f st u;rw[Qo b,aJb]at u;obtain⟨j,q,n⟩:=u;obtain⟨a,s⟩:=x.b2 v f st j
  cases a with
  |zero=>exact⟨0,s.trans (NO.no _)⟩
  |succ a=>
   refine⟨a,s.trans ?_⟩;rw[p3]
   cases (bK X st).okB with
   |false=>exact NO.no _
   |true=>
    have h:=y.b4 w a (bK X st).aM n
    have g:NO ((parse ws a 4 none (bK X st).aM).next fun z p=>(operOf k (strip X) z p).next fun o d=>parse ws a 3 o d) (parse ws a 3 (some (strip (jF k X r))) (bK (jF k X r) st)):=by
     refine(h.next _).trans ?_;show NO ((operOf k (strip X) (some (strip r)) (bK r (bK X st).aM)).next fun o d=>parse ws a 3 o d) _;refine(Ip.next _).trans (Or.inr ?_);rw[Vk b,<-aMv b];rfl
    rcases i with rfl|rfl
    ·have k0:tk ws (bK X st) ⟨#[42]⟩=true:=by rw[rW (st:=bK X st) q];rfl
     rw[k0];exact g
    ·have k0:tk ws (bK X st) ⟨#[42]⟩=false:=by rw[rW (st:=bK X st) q];rfl
     have k1:tk ws (bK X st) ⟨#[47]⟩=true:=by rw[rW (st:=bK X st) q];rfl
     rw[k0,k1];exact g
 refine⟨fun e=>absurd (show k=14 from e) (by omega),?_,?_,fun _=>b2,aSf b2⟩
 ·intro e;rcases i with rfl|rfl<;>exact absurd (show(2:Int)=4 from e) (by decide)
 ·intro e;rcases i with rfl|rfl<;>exact absurd (show(3:Int)<=2 from e) (by decide)
theorem aQ6 (g:k=6\/k=7)(z:BB ws X)(A:BB ws r)(y:2<=aN (aR r)):BB ws (jF k X r):=by
 have b:k=6\/k=7\/k=8\/k=9:=by omega
 have b0:∀f st,Seg ws st.next (tw (jF k X r))->oN ws (bK (jF k X r) st).next->∃a,NO (parse ws f 0 none st) (parse ws a 1 (some (strip (jF k X r))) (bK (jF k X r) st)):=by
  intro f st x w;rw[Qo b,aJb]at x;obtain⟨p,i,q⟩:=x;obtain⟨a,v⟩:=z.b0 f st p (aHh i (by rcases g with rfl|rfl<;>decide) (by rcases g with rfl|rfl<;>decide))
  cases a with
  |zero=>exact⟨0,v.trans (NO.no _)⟩
  |succ a=>
   refine⟨a,v.trans ?_⟩;rw[p1]
   cases (bK X st).okB with
   |false=>exact NO.no _
   |true=>
    obtain⟨f3,j⟩:=A.b2 y a (bK X st).aM q
    have o:oN ws (bK r (bK X st).aM).next:=by
     rw[<-aMv b]at w;exact w
    have n:=j.trans (Hp o f3)
    have h:NO ((parse ws a 2 none (bK X st).aM).next fun B u=>(operOf k (strip X) B u).next fun s d=>parse ws a 1 s d) (parse ws a 1 (some (strip (jF k X r))) (bK (jF k X r) st)):=by
     refine(n.next _).trans ?_;show NO ((operOf k (strip X) (some (strip r)) (bK r (bK X st).aM)).next fun s d=>parse ws a 1 s d) _;refine(Ip.next _).trans (Or.inr ?_);rw[Vk b,<-aMv b];rfl
    rcases g with rfl|rfl
    ·have k0:tk ws (bK X st) ⟨#[43]⟩=true:=by rw[rW (st:=bK X st) i];rfl
     rw[k0];exact h
    ·have k0:tk ws (bK X st) ⟨#[43]⟩=false:=by rw[rW (st:=bK X st) i];rfl
     have k1:tk ws (bK X st) ⟨#[45]⟩=true:=by rw[rW (st:=bK X st) i];rfl
     rw[k0,k1];exact h
 refine⟨fun e=>absurd (show k=14 from e) (by omega),?_,?_,?_,b0⟩
 ·intro e;rcases g with rfl|rfl<;>exact absurd (show(1:Int)=4 from e) (by decide)
 ·intro e;rcases g with rfl|rfl<;>exact absurd (show(3:Int)<=1 from e) (by decide)
 ·intro e;rcases g with rfl|rfl<;>exact absurd (show(2:Int)<=1 from e) (by decide)
theorem aT6:∀c,Good c->BB ws c:=by
 intro c
 induction c with
 |nil=>intro h;exact h.elim
 |node p q a l r b g=>
  intro h;obtain⟨k,v,ts⟩:=a;obtain⟨rfl,rfl,h⟩:=h;simp only at h
  rcases h with⟨rfl,e,rfl,rfl,rfl⟩|⟨e,f,rfl,rfl⟩|⟨rfl,rfl,e,rfl,rfl⟩|⟨rfl,f,d,i,rfl⟩|⟨e,f,d,i,rfl⟩|⟨rfl,f,d,rfl⟩|⟨e,f,d,i,n,j⟩
  ·exact aT8 ws e
  ·obtain⟨rfl,rfl⟩:=Prod.mk.inj f;exact aPh ws e
  ·exact aWB ws e
  ·obtain⟨rfl,rfl⟩:=Prod.mk.inj f;exact aT7 (b d) i
  ·obtain⟨rfl,rfl⟩:=Prod.mk.inj f;exact aWC e (b d) i
  ·obtain⟨rfl,rfl⟩:=Prod.mk.inj f;exact aT9 (b d)
  ·obtain⟨rfl,rfl⟩:=Prod.mk.inj f
   rcases e with rfl|rfl|rfl|rfl
   ·exact aQ6 (Or.inl rfl) (b d) (g i) j
   ·exact aQ6 (Or.inr rfl) (b d) (g i) j
   ·exact aQ7 (Or.inl rfl) (b d) (g i) n j
   ·exact aQ7 (Or.inr rfl) (b d) (g i) n j
end Rd
namespace Rd
variable {ws:List Wd}
def pJ (ws:List Wd):Prop:=∀n,(aB ws n).kind≠0->n+1<ws.length
structure Inv (ws:List Wd) (st:St):Prop where
 next:st.next<ws.length
 around:st.around<=st.next
 nodes:st.nodes<=st.next
 deepest:st.deepest<=st.next
structure Rel (ws:List Wd) (st st':St):Prop where
 inv:Inv ws st'
 next:st.next<=st'.next
 around:st'.around=st.around
 nodes:st'.nodes+st.next<=st.nodes+st'.next
variable {st:St}
theorem Rel.refl (h:Inv ws st):Rel ws st st:=⟨h,Nat.le_refl _,rfl,Nat.le_refl _⟩
theorem Rel.trans {a b c:St}(h:Rel ws a b)(k:Rel ws b c):Rel ws a c:=⟨k.inv,le_trans h.next k.next,k.around.trans h.around,by have:=h.nodes;have:=k.nodes;omega⟩
theorem Inv.okB {st:St}(h:Inv ws st)(a:ws.length<=121):st.okB=true:=by
 have:=h.next;have:=h.around;have:=h.nodes;have:=h.deepest;simp only[St.okB,decide_eq_true_eq];omega
theorem zC (a:pJ ws){c:ByteArray}(h:tk ws st c=true):st.next+1<ws.length:=by
 refine a _ ?_;simp only[tk,and_eq_true,Bool.not_eq_true',beq_eq_false_iff_ne,ne_eq]at h;exact h.1
theorem Cs (h:Inv ws st)(a:st.next+1<ws.length):Rel ws st st.aM:=
 ⟨⟨a,by have:=h.around;show st.around<=st.next+1;omega,by have:=h.nodes;show st.nodes<=st.next+1;omega,by have:=h.deepest;show st.deepest<=st.next+1;omega⟩,by show st.next<=st.next+1;omega,rfl,by show st.nodes+st.next<=st.nodes+(st.next+1);omega⟩
theorem aKz (h:Inv ws st)(d:st.next+1<ws.length):Rel ws st st.aM.leaf:=by
 have a:=h.around;have b:=h.nodes;have c:=h.deepest;refine⟨⟨d,by show st.around<=st.next+1;omega,by show st.nodes+1<=st.next+1;omega,?_⟩,by show st.next<=st.next+1;omega,rfl,by show st.nodes+1+st.next<=st.nodes+(st.next+1);omega⟩;show(bif decide (st.deepest<st.around)then st.around else st.deepest)<=st.next+1
 cases decide (st.deepest<st.around)<;>simp<;>omega
theorem aQE (a:pJ ws)(h:Inv ws st):Rel ws st (term ws st).2:=by grind [pJ,term,Rel.refl,Cs]
theorem aJX (e:pJ ws)(g:ws.length<=121):∀f c ts st,c+f=9->1<=c->c<=8->Inv ws st->∃r a,terms ws f c ts st=some (r,a)/\Rel ws st a/\(r.isSome=true->st.next<a.next):=by
 intro f
 induction f with
 |zero=>intro c ts st p q s;omega
 |succ f u=>
  intro c ts st p q s hi;have b:=aQE e hi;have o1:=hi.okB g;have o2:=b.inv.okB g;rw[terms,o1,o2];simp only[Bool.and_self,cond_true]
  cases a1:((term ws st).1==0)with
  |true=>exact⟨_,_,rfl,b,fun h=>by cases h⟩
  |false=>
   cases i:tk ws (term ws st).2 ⟨#[93]⟩with
   |true=>
    have:=Cs b.inv (zC e i);refine⟨_,_,rfl,b.trans this,fun _=>?_⟩;have:=b.next;show st.next<(term ws st).2.next+1;omega
   |false=>
    cases j:(c==8)with
    |true=>exact⟨_,_,rfl,b,fun h=>by cases h⟩
    |false=>
     cases k:tk ws (term ws st).2 ⟨#[44]⟩with
     |false=>exact⟨_,_,rfl,b,fun h=>by cases h⟩
     |true=>
      have d:=Cs b.inv (zC e k);obtain⟨r,a,l,n,o⟩:=u (c+1) (ts++[(term ws st).1]) _ (by omega) (by omega) (by simp at j;omega) d.inv;refine⟨r,a,l,(b.trans d).trans n,fun h=>?_⟩;have:=(b.trans d).next;have:=o h;omega
theorem aFw (e:pJ ws)(f:ws.length<=121)(st:St)(hi:Inv ws st):∃r a,continued ws st=some (r,a)/\Rel ws st a:=by
 have s:=hi.next;unfold continued;rw[hi.okB f,decide_eq_true (show st.next<900 by omega)];simp only[Bool.and_self,cond_true]
 cases a1:tk ws st ⟨#[91]⟩with
 |false=>exact⟨none,st,rfl,Rel.refl hi⟩
 |true=>
  have g:=Cs hi (zC e a1)
  cases j:((aB ws st.aM.next).kind==1)with
  |false=>exact⟨none,st.aM,rfl,g⟩
  |true=>
   have h:=g.trans (Cs g.inv (e _ (by have:=beq_iff_eq.1 j;omega)))
   cases k:tk ws st.aM.aM ⟨#[59]⟩with
   |false=>exact⟨none,st.aM.aM,rfl,h⟩
   |true=>
    have i:=h.trans (Cs h.inv (zC e k));obtain⟨r,a,l,d,n⟩:=aJX e f 8 1 [valTo (aB ws st.aM.next).text (aB ws st.aM.next).text.size] st.aM.aM.aM (by omega) (by omega) (by omega) i.inv;simp only[cond_true];rw[l]
    cases r with
    |none=>exact⟨none,a,rfl,i.trans d⟩
    |some ts=>
     have b:=i.trans d;have q:=n rfl;have en:st.aM.aM.aM.next=st.next+3:=rfl;simp only[lO,d.inv.okB f,cond_true];refine⟨_,_,rfl,?_⟩;have o:=b.inv.around;have u:=b.inv.nodes;have v:=b.inv.deepest;have w:=b.nodes;have p:=b.next;have x:=d.nodes;have y:st.aM.aM.aM.nodes=st.nodes:=rfl;have z:=hi.nodes;refine⟨⟨b.inv.next,o,by show a.nodes+1<=a.next;omega,?_⟩,p,b.around,by show a.nodes+1+st.next<=st.nodes+a.next;omega⟩;show(bif decide (a.deepest<a.around)then a.around else a.deepest)<=a.next
     cases decide (a.deepest<a.around)<;>simp<;>omega
def Dh (ws:List Wd)(a:pV)(st:St):Prop:=∃r b,a=some (r,b)/\Rel ws st b/\(r.isSome=true->st.next<b.next)
variable {k:Int}
theorem aP9 (e:ws.length<=121){l:Tr}{r:Option Tr}{a:St}(hi:Inv ws st)(b:Rel ws st a)(f:a.nodes+st.next+1<=st.nodes+a.next):
  ∃x d,operOf k l r a=some (x,d)/\Rel ws st d/\d.next=a.next:=by
 cases r with
 |none=>exact⟨none,a,rfl,b,rfl⟩
 |some r=>
  have:=hi.nodes;exact⟨some (jF k l r),a.node,by simp only[operOf,b.inv.okB e,cond_true],⟨⟨b.inv.next,b.inv.around,by show a.nodes+1<=a.next;omega,b.inv.deepest⟩,b.next,b.around,by show a.nodes+1+st.next<=st.nodes+a.next;omega⟩,rfl⟩
theorem aI3 (d:ws.length<=121){x:Option Tr}{a:St}(hi:Inv ws st)(b:Rel ws st a)(f:a.nodes+st.next+1<=st.nodes+a.next)(e:x.isSome=true->st.next<a.next):Dh ws (eB k x a) st:=by
 cases x with
 |none=>exact⟨none,a,rfl,b,fun h=>by cases h⟩
 |some x=>
  have:=hi.nodes;exact⟨some (fD k x),a.node,by simp only[eB,b.inv.okB d,cond_true],⟨⟨b.inv.next,b.inv.around,by show a.nodes+1<=a.next;omega,b.inv.deepest⟩,b.next,b.around,by show a.nodes+1+st.next<=st.nodes+a.next;omega⟩,fun _=>e rfl⟩
theorem aNx (hi:Inv ws st)(d:st.next+1<ws.length):Inv ws st.aM.lI:=by
 have a:=hi.around;have b:=hi.nodes;have c:=hi.deepest;exact⟨d,by show st.around+1<=st.next+1;omega,by show st.nodes<=st.next+1;omega,by show st.deepest<=st.next+1;omega⟩
theorem aKO {e:St}(hi:Inv ws st)(h:Rel ws st.aM.lI e):Rel ws st e.out/\1<=e.around/\st.next+1<=e.next/\e.nodes+st.next+1<=st.nodes+e.next:=by
 have a:=h.around;have b:=h.nodes;have c:=h.next;have f:st.aM.lI.next=st.next+1:=rfl;have g:st.aM.lI.nodes=st.nodes:=rfl;have i:st.aM.lI.around=st.around+1:=rfl;rw[f]at c b;rw[g]at b;rw[i]at a;have d:=hi.around;refine⟨⟨⟨h.inv.next,by show e.around-1<=e.next;omega,h.inv.nodes,h.inv.deepest⟩,by show st.next<=e.next;omega,by show e.around-1=st.around;omega,by show e.nodes+st.next<=st.nodes+e.next;omega⟩,by omega,c,by omega⟩
structure T1 (ws:List Wd) (f:Nat):Prop where
 sum:∀l st,Inv ws st->10*(ws.length-st.next)+9<=f->Dh ws (parse ws f 0 l st) st
 sumL:∀l st,Inv ws st->10*(ws.length-st.next)+8<=f->∃r st',parse ws f 1 l st=some (r,st')/\Rel ws st st'
 prod:∀l st,Inv ws st->10*(ws.length-st.next)+8<=f->Dh ws (parse ws f 2 l st) st
 prodL:∀l st,Inv ws st->10*(ws.length-st.next)+7<=f->∃r st',parse ws f 3 l st=some (r,st')/\Rel ws st st'
 signed:∀l st,Inv ws st->10*(ws.length-st.next)+7<=f->Dh ws (parse ws f 4 l st) st
 atom:∀l st,Inv ws st->10*(ws.length-st.next)+6<=f->Dh ws (parse ws f 5 l st) st
 br:∀l st,Inv ws st->10*(ws.length-st.next)+5<=f->Dh ws (parse ws f 6 l st) st
theorem Uy (B:pJ ws)(C:ws.length<=121){w h b:Nat}{X:Tr}{c:ByteArray}(hi:Inv ws st)(E:tk ws st c=true)
  (i:∀a,Inv ws a->a.next=st.next+1->Dh ws (parse ws w b none a) a) (j:∀X a,Inv ws a->st.next+1<=a.next->∃r d,parse ws w h X a=some (r,d)/\Rel ws a d):
  ∃r d,((parse ws w b none st.aM).next fun r g=>(operOf k X r g).next fun n e=>parse ws w h n e)=some (r,d)/\Rel ws st d:=by
 have q:=Cs hi (zC B E);obtain⟨r,g,u,o,_⟩:=i st.aM q.inv rfl;have D:=o.nodes;have en:st.aM.next=st.next+1:=rfl;have A:st.aM.nodes=st.nodes:=rfl;rw[en,A]at D;have F:=o.next;rw[en]at F;obtain⟨x,e,v,s,I⟩:=aP9 (k:=k) (l:=X) (r:=r) C hi (q.trans o) (by omega);obtain⟨y,p,z,H⟩:=j x e s.inv (by omega);refine⟨y,p,?_,s.trans H⟩;rw[u];show(operOf k X r g).next (fun n e=>parse ws w h n e)=_;rw[v];exact z
theorem aSb (p:pJ ws)(n:ws.length<=121)(f:Nat)(j:T1 ws f):T1 ws (f+1):=by
 constructor
 case sum=>
  intro l st hi z;obtain⟨r,d,q,k,A⟩:=j.prod none st hi (by omega);have F:=k.next;obtain⟨y,g,v,C⟩:=j.sumL r d k.inv (by omega);refine⟨y,g,?_,k.trans C,fun h=>?_⟩
  ·rw[parse,q];exact v
  ·cases r with
   |none=>
    cases f with
    |zero=>cases q
    |succ f=>
     simp only[parse,Option.some.injEq,Prod.mk.injEq]at v;rw[<-v.1]at h;cases h
   |some r=>have:=A rfl;have:=C.next;omega
 case sumL=>
  intro l st hi z
  cases l with
  |none=>exact⟨none,st,rfl,Rel.refl hi⟩
  |some l=>
   rw[parse,hi.okB n];simp only[cond_true]
   cases s:tk ws st ⟨#[43]⟩with
   |true=>
    have:=zC p s;exact Uy p n hi s (fun d o w=>j.prod none d o (by omega)) (fun l d o w=>j.sumL l d o (by omega))
   |false=>
    cases u:tk ws st ⟨#[45]⟩with
    |true=>
     have:=zC p u;exact Uy p n hi u (fun d o w=>j.prod none d o (by omega)) (fun l d o w=>j.sumL l d o (by omega))
    |false=>exact⟨some l,st,rfl,Rel.refl hi⟩
 case prod=>
  intro l st hi z;obtain⟨r,d,q,k,A⟩:=j.signed none st hi (by omega);have F:=k.next;obtain⟨y,g,v,C⟩:=j.prodL r d k.inv (by omega);refine⟨y,g,?_,k.trans C,fun h=>?_⟩
  ·rw[parse,q];exact v
  ·cases r with
   |none=>
    cases f with
    |zero=>cases q
    |succ f=>
     simp only[parse,Option.some.injEq,Prod.mk.injEq]at v;rw[<-v.1]at h;cases h
   |some r=>have:=A rfl;have:=C.next;omega
 case prodL=>
  intro l st hi z
  cases l with
  |none=>exact⟨none,st,rfl,Rel.refl hi⟩
  |some l=>
   rw[parse,hi.okB n];simp only[cond_true]
   cases s:tk ws st ⟨#[42]⟩with
   |true=>
    have:=zC p s;exact Uy p n hi s (fun d o w=>j.signed none d o (by omega)) (fun l d o w=>j.prodL l d o (by omega))
   |false=>
    cases u:tk ws st ⟨#[47]⟩with
    |true=>
     have:=zC p u;exact Uy p n hi u (fun d o w=>j.signed none d o (by omega)) (fun l d o w=>j.prodL l d o (by omega))
    |false=>exact⟨some l,st,rfl,Rel.refl hi⟩
 case signed=>
  intro l st hi z;rw[parse,hi.okB n];simp only[cond_true]
  cases s:tk ws st ⟨#[45]⟩with
  |false=>exact j.atom none st hi (by omega)
  |true=>
   have i:=zC p s;have D:=aNx hi i;have en:st.aM.lI.next=st.next+1:=rfl;obtain⟨x,g,q,k,A⟩:=j.signed none st.aM.lI D (by omega);obtain⟨o1,o2,o3,o4⟩:=aKO hi k;simp only[cond_true];rw[q];show Dh ws (bif g.fV then eB 5 x g.out else none) st;rw[show g.fV=true by simp only[St.fV,k.inv.okB n,decide_eq_true o2];rfl];exact aI3 n hi o1 (by show g.nodes+st.next+1<=st.nodes+g.next;exact o4) (fun _=>by show st.next<g.next;omega)
 case atom=>
  intro l st hi z;rw[parse,hi.okB n];simp only[cond_true]
  cases s:((aB ws st.next).kind==1)with
  |true=>
   have i:st.next+1<ws.length:=p _ (by have:=beq_iff_eq.1 s;omega);simp only[cond_true];rw[(Cs hi i).inv.okB n];exact⟨_,_,rfl,aKz hi i,fun _=>by show st.next<st.next+1;omega⟩
  |false=>
   cases u:((aB ws st.next).kind==2)with
   |false=>exact j.br none st hi (by omega)
   |true=>
    have i:st.next+1<ws.length:=p _ (by have:=beq_iff_eq.1 u;omega);have B:=Cs hi i;have en:st.aM.next=st.next+1:=rfl;simp only[cond_true,cond_false];unfold nameOf
    cases k0:(named (aB ws st.next).text==0)with
    |true=>exact⟨none,st,rfl,Rel.refl hi,fun h=>by cases h⟩
    |false=>
     cases I:(named (aB ws st.next).text==2||named (aB ws st.next).text==3)with
     |true=>
      simp only[cond_true,cond_false];rw[B.inv.okB n];exact⟨_,_,rfl,aKz hi i,fun _=>by show st.next<st.next+1;omega⟩
     |false=>
      cases J:(named (aB ws st.next).text==4)with
      |true=>
       obtain⟨r,E,e,h⟩:=aFw p n st.aM B.inv;exact⟨r,E,e,B.trans h,fun _=>by have:=h.next;omega⟩
      |false=>
       obtain⟨x,g,q,k,A⟩:=j.br none st.aM B.inv (by omega);simp only[cond_false];rw[q];have a:=k.nodes;have b:=k.next;have H:st.aM.nodes=st.nodes:=rfl;exact aI3 n hi (B.trans k) (by omega) (fun _=>by omega)
 case br=>
  intro l st hi z;rw[parse]
  ·rw[hi.okB n];simp only[cond_true]
   cases s:tk ws st ⟨#[40]⟩with
   |false=>exact⟨none,st,rfl,Rel.refl hi,fun h=>by cases h⟩
   |true=>
    have i:=zC p s;have D:=aNx hi i;have en:st.aM.lI.next=st.next+1:=rfl;obtain⟨x,g,q,k,A⟩:=j.sum none st.aM.lI D (by omega);obtain⟨o1,o2,o3,o4⟩:=aKO hi k;simp only[cond_true];rw[q];show Dh ws (iE ws x g) st;unfold iE;rw[show g.fV=true by simp only[St.fV,k.inv.okB n,decide_eq_true o2];rfl];simp only[cond_true]
    cases x with
    |none=>exact⟨none,g.out,rfl,o1,fun h=>by cases h⟩
    |some x=>
     simp only
     cases u:tk ws g.out ⟨#[41]⟩with
     |false=>exact⟨none,g.out,rfl,o1,fun h=>by cases h⟩
     |true=>exact⟨some x,g.out.aM,rfl,o1.trans (Cs o1.inv (zC p u)),fun _=>by show st.next<g.next+1;omega⟩
  all_goals omega
theorem aUz (a:pJ ws)(b:ws.length<=121):∀f,T1 ws f:=by
 intro f
 induction f with
 |zero=>constructor<;>(intro l st _ h;omega)
 |succ f d=>exact aSb a b f d
theorem aJN (d:pJ ws)(f:ws.length<=121)(b:0<ws.length):∃r a,parse ws 1300 0 none ⟨0,0,0,0⟩=some (r,a)/\Rel ws ⟨0,0,0,0⟩ a:=by
 obtain⟨r,a,e,h,_⟩:=(aUz d f 1300).sum none ⟨0,0,0,0⟩ ⟨b,Nat.le_refl _,Nat.le_refl _,Nat.le_refl _⟩ (by simp only;omega);exact⟨r,a,e,h⟩
end Rd
namespace Rd
open Go.Deep (BT)
theorem aOV:∀(f:Nat) (l:EW),(toksF f l).length<=l.length:=by
 intro f
 induction f with
 |zero=>intro l;simp[toksF]
 |succ f a=>
  intro l
  cases l with
  |nil=>simp[toksF]
  |cons c r=>
   have e:=a r;have b:=a (r.drop (lY r));have d:=a (r.drop (jT r));simp only[List.length_drop]at b d;simp only[toksF]
   cases c==32<;>cases dg c<;>cases lt c<;>simp<;>omega
theorem aQv (s:ByteArray):pJ (split s (s.size+1) 0)/\(split s (s.size+1) 0).length<=s.size+1/\0<(split s (s.size+1) 0).length/\dL (aB (split s (s.size+1) 0) (toks s.data.toList).length)=(0,[])/\Seg (split s (s.size+1) 0) 0 (toks s.data.toList):=by
 have l:=aMn s
 have q:(split s (s.size+1) 0).length=(toks s.data.toList).length+1:=by
  have:=congrArg List.length l
  simpa using this
 have o:(toks s.data.toList).length<=s.size:=by rw[<-Ll];exact aOV _ _
 have d:∀i,i<(split s (s.size+1) 0).length->dL (aB (split s (s.size+1) 0) i)=(toks s.data.toList++[(0,[])]).getD i (0,[]):=by
  intro i hi;rw[<-l];unfold aB;simp[List.getD,List.getElem?_eq_getElem hi]
 refine⟨?_,by omega,by omega,?_,?_⟩
 ·intro n k
  rcases Nat.lt_or_ge n (split s (s.size+1) 0).length with h|h
  ·rcases Nat.lt_or_ge (n+1) (split s (s.size+1) 0).length with h'|h'
   ·exact h'
   ·exfalso
    have e:n=(toks s.data.toList).length:=by omega
    have:=d n h;rw[e]at this;simp[List.getD]at this;apply k;rw[e];exact Dp this
  ·exfalso;apply k;unfold aB;simp[List.getD,List.getElem?_eq_none h]
 ·rw[d _ (by omega)];simp[List.getD]
 ·have g:∀(a b:List Tok) (i:Nat),(∀j,j<a.length->dL (aB (split s (s.size+1) 0) (i+j))=a.getD j (0,[]))->Seg (split s (s.size+1) 0) i a:=by
   intro a
   induction a with
   |nil=>intro _ _ _;trivial
   |cons x r p=>
    intro b i h;refine⟨by simpa using h 0 (by simp),p b (i+1) (fun j f=>?_)⟩;have:=h (j+1) (by simpa using f);rw[show i+1+j=i+(j+1) by omega,this];simp
  refine g _ [] 0 (fun j f=>?_);rw[zero_add,d j (by omega)];simp[List.getD,List.getElem?_append_left f]
theorem aIE {s:ByteArray}{c:Tr}(hc:Good c)(l:toks s.data.toList=tw c):
  read 1300 s=bif decide (120<s.size)then some (none,1,0)else bif decide (12<dep c)||decide (40<ndc c)then some (none,3,0)else some (some (strip c),0,0):=by
 unfold read
 by_cases f:120<s.size
 ·simp[f]
 ·obtain⟨j,o,k,b,e⟩:=aQv s;obtain⟨res,n,d,_⟩:=aJN j (by omega) k;rw[l]at b e;have i:=aT6 (ws:=split s (s.size+1) 0) c hc
  have a:dL (aB (split s (s.size+1) 0) (bK c ⟨0,0,0,0⟩).next)=(0,[]):=by
   simp only[bK,zero_add];exact b
  obtain⟨g,h⟩:=i.b0 1300 ⟨0,0,0,0⟩ e (aHh a (by decide) (by decide));have h1:=h.trans (Ho (st:=bK c ⟨0,0,0,0⟩) (t:=strip c) a (by decide) (by decide) g)
  rcases h1 with h1|h1
  ·rw[h1]at d;cases d
  ·rw[h1];simp only[decide_eq_false f,cond_false,Dp a];simp only[bK,zero_add,Nat.zero_max];rfl
def jR (b:Bool)(x:Tr):Tr:=bif b then fD 14 x else x
def fF:Tr->Tr
 |.nil=>.nil
 |.node p q a l r=>
  bif a.1==5 then .node p q a (jR (decide (aN (aR l)<3)) (fF l)) (fF r)
  else bif decide (10<=a.1/\a.1<=13)then .node p q a (fD 14 (fF l)) (fF r)
  else bif decide (6<=a.1/\a.1<=9)then .node p q a (jR (decide (aN (aR l)<aN a.1)) (fF l)) (jR (decide (aN (aR r)<aN a.1+1)) (fF r))
  else .node p q a l r
structure CC (c:Tr):Prop where
 ne:aR (strip c)=aR (fF (strip c))
 kind:aR c≠14->aR (strip c)=aR c
 plain:aR (strip c)≠14
 yB:Good (fF (strip c))
 back:strip (fF (strip c))=strip c
 toks:toks (text (strip c))=tw (fF (strip c))
 dep:dep (fF (strip c))+(bif aR c==14 then 1 else 0)<=dep c
 ndc:ndc (fF (strip c))=ndc c
 pos:0<(text (strip c)).length
variable {b:Bool}
theorem Oq {x:Tr}(h:Good x):Good (jR b x):=by
 cases b with
 |false=>exact h
 |true=>exact⟨rfl,rfl,Or.inr (Or.inr (Or.inr (Or.inr (Or.inr (Or.inl ⟨rfl,rfl,h,rfl⟩)))))⟩
theorem Zn (x:Tr):strip (jR b x)=strip x:=by cases b<;>rfl
theorem aGO (x:Tr):ndc (jR b x)=ndc x:=by cases b<;>rfl
theorem aPq (x:Tr):dep (jR b x)=dep x+(bif b then 1 else 0):=by cases b<;>rfl
theorem aFs {x:Tr}{t:Tr}{m:Int}(h:aR t=aR x)(b:m<=4):m<=aN (aR (jR (decide (aN (aR t)<m)) x)):=by
 by_cases a:aN (aR t)<m
 ·simp only[a,decide_true];show m<=4;exact b
 ·simp only[a,decide_false];show m<=aN (aR x);rw[<-h];omega
theorem aGP (b:Bool)(x:EW)(y:Tr)(h:toks x=tw y):toks (oA b x)=tw (jR b y):=by
 cases b with
 |false=>exact h
 |true=>
  show toks (40::(x++[41]))=(3,[40])::(tw y++[(3,[41])]);rw[xJ (by decide) (by decide),vM (by decide),h];rfl
theorem aPr (b:Bool)(x:EW)(y:Tr)(h:toks x=tw y)(c:UInt8)(hc:an c=false)(r:EW):toks (oA b x++c::r)=tw (jR b y)++toks (c::r):=by
 rw[vM hc,aGP b x y h]
def mG:List Int->List Tok
 | []=>[]
 |y::r=>(3,[44])::(1,dec y)::mG r
theorem aJg (a:LN)(z:Int):mG (a++[z])=mG a++[(3,[44]),(1,dec z)]:=by
 induction a with
 |nil=>rfl
 |cons y r b=>simp[mG,b]
theorem aL0:∀(r:LN) (y:Int),dK (y::r)=(1,dec y)::(mG r++[(3,[93])]):=by
 intro r
 induction r with
 |nil=>intro y;rfl
 |cons z r a=>intro y;rw[aEb,a z];rfl
theorem aQL {x z:Int}{r:LN}(g:cQ x)(h:cQ z)(f:∀a∈r,cQ a):∀j,j<=r.length->toks (eY (x::z::r) (2+j))=[(2,[99,102]),(3,[91]),(1,dec x),(3,[59]),(1,dec z)]++mG (r.take j):=by
 intro j
 induction j with
 |zero=>
  intro _;show toks (([99,102,91]++([]++dec x))++([59,32]++dec z))=_
  have b:([99,102,91]++([]++dec x))++([59,32]++dec z)=[99,102]++(91::(dec x++59::32::dec z)):=by simp
  rw[b,vM (by decide),xJ (c:=91) (by decide) (by decide),vM (by decide),Ig g,xJ (c:=59) (by decide) (by decide),Lp,Ig h];rfl
 |succ j k=>
  intro l
  have b:eY (x::z::r) (2+(j+1))=eY (x::z::r) (2+j)++(44::32::dec r[j]):=by
   rw[show 2+(j+1)=(2+j)+1 by omega,eY]
   have d:sep (2+j)=[44,32]:=by
    unfold sep;rw[beq_eq_false_iff_ne.2 (show 2+j≠0 by omega),beq_eq_false_iff_ne.2 (show 2+j≠1 by omega)];rfl
   have e:(x::z::r).getD (2+j) 0=r[j]:=by
    rw[show 2+j=j+1+1 by omega];simp[List.getD,List.getElem?_eq_getElem (show j<r.length by omega)]
   rw[d,e];rfl
  have i:cQ r[j]:=f _ (List.getElem_mem (by omega));rw[b,vM (by decide),k (by omega),xJ (by decide) (by decide),Lp,Ig i,List.take_succ_eq_append_getElem (by omega),aJg];simp
theorem aOW {ts:LN}(h:Db ts):toks (eE ts)=uT ts:=by
 obtain⟨x,r,rfl,e,b,d,_⟩:=h
 cases r with
 |nil=>simp at d
 |cons y r=>
  have a:=aQL e (b y (by simp)).1 (fun z f=>(b z (by simp[f])).1) r.length (Nat.le_refl _);unfold eE;rw[vM (by decide),show(x::y::r).length=2+r.length by simp;omega,a,List.take_length,xJ (by decide) (by decide),Lt];simp only[uT,aL0];simp
theorem Vr {c:Tr}(a:strip c=c)(hc:fF c=c)(b:aR c≠14)(d:Good c)(f:toks (text c)=tw c)(e:0<(text c).length):CC c:=by
 refine⟨by rw[a,hc],fun _=>by rw[a],by rw[a];exact b,by rw[a,hc];exact d,by rw[a,hc,a],by rw[a,hc];exact f,?_,by rw[a,hc],by rw[a];exact e⟩;rw[a,hc,beq_eq_false_iff_ne.2 b];exact Nat.le_refl _
variable {x:Tr}
theorem aUb (h:CC x):CC (fD 14 x):=by
 have d:dep (fD 14 x)=dep x+1:=rfl;refine⟨h.ne,fun e=>absurd rfl e,h.plain,h.yB,h.back,h.toks,?_,h.ndc,h.pos⟩;have:=h.dep;rw[d];show dep (fF (strip x))+1<=dep x+1;omega
theorem aJo (h:CC x){m:Int}(d:m<=aN (aR x)):dep (jR (decide (aN (aR (strip x))<m)) (fF (strip x)))<=dep x:=by
 rw[aPq];have a:=h.dep
 by_cases b:aR x=14
 ·rw[b]at a;simp only[beq_self_eq_true,cond_true]at a
  cases decide (aN (aR (strip x))<m)<;>simp<;>omega
 ·have:=h.kind b;rw[this,decide_eq_false (by omega)];simp only[cond_false];omega
theorem aUa (h:CC x)(a:3<=aN (aR x)):CC (fD 5 x):=by
 have b:=aJo h a;refine⟨rfl,fun _=>rfl,by show(5:Int)≠14;decide,?_,?_,?_,?_,?_,?_⟩
 ·exact⟨rfl,rfl,Or.inr (Or.inr (Or.inr (Or.inl ⟨rfl,rfl,Oq h.yB,aFs h.ne (by decide),rfl⟩)))⟩
 ·show fD 5 (strip (jR _ (fF (strip x))))=fD 5 (strip x);rw[Zn,h.back]
 ·show toks (45::oA _ (text (strip x)))=(3,[45])::tw (jR _ (fF (strip x)));rw[xJ (by decide) (by decide),aGP _ _ _ h.toks]
 ·show dep (jR _ (fF (strip x)))+1+0<=dep x+1;omega
 ·show ndc (jR _ (fF (strip x)))+0+1=ndc x+0+1;rw[aGO,h.ndc]
 ·show 0<(45::oA _ (text (strip x))).length;simp
theorem aWD {k:Int}(e:k=10\/k=11\/k=12\/k=13)(h:CC x)(o:aR x=14):CC (fD k x):=by
 have j:(k==5)=false:=by rcases e with rfl|rfl|rfl|rfl<;>rfl
 have a:(k==14)=false:=by rcases e with rfl|rfl|rfl|rfl<;>rfl
 have f:decide (10<=k/\k<=13)=true:=by rcases e with rfl|rfl|rfl|rfl<;>rfl
 have d:strip (fD k x)=fD k (strip x):=by
  unfold fD;simp only[strip,a,cond_false]
 have c1:fF (fD k (strip x))=fD k (fD 14 (fF (strip x))):=by
  unfold fD;simp only[fF,j,f,cond_false,cond_true];rfl
 have p:∀y,strip (fD k y)=fD k (strip y):=by
  intro y;unfold fD;simp only[strip,a,cond_false]
 have n:text (fD k (strip x))=sym k++40::(text (strip x)++[41]):=by rcases e with rfl|rfl|rfl|rfl<;>rfl
 have g:=h.dep;rw[o]at g;simp only[beq_self_eq_true,cond_true]at g
 have i:∀y,dep (fD k y)=dep y:=by
  intro y;show(bif k==5||k==14 then dep y+1 else max (dep y) (dep .nil))=_;rw[j,a];simp[dep]
 have l:∀y,ndc (fD k y)=ndc y+1:=by
  intro y;show(bif k==14 then ndc y else ndc y+ndc .nil+1)=_;rw[a];simp[ndc]
 refine⟨by rw[d,c1];rfl,fun _=>by rw[d];rfl,by rw[d];show k≠14;omega,?_,?_,?_,?_,?_,?_⟩
 ·rw[d,c1];exact⟨rfl,rfl,Or.inr (Or.inr (Or.inr (Or.inr (Or.inl ⟨e,rfl,Oq (b:=true) h.yB,rfl,rfl⟩))))⟩
 ·rw[d,c1,p];show fD k (strip (fF (strip x)))=_;rw[h.back]
 ·rw[d,c1,n,vM (by decide),xJ (by decide) (by decide),vM (by decide),h.toks,Xt e,Xn]
  have:toks (sym k)=[(2,sym k)]:=by rcases e with rfl|rfl|rfl|rfl<;>rfl
  rw[this];rfl
 ·rw[d,c1,i,i];show dep (fF (strip x))+1+(bif k==14 then 1 else 0)<=dep x;rw[a];exact g
 ·rw[d,c1,l,l];show ndc (fF (strip x))+1=_;rw[h.ndc]
 ·rw[d,n];simp;omega
theorem aWE {k:Int}(a:k=6\/k=7\/k=8\/k=9){X r:Tr}(d:CC X)(e:CC r)(p:aN k<=aN (aR X))(q:aN k+1<=aN (aR r)):CC (jF k X r):=by
 have n:(k==5)=false:=by rcases a with rfl|rfl|rfl|rfl<;>rfl
 have g:(k==14)=false:=by rcases a with rfl|rfl|rfl|rfl<;>rfl
 have f:decide (10<=k/\k<=13)=false:=by rcases a with rfl|rfl|rfl|rfl<;>rfl
 have o:decide (6<=k/\k<=9)=true:=by rcases a with rfl|rfl|rfl|rfl<;>rfl
 have rk:aN k<=2:=by rcases a with rfl|rfl|rfl|rfl<;>decide
 have b:=Vk a X r
 have c1:fF (jF k (strip X) (strip r))=jF k (jR (decide (aN (aR (strip X))<aN k)) (fF (strip X))) (jR (decide (aN (aR (strip r))<aN k+1)) (fF (strip r))):=by
  unfold jF;simp only[fF,n,f,o,cond_false,cond_true]
 have j:text (jF k (strip X) (strip r))=oA (decide (aN (aR (strip X))<aN k)) (text (strip X))++32::(sym k++32::oA (decide (aN (aR (strip r))<aN k+1)) (text (strip r))):=by rcases a with rfl|rfl|rfl|rfl<;>rfl
 have ts:∀y,toks (sym k++32::y)=(3,sym k)::toks y:=by
  intro y
  rcases a with rfl|rfl|rfl|rfl<;>(show toks (_::32::y)=_;rw[xJ (by decide) (by decide),Lp];rfl)
 have s:=aJo d p;have u:=aJo e q
 have h:∀y z,dep (jF k y z)=max (dep y) (dep z):=fun y z=>by rcases a with rfl|rfl|rfl|rfl<;>rfl
 have i:∀y z,ndc (jF k y z)=ndc y+ndc z+1:=fun y z=>by rcases a with rfl|rfl|rfl|rfl<;>rfl
 refine⟨by rw[b,c1];rfl,fun _=>by rw[b];rfl,by rw[b];show k≠14;omega,?_,?_,?_,?_,?_,?_⟩
 ·rw[b,c1];exact⟨rfl,rfl,Or.inr (Or.inr (Or.inr (Or.inr (Or.inr (Or.inr ⟨a,rfl,Oq d.yB,Oq e.yB,aFs d.ne (by show aN k<=4;omega),aFs e.ne (by show aN k+1<=4;omega)⟩)))))⟩
 ·rw[b,c1,Vk a,Zn,Zn,d.back,e.back]
 ·rw[b,c1,j,aPr _ _ _ d.toks _ (by decide),Lp,ts,aGP _ _ _ e.toks,Qo a]
 ·rw[b,c1,h,h];show max _ _+(bif k==14 then 1 else 0)<=_;rw[g];simp only[cond_false];omega
 ·rw[b,c1,i,i,aGO,aGO,d.ndc,e.ndc]
 ·rw[b,j];simp;omega
theorem aQ8:∀c,Good c->CC c:=by
 intro c
 induction c with
 |nil=>intro h;exact h.elim
 |node p q a l r e j=>
  intro h;have i:=h;obtain⟨k,v,ts⟩:=a;obtain⟨rfl,rfl,h⟩:=h;simp only at h
  rcases h with⟨rfl,b,rfl,rfl,rfl⟩|⟨b,d,rfl,rfl⟩|⟨rfl,rfl,b,rfl,rfl⟩|⟨rfl,d,f,g,rfl⟩|⟨b,d,f,g,rfl⟩|⟨rfl,d,f,rfl⟩|⟨b,d,f,g,n,o⟩
  ·refine Vr rfl rfl (by show(1:Int)≠14;decide) i (Ig b) ?_;show 0<(dec v).length;rw[dec,Lib.decDigits_length];exact Lib.nDigits_pos _
  ·obtain⟨rfl,rfl⟩:=Prod.mk.inj d
   rcases b with rfl|rfl
   ·exact Vr rfl rfl (by show(2:Int)≠14;decide) i rfl (by decide)
   ·exact Vr rfl rfl (by show(3:Int)≠14;decide) i rfl (by decide)
  ·refine Vr rfl rfl (by show(4:Int)≠14;decide) i (aOW b) ?_;show 0<(eE ts).length;unfold eE;simp
  ·obtain⟨rfl,rfl⟩:=Prod.mk.inj d;exact aUa (e f) g
  ·obtain⟨rfl,rfl⟩:=Prod.mk.inj d;exact aWD b (e f) g
  ·obtain⟨rfl,rfl⟩:=Prod.mk.inj d;exact aUb (e f)
  ·obtain⟨rfl,rfl⟩:=Prod.mk.inj d;exact aWE b (e f) (j g) n o
theorem aLY {c:Tr}(hc:Good c)(e:dep c<=12)(f:ndc c<=40){u:ByteArray}(b:u.data.toList=text (strip c)):
  read 1300 u=bif decide (120<u.size)then some (none,1,0)else some (some (strip c),0,0):=by
 have h:=aQ8 c hc;have d:=h.dep;have a:=h.ndc;rw[aIE h.yB (by rw[b];exact h.toks),h.back,a,decide_eq_false (show¬12<dep (fF (strip c)) by omega),decide_eq_false (show¬40<ndc c by omega)];rfl
end Rd
open Go
section
variable {P:Program} {ops:Array Oper} {Q:XW} {md:Region.Mode} {S:World->Prop} {D:Nat->Bool}
def wpAnyE (P:Program)(md:Region.Mode)(ops:Array Oper)(Q:XW)(S:World->Prop)(D:Nat->Bool):Nat->Array Bool->Act->World->Prop
 |0,b,a,w=>Region.ready md ops b=[]/\Q .normal a w
 |fuel+1,b,a,w=>
  (Region.ready md ops b=[]->Q .normal a w)/\
  ∀i∈Region.ready md ops b,wpOp P ops Q i (fun e d=>(D i=true->S d)/\wpAnyE P md ops Q S D fuel (b.setIfInBounds i true) e d) a w
theorem aGD:∀(fuel:Nat) (b:Array Bool) (a:Act) (w:World),wpAnyE P md ops Q S D fuel b a w->wpAny P md ops Q fuel b a w
 |0,_,_,_,h=>h
 |fuel+1,_,_,_,h=>⟨h.1,fun i hi=>wpOp_mono (fun d f e=>aGD fuel _ d f e.2) (h.2 i hi)⟩
def Ci (md:Region.Mode)(ops:Array Oper)(D:Nat->Bool)(i:Nat):Bool:=(List.range ops.size).all fun j=>D j||(match ops[j]? with
 |some o=>o.after.any fun e=>Region.binds md e&&e.on==i
 |none=>true)
variable {i:Nat}
theorem aMk (h:Ci md ops D i=true)(j:Nat)(d:Oper)(b:ops[j]?=some d)(n:∀e∈d.after,Region.binds md e=true->e.on≠i):D j=true:=by
 have a:j<ops.size:=(Array.getElem?_eq_some_iff.1 b).1;have:=List.all_eq_true.1 h j (List.mem_range.2 a);rw[b]at this
 rcases Bool.or_eq_true _ _▸this with h1|h1
 ·exact h1
 ·exfalso;simp only[Array.any_eq_true,and_eq_true,beq_iff_eq]at h1;obtain⟨k,l,f,g⟩:=h1;exact n _ (Array.getElem_mem l) f g
variable {a:Array Bool}
theorem aS6 {k:Nat}{l:Oper}(hi:i∈Region.ready md ops a)(u:k∈Region.ready md ops a)(v:ops[k]?=some l):∀e∈l.after,Region.binds md e=true->e.on≠i:=by
 intro e s r g;obtain⟨_,o,h,f⟩:=mem_ready.1 u;obtain rfl:l=o:=Option.some.inj (v.symm.trans h);have up:=f e s r;have d:=(mem_ready.1 hi).1;rw[g,Array.getD_eq_getD_getElem?]at up;rw[Array.getD_eq_getD_getElem?]at d
 cases p:a[i]? with
 |none=>rw[p]at up;cases up
 |some b=>
  rw[p]at up d;have q:b=true:=up;have n:b=false:=d;rw[q]at n;cases n
def Fr (md:Region.Mode)(ops:Array Oper)(i:Nat)(d:Oper)(a:Array Bool):Prop:=
 ∀j b,ops[j]?=some b->j≠i->a.getD j true=false->(∀e∈b.after,Region.binds md e=true->e.on≠i)->d.apart ops b=true
theorem Fr.set {g:Oper}(h:Fr md ops i g a)(j:Nat)(l:a.getD j true=false):Fr md ops i g (a.setIfInBounds j true):=by
 intro k ok f b e d
 rcases Nat.decEq j k with ne|rfl
 ·exact h k ok f b ((getD_set_ne true ne).symm.trans e) d
 ·exact h j ok f b l d
theorem aI8 {n:Oper}{x:Value}(C:Ci md ops D i=true)(hi:ops[i]?=some n)(k:∀(j:Nat) (o:Oper) cs b,ops[j]?=some o->o.op≠.select cs b)
  (E:∀c a w,Q (.panic c) (a.put n.dst x) w->Q (.panic c) a w) (fuel:Nat):∀(d:Array Bool) (a:Act) (w:World),
   Fr md ops i n d->i∈Region.ready md ops d->YieldsIf P ops S n x a->S w->
   wpAnyE P md ops Q S D fuel (d.setIfInBounds i true) (a.put n.dst x) w->wpAnyE P md ops Q S D (fuel+1) d a w:=by
 induction fuel with
 |zero=>
  intro d a w _ l u p H;constructor
  ·intro z;rw[z]at l;exact absurd l (by simp)
  ·intro j q
   rcases Nat.decEq j i with ne|rfl
   ·have:=ready_mono q ne;rw[H.1]at this;exact absurd this (by simp)
   ·exact u.wpOp hi p ⟨fun _=>p,H⟩
 |succ fuel F=>
  intro d a w e l u p H;constructor
  ·intro z;rw[z]at l;exact absurd l (by simp)
  ·intro j q
   rcases Nat.decEq j i with ne|rfl
   ·obtain⟨h,A,f,_⟩:=mem_ready.1 q;have g:=aS6 l q f;have step:=wpOp_putIf f (e j A f ne h g) (fun cs b=>k i n cs b hi) (fun cs b=>k j A cs b f) E u (H.2 j (ready_mono q ne));refine wpOp_mono ?_ step;rintro B I⟨y,s,r⟩;refine⟨s,F _ B I (e.set j h) (ready_mono l (Ne.symm ne)) y (s (aMk C j A f g)) ?_⟩;rw[Array.setIfInBounds_comm _ _ ne];exact r
   ·exact u.wpOp hi p ⟨fun _=>p,H⟩
variable {b:Array Bool}{a:Act}{n:World}
theorem Cl {d:Oper}{v:Value}{fuel:Nat}(hi:ops[i]?=some d)(e:Ci md ops D i=true)
  (l:Region.noSelect ops=true) (j:Region.free md ops b i=true) (k:(Region.ready md ops b).contains i=true)
  (f:∀c a n,Q (.panic c) (a.put d.dst v) n->Q (.panic c) a n) (o:YieldsIf P ops S d v a) (g:S n)
  (h:wpAnyE P md ops Q S D fuel (b.setIfInBounds i true) (a.put d.dst v) n):wpAnyE P md ops Q S D (fuel+1) b a n:=
 aI8 e hi (Region.noSelect_spec l) f fuel b a n (Region.free_spec hi j) (by simpa using k) o g h
theorem Fs {o:Oper}{fuel:Nat}(g:Region.ready md ops b=[i])(q:ops[i]?=some o)
  (h:∀d:AW,Shut (∀a n,(D i=true->S n)->wpAnyE P md ops Q S D fuel (b.setIfInBounds i true) a n->d a n)->if Region.wanted o (yielded ops a.tmps)=true then Oper.wp P o a n d Q else d (a.put o.dst undef) n):
  wpAnyE P md ops Q S D (fuel+1) b a n:=by
 refine⟨(fun e=>by rw[g]at e;cases e),fun j f=>?_⟩;rw[g]at f;obtain rfl:=List.mem_singleton.1 f;exact wpOp_step q (fun d k=>h d (fun a n l p=>k a n ⟨l,p⟩))
theorem aF8 (d:Region.ready md ops b=[])(h:Q .normal a n):
  ∀fuel,wpAnyE P md ops Q S D fuel b a n
 |0=>⟨d,h⟩
 |_+1=>⟨fun _=>h,by rw[d];simp⟩
theorem aF9 {id:Nat}(S:World->Prop)(D:Nat->Bool)(b:P.follows .mixedOrders=true)
  (h:wpAnyE P .any ops Q S D ops.size (Array.replicate ops.size false) a n.drew):(Code.region id ops true).wp P Q a n:=
 wp_region_any b (aGD _ _ _ _ h)
end
section
variable {P:Program} {ops:Array Oper} {Q:XW} {md:Region.Mode}
def leftL:List Bool->Nat
 | []=>0
 |b::r=>(bif b then 0 else 1)+leftL r
theorem Zz:∀(l:List Bool) (i:Nat),l[i]?=some false->leftL (l.set i true)+1=leftL l
 | [],i,h=>by simp at h
 |b::r,0,h=>by
  simp at h;subst h;simp[leftL];omega
 |b::r,i+1,h=>by
  have:=Zz r i (by simpa using h);simp only[List.set_cons_succ,leftL];omega
theorem aGo {l:Array Bool}{i:Nat}(h:l.getD i true=false):l.toList[i]?=some false:=by
 rw[Array.getD_eq_getD_getElem?]at h;rw[Array.getElem?_toList]
 cases e:l[i]? with
 |none=>rw[e]at h;cases h
 |some b=>
  rw[e]at h;have:b=false:=h;rw[this]
theorem aI9 {I:Array Bool->Act->World->Prop}(step:∀l a w i o,I l a w->i∈Region.ready md ops l->ops[i]?=some o->wpOp P ops Q i (I (l.setIfInBounds i true)) a w)(b:∀l a w,I l a w->Region.ready md ops l=[]->Q .normal a w):∀(n:Nat) (l:Array Bool) (a:Act) (w:World),leftL l.toList<=n->I l a w->wpAny P md ops Q n l a w
 |0,l,a,w,j,h=>by
  have d:Region.ready md ops l=[]:=by
   apply List.eq_nil_iff_forall_not_mem.2;intro i hi;have:=Zz _ _ (aGo (mem_ready.1 hi).1);omega
  exact⟨d,b l a w h d⟩
 |n+1,l,a,w,j,h=>by
  refine⟨fun d=>b l a w h d,fun i hi=>?_⟩;obtain⟨g,o,k,_⟩:=mem_ready.1 hi;refine wpOp_mono (fun e p f=>aI9 step b n _ e p ?_ f) (step l a w i o h hi k);have:=Zz _ _ (aGo g);rw[Array.toList_setIfInBounds];omega
def Gn (ops:Array Oper):Bool:=(List.range ops.size).all fun i=>match ops[i]? with
 |some o=>o.after.toList.all fun e=>decide (e.on<i)
 |none=>true
def nX (ops:Array Oper)(n:Nat):Bool:=(List.range ops.size).all fun i=>(List.range ops.size).all fun k=>match ops[i]?,ops[k]? with
 |some o,some p=>match o.dst with
  |some d=>decide (d<n)&&(i==k||p.dst != some d)
  |none=>true
 |_,_=>true
theorem Uw {w:Nat}(h:nX ops w=true){i k d:Nat}{o p:Oper}(f:ops[i]?=some o)(j:ops[k]?=some p)(r:o.dst=some d):d<w/\(p.dst=some d->i=k):=by
 have q:=List.all_eq_true.1 h i (List.mem_range.2 (Array.getElem?_eq_some_iff.1 f).1);have b:=List.all_eq_true.1 q k (List.mem_range.2 (Array.getElem?_eq_some_iff.1 j).1);simp only[f,j,r,and_eq_true,decide_eq_true_eq,Bool.or_eq_true,beq_iff_eq,bne_iff_ne]at b;refine⟨b.1,fun e=>?_⟩
 rcases b.2 with g|g
 ·exact g
 ·exact absurd e g
def cU (t:Array Value):List (Nat×Value)->Array Value
 | []=>t
 |(d,v)::r=>cU (t.setIfInBounds d v) r
def dl (b:Nat->Value):List Oper->Nat->List (Nat×Value)
 | [],_=>[]
 |o::r,i=>match o.dst with
  |some d=>(d,b i)::dl b r (i+1)
  |none=>dl b r (i+1)
theorem Zi:∀(L:List (Nat×Value)) (t:Array Value) (j:Nat),(∀x∈L,x.1≠j)->(cU t L)[j]?=t[j]?
 | [],_,_,_=>rfl
 |(d,v)::r,t,j,h=>by
  rw[cU,Zi r _ j fun x b=>h x (by simp[b])];exact Array.getElem?_setIfInBounds_ne (h (d,v) (by simp))
theorem aIK:∀(L:List (Nat×Value)) (t:Array Value) (j:Nat) (v:Value),(j,v)∈L->(∀x∈L,x.1=j->x.2=v)->j<t.size->(cU t L)[j]?=some v
 | [],_,_,_,h,_,_=>by cases h
 |(d,u)::r,t,j,v,h,n,k=>by
  rw[cU]
  by_cases g:∃x∈r,x.1=j
  ·obtain⟨x,b,f⟩:=g;have e:x=(j,v):=Prod.ext f (n x (by simp[b]) f);rw[e]at b;exact aIK r _ j v b (fun y q=>n y (by simp[q])) (by simpa using k)
  ·rw[Zi r _ j fun x b e=>g ⟨x,b,e⟩]
   have p:(d,u)=(j,v):=by
    rcases List.mem_cons.1 h with e|e
    ·exact e.symm
    ·exact absurd ⟨_,e,rfl⟩ g
   cases p;exact Array.getElem?_setIfInBounds_self_of_lt k
theorem Xi {vs:Nat->Value}:∀(l:List Oper) (n:Nat) (x:Nat×Value),x∈dl vs l n↔∃i o,l[i]?=some o/\o.dst=some x.1/\x.2=vs (n+i)
 | [],n,x=>by simp[dl]
 |o::r,n,x=>by
  have k:=Xi (vs:=vs) r (n+1) x;constructor
  ·intro h;unfold dl at h
   cases j:o.dst with
   |none=>
    rw[j]at h;obtain⟨i,p,b,f,g⟩:=k.1 h;exact⟨i+1,p,by simpa using b,f,by rw[g];congr 1;omega⟩
   |some d=>
    rw[j]at h
    rcases List.mem_cons.1 h with e|e
    ·subst e;exact⟨0,o,rfl,j,rfl⟩
    ·obtain⟨i,p,b,f,g⟩:=k.1 e;exact⟨i+1,p,by simpa using b,f,by rw[g];congr 1;omega⟩
  ·rintro⟨i,p,b,f,g⟩;unfold dl
   cases i with
   |zero=>
    simp at b;subst b;rw[f];exact List.mem_cons.2 (Or.inl (Prod.ext rfl g))
   |succ i=>
    have:=k.2 ⟨i,p,by simpa using b,f,by rw[g];congr 1;omega⟩
    cases o.dst with
    |none=>exact this
    |some d=>exact List.mem_cons.2 (Or.inr this)
structure RgI (ops:Array Oper) (a0:Act) (S:World->Prop) (F:Nat->Value->World->Prop) (l:Array Bool) (a:Act) (w:World):Prop where
 sz:l.size=ops.size
 s:S w
 df:a.defers=a0.defers
 ts:a.tmps.size=a0.tmps.size
 fr:∀j,(∀(i:Nat) (o:Oper),ops[i]?=some o->o.dst≠some j)->a.tmps[j]?=a0.tmps[j]?
 vl:∀(i:Nat) (o:Oper) (d:Nat),ops[i]?=some o->o.dst=some d->l.getD i false=true->∃v,a.tmps[d]?=some v/\F i v w
variable {a:Act}{b:Option Tmp}{x:Value}
theorem aOj {w:Nat}(h:b≠some w):(a.put b x).tmps[w]?=a.tmps[w]?:=by
 cases b with
 |none=>rfl
 |some d=>exact Array.getElem?_setIfInBounds_ne fun e=>h (by rw[e])
theorem aQg:(a.put b x).tmps.size=a.tmps.size:=by
 cases b with
 |none=>rfl
 |some d=>simp[Act.put]
theorem aTk:(a.put b x).defers=a.defers:=by cases b<;>rfl
def zR (P:Program)(ops:Array Oper)(Q:XW)(a0:Act)(S:World->Prop)(F:Nat->Value->World->Prop):Prop:=∀(i:Nat) (o:Oper),ops[i]?=some o->∀a w,S w->(∀e∈o.after,Region.binds .any e=true->∀(p:Oper) (d:Nat),ops[e.on]?=some p->p.dst=some d->∃v,a.tmps[d]?=some v/\F e.on v w)->(∀j,(∀(i:Nat) (o:Oper),ops[i]?=some o->o.dst≠some j)->a.tmps[j]?=a0.tmps[j]?)->∀K:AW,(∀v b,F i v b->S b->(∀k u,F k u w->F k u b)->K (a.put o.dst v) b)->if Region.wanted o (yielded ops a.tmps)=true then Oper.wp P o a w K Q else K (a.put o.dst undef) w
def Fi (ops:Array Oper)(Q:XW)(a0:Act)(S:World->Prop)(F:Nat->Value->World->Prop):Prop:=∀(b:Nat->Value) (w:World),S w->(∀(i:Nat) (o:Oper) (d:Nat),ops[i]?=some o->o.dst=some d->F i (b i) w)->Q .normal ⟨cU a0.tmps (dl b ops.toList 0),a0.defers⟩ w
section
variable {a a0:Act} {w w0:World} {S:World->Prop} {F:Nat->Value->World->Prop} {l:Array Bool} {i:Nat} {o:Oper}
theorem RgI.go (n:nX ops a0.tmps.size=true)(step:zR P ops Q a0 S F)(h:RgI ops a0 S F l a w)(f:ops[i]?=some o)(q:∀e∈o.after,Region.binds .any e=true->l.getD e.on false=true)(K:AW)(J:∀B A,RgI ops a0 S F (l.setIfInBounds i true) B A->K B A):if Region.wanted o (yielded ops a.tmps)=true then Oper.wp P o a w K Q else K (a.put o.dst undef) w:=by
 refine step i o f a w h.s (fun e M L p d g b=>h.vl e.on p d g b (q e M L)) h.fr K fun v A I r z=>J _ _ ⟨by rw[Array.size_setIfInBounds];exact h.sz,r,aTk.trans h.df,aQg.trans h.ts,fun j C=>(aOj (C i o f)).trans (h.fr j C),?_⟩
 intro k p d g b x
 by_cases e:k=i
 ·subst e;rw[f]at g;cases g;refine⟨v,?_,I⟩;rw[b];exact Array.getElem?_setIfInBounds_self_of_lt (by rw[h.ts];exact(Uw n f f b).1)
 ·have y:l.getD k false=true:=by
   rw[Array.getD_eq_getD_getElem?]at x ⊢;rw[Array.getElem?_setIfInBounds_ne (Ne.symm e)]at x;exact x
  obtain⟨u,E,H⟩:=h.vl k p d g b y;exact⟨u,by rw[aOj fun D=>e ((Uw n g f b).2 D)];exact E,z k u H⟩
theorem RgI.done (q:nX ops a0.tmps.size=true)(y:Fi ops Q a0 S F)(h:RgI ops a0 S F l a w)(all:∀i,i<ops.size->l.getD i false=true):Q .normal a w:=by
 have u:∃n:Nat->Value,∀(i:Nat) (o:Oper) (d:Nat),ops[i]?=some o->o.dst=some d->a.tmps[d]?=some (n i)/\F i (n i) w:=by
  refine ⟨fun i=>match ops[i]? with
   |some o=>match o.dst with
    |some d=>a.tmps.getD d undef
    |none=>undef
   |none=>undef,fun i o d b f=>?_⟩
  obtain⟨v,D,E⟩:=h.vl i o d b f (all i (Array.getElem?_eq_some_iff.1 b).1);simp only[b,f];rw[Array.getD_eq_getD_getElem?,D];exact⟨rfl,E⟩
 obtain⟨n,hv⟩:=u
 have e:a=⟨cU a0.tmps (dl n ops.toList 0),a0.defers⟩:=by
  have B:a.tmps=cU a0.tmps (dl n ops.toList 0):=by
   apply Array.ext_getElem?;intro j
   by_cases z:∃(i:Nat) (o:Oper),ops[i]?=some o/\o.dst=some j
   ·obtain⟨i,o,b,f⟩:=z;rw[(hv i o j b f).1];refine(aIK _ _ j (n i) ((Xi _ _ _).2 ⟨i,o,by rw[Array.getElem?_toList];exact b,f,by simp⟩) ?_ (Uw q b b f).1).symm;intro x u A;obtain⟨k,p,r,g,e⟩:=(Xi _ _ _).1 u;rw[Array.getElem?_toList]at r;rw[A]at g;rw[e,zero_add,(Uw q b r f).2 g]
   ·rw[Zi _ _ _ fun x u e=>?_]
    ·exact h.fr j fun i o b f=>z ⟨i,o,b,f⟩
    ·obtain⟨k,p,r,g,_⟩:=(Xi _ _ _).1 u;rw[Array.getElem?_toList]at r;rw[e]at g;exact z ⟨k,p,r,g⟩
  have C:=h.df;cases a;simp only at B C;rw[B,C]
 rw[e]
 exact y n w h.s fun i o d b f=>(hv i o d b f).2
theorem aOn {id:Nat}(D:P.follows .mixedOrders=true)(j:nX ops a0.tmps.size=true)(s:Gn ops=true)(B:S w0.drew)(step:zR P ops Q a0 S F)(r:Fi ops Q a0 S F):(Code.region id ops true).wp P Q a0 w0:=by
 refine wp_region_any D (aI9 (I:=RgI ops a0 S F) ?_ ?_ _ _ _ _ ?_ ⟨by simp,B,rfl,rfl,fun _ _=>rfl,?_⟩)
 ·intro l a w i o h hi g;obtain⟨H,L,q,k⟩:=mem_ready.1 hi;rw[g]at q;cases q
  exact wpOp_step g fun z A=>h.go j step g k z A
 ·intro l a w h E
  have all:∀n i,i<n->i<ops.size->l.getD i false=true:=by
   intro n
   induction n with
   |zero=>intro i hi;omega
   |succ n y=>
    intro i hi f;have g:ops[i]?=some ops[i]:=Array.getElem?_eq_getElem f;have b:=List.all_eq_true.1 s i (List.mem_range.2 f);rw[g]at b
    have p:i<l.size:=by rw[h.sz];exact f
    cases x:l[i]
    ·have:i∈Region.ready .any ops l:=by
      refine mem_ready.2 ⟨by rw[Array.getD_eq_getD_getElem?,Array.getElem?_eq_getElem p,x];rfl,_,g,fun e C _=>?_⟩;have v:=List.all_eq_true.1 b e (Array.mem_toList_iff.2 C);simp only[decide_eq_true_eq]at v;exact y e.on (by omega) (by omega)
     rw[E]at this;cases this
    ·rw[Array.getD_eq_getD_getElem?,Array.getElem?_eq_getElem p,x];rfl
  exact h.done j r fun i hi=>all (i+1) i (by omega) hi
 ·have:∀n,leftL (List.replicate n false)<=n:=by
   intro n
   induction n with
   |zero=>exact Nat.le_refl _
   |succ n y=>rw[List.replicate_succ];simp[leftL];omega
  simpa using this ops.size
 ·intro i o d g J u;rw[Array.getD_eq_getD_getElem?,Array.getElem?_replicate]at u
  split at u<;>cases u
end
end
open Go.RowKit
abbrev sv (a b:Int)(k:Bool):Value:=.agg #[.int .i64 a,.int .i64 b,.bool k]
structure SpOk (a b:Int):Prop where
 lo:-1073741824<=a
 le:a<=b
 hi:b<=1073741824
theorem SpOk.zero:SpOk 0 0:=⟨by decide,by decide,by decide⟩
theorem SpOk.neg {a b:Int}(h:SpOk a b):SpOk (-b) (-a):=⟨by have:=h.hi;omega,by have:=h.le;omega,by have:=h.lo;omega⟩
abbrev cV (a b:Int)(k:Bool):Obj:=.cells #[.int .i64 a,.int .i64 b,.bool k] 29 (0,0)
def bD (w:World)(e:Ending)(d:World):Prop:=∃a b k,e=.returned (sv a b k)/\SpOk a b/\Below w.heap.size w d
theorem lK {P:Program}{M:FuncId}{args:Array Value}{R:NN}{n:World}(I:World->Prop)(a:I n)(h:∀W,I W->Calls P M args W R):Calls P M args n R:=h _ a
variable {W:World}
theorem Dr {n:Nat}{a:Array Value}{t:TypeId}(h:W.heap.size=n):(W.alloc (.cells a t)).heap[n]?=some (.cells a t (0,0)):=by
 subst h;exact kO _ _
variable {o:Obj}
theorem uL {n:Nat}{a:Obj}(h:W.heap[n]?=some o):(W.alloc a).heap[n]?=some o:=by
 rw[Below.heap_alloc _ _ _ (fQ h)];exact h
variable {n:World}{b:Nat}
theorem tQ {x g z:Value}(h:n.heap[b]?=some (.cells #[x,g,z] 29 (0,0)))(p q:Int)(k:Bool):
  (((n.setCell ⟨b,0,none⟩ (.int .i64 p)).setCell ⟨b,1,none⟩ (.int .i64 q)).setCell ⟨b,2,none⟩ (.bool k)).cell? ⟨b,0,none⟩=some (.int .i64 p)/\
  (((n.setCell ⟨b,0,none⟩ (.int .i64 p)).setCell ⟨b,1,none⟩ (.int .i64 q)).setCell ⟨b,2,none⟩ (.bool k)).cell? ⟨b,1,none⟩=some (.int .i64 q)/\
  (((n.setCell ⟨b,0,none⟩ (.int .i64 p)).setCell ⟨b,1,none⟩ (.int .i64 q)).setCell ⟨b,2,none⟩ (.bool k)).cell? ⟨b,2,none⟩=some (.bool k):=by
 have e:=sH (sH (sH h (o:=0) (.int .i64 p)) (o:=1) (.int .i64 q)) (o:=2) (.bool k);exact⟨bH e rfl,bH e rfl,bH e rfl⟩
theorem Zh {d:World}(h:Below n.heap.size n d)(a:n.heap.size<=b)(p q:Int)(k:Bool):
  Below n.heap.size n (((d.setCell ⟨b,0,none⟩ (.int .i64 p)).setCell ⟨b,1,none⟩ (.int .i64 q)).setCell ⟨b,2,none⟩ (.bool k)):=
 ((h.setCell a _).setCell a _).setCell a _
def tZ (n:Nat)(w W:World):Prop:=Below w.heap.size w W/\W.heap[w.heap.size+n]?=some (cV 0 0 false)
theorem Mv:tZ 1 n ((n.alloc o).alloc (.cells #[.int .i64 0,.int .i64 0,.bool false] 29)):=⟨((Below.refl _ _).alloc (Nat.le_refl _) _).alloc (by simp) _,Dr (by simp)⟩
theorem Ha {a:Obj}:tZ 2 n (((n.alloc o).alloc a).alloc (.cells #[.int .i64 0,.int .i64 0,.bool false] 29)):=⟨(((Below.refl _ _).alloc (Nat.le_refl _) _).alloc (by simp) _).alloc (by simp;omega) _,Dr (by simp)⟩
theorem iN {J:World}(e:Below n.heap.size n W)(d:W.heap[b]?=some (cV 0 0 false))(f:Below W.heap.size W J)(g:n.heap.size<=b)(p q:Int)(k:Bool):
  J.cell? ⟨b,0,none⟩=some (.int .i64 0)/\J.cell? ⟨b,1,none⟩=some (.int .i64 0)/\J.cell? ⟨b,2,none⟩=some (.bool false)/\J.frozen? ⟨b,0,none⟩=false/\J.frozen? ⟨b,1,none⟩=false/\J.frozen? ⟨b,2,none⟩=false/\
  Hid ((((J.setCell ⟨b,0,none⟩ (.int .i64 p)).setCell ⟨b,1,none⟩ (.int .i64 q)).setCell ⟨b,2,none⟩ (.bool k)).cell? ⟨b,0,none⟩=some (.int .i64 p)/\
   (((J.setCell ⟨b,0,none⟩ (.int .i64 p)).setCell ⟨b,1,none⟩ (.int .i64 q)).setCell ⟨b,2,none⟩ (.bool k)).cell? ⟨b,1,none⟩=some (.int .i64 q)/\
   (((J.setCell ⟨b,0,none⟩ (.int .i64 p)).setCell ⟨b,1,none⟩ (.int .i64 q)).setCell ⟨b,2,none⟩ (.bool k)).cell? ⟨b,2,none⟩=some (.bool k))/\
  Hid (Below n.heap.size n (((J.setCell ⟨b,0,none⟩ (.int .i64 p)).setCell ⟨b,1,none⟩ (.int .i64 q)).setCell ⟨b,2,none⟩ (.bool k))):=
 have a:=(f.block _ (fQ d)).trans d
 ⟨bH a rfl,bH a rfl,bH a rfl,kN a,kN a,kN a,tQ a p q k,Zh (e.trans (f.mono e.size)) g p q k⟩
theorem Di (w:World):Calls prog 40 #[] w fun e a=>e=.returned (sv 0 0 false)/\Below w.heap.size w a:=by
 go_enter func40,ntmps40
 go_wp2_with fail
 refine bodyPost_ret (v:=sv 0 0 false) (by simp[results,results40,go_sem]) rfl ⟨rfl,?_⟩;exact(Below.refl _ _).alloc (Nat.le_refl _) _
def ofS (a b:Int):Int×Int×Bool:=bif decide (a < -1073741824)||decide (1073741824<b)then(0,0,false)else(a,b,true)
variable {a b:Int}
theorem aNZ (h:a < -1073741824):ofS a b=(0,0,false):=by unfold ofS;rw[decide_eq_true h];rfl
theorem aN0 (h:1073741824<b):ofS a b=(0,0,false):=by unfold ofS;rw[decide_eq_true h,Bool.or_true];rfl
theorem aN2 (d:¬a < -1073741824)(e:¬1073741824<b):ofS a b=(a,b,true):=by unfold ofS;rw[decide_eq_false d,decide_eq_false e];rfl
theorem aN1 (h:a<=b):SpOk (ofS a b).1 (ofS a b).2.1:=by
 by_cases d:a < -1073741824
 ·rw[aNZ d];exact SpOk.zero
 ·by_cases e:1073741824<b
  ·rw[aN0 e];exact SpOk.zero
  ·rw[aN2 d e];exact⟨by show _<=a;omega,h,by show b<=_;omega⟩
def cT (a b:Int)(w:World)(e:Ending)(d:World):Prop:=e=.returned (sv (ofS a b).1 (ofS a b).2.1 (ofS a b).2.2)/\Below w.heap.size w d
theorem xT (a b:Int)(w:World):Calls prog 21 #[.int .i64 a,.int .i64 b] w (cT a b w):=by
 have N:=aC (fun w=>Di w)
 by_cases l:a < -1073741824
 ·skip
  have E:=aC (aNZ (b:=b) l)
  go_enter func21,ntmps21
  go_wp2_with fail
  refine lK (fun W=>Below w.heap.size w W/\W.heap[w.heap.size]?=some (cV 0 0 false)) ⟨(Below.refl _ _).alloc (Nat.le_refl _) _,kO _ _⟩ ?_;rintro W⟨f,d⟩;refine(N.out _).mono ?_;rintro e x⟨rfl,h⟩;obtain⟨r,s,u,o,p,q,Q,g⟩:=iN f d h (by omega) 0 0 false;clear h f d
  go_wp2_with fail
  obtain⟨i,j,k⟩:=Q.out;refine bodyPost_ret (v:=sv 0 0 false) (by simp[results,results21,go_sem,i,j,k]) rfl ?_;exact⟨by rw[E.out],g.out⟩
 by_cases n:1073741824<b
 ·skip
  have E:=aC (aN0 (a:=a) n)
  go_enter func21,ntmps21
  go_wp2_with fail
  refine lK (fun W=>Below w.heap.size w W/\W.heap[w.heap.size]?=some (cV 0 0 false)) ⟨(Below.refl _ _).alloc (Nat.le_refl _) _,kO _ _⟩ ?_;rintro W⟨f,d⟩;refine(N.out _).mono ?_;rintro e x⟨rfl,h⟩;obtain⟨r,s,u,o,p,q,Q,g⟩:=iN f d h (by omega) 0 0 false;clear h f d
  go_wp2_with fail
  obtain⟨i,j,k⟩:=Q.out;refine bodyPost_ret (v:=sv 0 0 false) (by simp[results,results21,go_sem,i,j,k]) rfl ?_;exact⟨by rw[E.out],g.out⟩
 have E:=aC (aN2 l n)
 go_enter func21,ntmps21
 go_wp2_with fail
 refine bodyPost_ret (v:=sv a b true) (by simp[results,results21,go_sem]) rfl ?_;exact⟨by rw[E.out],(Below.refl _ _).alloc (Nat.le_refl _) _⟩
theorem aMd (d:0<b):(a.tmod b<0->a.tdiv b-1=a/b)/\(0<=a.tmod b->a.tdiv b=a/b):=by
 have g:=Int.tdiv_mul_add_tmod a b;have h:=Int.ediv_mul_add_emod a b;have i:=Int.emod_nonneg a (show b≠0 by omega);have j:=Int.emod_lt_of_pos a d;have k:=Int.tmod_lt_of_pos a d
 have l:-b<a.tmod b:=by
  have:=Int.tmod_lt_of_pos (-a) d;rw[Int.neg_tmod]at this;omega
 generalize o:a.tdiv b=q at*;generalize n:a/b=p at*;generalize a.tmod b=r at*;generalize a%b=s at*
 have f:(q-p)*b=s-r:=by rw[Int.sub_mul];omega
 constructor
 ·intro e
  have:q-p=1:=by
   have c1:0*b<(q-p)*b:=by omega
   have c2:(q-p)*b<2*b:=by omega
   have d1:0<q-p:=Int.lt_of_mul_lt_mul_right c1 (by omega);have d2:q-p<2:=Int.lt_of_mul_lt_mul_right c2 (by omega);omega
  omega
 ·intro e
  have:q-p=0:=by
   have c1:-1*b<(q-p)*b:=by omega
   have c2:(q-p)*b<1*b:=by omega
   have d1:-1<q-p:=Int.lt_of_mul_lt_mul_right c1 (by omega);have d2:q-p<1:=Int.lt_of_mul_lt_mul_right c2 (by omega);omega
  omega
theorem aFC {M:Int}(d:0<b)(e:-M<=a)(f:a<=M)(g:0<=M):-M-1<=a/b/\a/b<=M:=by
 constructor
 ·have:-M<=a/b:=by
   rw[Int.le_ediv_iff_mul_le d];have:-M*b<=-M*1:=Int.mul_le_mul_of_nonpos_left (by omega) (by omega);omega
  omega
 ·rcases Int.lt_or_le a 0 with h|h
  ·have:=Int.ediv_neg_of_neg_of_pos h d;omega
  ·have:=Int.ediv_le_self b h;omega
theorem Ou (a b:Int)(w:World)(l:-4611686018427387904<=a)(n:a<=4611686018427387904)(h:0<b)(o:b<=4611686018427387904):
  Calls prog 22 #[.int .i64 a,.int .i64 b] w fun e p=>e=.returned (.int .i64 (a/b))/\w=p:=by
 obtain⟨f,g⟩:=aMd (a:=a) h;obtain⟨q,r⟩:=aFC (a:=a) h (M:=4611686018427387904) l n (by omega);have T1:=aC f;have T2:=aC g
 by_cases i:a.tmod b<0
 ·have j:wrap64 (a.tdiv b-1)=a.tdiv b-1:=by
   have:=T1.out i;unfold wrap64;omega
  have k:=aC j;clear j f g
  go_enter func22,ntmps22
  go_wp2_with fail
  go_ret
  rw[k.out];exact⟨zB (T1.out i),rfl⟩
 ·have d:0<=a.tmod b:=by omega
  clear f g
  go_enter func22,ntmps22
  go_wp2_with fail
  go_ret
  exact⟨zB (T2.out d),rfl⟩
theorem Un (a b:Int)(w:World)(h:-4611686018427387904<=a)(i:a<=4611686018427387904)(f:0<b)(d:b<=4611686018427387904):
  Calls prog 23 #[.int .i64 a,.int .i64 b] w fun e g=>e=.returned (.int .i64 (-((-a)/b)))/\w=g:=by
 have F:=aC (fun w=>Ou (-a) b w (by omega) (by omega) f d);obtain⟨j,k⟩:=aFC (a:=-a) f (M:=4611686018427387904) (by omega) (by omega) (by omega)
 go_enter func23,ntmps23
 go_wp2_with fail
 refine(F.out _).mono ?_;rintro e l⟨rfl,rfl⟩
 go_wp2_with fail
 go_ret
 exact⟨rfl,rfl⟩
theorem Ib {c:Int}(hc:0<c)(h:a<=b):a/c<=-((-b)/c):=by
 have d:a/c*c<=a:=Int.ediv_mul_le a (by omega);have e:(-b)/c*c<=-b:=Int.ediv_mul_le (-b) (by omega)
 have f:(a/c+(-b)/c)*c<=0:=by rw[Int.add_mul];omega
 have g:a/c+(-b)/c<1:=Int.lt_of_mul_lt_mul_right (a:=c) (by omega) (by omega);omega
theorem Po (a b:Int)(k:Bool)(w:World)(h:SpOk a b):
  Calls prog 26 #[sv a b k] w fun e d=>e=.returned (sv (-b) (-a) k)/\Below w.heap.size w d:=by
 have f:=h.lo;have g:=h.le;have i:=h.hi
 go_enter func26,ntmps26
 go_wp2_with fail
 refine bodyPost_ret (v:=sv (-b) (-a) k) (by simp[results,results26,go_sem]) rfl ⟨rfl,?_⟩;exact((Below.refl _ _).alloc (Nat.le_refl _) _).alloc (by simp) _
theorem rK {b:World}(h:Below n.drew.heap.size n.drew b):Below n.heap.size n b:=⟨h.os,h.tape,h.output,h.size,h.block⟩
theorem Gy (w:World):Below w.heap.size w w.drew:=⟨rfl,rfl,rfl,Nat.le_refl _,fun _ _=>rfl⟩
theorem cT.sp (h:a<=b){e:Ending}{d:World}(k:cT a b n e d):bD n e d:=⟨_,_,_,k.1,aN1 h,k.2⟩
theorem Ua (n:Int)(w:World):Calls prog 11 #[.int .i64 n] w (cT n n w):=by
 have N:=aC (fun w=>xT n n w)
 go_enter func11,ntmps11
 go_wp2_with fail
 refine lK (fun W=>Below w.heap.size w W/\W.heap[w.heap.size]?=some (cV 0 0 false)) ⟨(Below.refl _ _).alloc (Nat.le_refl _) _,kO _ _⟩ ?_;rintro W⟨b,a⟩;refine(N.out _).mono ?_;rintro e r⟨rfl,f⟩;obtain⟨o,p,q,j,k,l,Q,d⟩:=iN b a f (by omega) (ofS n n).1 (ofS n n).2.1 (ofS n n).2.2;clear f b a
 go_wp2_with fail
 obtain⟨g,h,i⟩:=Q.out;refine bodyPost_ret (v:=sv (ofS n n).1 (ofS n n).2.1 (ofS n n).2.2) (by simp[results,results11,go_sem,g,h,i]) rfl ?_;exact⟨rfl,d.out⟩
theorem Ub (p q:Int)(w:World)(s:0<=p)(u:p<=1000)(z:1<=q)(A:q<=1000):
  Calls prog 12 #[.int .i64 p,.int .i64 q] w (cT (p*1048576/q) (-((-(p*1048576))/q)) w):=by
 have F:=aC (fun w=>Ou (p*1048576) q w (by omega) (by omega) (by omega) (by omega));have G:=aC (fun w=>Un (p*1048576) q w (by omega) (by omega) (by omega) (by omega));have N:=aC (fun a b w=>xT a b w)
 go_enter func12,ntmps12
 go_wp2_with fail
 refine lK (fun W=>Below w.heap.size w W/\W.heap[w.heap.size]?=some (cV 0 0 false)) ⟨(Below.refl _ _).alloc (Nat.le_refl _) _,kO _ _⟩ ?_;rintro W⟨f,d⟩;refine(F.out _).mono ?_;rintro e l⟨rfl,rfl⟩
 go_wp2_with fail
 refine(G.out _).mono ?_;rintro e l⟨rfl,rfl⟩
 go_wp2_with fail
 refine(N.out _ _ _).mono ?_;rintro e E⟨rfl,h⟩;generalize p*1048576/q=x at*;generalize -((-(p*1048576))/q)=y at*;obtain⟨B,C,D,n,o,r,Q,g⟩:=iN f d h (by omega) (ofS x y).1 (ofS x y).2.1 (ofS x y).2.2;clear h f d
 go_wp2_with fail
 obtain⟨i,j,k⟩:=Q.out;refine bodyPost_ret (v:=sv (ofS x y).1 (ofS x y).2.1 (ofS x y).2.2) (by simp[results,results12,go_sem,i,j,k]) rfl ?_;exact⟨rfl,g.out⟩
theorem aMu (a b:Int)(k:Bool)(c d:Int)(m:Bool)(w:World)(h:SpOk a b)(p:SpOk c d):Calls prog 24 #[sv a b k,sv c d m] w (bD w):=by
 have B:=h.lo;have C:=h.le;have D:=h.hi;have E:=p.lo;have F:=p.le;have H:=p.hi;have N:=aC (fun w=>Di w);have O:=aC (fun w=>xT (a+c) (b+d) w);have A:=aC (aN1 (show a+c<=b+d by omega));clear h p;cases k
 ·skip
  go_enter func24,ntmps24
  go_wp2_with fail
  refine lK (tZ 2 w) Ha ?_;rintro W⟨g,f⟩;refine(N.out _).mono ?_;rintro e z⟨rfl,j⟩;obtain⟨u,x,y,q,r,s,Q,i⟩:=iN g f j (by omega) 0 0 false;clear j g f
  go_wp2_with fail
  obtain⟨l,n,o⟩:=Q.out;refine bodyPost_ret (v:=sv 0 0 false) (by simp[results,results24,go_sem,l,n,o]) rfl ?_;exact⟨0,0,false,rfl,SpOk.zero,i.out⟩
 cases m
 ·skip
  go_enter func24,ntmps24
  go_wp2_with fail
  refine lK (tZ 2 w) Ha ?_;rintro W⟨g,f⟩;refine(N.out _).mono ?_;rintro e z⟨rfl,j⟩;obtain⟨u,x,y,q,r,s,Q,i⟩:=iN g f j (by omega) 0 0 false;clear j g f
  go_wp2_with fail
  obtain⟨l,n,o⟩:=Q.out;refine bodyPost_ret (v:=sv 0 0 false) (by simp[results,results24,go_sem,l,n,o]) rfl ?_;exact⟨0,0,false,rfl,SpOk.zero,i.out⟩
 go_enter func24,ntmps24
 go_wp2_with fail
 refine lK (tZ 2 w) Ha ?_;rintro W⟨g,f⟩;refine(O.out _).mono ?_;rintro e z⟨rfl,j⟩;obtain⟨u,x,y,q,r,s,Q,i⟩:=iN g f j (by omega) (ofS (a+c) (b+d)).1 (ofS (a+c) (b+d)).2.1 (ofS (a+c) (b+d)).2.2;clear j g f
 go_wp2_with fail
 obtain⟨l,n,o⟩:=Q.out;refine bodyPost_ret (v:=sv (ofS (a+c) (b+d)).1 (ofS (a+c) (b+d)).2.1 (ofS (a+c) (b+d)).2.2) (by simp[results,results24,go_sem,l,n,o]) rfl ?_;exact⟨_,_,_,rfl,A.out,i.out⟩
theorem aPO (a b:Int)(k:Bool)(c d:Int)(m:Bool)(w:World)(h:SpOk a b)(u:SpOk c d):Calls prog 42 #[sv a b k,sv c d m] w (bD w):=by
 have I:=h.lo;have J:=h.le;have L:=h.hi;have M:=u.lo;have P:=u.le;have R:=u.hi;have N:=aC (fun w=>Di w);have O:=aC (fun x y w=>xT x y w);clear h u;cases k
 ·skip
  go_enter func42,ntmps42
  go_wp2_with fail
  refine lK (tZ 2 w) Ha ?_;rintro W⟨g,f⟩;refine(N.out _).mono ?_;rintro e H⟨rfl,j⟩;obtain⟨D,E,F,A,B,C,Q,i⟩:=iN g f j (by omega) 0 0 false;clear j g f
  go_wp2_with fail
  obtain⟨n,o,s⟩:=Q.out;refine bodyPost_ret (v:=sv 0 0 false) (by simp[results,results42,go_sem,n,o,s]) rfl ?_;exact⟨0,0,false,rfl,SpOk.zero,i.out⟩
 cases m
 ·skip
  go_enter func42,ntmps42
  go_wp2_with fail
  refine lK (tZ 2 w) Ha ?_;rintro W⟨g,f⟩;refine(N.out _).mono ?_;rintro e H⟨rfl,j⟩;obtain⟨D,E,F,A,B,C,Q,i⟩:=iN g f j (by omega) 0 0 false;clear j g f
  go_wp2_with fail
  obtain⟨n,o,s⟩:=Q.out;refine bodyPost_ret (v:=sv 0 0 false) (by simp[results,results42,go_sem,n,o,s]) rfl ?_;exact⟨0,0,false,rfl,SpOk.zero,i.out⟩
 go_enter func42,ntmps42
 go_wp2_with fail
 all_goals
  refine lK (tZ 2 w) Ha ?_;rintro W⟨g,f⟩;refine((O.out _ _ _).mono (fun _ _ h=>cT.sp (by omega) h)).mono ?_;rintro e H⟨p,q,r,rfl,l,j⟩;have z:=aC l;clear l;obtain⟨D,E,F,A,B,C,Q,i⟩:=iN g f j (by omega) p q r;clear j g f
  go_wp2_with fail
  obtain⟨n,o,s⟩:=Q.out;refine bodyPost_ret (v:=sv p q r) (by simp[results,results42,go_sem,n,o,s]) rfl ?_;exact⟨p,q,r,rfl,z.out,i.out⟩
theorem aVM (e:0<a)(d:a<=b):1099511627776/b<=-((-1099511627776)/a):=by
 have g:(1099511627776:Int)/b<=1099511627776/a:=by
  rw[Int.le_ediv_iff_mul_le e];have h:(1099511627776:Int)/b*b<=1099511627776:=Int.ediv_mul_le _ (by omega);have f:(0:Int)<=1099511627776/b:=Int.ediv_nonneg (by omega) (by omega);have i:=Int.mul_le_mul_of_nonneg_left d f;omega
 have j:=Ib (a:=1099511627776) (b:=1099511627776) e (Int.le_refl _);omega
theorem aTd (a b:Int)(w:World):Calls prog 25 #[sv a b false] w (bD w):=by
 have N:=aC (fun w=>Di w)
 go_enter func25,ntmps25
 go_wp2_with fail
 refine lK (tZ 1 w) Mv ?_;rintro W⟨f,d⟩;refine(N.out _).mono ?_;rintro e s⟨rfl,h⟩;obtain⟨p,q,r,l,n,o,Q,g⟩:=iN f d h (by omega) 0 0 false;clear h f d
 go_wp2_with fail
 obtain⟨i,j,k⟩:=Q.out;refine bodyPost_ret (v:=sv 0 0 false) (by simp[results,results25,go_sem,i,j,k]) rfl ?_;exact⟨0,0,false,rfl,SpOk.zero,g.out⟩
theorem aKQ (a b:Int)(w:World)(z:0<a)(l:a<=b)(A:b<=1073741824):Calls prog 25 #[sv a b true] w (bD w):=by
 have F:=aC (fun w=>Ou 1099511627776 b w (by omega) (by omega) (by omega) (by omega));have G:=aC (fun w=>Un 1099511627776 a w (by omega) (by omega) (by omega) (by omega));have O:=aC (fun x y w=>xT x y w);have j:=aC (aVM z l)
 go_enter func25,ntmps25
 go_wp2_with fail
 go_region_held3 (fun u=>u.cell? ⟨w.heap.size,0,none⟩=some (.int .i64 a)/\u.cell? ⟨w.heap.size,1,none⟩=some (.int .i64 b)) (go_keep)
  (first|(go_at_call 22;refine(F.out _).mono ?_;rintro e E⟨rfl,rfl⟩)|(go_at_call 23;refine(G.out _).mono ?_;rintro e E⟨rfl,rfl⟩)|(go_at_call 21;refine((O.out _ _ _).mono (fun _ _ h=>cT.sp j.out h)).mono ?_;rintro e S⟨p,q,r,rfl,g,s⟩;have d:=rK s;have P:=(d.cell (p:=⟨w.heap.size,0,none⟩) (by simp<;>omega)).trans (bH (uL (kO _ _)) rfl);have R:=(d.cell (p:=⟨w.heap.size,1,none⟩) (by simp<;>omega)).trans (bH (uL (kO _ _)) rfl);have f:=(d.block _ (by simp<;>omega)).trans (Dr (n:=w.heap.size+1) (by simp));have L:=bH (o:=0) f rfl;have M:=bH (o:=1) f rfl;have N:=bH (o:=2) f rfl;have H:=kN (o:=0) f;have I:=kN (o:=1) f;have J:=kN (o:=2) f;have Q:=aC (tQ f p q r);have k:=aC g;have i:=aC (Zh (Below.trans (((Below.refl _ _).alloc (Nat.le_refl _) _).alloc (by simp) _) (d.mono (by simp<;>omega))) (show w.heap.size<=w.heap.size+1 by omega) p q r);clear f s d g))
 all_goals
  go_wp2_with fail
  obtain⟨B,C,D⟩:=Q.out;refine bodyPost_ret (v:=sv p q r) (by simp[results,results25,go_sem,B,C,D]) rfl ?_;exact⟨p,q,r,rfl,k.out,i.out⟩
theorem aQa (a b:Int)(k:Bool)(w:World)(h:SpOk a b):Calls prog 25 #[sv a b k] w (bD w):=by
 have P:=h.lo;have H:=h.le;have I:=h.hi;cases k
 ·exact aTd a b w
 by_cases p1:0<a
 ·exact aKQ a b w p1 H I
 by_cases R:0<=b
 ·have N:=aC (fun w=>Di w);clear h
  go_enter func25,ntmps25
  go_wp2_with fail
  refine lK (tZ 1 w) Mv ?_;rintro W⟨f,d⟩;refine(N.out _).mono ?_;rintro e O⟨rfl,n⟩;obtain⟨J,L,M,D,E,F,Q,i⟩:=iN f d n (by omega) 0 0 false;clear n f d
  go_wp2_with fail
  obtain⟨r,s,u⟩:=Q.out;refine bodyPost_ret (v:=sv 0 0 false) (by simp[results,results25,go_sem,r,s,u]) rfl ?_;exact⟨0,0,false,rfl,SpOk.zero,i.out⟩
 have B:=aC (fun w=>Po a b true w h);have C:=aC (fun w=>aKQ (-b) (-a) w (by omega) (by omega) (by omega));have A:=aC (fun x y z w h=>Po x y z w h);clear h
 go_enter func25,ntmps25
 go_wp2_with fail
 refine lK (tZ 1 w) Mv ?_;rintro W⟨f,d⟩;refine(B.out _).mono ?_;rintro e S⟨rfl,j⟩
 go_wp2_with fail
 refine(C.out _).mono ?_;rintro e T⟨x,y,z,rfl,g,l⟩
 go_wp2_with fail
 refine(A.out _ _ _ _ g).mono ?_;rintro e O⟨rfl,o⟩;have n:=j.trans ((l.trans (o.mono l.size)).mono j.size);have p:=g.neg;clear g j o l;have q:=aC p;clear p;obtain⟨J,L,M,D,E,F,Q,i⟩:=iN f d n (by omega) (-y) (-x) z;clear n f d
 go_wp2_with fail
 obtain⟨r,s,u⟩:=Q.out;refine bodyPost_ret (v:=sv (-y) (-x) z) (by simp[results,results25,go_sem,r,s,u]) rfl ?_;exact⟨_,_,_,rfl,q.out,i.out⟩
variable {x z:Int}
theorem aS0 {M:Int}(f:-M<=x/\x<=M)(g:-M<=z/\z<=M):-(M*M)<=x*z/\x*z<=M*M:=by
 have a:x.natAbs<=M.natAbs:=by omega
 have b:z.natAbs<=M.natAbs:=by omega
 have d:(x*z).natAbs<=(M*M).natAbs:=by rw[Int.natAbs_mul,Int.natAbs_mul];exact Nat.mul_le_mul a b
 have e:0<=M*M:=Int.mul_nonneg (by omega) (by omega);omega
theorem Xa (a:-1073741824<=x/\x<=1073741824)(b:-1073741824<=z/\z<=1073741824):-1152921504606846976<=x*z/\x*z<=1152921504606846976:=by
 have:=aS0 (M:=1073741824) a b;omega
def MP (a b c d x:Int):Prop:=x=a*c\/x=a*d\/x=b*c\/x=b*d
theorem Gk {c d R U:Int}(f:MP a b c d R)(e:MP a b c d x)(h:U=R\/U=x):MP a b c d U:=by
 rcases h with rfl|rfl
 ·exact f
 ·exact e
def qL (a b c d:Int)(w:World)(e:Ending)(f:World):Prop:=∃x y,x<=y/\MP a b c d x/\MP a b c d y/\cT (x/1048576) (-((-y)/1048576)) w e f
def Kr (a b c d:Int)(lo hi i:Value):Prop:=∃(k:Nat) (x y:Int),k<=4/\i=.int .i64 k/\lo=.int .i64 x/\hi=.int .i64 y/\x<=y/\MP a b c d x/\MP a b c d y
theorem MP.bd {c d:Int}(h:SpOk a b)(e:SpOk c d)(f:MP a b c d x):-1152921504606846976<=x/\x<=1152921504606846976:=by
 have g:=h.lo;have i:=h.le;have j:=h.hi;have k:=e.lo;have l:=e.le;have n:=e.hi
 rcases f with rfl|rfl|rfl|rfl
 ·exact Xa (by omega) (by omega)
 ·exact Xa (by omega) (by omega)
 ·exact Xa (by omega) (by omega)
 ·exact Xa (by omega) (by omega)
theorem aIr (a b c d:Int)(w:World)(h:SpOk a b)(D:SpOk c d):Calls prog 27 #[sv a b true,sv c d true] w (qL a b c d w):=by
 have f:=aC (fun x=>MP.bd (x:=x) h D);obtain⟨m1,m2⟩:=f.out (a*c) (Or.inl rfl);obtain⟨m3,m4⟩:=f.out (a*d) (Or.inr (Or.inl rfl));obtain⟨m5,m6⟩:=f.out (b*c) (Or.inr (Or.inr (Or.inl rfl)));obtain⟨m7,m8⟩:=f.out (b*d) (Or.inr (Or.inr (Or.inr rfl)));have F:=aC (fun x w s u=>Ou x 1048576 w s u (by decide) (by decide));have G:=aC (fun x w s u=>Un x 1048576 w s u (by decide) (by decide));have O:=aC (fun x y w=>xT x y w);clear h D
 go_enter func27,ntmps27
 go_wp2_with fail
 go_loop [6,7,48] (fun lo hi i=>Kr a b c d lo hi i) (fun _ _ i=>4-(intOf i).toNat)
 case atStart=>exact⟨0,a*c,a*c,by omega,rfl,rfl,rfl,Int.le_refl _,Or.inl rfl,Or.inl rfl⟩
 case round=>
  obtain⟨k,x,y,hk,rfl,rfl,rfl,B,A,C⟩:=hrel;have l:=aC A;have n:=aC C;obtain⟨L,M⟩:=f.out x A;obtain⟨N,P⟩:=f.out y C;clear A C
  by_cases R:k<4
  ·have z:k=0\/k=1\/k=2\/k=3:=by omega
   rcases z with rfl|rfl|rfl|rfl
   all_goals
    go_wp2_with fail
   ·exact⟨⟨1,_,_,by omega,rfl,rfl,rfl,by first|omega|(split<;>split<;>omega),Gk (Or.inl rfl) l.out (by first|omega|(split<;>simp)),Gk (Or.inl rfl) n.out (by first|omega|(split<;>simp))⟩,by simp[intOf]⟩
   ·exact⟨⟨2,_,_,by omega,rfl,rfl,rfl,by first|omega|(split<;>split<;>omega),Gk (Or.inr (Or.inl rfl)) l.out (by first|omega|(split<;>simp)),Gk (Or.inr (Or.inl rfl)) n.out (by first|omega|(split<;>simp))⟩,by simp[intOf]⟩
   ·exact⟨⟨3,_,_,by omega,rfl,rfl,rfl,by first|omega|(split<;>split<;>omega),Gk (Or.inr (Or.inr (Or.inl rfl))) l.out (by first|omega|(split<;>simp)),Gk (Or.inr (Or.inr (Or.inl rfl))) n.out (by first|omega|(split<;>simp))⟩,by simp[intOf]⟩
   ·exact⟨⟨4,_,_,by omega,rfl,rfl,rfl,by first|omega|(split<;>split<;>omega),Gk (Or.inr (Or.inr (Or.inr rfl))) l.out (by first|omega|(split<;>simp)),Gk (Or.inr (Or.inr (Or.inr rfl))) n.out (by first|omega|(split<;>simp))⟩,by simp[intOf]⟩
  ·obtain rfl:k=4:=by omega
   go_wp2_with fail
   refine lK (fun W=>Below w.heap.size w W/\W.heap[w.heap.size+2]?=some (cV 0 0 false)) ⟨((((Below.refl _ _).alloc (Nat.le_refl _) _).alloc (by simp) _).alloc (by simp;omega) _).alloc (by simp;omega) _,(uL (Dr (by simp)))⟩ ?_;rintro W⟨p,o⟩;refine(F.out x _ (by omega) (by omega)).mono ?_;rintro e X⟨rfl,rfl⟩
   go_wp2_with fail
   refine(G.out y _ (by omega) (by omega)).mono ?_;rintro e X⟨rfl,rfl⟩
   go_wp2_with fail
   refine(O.out _ _ _).mono ?_;rintro e w2⟨rfl,E⟩;generalize H:x/1048576=g at*;generalize q:-((-y)/1048576)=j at*;have I:=aC H;have J:=aC q;clear H q;obtain⟨r0,r1,r2,Y,g1,g2,Q,r⟩:=iN p o E (by omega) (ofS g j).1 (ofS g j).2.1 (ofS g j).2.2;clear E p o
   go_wp2_with fail
   obtain⟨S,T,U⟩:=Q.out;refine bodyPost_ret (v:=sv (ofS g j).1 (ofS g j).2.1 (ofS g j).2.2) (by simp[results,results27,go_sem,S,T,U]) rfl ?_;exact⟨x,y,B,l.out,n.out,by rw[I.out,J.out],r.out⟩
theorem qL.sp {a b c d:Int}{n:World}{e:Ending}{g:World}(k:qL a b c d n e g):bD n e g:=by
 obtain⟨x,y,f,_,_,h⟩:=k;exact cT.sp (Ib (by decide) f) h
theorem aJD (a b:Int)(k:Bool)(c d:Int)(m:Bool)(w:World)(h:SpOk a b)(l:SpOk c d):Calls prog 27 #[sv a b k,sv c d m] w (bD w):=by
 have N:=aC (fun w=>Di w);cases k
 ·clear h l
  go_enter func27,ntmps27
  go_wp2_with fail
  refine lK (tZ 2 w) Ha ?_;rintro W⟨g,f⟩;refine(N.out _).mono ?_;rintro e z⟨rfl,j⟩;obtain⟨u,x,y,q,r,s,Q,i⟩:=iN g f j (by omega) 0 0 false;clear j g f
  go_wp2_with fail
  obtain⟨n,o,p⟩:=Q.out;refine bodyPost_ret (v:=sv 0 0 false) (by simp[results,results27,go_sem,n,o,p]) rfl ?_;exact⟨0,0,false,rfl,SpOk.zero,i.out⟩
 cases m
 ·clear h l
  go_enter func27,ntmps27
  go_wp2_with fail
  refine lK (tZ 2 w) Ha ?_;rintro W⟨g,f⟩;refine(N.out _).mono ?_;rintro e z⟨rfl,j⟩;obtain⟨u,x,y,q,r,s,Q,i⟩:=iN g f j (by omega) 0 0 false;clear j g f
  go_wp2_with fail
  obtain⟨n,o,p⟩:=Q.out;refine bodyPost_ret (v:=sv 0 0 false) (by simp[results,results27,go_sem,n,o,p]) rfl ?_;exact⟨0,0,false,rfl,SpOk.zero,i.out⟩
 exact(aIr a b c d w h l).mono (fun _ _ h=>h.sp)
def Gu (j:Nat):Int:=if j=0 then 0 else 2^(j-1)
def Ey (n:Int)(r b:Value):Prop:=∃(j:Nat) (x c m:Int),j<=31/\c=Gu j/\m=2^j/\r=.int .i64 x/\b=.int .i64 c/\0<=x/\x+m<=2147483648/\x*x<=n/\n<(x+m)*(x+m)
def nT (n:Int)(w:World)(e:Ending)(a:World):Prop:=∃r:Int,e=.returned (.int .i64 r)/\0<=r/\r<=2147483647/\r*r<=n/\n<(r+1)*(r+1)/\w=a
theorem aXB (a:0<=x)(b:x<=2147483648):0<=x*x/\x*x<=4611686018427387904:=by
 refine⟨Int.mul_nonneg a a,?_⟩;have:=Int.mul_le_mul b b a (by omega);omega
theorem aKx {c:Int}{i:Nat}(h:c=2^i):c/2=Gu i:=by
 subst h
 cases i with
 |zero=>rfl
 |succ i=>
  show(2:Int)^(i+1)/2=2^i;rw[Int.pow_succ];omega
theorem aK2 (n:Int)(w:World)(A:0<=n)(B:n<=1125899906842624):Calls prog 41 #[.int .i64 n] w (nT n w):=by
 go_enter func41,ntmps41
 go_wp2_with fail
 go_loop [3,4] (fun r b=>Ey n r b) (fun _ b=>(intOf b).toNat)
 case atStart=>exact⟨31,0,1073741824,2147483648,by omega,by decide,by decide,rfl,rfl,by decide,by decide,by omega,by omega⟩
 case round=>
  obtain⟨j,x,c,m,C,hc,h,rfl,rfl,o,y,d,f⟩:=hrel
  cases j with
  |zero=>
   have c0:c=0:=hc;have z:m=1:=h;subst c0;subst z;have k:=aC d;have l:=aC f;clear d f hc h
   go_wp2_with fail
   go_ret
   exact⟨x,rfl,o,by omega,k.out,l.out,rfl⟩
  |succ i=>
   have a:c=2^i:=hc
   have g:m=2*c:=by rw[h,a,Int.pow_succ];omega
   have u:1<=c:=by rw[a];exact Int.pow_pos (by decide)
   have p:x+c<=2147483648:=by omega
   obtain⟨D,E⟩:=aXB (x:=x+c) (by omega) p;have k:=aC d;have l:=aC f;have HC:=aC a;have q:=aC g;clear d f hc h a g
   by_cases v:(x+c)*(x+c)<=n
   ·go_wp2_with fail
    have e:=HC.out;have s:=q.out;refine⟨⟨i,x+c,c/2,c,by omega,aKx e,e,rfl,rfl,by omega,by omega,v,?_⟩,by simp[intOf];omega⟩;have:=l.out;rw[s,show x+2*c=x+c+c by omega]at this;exact this
   ·go_wp2_with fail
    have e:=HC.out;refine⟨⟨i,x,c/2,c,by omega,aKx e,e,rfl,rfl,by omega,by omega,k.out,by omega⟩,by simp[intOf];omega⟩
theorem aOs {r s:Int}(d:a<=b)(e:0<=r)(i:0<=s)(f:r*r<=a)(g:b<(s+1)*(s+1)):r<=s+1:=by
 rcases Int.lt_or_le (s+1) r with h|h
 ·exfalso;have:=Int.mul_le_mul (Int.le_of_lt h) (Int.le_of_lt h) (by omega) e;omega
 ·exact h
theorem aQw (a b:Int)(k:Bool)(w:World)(h:SpOk a b):Calls prog 28 #[sv a b k] w (bD w):=by
 have h1:=h.lo;have h2:=h.le;have h3:=h.hi;have N:=aC (fun w=>Di w);clear h;cases k
 ·skip
  go_enter func28,ntmps28
  go_wp2_with fail
  refine lK (tZ 1 w) Mv ?_;rintro W⟨g,f⟩;refine(N.out _).mono ?_;rintro e T⟨rfl,l⟩;obtain⟨M,E,H,I,J,L,Q,d⟩:=iN g f l (by omega) 0 0 false;clear l g f
  go_wp2_with fail
  obtain⟨z,A,B⟩:=Q.out;refine bodyPost_ret (v:=sv 0 0 false) (by simp[results,results28,go_sem,z,A,B]) rfl ?_;exact⟨0,0,false,rfl,SpOk.zero,d.out⟩
 by_cases p1:a<0
 ·skip
  go_enter func28,ntmps28
  go_wp2_with fail
  refine lK (tZ 1 w) Mv ?_;rintro W⟨g,f⟩;refine(N.out _).mono ?_;rintro e T⟨rfl,l⟩;obtain⟨M,E,H,I,J,L,Q,d⟩:=iN g f l (by omega) 0 0 false;clear l g f
  go_wp2_with fail
  obtain⟨z,A,B⟩:=Q.out;refine bodyPost_ret (v:=sv 0 0 false) (by simp[results,results28,go_sem,z,A,B]) rfl ?_;exact⟨0,0,false,rfl,SpOk.zero,d.out⟩
 have F:Hid (∀(x:Int) (w:World),x=a*1048576->Calls prog 41 #[.int .i64 x] w (nT (a*1048576) w)):=by
  rintro x w rfl;exact aK2 (a*1048576) w (by omega) (by omega)
 have G:Hid (∀(x:Int) (w:World),x=b*1048576->Calls prog 41 #[.int .i64 x] w (nT (b*1048576) w)):=by
  rintro x w rfl;exact aK2 (b*1048576) w (by omega) (by omega)
 have O:=aC (fun x y w=>xT x y w)
 go_enter func28,ntmps28
 go_wp2_with fail
 go_region_held3 (fun S=>S.cell? ⟨w.heap.size,0,none⟩=some (.int .i64 a)/\S.cell? ⟨w.heap.size,1,none⟩=some (.int .i64 b)) (go_keep)
  (first|(go_at_call 41;have _t:=s;refine(G.out _ _ (by first|rfl|(rw[IntKind.wrap_i64];omega))).mono ?_;rintro e w1⟨H,rfl,Y,u2,u3,R,rfl⟩;have C:=aC (aOs (show a*1048576<=b*1048576 by omega) U Y s.out R);clear u3 R)|(go_at_call 41;refine(F.out _ _ (by first|rfl|(rw[IntKind.wrap_i64];omega))).mono ?_;rintro e w1⟨E,rfl,U,t2,P,X,rfl⟩;have s:=aC P;clear P X)|(go_at_call 21;refine((O.out _ _ _).mono (fun _ _ h=>cT.sp (by have:=C.out;first|omega|(rw[IntKind.wrap_i64];omega)) h)).mono ?_;rintro e T⟨p,q,r,rfl,u,l⟩;have i:=rK l;have s0:=(i.cell (p:=⟨w.heap.size,0,none⟩) (by simp<;>omega)).trans (bH (uL (kO _ _)) rfl);have s1:=(i.cell (p:=⟨w.heap.size,1,none⟩) (by simp<;>omega)).trans (bH (uL (kO _ _)) rfl);have j:=(i.block _ (by simp<;>omega)).trans (Dr (n:=w.heap.size+1) (by simp));have M:=bH (o:=0) j rfl;have E:=bH (o:=1) j rfl;have H:=bH (o:=2) j rfl;have I:=kN (o:=0) j;have J:=kN (o:=1) j;have L:=kN (o:=2) j;have Q:=aC (tQ j p q r);have D:=aC u;have d:=aC (Zh (Below.trans (((Below.refl _ _).alloc (Nat.le_refl _) _).alloc (by simp) _) (i.mono (by simp<;>omega))) (show w.heap.size<=w.heap.size+1 by omega) p q r);clear j l i u))
 all_goals
  go_wp2_with fail
  obtain⟨z,A,B⟩:=Q.out;refine bodyPost_ret (v:=sv p q r) (by simp[results,results28,go_sem,z,A,B]) rfl ?_;exact⟨p,q,r,rfl,D.out,d.out⟩
def Loc (w:World)(b:Nat):Prop:=∃p q r,SpOk p q/\w.heap[b]?=some (cV p q r)
variable {b:Nat}
theorem Loc.lt (h:Loc n b):b<n.heap.size:=by
 obtain⟨_,_,_,_,h⟩:=h;exact fQ h
variable {w:World}
theorem Loc.below {d:World}(h:Loc w b)(e:Below w.heap.size w d):Loc d b:=by
 obtain⟨p,q,r,a,h⟩:=h;exact⟨p,q,r,a,(e.block b (fQ h)).trans h⟩
variable {p q:Int}
theorem Loc.new (w:World)(r:Bool)(h:SpOk p q):Loc (w.alloc (.cells #[.int .i64 p,.int .i64 q,.bool r] 29)) w.heap.size:=⟨p,q,r,h,kO _ _⟩
theorem Loc.old (h:Loc n b)(o:Obj):Loc (n.alloc o) b:=by
 obtain⟨p,q,r,a,h⟩:=h;exact⟨p,q,r,a,uL h⟩
abbrev rG (w:World)(b:Nat)(p q:Int)(r:Bool):World:=((w.setCell ⟨b,0,none⟩ (.int .i64 p)).setCell ⟨b,1,none⟩ (.int .i64 q)).setCell ⟨b,2,none⟩ (.bool r)
theorem aIA {a:Bool}(h:n.heap[b]?=some (cV x z a))(p q:Int)(r:Bool):(rG n b p q r).heap[b]?=some (cV p q r):=
 sH (sH (sH h (o:=0) (.int .i64 p)) (o:=1) (.int .i64 q)) (o:=2) (.bool r)
theorem aLX {c:Nat}(h:c≠b)(p q:Int)(r:Bool):(rG n b p q r).heap[c]?=n.heap[c]?:=by
 unfold rG;rw[Below.heap_setCell _ _ _ _ (by simpa using h),Below.heap_setCell _ _ _ _ (by simpa using h),Below.heap_setCell _ _ _ _ (by simpa using h)]
theorem Loc.put {c:Nat}{r:Bool}(f:Loc n b)(h:Loc n c)(a:SpOk p q):Loc (rG n b p q r) c:=by
 obtain⟨x,y,z,d,h⟩:=h
 by_cases e:c=b
 ·subst e;exact⟨p,q,r,a,aIA h p q r⟩
 ·exact⟨x,y,z,d,(aLX e p q r).trans h⟩
def SpV (v:Value):Prop:=∃p q r,v=sv p q r/\SpOk p q
def iK (f:FuncId):Prop:=∀d w,(callFunc f d).run prog w=.ok (.enter f d) w
theorem xS {f:FuncId}{fn:Func}(hf:prog.funcs[f]?=some fn)(hn:(fn.name == "runtime.NumGoroutine")=false)(hb:fn.body.isNone=false):iK f:=by
 intro xs w
 have hn':¬fn.name = "runtime.NumGoroutine":=by simpa using hn
 have hb':¬fn.body=none:=by intro e;rw[e]at hb;cases hb
 simp[callFunc,hf,hn',hb']
inductive Ki where
 |ld (j b:Nat)
 |mv (x:Value)
 |ca (f:FuncId)
 |al
 |st (j b:Nat)
 |sn (k:Nat)
 |tx (l:EW)
def kF (ks:List Ki)(B:Nat)(i:Nat)(v:Value)(w:World):Prop:=match ks[i]? with
 |some (.ld _ _)=>SpV v
 |some (.ca _)=>SpV v
 |some (.mv x)=>v=x
 |some .al=>∃b,v=.pointer (some ⟨b,0,none⟩)/\B<=b/\Loc w b
 |some (.tx l)=>∃u,v=.string u/\eH u l
 |_=>True
variable {B:Nat}
theorem Pj {ks:List Ki}{d:World}(h:∀b,Loc w b->Loc d b)(k:Nat)(u:Value)(l:kF ks B k u w):kF ks B k u d:=by
 revert l;unfold kF;generalize ks[k]?=x
 cases x with
 |none=>exact id
 |some x=>
  cases x with
  |al=>
   rintro⟨b,e,f,g⟩;exact⟨b,e,f,h b g⟩
  |_=>exact id
def SW (B:Nat)(w0:World)(bs:PH)(w:World):Prop:=(B<=w0.heap.size/\Below B w0 w)/\∀b∈bs,B<=b/\Loc w b
theorem SW.below {B:Nat}{w0 w J:World}{bs:PH}(h:SW B w0 bs w)(d:Below w.heap.size w J):SW B w0 bs J:=⟨⟨h.1.1,h.1.2.trans (d.mono (le_trans h.1.1 h.1.2.size))⟩,fun b e=>⟨(h.2 b e).1,(h.2 b e).2.below d⟩⟩
theorem SW.put {B:Nat}{w0 w:World}{bs:PH}{b:Nat}{p q:Int}{r:Bool}(h:SW B w0 bs w)(d:B<=b)(g:Loc w b)(e:SpOk p q):SW B w0 bs (rG w b p q r):=⟨⟨h.1.1,((h.1.2.setCell d _).setCell d _).setCell d _⟩,fun c f=>⟨(h.2 c f).1,Loc.put g (h.2 c f).2 e⟩⟩
theorem SW.drew {B:Nat}{w0 w:World}{bs:PH}(h:SW B w0 bs w):SW B w0 bs w.drew:=⟨⟨h.1.1,⟨h.1.2.os,h.1.2.tape,h.1.2.output,h.1.2.size,h.1.2.block⟩⟩,h.2⟩
theorem SW.new {B:Nat}{w0 w:World}{bs:PH}(h:SW B w0 bs w){p q:Int}(r:Bool)(d:SpOk p q):SW B w0 (w.heap.size::bs) (w.alloc (.cells #[.int .i64 p,.int .i64 q,.bool r] 29)):=by
 have f:=le_trans h.1.1 h.1.2.size;refine⟨⟨h.1.1,h.1.2.alloc f _⟩,fun b g=>?_⟩
 rcases List.mem_cons.1 g with e|e
 ·rw[e];exact⟨f,Loc.new w r d⟩
 ·exact⟨(h.2 b e).1,(h.2 b e).2.old _⟩
variable {bs:PH}
theorem SW.join {k:Nat}{w0 l:World}{cs f:PH}(h:SW B w0 bs l)(d:SW k l cs w)(g:B<=k)(y:∀b∈f,b∈cs\/(b<k/\b∈bs)):SW B w0 f w:=by
 refine⟨⟨h.1.1,h.1.2.trans (d.1.2.mono g)⟩,fun b z=>?_⟩
 rcases y b z with e|⟨n,s⟩
 ·exact⟨le_trans g (d.2 b e).1,(d.2 b e).2⟩
 ·obtain⟨u,p,q,r,v,x⟩:=h.2 b s;exact⟨u,p,q,r,v,by rw[d.1.2.block b n];exact x⟩
theorem SW.add {w0:World}(h:SW B w0 bs w)(d:B<=b)(f:Loc w b):SW B w0 (b::bs) w:=⟨h.1,fun c g=>by
 rcases List.mem_cons.1 g with e|e
 ·rw[e];exact⟨d,f⟩
 ·exact h.2 c e⟩
section
variable {a:Act} {w w0:World} {o:Oper} {K:AW} {Q:XW} {i j b B:Nat} {ops:Array Oper} {ks:List Ki} {bs:PH}
theorem aXz (f:o.op=.load 29 (.tmp j))(l:a.tmps[j]?=some (.pointer (some ⟨b,0,none⟩)))(h:Loc w b)(g:∀v,SpV v->K (a.put o.dst v) w):Oper.wp prog o a w K Q:=by
 obtain⟨p,q,r,d,k⟩:=h;obtain⟨c0,c1,c2⟩:=qT k rfl rfl rfl
 have e:a.eval (.tmp j)=.pointer (some ⟨b,0,none⟩):=by simp[Act.eval,Array.getD_eq_getD_getElem?,l]
 have:(execOp a.eval o).run prog w=.ok (.value (sv p q r)) w:=by
  unfold execOp;rw[f];simp only[e]
  go_simp
 unfold Oper.wp;rw[this,Oper.upon_value];exact g _ ⟨p,q,r,rfl,d⟩
variable {M:FuncId}{ts:Array TypeId}
theorem aXx {args:Array Operand}(g:o.op=.call { callee:=.value (.func M),args:=args,argTypes:=ts})(s:iK M)(k:Calls prog M (args.map a.eval) w (bD w))(l:∀v h,SpV v->Below w.heap.size w h->K (a.put o.dst v) h):Oper.wp prog o a w K Q:=by
 have:(execOp a.eval o).run prog w=.ok (.enter M (args.map a.eval)) w:=by
  unfold execOp;rw[g];simp[resolve,Act.eval,Deferred.ofValue,invoke];exact s _ _
 unfold Oper.wp;rw[this,Oper.upon_enter];refine k.mono ?_;rintro e h⟨p,q,r,rfl,d,n⟩;exact l _ _ ⟨p,q,r,rfl,d⟩ n
theorem aXw (d:o.op=.alloc 29)(e:K (a.put o.dst (.pointer (some ⟨w.heap.size,0,none⟩))) (w.alloc (.cells #[.int .i64 0,.int .i64 0,.bool false] 29))):Oper.wp prog o a w K Q:=by
 unfold Oper.wp execOp;rw[d]
 go_simp
 exact e
theorem aV5 {x y:Operand}{r:Bool}(d:o.op=.store 29 x y)(k:a.eval x=.pointer (some ⟨b,0,none⟩))(l:a.eval y=sv p q r)(f:Loc w b)(e:K (a.put o.dst undef) (rG w b p q r)):Oper.wp prog o a w K Q:=by
 obtain⟨n,s,u,h,g⟩:=f;obtain⟨c0,c1,c2,f0,f1,f2⟩:=Ea g rfl rfl rfl;unfold Oper.wp execOp;rw[d];simp only[k,l]
 go_simp
 exact e
structure At (ops:Array Oper) (ks:List Ki) (B:Nat) (w0:World) (bs:PH) (a0 a:Act) (w:World) (o:Oper):Prop where
 s:SW B w0 bs w
 dp:∀e∈o.after,Region.binds .any e=true->∀(p:Oper) (d:Nat),ops[e.on]?=some p->p.dst=some d->∃v,a.tmps[d]?=some v/\kF ks B e.on v w
 fr:∀j,(∀(i:Nat) (o:Oper),ops[i]?=some o->o.dst≠some j)->a.tmps[j]?=a0.tmps[j]?
def pZ (ks:List Ki)(B:Nat)(w0:World)(bs:PH)(i:Nat)(a:Act)(w:World)(o:Oper)(K:AW):Prop:=∀v d,kF ks B i v d->SW B w0 bs d->(∀k u,kF ks B k u w->kF ks B k u d)->K (a.put o.dst v) d
def lU (ops:Array Oper)(j:Nat):Bool:=ops.toList.all fun o=>o.dst != some j
theorem Vo (h:lU ops j=true)(i:Nat)(o:Oper)(d:ops[i]?=some o):o.dst≠some j:=by
 have:=List.all_eq_true.1 h o (Array.mem_toList_iff.2 (Array.mem_of_getElem? d))
 simpa using this
def eT (ops:Array Oper)(o:Oper)(k d:Nat):Bool:=(o.after.toList.any fun e=>Region.binds .any e&&e.on==k)&&(match ops[k]? with
 |some p=>p.dst==some d
 |none=>false)
variable {a0:Act}
theorem At.of {k d:Nat}(A:At ops ks B w0 bs a0 a w o)(h:eT ops o k d=true):∃v,a.eval (.tmp d)=v/\kF ks B k v w:=by
 unfold eT at h;rw[and_eq_true]at h;obtain⟨r,f⟩:=h;obtain⟨e,x,g⟩:=List.any_eq_true.1 r;rw[and_eq_true,beq_iff_eq]at g;obtain⟨g,s⟩:=g
 cases l:ops[k]? with
 |none=>rw[l]at f;cases f
 |some p=>
  rw[l]at f
  have u:p.dst=some d:=by simpa using f
  subst s;obtain⟨v,n,q⟩:=A.dp e (Array.mem_toList_iff.1 x) g p d l u;exact⟨v,by simp[Act.eval,Array.getD_eq_getD_getElem?,n],q⟩
def argP (ks:List Ki):Operand->Option Nat->Value->Prop
 |.const c,_,v=>v=c
 |_,some k,v=>match ks[k]? with
  |some (.mv x)=>v=x
  |_=>SpV v
 |_,none,_=>False
def nD (ops:Array Oper)(ks:List Ki)(o:Oper):Operand->Option Nat->Bool
 |.const _,_=>true
 | .tmp d,some k=>eT ops o k d&&(match ks[k]? with
  |some (.ld _ _)=>true
  |some (.mv _)=>true
  |some (.ca _)=>true
  |_=>false)
 |_,_=>false
def Alls:List (Value->Prop)->List Value->Prop
 | [],[]=>True
 |p::d,v::e=>p v/\Alls d e
 |_,_=>False
theorem At.arg (A:At ops ks B w0 bs a0 a w o):∀{x:Operand} {s:ON},nD ops ks o x s=true->argP ks x s (a.eval x)
 |.const c,_,_=>rfl
 |.tmp d,some k,h=>by
  unfold nD at h;rw[and_eq_true]at h;obtain⟨v,l,f⟩:=A.of h.1;have e:=h.2;rw[l];unfold kF at f
  show match ks[k]? with
   |some (.mv x)=>v=x
   |_=>SpV v
  cases g:ks[k]? with
  |none=>rw[g]at e;cases e
  |some x=>
   rw[g]at f e
   cases x<;>first|exact f|cases e
 |.tmp _,none,h=>by cases h
 |.global _,_,h=>by cases h
 |.func _,_,h=>by cases h
theorem At.args {a0:Act}(A:At ops ks B w0 bs a0 a w o):∀(d:List Operand) (e:List (Option Nat)),d.length=e.length->((d.zip e).all fun p=>nD ops ks o p.1 p.2)=true->Alls ((d.zip e).map fun p=>argP ks p.1 p.2) (d.map a.eval)
 | [],[],_,_=>trivial
 |x::d,s::e,f,h=>by
  simp only[List.zip_cons_cons,List.all_cons,and_eq_true]at h;exact⟨A.arg h.1,At.args A d e (by simpa using f) h.2⟩
 | [],_::_,h,_=>by cases h
 |_::_,[],h,_=>by cases h
theorem iO (A:At ops ks B w0 bs a0 a w o)(N:pZ ks B w0 bs i a w o K)(j b:Nat)(g:o.guard=none)(d:o.op=.load 29 (.tmp j))(k:ks[i]?=some (.ld j b))(f:lU ops j=true)(l:a0.tmps[j]?=some (.pointer (some ⟨b,0,none⟩)))(e:b∈bs):if Region.wanted o (yielded ops a.tmps)=true then Oper.wp prog o a w K Q else K (a.put o.dst undef) w:=by
 rw[if_pos (by unfold Region.wanted;rw[g])]
 exact aXz d (by rw[A.fr j (Vo f)];exact l) (A.s.2 b e).2 fun v hv=>N v w (by unfold kF;rw[k];exact hv) A.s fun _ _ h=>h
theorem cD (A:At ops ks B w0 bs a0 a w o)(N:pZ ks B w0 bs i a w o K){args:Array Operand}(e:List (Option Nat))(x:o.guard=none)(g:o.op=.call { callee:=.value (.func M),args:=args,argTypes:=ts})(y:ks[i]?=some (.ca M))(z:args.toList.length=e.length)(d:((args.toList.zip e).all fun p=>nD ops ks o p.1 p.2)=true)(r:iK M)(n:∀l,Alls ((args.toList.zip e).map fun p=>argP ks p.1 p.2) l->∀w,Calls prog M l.toArray w (bD w)):if Region.wanted o (yielded ops a.tmps)=true then Oper.wp prog o a w K Q else K (a.put o.dst undef) w:=by
 rw[if_pos (by unfold Region.wanted;rw[x])];have:=n _ (A.args args.toList e z d) w;rw[show(args.toList.map a.eval).toArray=args.map a.eval by apply Array.toList_inj.1;simp]at this
 exact aXx g r this fun v C hv d=>N v C (by unfold kF;rw[y];exact hv) (A.s.below d) fun k u h=>Pj (fun b q=>q.below d) k u h
variable {x:Value}
theorem sZ (A:At ops ks B w0 bs a0 a w o)(N:pZ ks B w0 bs i a w o K)(j:Nat)(g:o.guard=none)(d:o.op=.move (.tmp j))(k:ks[i]?=some (.mv x))(f:lU ops j=true)(l:a0.tmps[j]?=some x):if Region.wanted o (yielded ops a.tmps)=true then Oper.wp prog o a w K Q else K (a.put o.dst undef) w:=by
 rw[if_pos (by unfold Region.wanted;rw[g])]
 have e:a.eval (.tmp j)=x:=by simp[Act.eval,Array.getD_eq_getD_getElem?,A.fr j (Vo f),l]
 have:(execOp a.eval o).run prog w=.ok (.value x) w:=by
  unfold execOp;rw[d];simp[e]
 unfold Oper.wp;rw[this,Oper.upon_value]
 exact N x w (by unfold kF;rw[k]) A.s fun _ _ h=>h
theorem aZK (A:At ops ks B w0 bs a0 a w o)(N:pZ ks B w0 bs i a w o K)(g:o.guard=none)(d:o.op=.alloc 29)(l:ks[i]?=some .al):if Region.wanted o (yielded ops a.tmps)=true then Oper.wp prog o a w K Q else K (a.put o.dst undef) w:=by
 rw[if_pos (by unfold Region.wanted;rw[g])];have e:Below w.heap.size w (w.alloc (.cells #[.int .i64 0,.int .i64 0,.bool false] 29)):=(Below.refl _ _).alloc (Nat.le_refl _) _;exact aXw d (N _ _ (by unfold kF;rw[l];exact⟨_,rfl,le_trans A.s.1.1 A.s.1.2.size,Loc.new w false SpOk.zero⟩) (A.s.below e) fun k u h=>Pj (fun b f=>f.below e) k u h)
theorem jK (A:At ops ks B w0 bs a0 a w o)(N:pZ ks B w0 bs i a w o K)(j b d k:Nat)(C:o.guard=none)(l:o.op=.store 29 (.tmp j) (.tmp d))(D:ks[i]?=some (.st j b))(z:lU ops j=true)(E:a0.tmps[j]?=some (.pointer (some ⟨b,0,none⟩)))(y:b∈bs)(F:nD ops ks o (.tmp d) (some k)=true)(hv:∀v,argP ks (.tmp d) (some k) v->SpV v):if Region.wanted o (yielded ops a.tmps)=true then Oper.wp prog o a w K Q else K (a.put o.dst undef) w:=by
 rw[if_pos (by unfold Region.wanted;rw[C])];obtain⟨p,q,r,e,f⟩:=hv _ (A.arg F);obtain⟨n,g⟩:=A.s.2 b y;exact aV5 l (by simp[Act.eval,Array.getD_eq_getD_getElem?,A.fr j (Vo z),E]) e g (N _ _ (by unfold kF;rw[D];trivial) (A.s.put n g f) fun k u h=>Pj (fun c x=>Loc.put g x f) k u h)
theorem aZL (A:At ops ks B w0 bs a0 a w o)(N:pZ ks B w0 bs i a w o K)(j n d k:Nat)(E:o.guard=none)(x:o.op=.store 29 (.tmp j) (.tmp d))(H:ks[i]?=some (.sn n))(I:ks[n]?=some .al)(F:eT ops o n j=true)(J:nD ops ks o (.tmp d) (some k)=true)(hv:∀v,argP ks (.tmp d) (some k) v->SpV v):if Region.wanted o (yielded ops a.tmps)=true then Oper.wp prog o a w K Q else K (a.put o.dst undef) w:=by
 rw[if_pos (by unfold Region.wanted;rw[E])];obtain⟨p,q,r,e,f⟩:=hv _ (A.arg J);obtain⟨v,y,g⟩:=A.of F;unfold kF at g;rw[I]at g;obtain⟨b,z,C,l⟩:=g;exact aV5 x (by rw[y,z]) e l (N _ _ (by unfold kF;rw[H];trivial) (A.s.put C l f) fun k u h=>Pj (fun c D=>Loc.put l D f) k u h)
variable {p:Value->Prop}
theorem zY {i:LB}(h:Alls [p] i):∃x,i=[x]/\p x:=by
 match i,h with
 | [x],⟨d,_⟩=>exact⟨x,rfl,d⟩
 | [],h=>exact h.elim
 |_::_::_,⟨_,h⟩=>exact h.elim
theorem zZ {q:Value->Prop}{i:LB}(h:Alls [p,q] i):∃x y,i=[x,y]/\p x/\q y:=by
 match i,h with
 |x::i,⟨d,e⟩=>
  obtain⟨y,rfl,f⟩:=zY e;exact⟨x,y,rfl,d,f⟩
 | [],h=>exact h.elim
theorem cSS (h:∀a b k c d m w,SpOk a b->SpOk c d->Calls prog M #[sv a b k,sv c d m] w (bD w))(e:LB)(hv:Alls [SpV,SpV] e)(w:World):Calls prog M e.toArray w (bD w):=by
 obtain⟨_,_,rfl,⟨a,b,k,rfl,g⟩,c,d,m,rfl,l⟩:=zZ hv;exact h a b k c d m w g l
theorem cS (h:∀a b k w,SpOk a b->Calls prog M #[sv a b k] w (bD w))(d:LB)(hv:Alls [SpV] d)(w:World):Calls prog M d.toArray w (bD w):=by
 obtain⟨_,rfl,a,b,k,rfl,e⟩:=zY hv;exact h a b k w e
theorem cSI (h:∀a b k w,SpOk a b->Calls prog M #[sv a b k,x] w (bD w))(d:LB)(hv:Alls [SpV,fun v=>v=x] d)(w:World):Calls prog M d.toArray w (bD w):=by
 obtain⟨_,_,rfl,⟨a,b,k,rfl,e⟩,rfl⟩:=zZ hv;exact h a b k w e
theorem cII {g:Value}(h:∀w,Calls prog M #[x,g] w (bD w))(d:LB)(hv:Alls [fun v=>v=x,fun v=>v=g] d)(w:World):Calls prog M d.toArray w (bD w):=by
 obtain⟨_,_,rfl,rfl,rfl⟩:=zZ hv;exact h w
theorem Gv (a b:Int)(h:a<=b):∀d,Alls [fun v=>v=.int .i64 a,fun v=>v=.int .i64 b] d->∀w,Calls prog 21 d.toArray w (bD w):=cII fun w=>(xT a b w).mono fun _ _=>cT.sp h
theorem kI:∀e,Alls [SpV,SpV] e->∀w,Calls prog 24 e.toArray w (bD w):=cSS fun a b k c d m w h f=>aMu a b k c d m w h f
theorem qS:∀e,Alls [SpV,SpV] e->∀w,Calls prog 27 e.toArray w (bD w):=cSS fun a b k c d m w h f=>aJD a b k c d m w h f
theorem qD:∀d,Alls [SpV] d->∀w,Calls prog 25 d.toArray w (bD w):=cS fun a b k w h=>aQa a b k w h
theorem Qu (p q:Int)(e:0<=p)(f:p<=1000)(g:1<=q)(h:q<=1000):∀d,Alls [fun v=>v=.int .i64 p,fun v=>v=.int .i64 q] d->∀w,Calls prog 12 d.toArray w (bD w):=cII fun w=>(Ub p q w e f g h).mono fun _ _=>cT.sp (Ib (by omega) (Int.le_refl _))
theorem Qs:∀d,Alls [SpV] d->∀w,Calls prog 26 d.toArray w (bD w):=cS fun a b k w h=>(Po a b k w h).mono fun _ _ ⟨e,f⟩=>⟨_,_,_,e,h.neg,f⟩
theorem Rm:iK 12:=xS func12 rfl rfl
theorem Rk:iK 26:=xS func26 rfl rfl
theorem Gz:iK 21:=xS func21 rfl rfl
theorem kJ:iK 24:=xS func24 rfl rfl
theorem qU:iK 27:=xS func27 rfl rfl
theorem qG:iK 25:=xS func25 rfl rfl
theorem qM {id:Nat}(ks:List Ki)(bs:PH)(f:SW B w0 bs n)(k:nX ops a0.tmps.size=true)(g:Gn ops=true)
  (step:∀(i:Nat) (h:i<ops.size) (a:Act) (w:World) (K:AW),At ops ks B w0 bs a0 a w ops[i]->pZ ks B w0 bs i a w ops[i] K->if Region.wanted ops[i] (yielded ops a.tmps)=true then Oper.wp prog ops[i] a w K Q else K (a.put ops[i].dst undef) w)
  (e:∀(l:Nat->Value) (w:World),SW B w0 bs w->(∀(i:Nat) (o:Oper) (d:Nat),ops[i]?=some o->o.dst=some d->kF ks B i (l i) w)->Q .normal ⟨cU a0.tmps (dl l ops.toList 0),a0.defers⟩ w):(Code.region id ops true).wp prog Q a0 n:=
 aOn (S:=SW B w0 bs) (F:=kF ks B) (by kernel_rfl) k g f.drew (fun i o s a w f q r K p=>by
  obtain⟨hi,rfl⟩:=Array.getElem?_eq_some_iff.1 s
  exact step i hi a w K ⟨f,q,r⟩ p) e
end
end Go.Proofs.YthhffdeihoofiaaGreatDoor
