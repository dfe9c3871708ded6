import Derived.Test.YtpdflaaamaokbaaGreatDoorCCh20
import Derived.Test.YtpdflaaamaokbaaGreatDoorCCh16
import Derived.Test.YtpdflaaamaokbaaGreatDoorCCh19
import Derived.Deep.AppendLies
set_option linter.all false
set_option maxRecDepth 100000
set_option maxHeartbeats 2000000
namespace Go.Proofs.YtpdflaaamaokbaaGreatDoor
open List renaming length_cons->j8,length_append->j9,getD->k8,getElem?_eq_getElem->k9,mem_singleton->l4,setIfInBounds_toArray->l5,set_cons_zero->l7,set_cons_succ->l8,mem_append->l9
open Option.some renaming injEq->n4
open Nat renaming le_refl->n5,lt_or_ge->n6,zero_add->n7,zero_le->n8
open Prod.mk renaming injEq->n9,inj->o8
open Or renaming inr->o9
open Go.Obj.cells renaming injEq->p7
open Bool renaming and_self->p8
open Go.Proofs.Tryz
namespace Rd
open Go.Deep (BT)
variable {ws:List Wd}{st:St}
theorem aT8 {x:Int}(h:dG (aD ws st.next)=(1,dec x))(b:cL x)(a:x≠0):term ws st=(x,st.aN):=by grind [dG,aD,dec,cL,term,Dp,aKe,Lm]
theorem aEj (x y:Int)(r:LN):dE (x::y::r)=(1,dec x)::(3,[44])::dE (y::r):=rfl
theorem aMy:∀(r:LN) (f c:Nat) (a:LN) (st:St),r≠[]->(∀y∈r,cL y/\y≠0)->c+r.length<=9->Seg ws st.next (dE r)->
  NO (terms ws f c a st) (some (some (a++r),{st with next:=st.next+(dE r).length})):=by
 intro r
 induction r with
 |nil=>intro f c a st h;exact absurd rfl h
 |cons x r s=>
  intro f c a st _ e hc g
  cases f with
  |zero=>exact NO.no _
  |succ f=>
   obtain⟨p,i⟩:=e x (by simp)
   have o:dG (aD ws st.next)=(1,dec x):=by
    cases r with
    |nil=>exact g.1
    |cons y r=>exact g.1
   have d:=aT8 o p i;unfold terms;rw[d]
   cases st.okB with
   |false=>exact NO.no _
   |true=>
    cases st.aN.okB with
    |false=>exact NO.no _
    |true=>
     have b:(x==0)=false:=by simpa using i
     cases r with
     |nil=>
      have j:dG (aD ws st.aN.next)=(3,[93]):=g.2.1
      have l:tk ws st.aN ⟨#[93]⟩=true:=by rw[rT j];rfl
      right;simp only[p8,cond_true,b,cond_false,l];rfl
     |cons y r=>
      have j:dG (aD ws st.aN.next)=(3,[44]):=g.2.1
      have l:tk ws st.aN ⟨#[93]⟩=false:=by rw[rT j];rfl
      have n:tk ws st.aN ⟨#[44]⟩=true:=by rw[rT j];rfl
      have k:(c==8)=false:=by
       simp only[j8]at hc;exact beq_eq_false_iff_ne.2 (by omega)
      simp only[p8,cond_true,b,cond_false,l,n,k];have:=s f (c+1) (a++[x]) st.aN.aN (by simp) (λz q=>e z (by simp[q])) (by simp only[j8]at hc ⊢;omega) g.2.2;refine this.trans (o9 ?_);rw[aEj];simp only[List.append_assoc,List.cons_append,List.nil_append,j8,St.aN];rw[show st.next+1+1+(dE (y::r)).length=st.next+((dE (y::r)).length+1+1) by omega]
theorem aSA {a b:Option (Option (List Int)×St)}(h:NO a b):NO (lN a) (lN b):=by
 rcases h with h|h
 .rw[h];exact NO.no _
 .rw[h];exact NO.refl _
theorem aWS (ws:List Wd){ts:LN}(h:Dc ts):BB ws (dM 4 0 ts):=by
 obtain⟨x,r,rfl,q,o,i,h8⟩:=h;refine Pc (k:=2) (λe=>absurd (show(4:Int)=14 from e) (by decide)) (b:=[99,102]) (r:=(3,[91])::(1,dec x)::(3,[59])::dE r) rfl (by decide) ?_;intro f st p;have a:Seg ws st.next ((2,[99,102])::(3,[91])::(1,dec x)::(3,[59])::dE r):=p;obtain⟨j,v,l,w,d⟩:=a
 have n:named (aD ws st.next).text=4:=by
  unfold named isT;rw[Lm j];rfl
 have k1:tk ws st.aN ⟨#[91]⟩=true:=by rw[rT (st:=st.aN) v];rfl
 have u:tk ws st.aN.aN.aN ⟨#[59]⟩=true:=by rw[rT (st:=st.aN.aN.aN) w];rfl
 have s:(aD ws st.aN.aN.next).kind=1:=Dp l;have y:valTo (aD ws st.aN.aN.next).text (aD ws st.aN.aN.next).text.size=x:=aKe (Lm l) q.1;have g:=aMy (ws:=ws) r 8 1 [x] st.aN.aN.aN.aN (by intro e;rw[e]at i;simp at i) o (by omega) d
 cases f with
 |zero=>exact NO.no _
 |succ f=>
  rw[p5,Dp j,n];unfold nameOf continued
  cases st.okB with
  |false=>exact NO.no _
  |true=>
   cases decide (st.aN.next<900)&&st.aN.okB with
   |false=>exact NO.no _
   |true=>
    rw[k1,s,u,y];refine(aSA g).trans ?_;simp only[lN]
    cases St.okB { st.aN.aN.aN.aN with next:=st.aN.aN.aN.aN.next+(dE r).length} with
    |false=>exact NO.no _
    |true=>
     right;rw[aTa];simp only[cond_true,St.aN,bE]
     have e:st.next+1+1+1+1+(dE r).length=st.next+(tw (dM 4 0 (x::r))).length:=by
      show _=st.next+((dE r).length+1+1+1+1);omega
     rw[e];rfl
variable {k:Int}
theorem Hi {t:Tr}{b:ON}(h:dG (aD ws st.next)=(k,b))(e:b≠[43])(g:b≠[45])(f:Nat):NO (parse ws f 1 (some t) st) (some (some t,st)):=by
 cases f with
 |zero=>exact NO.no _
 |succ f=>
  have a:tk ws st ⟨#[43]⟩=false:=by rw[rT h];simp[e]
  have d:tk ws st ⟨#[45]⟩=false:=by rw[rT h];simp[g]
  rw[p1]
  cases st.okB with
  |false=>exact NO.no _
  |true=>simp only[a,d,cond_true,cond_false];exact NO.refl _
theorem Xe (x:Tr):tw (fB 14 x)=(3,[40])::(tw x++[(3,[41])]):=rfl
variable {x:Tr}
theorem aRr (h:BB ws x):∀f st,Seg ws st.next (tw (fB 14 x))->NO (parse ws f 6 none st) (some (some (strip (fB 14 x)),bE (fB 14 x) st)):=by
 intro f st e;rw[Xe]at e;obtain⟨k,a⟩:=e;rw[aJk]at a;obtain⟨a,d,_⟩:=a
 have k0:tk ws st ⟨#[40]⟩=true:=by rw[rT k];rfl
 cases f with
 |zero=>exact NO.no _
 |succ f=>
  rw[p6,k0]
  cases st.okB with
  |false=>exact NO.no _
  |true=>
   obtain⟨g,i⟩:=h.b0 f st.aN.lI a (aHp d (by decide) (by decide));have b:=Hi (st:=bE x st.aN.lI) (t:=strip x) d (by decide) (by decide) g;refine((i.trans b).next _).trans ?_;show NO (iC ws (some (strip x)) (bE x st.aN.lI)) _;unfold iC
   cases (bE x st.aN.lI).fW with
   |false=>exact NO.no _
   |true=>
    have j:tk ws (bE x st.aN.lI).out ⟨#[41]⟩=true:=by rw[rT (st:=(bE x st.aN.lI).out) d];rfl
    right;simp only[j,cond_true];simp only[bE,St.out,St.aN,St.lI,Xe,dep,ndc,fB,n4,n9,St.mk.injEq,true_and];refine⟨rfl,?_,by omega,?_,rfl⟩
    .show st.next+1+(tw x).length+1=st.next+((3,[40])::(tw x++[(3,[41])]):List Tok).length;rw[j8,j9,j8,List.length_nil];omega
    .show max st.deepest (st.around+1+dep x)=max st.deepest (st.around+(dep x+1));rw[show st.around+1+dep x=st.around+(dep x+1) by omega]
theorem aUw (h:BB ws x):BB ws (fB 14 x):=by
 refine Pc (λ_=>aRr h) (k:=3) (b:=[40]) (r:=tw x++[(3,[41])]) rfl (by decide) ?_;intro f st a;have e:dG (aD ws st.next)=(3,[40]):=a.1;have d:=aRr h
 cases f with
 |zero=>exact NO.no _
 |succ f=>
  rw[p5,Dp e]
  cases st.okB with
  |false=>exact NO.no _
  |true=>exact d f st a
theorem Xl (a:k=10\/k=11\/k=12\/k=13)(x:Tr):tw (fB k x)=(2,sym k)::tw x:=by
 rcases a with rfl|rfl|rfl|rfl<;>rfl
theorem aWT (a:k=10\/k=11\/k=12\/k=13)(h:BB ws x)(u:aR x=14):BB ws (fB k x):=by
 refine Pc (λe=>absurd (show k=14 from e) (by omega)) (k:=2) (b:=sym k) (r:=tw x) (Xl a _) (by rcases a with rfl|rfl|rfl|rfl<;>decide) ?_;intro f st i;rw[Xl a]at i;obtain⟨j,d⟩:=i
 have s:named (aD ws st.next).text=k:=by
  unfold named isT;rw[Lm j]
  rcases a with rfl|rfl|rfl|rfl<;>rfl
 have q:=h.b6 u
 cases f with
 |zero=>exact NO.no _
 |succ f=>
  have l:(k==0)=false:=by rcases a with rfl|rfl|rfl|rfl<;>rfl
  have n:(k==2||k==3)=false:=by rcases a with rfl|rfl|rfl|rfl<;>rfl
  have o:(k==4)=false:=by rcases a with rfl|rfl|rfl|rfl<;>rfl
  have p:(k==5||k==14)=false:=by rcases a with rfl|rfl|rfl|rfl<;>rfl
  have g:(k==14)=false:=by rcases a with rfl|rfl|rfl|rfl<;>rfl
  rw[p5,Dp j,s];unfold nameOf;rw[l,n,o]
  cases st.okB with
  |false=>exact NO.no _
  |true=>
   refine((q f st.aN d).next _).trans ?_;show NO (dX k (some (strip x)) (bE x st.aN)) _;show NO (bif (bE x st.aN).okB then some (some (fB k (strip x)),(bE x st.aN).node)else none) _
   cases (bE x st.aN).okB with
   |false=>exact NO.no _
   |true=>
    right
    have w:strip (fB k x)=fB k (strip x):=by
     unfold fB;simp only[strip,g,cond_false]
    have d1:dep (fB k x)=dep x:=by
     show(bif k==5||k==14 then dep x+1 else max (dep x) (dep .nil))=_;rw[p];simp[dep]
    have v:ndc (fB k x)=ndc x+1:=by
     show(bif k==14 then ndc x else ndc x+ndc .nil+1)=_;rw[g];simp[ndc]
    simp only[cond_true,w,bE,d1,v,Xl a,St.node,St.aN,n4,n9,St.mk.injEq,true_and];refine⟨?_,by omega⟩;rw[j8];omega
theorem aSc (x:Tr):tw (fB 5 x)=(3,[45])::tw x:=rfl
theorem aUu (h:BB ws x)(d:3<=aM (aR x)):BB ws (fB 5 x):=by
 have b4:∀f st,Seg ws st.next (tw (fB 5 x))->NO (parse ws f 4 none st) (some (some (strip (fB 5 x)),bE (fB 5 x) st)):=by
  intro f st b;rw[aSc]at b;obtain⟨j,a⟩:=b
  have k0:tk ws st ⟨#[45]⟩=true:=by rw[rT j];rfl
  cases f with
  |zero=>exact NO.no _
  |succ f=>
   rw[p4,k0]
   cases st.okB with
   |false=>exact NO.no _
   |true=>
    refine((h.b4 d f st.aN.lI a).next _).trans ?_;show NO (bif (bE x st.aN.lI).fW then dX 5 (some (strip x)) (bE x st.aN.lI).out else none) _
    cases (bE x st.aN.lI).fW with
    |false=>exact NO.no _
    |true=>
     show NO (bif (bE x st.aN.lI).out.okB then some (some (fB 5 (strip x)),(bE x st.aN.lI).out.node)else none) _
     cases (bE x st.aN.lI).out.okB with
     |false=>exact NO.no _
     |true=>
      right
      have g:ndc (fB 5 x)=ndc x+1:=by
       show ndc x+ndc .nil+1=_;simp[ndc]
      have d1:dep (fB 5 x)=dep x+1:=rfl;have i:strip (fB 5 x)=fB 5 (strip x):=rfl;simp only[cond_true,i,bE,d1,g,aSc,St.node,St.aN,St.lI,St.out,n4,n9,St.mk.injEq,true_and];refine⟨?_,by omega,?_,by omega⟩
      .simp;omega
      .rw[show st.around+1+dep x=st.around+(dep x+1) by omega]
 exact⟨λe=>absurd (show(5:Int)=14 from e) (by decide),λe=>absurd (show(3:Int)=4 from e) (by decide),λ_=>b4,λ_=>Xj b4,aSu (Xj b4)⟩
theorem Qg (a:k=6\/k=7\/k=8\/k=9)(l r:Tr):tw (jJ k l r)=tw l++(3,sym k)::tw r:=by
 rcases a with rfl|rfl|rfl|rfl<;>rfl
theorem Vj (a:k=6\/k=7\/k=8\/k=9)(l r:Tr):strip (jJ k l r)=jJ k (strip l) (strip r):=by grind [strip,jJ]
theorem aMQ (a:k=6\/k=7\/k=8\/k=9)(l r:Tr)(st:St):(bE r (bE l st).aN).node=bE (jJ k l r) st:=by
 have d1:dep (jJ k l r)=max (dep l) (dep r):=by rcases a with rfl|rfl|rfl|rfl<;>rfl
 have b:ndc (jJ k l r)=ndc l+ndc r+1:=by rcases a with rfl|rfl|rfl|rfl<;>rfl
 simp only[bE,d1,b,Qg a,St.node,St.aN,St.mk.injEq,true_and];refine⟨?_,?_,by omega⟩
 .simp;omega
 .omega
variable {X r:Tr}
theorem Oe:NO (operOf k X (some r) st) (some (some (jJ k X r),st.node)):=by grind [operOf,jJ,NO.no,NO.refl]
theorem aRk (i:k=8\/k=9)(x:BB ws X)(y:BB ws r)(v:2<=aM (aR X))(w:3<=aM (aR r)):BB ws (jJ k X r):=by
 have b:k=6\/k=7\/k=8\/k=9:=by omega
 have b2:∀f st,Seg ws st.next (tw (jJ k X r))->∃a,NO (parse ws f 2 none st) (parse ws a 3 (some (strip (jJ k X r))) (bE (jJ k X r) st)):=by
  intro f st u;rw[Qg b,aJk]at u;obtain⟨j,q,n⟩:=u;obtain⟨a,s⟩:=x.b2 v f st j
  cases a with
  |zero=>exact⟨0,s.trans (NO.no _)⟩
  |succ a=>
   refine⟨a,s.trans ?_⟩;rw[p3]
   cases (bE X st).okB with
   |false=>exact NO.no _
   |true=>
    have h:=y.b4 w a (bE X st).aN n
    have g:NO ((parse ws a 4 none (bE X st).aN).next λz p=>(operOf k (strip X) z p).next λo d=>parse ws a 3 o d) (parse ws a 3 (some (strip (jJ k X r))) (bE (jJ k X r) st)):=by
     refine(h.next _).trans ?_;show NO ((operOf k (strip X) (some (strip r)) (bE r (bE X st).aN)).next λo d=>parse ws a 3 o d) _;refine(Oe.next _).trans (o9 ?_);rw[Vj b,<-aMQ b];rfl
    rcases i with rfl|rfl
    .have k0:tk ws (bE X st) ⟨#[42]⟩=true:=by rw[rT (st:=bE X st) q];rfl
     rw[k0];exact g
    .have k0:tk ws (bE X st) ⟨#[42]⟩=false:=by rw[rT (st:=bE X st) q];rfl
     have k1:tk ws (bE X st) ⟨#[47]⟩=true:=by rw[rT (st:=bE X st) q];rfl
     rw[k0,k1];exact g
 refine⟨λe=>absurd (show k=14 from e) (by omega),?_,?_,λ_=>b2,aSu b2⟩
 .intro e;rcases i with rfl|rfl<;>exact absurd (show(2:Int)=4 from e) (by decide)
 .intro e;rcases i with rfl|rfl<;>exact absurd (show(3:Int)<=2 from e) (by decide)
theorem aRj (g:k=6\/k=7)(z:BB ws X)(A:BB ws r)(y:2<=aM (aR r)):BB ws (jJ k X r):=by
 have b:k=6\/k=7\/k=8\/k=9:=by omega
 have b0:∀f st,Seg ws st.next (tw (jJ k X r))->oJ ws (bE (jJ k X r) st).next->∃a,NO (parse ws f 0 none st) (parse ws a 1 (some (strip (jJ k X r))) (bE (jJ k X r) st)):=by
  intro f st x w;rw[Qg b,aJk]at x;obtain⟨p,i,q⟩:=x;obtain⟨a,v⟩:=z.b0 f st p (aHp i (by rcases g with rfl|rfl<;>decide) (by rcases g with rfl|rfl<;>decide))
  cases a with
  |zero=>exact⟨0,v.trans (NO.no _)⟩
  |succ a=>
   refine⟨a,v.trans ?_⟩;rw[p1]
   cases (bE X st).okB with
   |false=>exact NO.no _
   |true=>
    obtain⟨f3,j⟩:=A.b2 y a (bE X st).aN q
    have o:oJ ws (bE r (bE X st).aN).next:=by
     rw[<-aMQ b]at w;exact w
    have n:=j.trans (Hj o f3)
    have h:NO ((parse ws a 2 none (bE X st).aN).next λB u=>(operOf k (strip X) B u).next λs d=>parse ws a 1 s d) (parse ws a 1 (some (strip (jJ k X r))) (bE (jJ k X r) st)):=by
     refine(n.next _).trans ?_;show NO ((operOf k (strip X) (some (strip r)) (bE r (bE X st).aN)).next λs d=>parse ws a 1 s d) _;refine(Oe.next _).trans (o9 ?_);rw[Vj b,<-aMQ b];rfl
    rcases g with rfl|rfl
    .have k0:tk ws (bE X st) ⟨#[43]⟩=true:=by rw[rT (st:=bE X st) i];rfl
     rw[k0];exact h
    .have k0:tk ws (bE X st) ⟨#[43]⟩=false:=by rw[rT (st:=bE X st) i];rfl
     have k1:tk ws (bE X st) ⟨#[45]⟩=true:=by rw[rT (st:=bE X st) i];rfl
     rw[k0,k1];exact h
 refine⟨λe=>absurd (show k=14 from e) (by omega),?_,?_,?_,b0⟩
 .intro e;rcases g with rfl|rfl<;>exact absurd (show(1:Int)=4 from e) (by decide)
 .intro e;rcases g with rfl|rfl<;>exact absurd (show(3:Int)<=1 from e) (by decide)
 .intro e;rcases g with rfl|rfl<;>exact absurd (show(2:Int)<=1 from e) (by decide)
theorem aUt:∀c,Good c->BB ws c:=by
 intro c
 induction c with
 |nil=>intro h;exact h.elim
 |node p q a l r b g=>
  intro h;obtain⟨k,v,ts⟩:=a;obtain⟨rfl,rfl,h⟩:=h;simp only at h
  rcases h with⟨rfl,e,rfl,rfl,rfl⟩|⟨e,f,rfl,rfl⟩|⟨rfl,rfl,e,rfl,rfl⟩|⟨rfl,f,d,i,rfl⟩|⟨e,f,d,i,rfl⟩|⟨rfl,f,d,rfl⟩|⟨e,f,d,i,n,j⟩
  .exact aUv ws e
  .obtain⟨rfl,rfl⟩:=o8 f;exact aPC ws e
  .exact aWS ws e
  .obtain⟨rfl,rfl⟩:=o8 f;exact aUu (b d) i
  .obtain⟨rfl,rfl⟩:=o8 f;exact aWT e (b d) i
  .obtain⟨rfl,rfl⟩:=o8 f;exact aUw (b d)
  .obtain⟨rfl,rfl⟩:=o8 f
   rcases e with rfl|rfl|rfl|rfl
   .exact aRj (Or.inl rfl) (b d) (g i) j
   .exact aRj (o9 rfl) (b d) (g i) j
   .exact aRk (Or.inl rfl) (b d) (g i) n j
   .exact aRk (o9 rfl) (b d) (g i) n j
end Rd
namespace Rd
variable {ws:List Wd}
def pH (ws:List Wd):Prop:=∀n,(aD ws n).kind≠0->n+1<ws.length
structure Inv (ws:List Wd) (st:St):Prop where
 next:st.next<ws.length
 around:st.around<=st.next
 nodes:st.nodes<=st.next
 deepest:st.deepest<=st.next
structure Rel (ws:List Wd) (st st':St):Prop where
 inv:Inv ws st'
 next:st.next<=st'.next
 around:st'.around=st.around
 nodes:st'.nodes+st.next<=st.nodes+st'.next
variable {st:St}
theorem Rel.refl (h:Inv ws st):Rel ws st st:=⟨h,n5 _,rfl,n5 _⟩
theorem Rel.trans {a b c:St}(h:Rel ws a b)(k:Rel ws b c):Rel ws a c:=⟨k.inv,Nat.le_trans h.next k.next,k.around.trans h.around,by have:=h.nodes;have:=k.nodes;omega⟩
theorem Inv.okB {st:St}(h:Inv ws st)(a:ws.length<=121):st.okB=true:=by
 have:=h.next;have:=h.around;have:=h.nodes;have:=h.deepest;simp only[St.okB,decide_eq_true_eq];omega
theorem yR (a:pH ws){c:ByteArray}(h:tk ws st c=true):st.next+1<ws.length:=by
 refine a _ ?_;simp only[tk,Bool.and_eq_true,Bool.not_eq_true',beq_eq_false_iff_ne,ne_eq]at h;exact h.1
theorem Cs (h:Inv ws st)(a:st.next+1<ws.length):Rel ws st st.aN:=
 ⟨⟨a,by have:=h.around;show st.around<=st.next+1;omega,by have:=h.nodes;show st.nodes<=st.next+1;omega,by have:=h.deepest;show st.deepest<=st.next+1;omega⟩,by show st.next<=st.next+1;omega,rfl,by show st.nodes+st.next<=st.nodes+(st.next+1);omega⟩
theorem aKL (h:Inv ws st)(d:st.next+1<ws.length):Rel ws st st.aN.leaf:=by
 have a:=h.around;have b:=h.nodes;have c:=h.deepest;refine⟨⟨d,by show st.around<=st.next+1;omega,by show st.nodes+1<=st.next+1;omega,?_⟩,by show st.next<=st.next+1;omega,rfl,by show st.nodes+1+st.next<=st.nodes+(st.next+1);omega⟩;show(bif decide (st.deepest<st.around)then st.around else st.deepest)<=st.next+1
 cases decide (st.deepest<st.around)<;>simp<;>omega
theorem aQV (a:pH ws)(h:Inv ws st):Rel ws st (term ws st).2:=by grind [pH,term,Rel.refl,Cs]
theorem aJ8 (e:pH ws)(g:ws.length<=121):∀f c ts st,c+f=9->1<=c->c<=8->Inv ws st->∃r a,terms ws f c ts st=some (r,a)/\Rel ws st a/\(r.isSome=true->st.next<a.next):=by
 intro f
 induction f with
 |zero=>intro c ts st p q s;omega
 |succ f u=>
  intro c ts st p q s hi;have b:=aQV e hi;have o1:=hi.okB g;have o2:=b.inv.okB g;rw[terms,o1,o2];simp only[p8,cond_true]
  cases a1:((term ws st).1==0)with
  |true=>exact⟨_,_,rfl,b,λh=>by cases h⟩
  |false=>
   cases i:tk ws (term ws st).2 ⟨#[93]⟩with
   |true=>
    have:=Cs b.inv (yR e i);refine⟨_,_,rfl,b.trans this,λ_=>?_⟩;have:=b.next;show st.next<(term ws st).2.next+1;omega
   |false=>
    cases j:(c==8)with
    |true=>exact⟨_,_,rfl,b,λh=>by cases h⟩
    |false=>
     cases k:tk ws (term ws st).2 ⟨#[44]⟩with
     |false=>exact⟨_,_,rfl,b,λh=>by cases h⟩
     |true=>
      have d:=Cs b.inv (yR e k);obtain⟨r,a,l,n,o⟩:=u (c+1) (ts++[(term ws st).1]) _ (by omega) (by omega) (by simp at j;omega) d.inv;refine⟨r,a,l,(b.trans d).trans n,λh=>?_⟩;have:=(b.trans d).next;have:=o h;omega
theorem aFM (e:pH ws)(f:ws.length<=121)(st:St)(hi:Inv ws st):∃r a,continued ws st=some (r,a)/\Rel ws st a:=by
 have s:=hi.next;unfold continued;rw[hi.okB f,decide_eq_true (show st.next<900 by omega)];simp only[p8,cond_true]
 cases a1:tk ws st ⟨#[91]⟩with
 |false=>exact⟨none,st,rfl,Rel.refl hi⟩
 |true=>
  have g:=Cs hi (yR e a1)
  cases j:((aD ws st.aN.next).kind==1)with
  |false=>exact⟨none,st.aN,rfl,g⟩
  |true=>
   have h:=g.trans (Cs g.inv (e _ (by have:=beq_iff_eq.1 j;omega)))
   cases k:tk ws st.aN.aN ⟨#[59]⟩with
   |false=>exact⟨none,st.aN.aN,rfl,h⟩
   |true=>
    have i:=h.trans (Cs h.inv (yR e k));obtain⟨r,a,l,d,n⟩:=aJ8 e f 8 1 [valTo (aD ws st.aN.next).text (aD ws st.aN.next).text.size] st.aN.aN.aN (by omega) (by omega) (by omega) i.inv;simp only[cond_true];rw[l]
    cases r with
    |none=>exact⟨none,a,rfl,i.trans d⟩
    |some ts=>
     have b:=i.trans d;have q:=n rfl;have en:st.aN.aN.aN.next=st.next+3:=rfl;simp only[lN,d.inv.okB f,cond_true];refine⟨_,_,rfl,?_⟩;have o:=b.inv.around;have u:=b.inv.nodes;have v:=b.inv.deepest;have w:=b.nodes;have p:=b.next;have x:=d.nodes;have y:st.aN.aN.aN.nodes=st.nodes:=rfl;have z:=hi.nodes;refine⟨⟨b.inv.next,o,by show a.nodes+1<=a.next;omega,?_⟩,p,b.around,by show a.nodes+1+st.next<=st.nodes+a.next;omega⟩;show(bif decide (a.deepest<a.around)then a.around else a.deepest)<=a.next
     cases decide (a.deepest<a.around)<;>simp<;>omega
def Dj (ws:List Wd)(a:pS)(st:St):Prop:=∃r b,a=some (r,b)/\Rel ws st b/\(r.isSome=true->st.next<b.next)
variable {k:Int}
theorem aQs (e:ws.length<=121){l:Tr}{r:Option Tr}{a:St}(hi:Inv ws st)(b:Rel ws st a)(f:a.nodes+st.next+1<=st.nodes+a.next):
  ∃x d,operOf k l r a=some (x,d)/\Rel ws st d/\d.next=a.next:=by
 cases r with
 |none=>exact⟨none,a,rfl,b,rfl⟩
 |some r=>
  have:=hi.nodes;exact⟨some (jJ k l r),a.node,by simp only[operOf,b.inv.okB e,cond_true],⟨⟨b.inv.next,b.inv.around,by show a.nodes+1<=a.next;omega,b.inv.deepest⟩,b.next,b.around,by show a.nodes+1+st.next<=st.nodes+a.next;omega⟩,rfl⟩
theorem aJa (d:ws.length<=121){x:Option Tr}{a:St}(hi:Inv ws st)(b:Rel ws st a)(f:a.nodes+st.next+1<=st.nodes+a.next)(e:x.isSome=true->st.next<a.next):Dj ws (dX k x a) st:=by
 cases x with
 |none=>exact⟨none,a,rfl,b,λh=>by cases h⟩
 |some x=>
  have:=hi.nodes;exact⟨some (fB k x),a.node,by simp only[dX,b.inv.okB d,cond_true],⟨⟨b.inv.next,b.inv.around,by show a.nodes+1<=a.next;omega,b.inv.deepest⟩,b.next,b.around,by show a.nodes+1+st.next<=st.nodes+a.next;omega⟩,λ_=>e rfl⟩
theorem aNV (hi:Inv ws st)(d:st.next+1<ws.length):Inv ws st.aN.lI:=by
 have a:=hi.around;have b:=hi.nodes;have c:=hi.deepest;exact⟨d,by show st.around+1<=st.next+1;omega,by show st.nodes<=st.next+1;omega,by show st.deepest<=st.next+1;omega⟩
theorem aK0 {e:St}(hi:Inv ws st)(h:Rel ws st.aN.lI e):Rel ws st e.out/\1<=e.around/\st.next+1<=e.next/\e.nodes+st.next+1<=st.nodes+e.next:=by
 have a:=h.around;have b:=h.nodes;have c:=h.next;have f:st.aN.lI.next=st.next+1:=rfl;have g:st.aN.lI.nodes=st.nodes:=rfl;have i:st.aN.lI.around=st.around+1:=rfl;rw[f]at c b;rw[g]at b;rw[i]at a;have d:=hi.around;refine⟨⟨⟨h.inv.next,by show e.around-1<=e.next;omega,h.inv.nodes,h.inv.deepest⟩,by show st.next<=e.next;omega,by show e.around-1=st.around;omega,by show e.nodes+st.next<=st.nodes+e.next;omega⟩,by omega,c,by omega⟩
structure T1 (ws:List Wd) (f:Nat):Prop where
 sum:∀l st,Inv ws st->10*(ws.length-st.next)+9<=f->Dj ws (parse ws f 0 l st) st
 sumL:∀l st,Inv ws st->10*(ws.length-st.next)+8<=f->∃r st',parse ws f 1 l st=some (r,st')/\Rel ws st st'
 prod:∀l st,Inv ws st->10*(ws.length-st.next)+8<=f->Dj ws (parse ws f 2 l st) st
 prodL:∀l st,Inv ws st->10*(ws.length-st.next)+7<=f->∃r st',parse ws f 3 l st=some (r,st')/\Rel ws st st'
 signed:∀l st,Inv ws st->10*(ws.length-st.next)+7<=f->Dj ws (parse ws f 4 l st) st
 atom:∀l st,Inv ws st->10*(ws.length-st.next)+6<=f->Dj ws (parse ws f 5 l st) st
 br:∀l st,Inv ws st->10*(ws.length-st.next)+5<=f->Dj ws (parse ws f 6 l st) st
theorem Ui (B:pH ws)(C:ws.length<=121){w h b:Nat}{X:Tr}{c:ByteArray}(hi:Inv ws st)(E:tk ws st c=true)
  (i:∀a,Inv ws a->a.next=st.next+1->Dj ws (parse ws w b none a) a) (j:∀X a,Inv ws a->st.next+1<=a.next->∃r d,parse ws w h X a=some (r,d)/\Rel ws a d):
  ∃r d,((parse ws w b none st.aN).next λr g=>(operOf k X r g).next λn e=>parse ws w h n e)=some (r,d)/\Rel ws st d:=by
 have q:=Cs hi (yR B E);obtain⟨r,g,u,o,_⟩:=i st.aN q.inv rfl;have D:=o.nodes;have en:st.aN.next=st.next+1:=rfl;have A:st.aN.nodes=st.nodes:=rfl;rw[en,A]at D;have F:=o.next;rw[en]at F;obtain⟨x,e,v,s,I⟩:=aQs (k:=k) (l:=X) (r:=r) C hi (q.trans o) (by omega);obtain⟨y,p,z,H⟩:=j x e s.inv (by omega);refine⟨y,p,?_,s.trans H⟩;rw[u];show(operOf k X r g).next (λn e=>parse ws w h n e)=_;rw[v];exact z
theorem aSq (p:pH ws)(n:ws.length<=121)(f:Nat)(j:T1 ws f):T1 ws (f+1):=by
 constructor
 case sum=>
  intro l st hi z;obtain⟨r,d,q,k,A⟩:=j.prod none st hi (by omega);have F:=k.next;obtain⟨y,g,v,C⟩:=j.sumL r d k.inv (by omega);refine⟨y,g,?_,k.trans C,λh=>?_⟩
  .rw[parse,q];exact v
  .cases r with
   |none=>
    cases f with
    |zero=>cases q
    |succ f=>
     simp only[parse,n4,n9]at v;rw[<-v.1]at h;cases h
   |some r=>have:=A rfl;have:=C.next;omega
 case sumL=>
  intro l st hi z
  cases l with
  |none=>exact⟨none,st,rfl,Rel.refl hi⟩
  |some l=>
   rw[parse,hi.okB n];simp only[cond_true]
   cases s:tk ws st ⟨#[43]⟩with
   |true=>
    have:=yR p s;exact Ui p n hi s (λd o w=>j.prod none d o (by omega)) (λl d o w=>j.sumL l d o (by omega))
   |false=>
    cases u:tk ws st ⟨#[45]⟩with
    |true=>
     have:=yR p u;exact Ui p n hi u (λd o w=>j.prod none d o (by omega)) (λl d o w=>j.sumL l d o (by omega))
    |false=>exact⟨some l,st,rfl,Rel.refl hi⟩
 case prod=>
  intro l st hi z;obtain⟨r,d,q,k,A⟩:=j.signed none st hi (by omega);have F:=k.next;obtain⟨y,g,v,C⟩:=j.prodL r d k.inv (by omega);refine⟨y,g,?_,k.trans C,λh=>?_⟩
  .rw[parse,q];exact v
  .cases r with
   |none=>
    cases f with
    |zero=>cases q
    |succ f=>
     simp only[parse,n4,n9]at v;rw[<-v.1]at h;cases h
   |some r=>have:=A rfl;have:=C.next;omega
 case prodL=>
  intro l st hi z
  cases l with
  |none=>exact⟨none,st,rfl,Rel.refl hi⟩
  |some l=>
   rw[parse,hi.okB n];simp only[cond_true]
   cases s:tk ws st ⟨#[42]⟩with
   |true=>
    have:=yR p s;exact Ui p n hi s (λd o w=>j.signed none d o (by omega)) (λl d o w=>j.prodL l d o (by omega))
   |false=>
    cases u:tk ws st ⟨#[47]⟩with
    |true=>
     have:=yR p u;exact Ui p n hi u (λd o w=>j.signed none d o (by omega)) (λl d o w=>j.prodL l d o (by omega))
    |false=>exact⟨some l,st,rfl,Rel.refl hi⟩
 case signed=>
  intro l st hi z;rw[parse,hi.okB n];simp only[cond_true]
  cases s:tk ws st ⟨#[45]⟩with
  |false=>exact j.atom none st hi (by omega)
  |true=>
   have i:=yR p s;have D:=aNV hi i;have en:st.aN.lI.next=st.next+1:=rfl;obtain⟨x,g,q,k,A⟩:=j.signed none st.aN.lI D (by omega);obtain⟨o1,o2,o3,o4⟩:=aK0 hi k;simp only[cond_true];rw[q];show Dj ws (bif g.fW then dX 5 x g.out else none) st;rw[show g.fW=true by simp only[St.fW,k.inv.okB n,decide_eq_true o2];rfl];exact aJa n hi o1 (by show g.nodes+st.next+1<=st.nodes+g.next;exact o4) (λ_=>by show st.next<g.next;omega)
 case atom=>
  intro l st hi z;rw[parse,hi.okB n];simp only[cond_true]
  cases s:((aD ws st.next).kind==1)with
  |true=>
   have i:st.next+1<ws.length:=p _ (by have:=beq_iff_eq.1 s;omega);simp only[cond_true];rw[(Cs hi i).inv.okB n];exact⟨_,_,rfl,aKL hi i,λ_=>by show st.next<st.next+1;omega⟩
  |false=>
   cases u:((aD ws st.next).kind==2)with
   |false=>exact j.br none st hi (by omega)
   |true=>
    have i:st.next+1<ws.length:=p _ (by have:=beq_iff_eq.1 u;omega);have B:=Cs hi i;have en:st.aN.next=st.next+1:=rfl;simp only[cond_true,cond_false];unfold nameOf
    cases k0:(named (aD ws st.next).text==0)with
    |true=>exact⟨none,st,rfl,Rel.refl hi,λh=>by cases h⟩
    |false=>
     cases I:(named (aD ws st.next).text==2||named (aD ws st.next).text==3)with
     |true=>
      simp only[cond_true,cond_false];rw[B.inv.okB n];exact⟨_,_,rfl,aKL hi i,λ_=>by show st.next<st.next+1;omega⟩
     |false=>
      cases J:(named (aD ws st.next).text==4)with
      |true=>
       obtain⟨r,E,e,h⟩:=aFM p n st.aN B.inv;exact⟨r,E,e,B.trans h,λ_=>by have:=h.next;omega⟩
      |false=>
       obtain⟨x,g,q,k,A⟩:=j.br none st.aN B.inv (by omega);simp only[cond_false];rw[q];have a:=k.nodes;have b:=k.next;have H:st.aN.nodes=st.nodes:=rfl;exact aJa n hi (B.trans k) (by omega) (λ_=>by omega)
 case br=>
  intro l st hi z;rw[parse]
  .rw[hi.okB n];simp only[cond_true]
   cases s:tk ws st ⟨#[40]⟩with
   |false=>exact⟨none,st,rfl,Rel.refl hi,λh=>by cases h⟩
   |true=>
    have i:=yR p s;have D:=aNV hi i;have en:st.aN.lI.next=st.next+1:=rfl;obtain⟨x,g,q,k,A⟩:=j.sum none st.aN.lI D (by omega);obtain⟨o1,o2,o3,o4⟩:=aK0 hi k;simp only[cond_true];rw[q];show Dj ws (iC ws x g) st;unfold iC;rw[show g.fW=true by simp only[St.fW,k.inv.okB n,decide_eq_true o2];rfl];simp only[cond_true]
    cases x with
    |none=>exact⟨none,g.out,rfl,o1,λh=>by cases h⟩
    |some x=>
     simp only
     cases u:tk ws g.out ⟨#[41]⟩with
     |false=>exact⟨none,g.out,rfl,o1,λh=>by cases h⟩
     |true=>exact⟨some x,g.out.aN,rfl,o1.trans (Cs o1.inv (yR p u)),λ_=>by show st.next<g.next+1;omega⟩
  all_goals omega
theorem aUN (a:pH ws)(b:ws.length<=121):∀f,T1 ws f:=by
 intro f
 induction f with
 |zero=>constructor<;>(intro l st _ h;omega)
 |succ f d=>exact aSq a b f d
theorem aJY (d:pH ws)(f:ws.length<=121)(b:0<ws.length):∃r a,parse ws 1300 0 none ⟨0,0,0,0⟩=some (r,a)/\Rel ws ⟨0,0,0,0⟩ a:=by
 obtain⟨r,a,e,h,_⟩:=(aUN d f 1300).sum none ⟨0,0,0,0⟩ ⟨b,n5 _,n5 _,n5 _⟩ (by simp only;omega);exact⟨r,a,e,h⟩
end Rd
namespace Rd
open Go.Deep (BT)
theorem aPi:∀(f:Nat) (l:ON),(toksF f l).length<=l.length:=by
 intro f
 induction f with
 |zero=>intro l;simp[toksF]
 |succ f a=>
  intro l
  cases l with
  |nil=>simp[toksF]
  |cons c r=>
   have e:=a r;have b:=a (r.drop (lW r));have d:=a (r.drop (jR r));simp only[List.length_drop]at b d;simp only[toksF]
   cases c==32<;>cases dg c<;>cases lt c<;>simp<;>omega
theorem aQN (s:ByteArray):pH (split s (s.size+1) 0)/\(split s (s.size+1) 0).length<=s.size+1/\0<(split s (s.size+1) 0).length/\dG (aD (split s (s.size+1) 0) (toks s.data.toList).length)=(0,[])/\Seg (split s (s.size+1) 0) 0 (toks s.data.toList):=by
 have l:=aMH s
 have q:(split s (s.size+1) 0).length=(toks s.data.toList).length+1:=by
  have:=congrArg List.length l
  simpa using this
 have o:(toks s.data.toList).length<=s.size:=by rw[<-Ko];exact aPi _ _
 have d:∀i,i<(split s (s.size+1) 0).length->dG (aD (split s (s.size+1) 0) i)=(toks s.data.toList++[(0,[])]).getD i (0,[]):=by
  intro i hi;rw[<-l];unfold aD;simp[k8,k9 hi]
 refine⟨?_,by omega,by omega,?_,?_⟩
 .intro n k
  rcases n6 n (split s (s.size+1) 0).length with h|h
  .rcases n6 (n+1) (split s (s.size+1) 0).length with h'|h'
   .exact h'
   .exfalso
    have e:n=(toks s.data.toList).length:=by omega
    have:=d n h;rw[e]at this;simp[k8]at this;apply k;rw[e];exact Dp this
  .exfalso;apply k;unfold aD;simp[k8,List.getElem?_eq_none h]
 .rw[d _ (by omega)];simp[k8]
 .have g:∀(a b:List Tok) (i:Nat),(∀j,j<a.length->dG (aD (split s (s.size+1) 0) (i+j))=a.getD j (0,[]))->Seg (split s (s.size+1) 0) i a:=by
   intro a
   induction a with
   |nil=>intro _ _ _;trivial
   |cons x r p=>
    intro b i h;refine⟨by simpa using h 0 (by simp),p b (i+1) (λj f=>?_)⟩;have:=h (j+1) (by simpa using f);rw[show i+1+j=i+(j+1) by omega,this];simp
  refine g _ [] 0 (λj f=>?_);rw[n7,d j (by omega)];simp[k8,List.getElem?_append_left f]
theorem aIL {s:ByteArray}{c:Tr}(hc:Good c)(l:toks s.data.toList=tw c):
  read 1300 s=bif decide (120<s.size)then some (none,1,0)else bif decide (12<dep c)||decide (40<ndc c)then some (none,3,0)else some (some (strip c),0,0):=by
 unfold read
 by_cases f:120<s.size
 .simp[f]
 .obtain⟨j,o,k,b,e⟩:=aQN s;obtain⟨res,n,d,_⟩:=aJY j (by omega) k;rw[l]at b e;have i:=aUt (ws:=split s (s.size+1) 0) c hc
  have a:dG (aD (split s (s.size+1) 0) (bE c ⟨0,0,0,0⟩).next)=(0,[]):=by
   simp only[bE,n7];exact b
  obtain⟨g,h⟩:=i.b0 1300 ⟨0,0,0,0⟩ e (aHp a (by decide) (by decide));have h1:=h.trans (Hi (st:=bE c ⟨0,0,0,0⟩) (t:=strip c) a (by decide) (by decide) g)
  rcases h1 with h1|h1
  .rw[h1]at d;cases d
  .rw[h1];simp only[decide_eq_false f,cond_false,Dp a];simp only[bE,n7,Nat.zero_max];rfl
def jP (b:Bool)(x:Tr):Tr:=bif b then fB 14 x else x
def fD:Tr->Tr
 |.nil=>.nil
 |.node p q a l r=>
  bif a.1==5 then .node p q a (jP (decide (aM (aR l)<3)) (fD l)) (fD r)
  else bif decide (10<=a.1/\a.1<=13)then .node p q a (fB 14 (fD l)) (fD r)
  else bif decide (6<=a.1/\a.1<=9)then .node p q a (jP (decide (aM (aR l)<aM a.1)) (fD l)) (jP (decide (aM (aR r)<aM a.1+1)) (fD r))
  else .node p q a l r
structure CC (c:Tr):Prop where
 ne:aR (strip c)=aR (fD (strip c))
 kind:aR c≠14->aR (strip c)=aR c
 plain:aR (strip c)≠14
 xT:Good (fD (strip c))
 back:strip (fD (strip c))=strip c
 toks:toks (text (strip c))=tw (fD (strip c))
 dep:dep (fD (strip c))+(bif aR c==14 then 1 else 0)<=dep c
 ndc:ndc (fD (strip c))=ndc c
 pos:0<(text (strip c)).length
variable {b:Bool}
theorem Nf {x:Tr}(h:Good x):Good (jP b x):=by
 cases b with
 |false=>exact h
 |true=>exact⟨rfl,rfl,o9 (o9 (o9 (o9 (o9 (Or.inl ⟨rfl,rfl,h,rfl⟩)))))⟩
theorem Zs (x:Tr):strip (jP b x)=strip x:=by cases b<;>rfl
theorem aGZ (x:Tr):ndc (jP b x)=ndc x:=by cases b<;>rfl
theorem aPM (x:Tr):dep (jP b x)=dep x+(bif b then 1 else 0):=by cases b<;>rfl
theorem Zw {x:Tr}{t:Tr}{m:Int}(h:aR t=aR x)(b:m<=4):m<=aM (aR (jP (decide (aM (aR t)<m)) x)):=by
 by_cases a:aM (aR t)<m
 .simp only[a,decide_true];show m<=4;exact b
 .simp only[a,decide_false];show m<=aM (aR x);rw[<-h];omega
theorem aG0 (b:Bool)(x:ON)(y:Tr)(h:toks x=tw y):toks (nZ b x)=tw (jP b y):=by
 cases b with
 |false=>exact h
 |true=>
  show toks (40::(x++[41]))=(3,[40])::(tw y++[(3,[41])]);rw[wW (by decide) (by decide),uZ (by decide),h];rfl
theorem aPN (b:Bool)(x:ON)(y:Tr)(h:toks x=tw y)(c:UInt8)(hc:an c=false)(r:ON):toks (nZ b x++c::r)=tw (jP b y)++toks (c::r):=by
 rw[uZ hc,aG0 b x y h]
def mI:List Int->List Tok
 | []=>[]
 |y::r=>(3,[44])::(1,dec y)::mI r
theorem aJr (a:LN)(z:Int):mI (a++[z])=mI a++[(3,[44]),(1,dec z)]:=by
 induction a with
 |nil=>rfl
 |cons y r b=>simp[mI,b]
theorem aMl:∀(r:LN) (y:Int),dE (y::r)=(1,dec y)::(mI r++[(3,[93])]):=by
 intro r
 induction r with
 |nil=>intro y;rfl
 |cons z r a=>intro y;rw[aEj,a z];rfl
theorem aQ0 {x z:Int}{r:LN}(g:cL x)(h:cL z)(f:∀a∈r,cL a):∀j,j<=r.length->toks (eW (x::z::r) (2+j))=[(2,[99,102]),(3,[91]),(1,dec x),(3,[59]),(1,dec z)]++mI (r.take j):=by
 intro j
 induction j with
 |zero=>
  intro _;show toks (([99,102,91]++([]++dec x))++([59,32]++dec z))=_
  have b:([99,102,91]++([]++dec x))++([59,32]++dec z)=[99,102]++(91::(dec x++59::32::dec z)):=by simp
  rw[b,uZ (by decide),wW (c:=91) (by decide) (by decide),uZ (by decide),Hy g,wW (c:=59) (by decide) (by decide),Ks,Hy h];rfl
 |succ j k=>
  intro l
  have b:eW (x::z::r) (2+(j+1))=eW (x::z::r) (2+j)++(44::32::dec r[j]):=by
   rw[show 2+(j+1)=(2+j)+1 by omega,eW]
   have d:sep (2+j)=[44,32]:=by
    unfold sep;rw[beq_eq_false_iff_ne.2 (show 2+j≠0 by omega),beq_eq_false_iff_ne.2 (show 2+j≠1 by omega)];rfl
   have e:(x::z::r).getD (2+j) 0=r[j]:=by
    rw[show 2+j=j+1+1 by omega];simp[k8,k9 (show j<r.length by omega)]
   rw[d,e];rfl
  have i:cL r[j]:=f _ (List.getElem_mem (by omega));rw[b,uZ (by decide),k (by omega),wW (by decide) (by decide),Ks,Hy i,List.take_succ_eq_append_getElem (by omega),aJr];simp
theorem aPj {ts:LN}(h:Dc ts):toks (dZ ts)=uK ts:=by
 obtain⟨x,r,rfl,e,b,d,_⟩:=h
 cases r with
 |nil=>simp at d
 |cons y r=>
  have a:=aQ0 e (b y (by simp)).1 (λz f=>(b z (by simp[f])).1) r.length (n5 _);unfold dZ;rw[uZ (by decide),show(x::y::r).length=2+r.length by simp;omega,a,List.take_length,wW (by decide) (by decide),Kv];simp only[uK,aMl];simp
theorem Vq {c:Tr}(a:strip c=c)(hc:fD c=c)(b:aR c≠14)(d:Good c)(f:toks (text c)=tw c)(e:0<(text c).length):CC c:=by
 refine⟨by rw[a,hc],λ_=>by rw[a],by rw[a];exact b,by rw[a,hc];exact d,by rw[a,hc,a],by rw[a,hc];exact f,?_,by rw[a,hc],by rw[a];exact e⟩;rw[a,hc,beq_eq_false_iff_ne.2 b];exact n5 _
variable {x:Tr}
theorem aUy (h:CC x):CC (fB 14 x):=by
 have d:dep (fB 14 x)=dep x+1:=rfl;refine⟨h.ne,λe=>absurd rfl e,h.plain,h.xT,h.back,h.toks,?_,h.ndc,h.pos⟩;have:=h.dep;rw[d];show dep (fD (strip x))+1<=dep x+1;omega
theorem aJy (h:CC x){m:Int}(d:m<=aM (aR x)):dep (jP (decide (aM (aR (strip x))<m)) (fD (strip x)))<=dep x:=by
 rw[aPM];have a:=h.dep
 by_cases b:aR x=14
 .rw[b]at a;simp only[beq_self_eq_true,cond_true]at a
  cases decide (aM (aR (strip x))<m)<;>simp<;>omega
 .have:=h.kind b;rw[this,decide_eq_false (by omega)];simp only[cond_false];omega
theorem aUx (h:CC x)(a:3<=aM (aR x)):CC (fB 5 x):=by
 have b:=aJy h a;refine⟨rfl,λ_=>rfl,by show(5:Int)≠14;decide,?_,?_,?_,?_,?_,?_⟩
 .exact⟨rfl,rfl,o9 (o9 (o9 (Or.inl ⟨rfl,rfl,Nf h.xT,Zw h.ne (by decide),rfl⟩)))⟩
 .show fB 5 (strip (jP _ (fD (strip x))))=fB 5 (strip x);rw[Zs,h.back]
 .show toks (45::nZ _ (text (strip x)))=(3,[45])::tw (jP _ (fD (strip x)));rw[wW (by decide) (by decide),aG0 _ _ _ h.toks]
 .show dep (jP _ (fD (strip x)))+1+0<=dep x+1;omega
 .show ndc (jP _ (fD (strip x)))+0+1=ndc x+0+1;rw[aGZ,h.ndc]
 .show 0<(45::nZ _ (text (strip x))).length;simp
theorem aWU {k:Int}(e:k=10\/k=11\/k=12\/k=13)(h:CC x)(o:aR x=14):CC (fB k x):=by
 have j:(k==5)=false:=by rcases e with rfl|rfl|rfl|rfl<;>rfl
 have a:(k==14)=false:=by rcases e with rfl|rfl|rfl|rfl<;>rfl
 have f:decide (10<=k/\k<=13)=true:=by rcases e with rfl|rfl|rfl|rfl<;>rfl
 have d:strip (fB k x)=fB k (strip x):=by
  unfold fB;simp only[strip,a,cond_false]
 have c1:fD (fB k (strip x))=fB k (fB 14 (fD (strip x))):=by
  unfold fB;simp only[fD,j,f,cond_false,cond_true];rfl
 have p:∀y,strip (fB k y)=fB k (strip y):=by
  intro y;unfold fB;simp only[strip,a,cond_false]
 have n:text (fB k (strip x))=sym k++40::(text (strip x)++[41]):=by rcases e with rfl|rfl|rfl|rfl<;>rfl
 have g:=h.dep;rw[o]at g;simp only[beq_self_eq_true,cond_true]at g
 have i:∀y,dep (fB k y)=dep y:=by
  intro y;show(bif k==5||k==14 then dep y+1 else max (dep y) (dep .nil))=_;rw[j,a];simp[dep]
 have l:∀y,ndc (fB k y)=ndc y+1:=by
  intro y;show(bif k==14 then ndc y else ndc y+ndc .nil+1)=_;rw[a];simp[ndc]
 refine⟨by rw[d,c1];rfl,λ_=>by rw[d];rfl,by rw[d];show k≠14;omega,?_,?_,?_,?_,?_,?_⟩
 .rw[d,c1];exact⟨rfl,rfl,o9 (o9 (o9 (o9 (Or.inl ⟨e,rfl,Nf (b:=true) h.xT,rfl,rfl⟩))))⟩
 .rw[d,c1,p];show fB k (strip (fD (strip x)))=_;rw[h.back]
 .rw[d,c1,n,uZ (by decide),wW (by decide) (by decide),uZ (by decide),h.toks,Xl e,Xe]
  have:toks (sym k)=[(2,sym k)]:=by rcases e with rfl|rfl|rfl|rfl<;>rfl
  rw[this];rfl
 .rw[d,c1,i,i];show dep (fD (strip x))+1+(bif k==14 then 1 else 0)<=dep x;rw[a];exact g
 .rw[d,c1,l,l];show ndc (fD (strip x))+1=_;rw[h.ndc]
 .rw[d,n];simp;omega
theorem aWV {k:Int}(a:k=6\/k=7\/k=8\/k=9){X r:Tr}(d:CC X)(e:CC r)(p:aM k<=aM (aR X))(q:aM k+1<=aM (aR r)):CC (jJ k X r):=by
 have n:(k==5)=false:=by rcases a with rfl|rfl|rfl|rfl<;>rfl
 have g:(k==14)=false:=by rcases a with rfl|rfl|rfl|rfl<;>rfl
 have f:decide (10<=k/\k<=13)=false:=by rcases a with rfl|rfl|rfl|rfl<;>rfl
 have o:decide (6<=k/\k<=9)=true:=by rcases a with rfl|rfl|rfl|rfl<;>rfl
 have rk:aM k<=2:=by rcases a with rfl|rfl|rfl|rfl<;>decide
 have b:=Vj a X r
 have c1:fD (jJ k (strip X) (strip r))=jJ k (jP (decide (aM (aR (strip X))<aM k)) (fD (strip X))) (jP (decide (aM (aR (strip r))<aM k+1)) (fD (strip r))):=by
  unfold jJ;simp only[fD,n,f,o,cond_false,cond_true]
 have j:text (jJ k (strip X) (strip r))=nZ (decide (aM (aR (strip X))<aM k)) (text (strip X))++32::(sym k++32::nZ (decide (aM (aR (strip r))<aM k+1)) (text (strip r))):=by rcases a with rfl|rfl|rfl|rfl<;>rfl
 have ts:∀y,toks (sym k++32::y)=(3,sym k)::toks y:=by
  intro y
  rcases a with rfl|rfl|rfl|rfl<;>(show toks (_::32::y)=_;rw[wW (by decide) (by decide),Ks];rfl)
 have s:=aJy d p;have u:=aJy e q
 have h:∀y z,dep (jJ k y z)=max (dep y) (dep z):=λy z=>by rcases a with rfl|rfl|rfl|rfl<;>rfl
 have i:∀y z,ndc (jJ k y z)=ndc y+ndc z+1:=λy z=>by rcases a with rfl|rfl|rfl|rfl<;>rfl
 refine⟨by rw[b,c1];rfl,λ_=>by rw[b];rfl,by rw[b];show k≠14;omega,?_,?_,?_,?_,?_,?_⟩
 .rw[b,c1];exact⟨rfl,rfl,o9 (o9 (o9 (o9 (o9 (o9 ⟨a,rfl,Nf d.xT,Nf e.xT,Zw d.ne (by show aM k<=4;omega),Zw e.ne (by show aM k+1<=4;omega)⟩)))))⟩
 .rw[b,c1,Vj a,Zs,Zs,d.back,e.back]
 .rw[b,c1,j,aPN _ _ _ d.toks _ (by decide),Ks,ts,aG0 _ _ _ e.toks,Qg a]
 .rw[b,c1,h,h];show max _ _+(bif k==14 then 1 else 0)<=_;rw[g];simp only[cond_false];omega
 .rw[b,c1,i,i,aGZ,aGZ,d.ndc,e.ndc]
 .rw[b,j];simp;omega
theorem aRl:∀c,Good c->CC c:=by
 intro c
 induction c with
 |nil=>intro h;exact h.elim
 |node p q a l r e j=>
  intro h;have i:=h;obtain⟨k,v,ts⟩:=a;obtain⟨rfl,rfl,h⟩:=h;simp only at h
  rcases h with⟨rfl,b,rfl,rfl,rfl⟩|⟨b,d,rfl,rfl⟩|⟨rfl,rfl,b,rfl,rfl⟩|⟨rfl,d,f,g,rfl⟩|⟨b,d,f,g,rfl⟩|⟨rfl,d,f,rfl⟩|⟨b,d,f,g,n,o⟩
  .refine Vq rfl rfl (by show(1:Int)≠14;decide) i (Hy b) ?_;show 0<(dec v).length;rw[dec,Lib.decDigits_length];exact Lib.nDigits_pos _
  .obtain⟨rfl,rfl⟩:=o8 d
   rcases b with rfl|rfl
   .exact Vq rfl rfl (by show(2:Int)≠14;decide) i rfl (by decide)
   .exact Vq rfl rfl (by show(3:Int)≠14;decide) i rfl (by decide)
  .refine Vq rfl rfl (by show(4:Int)≠14;decide) i (aPj b) ?_;show 0<(dZ ts).length;unfold dZ;simp
  .obtain⟨rfl,rfl⟩:=o8 d;exact aUx (e f) g
  .obtain⟨rfl,rfl⟩:=o8 d;exact aWU b (e f) g
  .obtain⟨rfl,rfl⟩:=o8 d;exact aUy (e f)
  .obtain⟨rfl,rfl⟩:=o8 d;exact aWV b (e f) (j g) n o
theorem aMj {c:Tr}(hc:Good c)(e:dep c<=12)(f:ndc c<=40){u:ByteArray}(b:u.data.toList=text (strip c)):
  read 1300 u=bif decide (120<u.size)then some (none,1,0)else some (some (strip c),0,0):=by
 have h:=aRl c hc;have d:=h.dep;have a:=h.ndc;rw[aIL h.xT (by rw[b];exact h.toks),h.back,a,decide_eq_false (show¬12<dep (fD (strip c)) by omega),decide_eq_false (show¬40<ndc c by omega)];rfl
end Rd
open Go.RowKit
abbrev tJ (w:World)(e f:Value)(t u:ByteArray)(a b:Int)(k:Bool)(c d:Int)(m:Bool):World:=((w.alloc (.cells #[e,.string t,.int .i64 a,.int .i64 b,.bool k] 31)).alloc (.cells #[f,.string u,.int .i64 c,.int .i64 d,.bool m] 31)).alloc (.cells #[.int .i64 0,.int .i64 0,.bool false] 29)
structure Mu (w W:World) (t u:ByteArray) (a b:Int) (k:Bool) (c d:Int) (m:Bool):Prop where
 s:SW (w.heap.size+2) W [w.heap.size+2] W
 be:Below w.heap.size w W
 x1:W.cell? ⟨w.heap.size,1,none⟩=some (.string t)
 x2:W.cell? ⟨w.heap.size,2,none⟩=some (.int .i64 a)
 x3:W.cell? ⟨w.heap.size,3,none⟩=some (.int .i64 b)
 x4:W.cell? ⟨w.heap.size,4,none⟩=some (.bool k)
 y1:W.cell? ⟨w.heap.size+1,1,none⟩=some (.string u)
 y2:W.cell? ⟨w.heap.size+1,2,none⟩=some (.int .i64 c)
 y3:W.cell? ⟨w.heap.size+1,3,none⟩=some (.int .i64 d)
 y4:W.cell? ⟨w.heap.size+1,4,none⟩=some (.bool m)
theorem aWK (w:World)(f g:Value)(t u:ByteArray)(a b:Int)(k:Bool)(c d:Int)(m:Bool):Mu w (tJ w f g t u a b k c d m) t u a b k c d m:=by
 have h:(tJ w f g t u a b k c d m).heap[w.heap.size]?=some (.cells #[f,.string t,.int .i64 a,.int .i64 b,.bool k] 31 (0,0)):=uD (uD (jN _ _));have i:(tJ w f g t u a b k c d m).heap[w.heap.size+1]?=some (.cells #[g,.string u,.int .i64 c,.int .i64 d,.bool m] 31 (0,0)):=uD (Ds (by simp));have j:(tJ w f g t u a b k c d m).heap[w.heap.size+2]?=some (cO 0 0 false):=Ds (by simp);exact⟨⟨⟨Nat.le_of_lt (fJ j),Below.refl _ _⟩,λe l=>by rw[l4.1 l];exact⟨n5 _,0,0,false,SpOk.zero,j⟩⟩,(((Below.refl _ _).alloc (n5 _) _).alloc (by simp) _).alloc (by simp;omega) _,aX h rfl,aX h rfl,aX h rfl,aX h rfl,aX i rfl,aX i rfl,aX i rfl,aX i rfl⟩
def kT (w:World)(t u:ByteArray)(lt a:ON)(c:UInt8)(b:List Ki):List Ki:=[.mv (.pointer (some ⟨w.heap.size,1,none⟩)),.mv (.string t),.tx ([40]++lt),.tx ([40]++lt++[41,32,c,32,40]),.mv (.pointer (some ⟨w.heap.size+1,1,none⟩)),.mv (.string u),.tx ([40]++lt++[41,32,c,32,40]++a),.tx ([40]++lt++[41,32,c,32,40]++a++[41]),.mv (.pointer (some ⟨w.heap.size,2,none⟩)),.ld 0 0,.mv (.pointer (some ⟨w.heap.size+1,2,none⟩)),.ld 0 0]++b++[.tx ([40]++lt++[41,32,c,32,40]++a++[41]),.st 7 (w.heap.size+2)]
theorem aUe (o p:Value)(t u:ByteArray)(lt l:ON)(a b:Int)(k:Bool)(c d:Int)(m:Bool)(n:Int)(w:World)(O:-9223372036854775808<=n)(P:n<=9223372036854775807)(U:dH t lt)(W:dH u l)(R:lt.length<=1000)(S:l.length<=1000)(h:SpOk a b)(M:SpOk c d):
  Calls prog 18 #[itv o t a b k,itv p u c d m,.int .i64 n] w λe L=>∃s:UInt8,(s=43\/s=45\/s=42\/s=47)/\sB w (40::(lt++[41,32,s,32,40]++l++[41])) e L:=by
 have H:=yP n 4 (by decide)
 have hc:pickI n 4=0\/pickI n 4=1\/pickI n 4=2\/pickI n 4=3:=by omega
 have E:=aC (λw=>xG n 4 w O P (by decide) (by decide));have T:=aC (aWK w o p t u a b k c d m)
 rcases hc with hn|hn|hn|hn
 all_goals
  rw[hn]at E
  go_enter func18,ntmps18
  go_wp2_with fail
  refine(E.out _).mono ?_;rintro e Y⟨rfl,rfl⟩
  go_wp2_with fail
  first
  |(have _:pickI n 4=0:=hn;refine pW (B:=w.heap.size+2) (w0:=tJ w o p t u a b k c d m) (kT w t u lt l 43 [.ca 35]) [w.heap.size+2] T.out.s (by kernel_rfl) (by kernel_rfl) ?_ ?_)
  |(have _:pickI n 4=1:=hn;refine pW (B:=w.heap.size+2) (w0:=tJ w o p t u a b k c d m) (kT w t u lt l 45 [.ca 37,.ca 35]) [w.heap.size+2] T.out.s (by kernel_rfl) (by kernel_rfl) ?_ ?_)
  |(have _:pickI n 4=2:=hn;refine pW (B:=w.heap.size+2) (w0:=tJ w o p t u a b k c d m) (kT w t u lt l 42 [.ca 38]) [w.heap.size+2] T.out.s (by kernel_rfl) (by kernel_rfl) ?_ ?_)
  |refine pW (B:=w.heap.size+2) (w0:=tJ w o p t u a b k c d m) (kT w t u lt l 47 [.ca 36,.ca 38]) [w.heap.size+2] T.out.s (by kernel_rfl) (by kernel_rfl) ?_ ?_
  .intro i hi X L K A N
   match i,hi with
   |0,_=>exact Ru A N 3 rfl rfl (by kernel_rfl) rfl rfl
   |1,_=>exact Ry A N 0 rfl rfl rfl (by kernel_rfl) rfl (by omega) T.out.x1
   |2,_=>exact lC A N rfl rfl (iM.c [40]) (iM.m U 1 rfl (by kernel_rfl)) rfl (by simp;omega)
   |3,_=>first|exact lC A N rfl rfl (iM.t 2 rfl (by kernel_rfl)) (iM.c [41,32,43,32,40]) rfl (by simp;omega)|exact lC A N rfl rfl (iM.t 2 rfl (by kernel_rfl)) (iM.c [41,32,45,32,40]) rfl (by simp;omega)|exact lC A N rfl rfl (iM.t 2 rfl (by kernel_rfl)) (iM.c [41,32,42,32,40]) rfl (by simp;omega)|exact lC A N rfl rfl (iM.t 2 rfl (by kernel_rfl)) (iM.c [41,32,47,32,40]) rfl (by simp;omega)
   |4,_=>exact Ru A N 4 rfl rfl (by kernel_rfl) rfl rfl
   |5,_=>exact Ry A N 4 rfl rfl rfl (by kernel_rfl) rfl (by omega) T.out.y1
   |6,_=>exact lC A N rfl rfl (iM.t 3 rfl (by kernel_rfl)) (iM.m W 5 rfl (by kernel_rfl)) rfl (by simp;omega)
   |7,_=>exact lC A N rfl rfl (iM.t 6 rfl (by kernel_rfl)) (iM.c [41]) rfl (by simp;omega)
   |8,_=>exact Rv A N 3 rfl rfl (by kernel_rfl) rfl rfl
   |9,_=>exact Rx A N 8 rfl rfl rfl (by kernel_rfl) rfl (by omega) h T.out.x2 T.out.x3 T.out.x4
   |10,_=>exact Rv A N 4 rfl rfl (by kernel_rfl) rfl rfl
   |11,_=>exact Rx A N 10 rfl rfl rfl (by kernel_rfl) rfl (by omega) M T.out.y2 T.out.y3 T.out.y4
   |12,_=>first|exact bV A N [some 9,some 11] rfl rfl rfl rfl (by kernel_rfl) kJ kH|exact bV A N [some 9,some 11] rfl rfl rfl rfl (by kernel_rfl) qQ qO|exact bV A N [some 11] rfl rfl rfl rfl (by kernel_rfl) Ra Qk|exact bV A N [some 11] rfl rfl rfl rfl (by kernel_rfl) qC pZ
   |13,_=>first|exact Ei A N 7 rfl rfl rfl (by kernel_rfl) rfl|exact bV A N [some 9,some 12] rfl rfl rfl rfl (by kernel_rfl) kJ kH|exact bV A N [some 9,some 12] rfl rfl rfl rfl (by kernel_rfl) qQ qO
   |14,_=>first|exact Ei A N 7 rfl rfl rfl (by kernel_rfl) rfl|exact jG A N 7 (w.heap.size+2) 24 12 rfl rfl rfl (by kernel_rfl) rfl (by simp) (by kernel_rfl) (λ_ h=>h)|exact jG A N 7 (w.heap.size+2) 55 12 rfl rfl rfl (by kernel_rfl) rfl (by simp) (by kernel_rfl) (λ_ h=>h)
   |15,hi=>first|(exfalso;simp at hi;done)|exact jG A N 7 (w.heap.size+2) 40 13 rfl rfl rfl (by kernel_rfl) rfl (by simp) (by kernel_rfl) (λ_ h=>h)|exact jG A N 7 (w.heap.size+2) 69 13 rfl rfl rfl (by kernel_rfl) rfl (by simp) (by kernel_rfl) (λ_ h=>h)
   |n+16,hi=>exact absurd hi (by simp)
  .intro J w6 g D
   first
   |obtain⟨z,I,j⟩:∃z,J 13=.string z/\dH z _:=D 13 _ _ rfl rfl
   |obtain⟨z,I,j⟩:∃z,J 14=.string z/\dH z _:=D 14 _ _ rfl rfl
   simp only[cA,dl,l5,l7,l8,n7,Nat.reduceAdd,I];obtain⟨_,q,r,x,f,F⟩:=g.2 (w.heap.size+2) (by simp);obtain⟨c0,c1,c2⟩:=qP F rfl rfl rfl;have y:=aC (T.out.be.trans (g.1.2.mono (by omega)));have C:=aC j;clear g F D j
   go_wp2_with fail
   refine bodyPost_ret (v:=.tuple #[.string z,sv q r x]) (by simp[results,results18,go_sem,c0,c1,c2]) rfl ?_
   first
   |(have _:pickI n 4=0:=hn;exact⟨43,by decide,z,q,r,x,rfl,C.out.to (by simp),f,y.out⟩)
   |(have _:pickI n 4=1:=hn;exact⟨45,by decide,z,q,r,x,rfl,C.out.to (by simp),f,y.out⟩)
   |(have _:pickI n 4=2:=hn;exact⟨42,by decide,z,q,r,x,rfl,C.out.to (by simp),f,y.out⟩)
   |exact⟨47,by decide,z,q,r,x,rfl,C.out.to (by simp),f,y.out⟩
open Go.Deep (BT)
def pJ (w a:World):Prop:=∀(k:Nat) (b:Array Value) (T:TypeId),w.heap[k]?=some (.cells b T (0,0))->T≠36->T≠31->a.heap[k]?=w.heap[k]?
theorem pJ.trans {a b c:World}(h:pJ a b)(k:pJ b c):pJ a c:=λi g T e d f=>(k i g T ((h i g T e d f).trans e) d f).trans (h i g T e d f)
variable {n:World}
theorem pJ.eC {b:World}(h:Below n.heap.size n b):pJ n b:=λk _ _ e _ _=>h.block k (fJ e)
theorem pJ.aQq {b:World}{row:FF}(h:n.grownBy b row)(o:∀g,row=some g->∃d T,n.heap[g]?=some (.cells d T (0,0))/\(T=36\/T=31)):pJ n b:=by
 intro k d T e f i;refine h.block k (fJ e) ?_;intro l;obtain⟨p,U,a,j⟩:=o k l.symm;rw[e]at a;simp only[n4,p7]at a;obtain⟨_,rfl,_⟩:=a
 rcases j with h|h
 .exact f h
 .exact i h
theorem pJ.aWj {b o:Nat}{f:Array Value}(h:n.heap[b]?=some (.cells f 36 (0,0)))(u:Value):pJ n (n.setCell ⟨b,o,none⟩ u):=by
 intro k g T e d _;refine Below.heap_setCell _ _ _ _ ?_;intro a;simp only at a;subst a;rw[h]at e;simp only[n4,p7]at e;exact d e.2.1.symm
variable {x:Value}
theorem dA.oth {w:Nat}{b:World}{ts:LN}(h:dA w n ts x)(j:pJ n b):dA w b ts x:=by
 rcases h with h|⟨tb,a,d,f,g,e,i⟩
 .exact Or.inl h
 .exact o9 ⟨tb,a,d,f,g,by rw[j tb _ _ e (by decide) (by decide)];exact e,i⟩
theorem iK.oth {w:Nat}{n i:World}(g:pJ n i):∀{t:Rd.Tr} {v:Value},iK w n t v->iK w i t v:=by
 intro t
 induction t with
 |nil=>intro v h;exact h
 |node _ _ a l r d e=>
  intro v h;obtain⟨b,x,s,u,j,k,f,o,p,q⟩:=h;exact⟨b,x,s,u,j,k,by rw[g b _ _ f (by decide) (by decide)];exact f,o.oth g,d p,e q⟩
theorem gW.oth {w:Nat}{n e:World}{t:Rd.Tr}{x:Value}(h:gW w n (some t) x)(d:pJ n e):gW w e (some t) x:=by
 obtain⟨o,f,p,g,i,j,a,⟨b,k⟩,l⟩:=h;exact⟨o,f,p,g,i,j,by rw[d f _ _ a (by decide) (by decide)];exact a,⟨b,k⟩,iK.oth d l⟩
theorem gW.zero {w:Nat}{t:Rd.Tr}(h:gW w n (some t) x):gW 0 n (some t) x:=by
 obtain⟨d,f,e,a,g,i,b⟩:=h;exact⟨d,f,e,a,n8 _,n8 _,b⟩
theorem dH.same {a b:ByteArray}{S:ON}(h:dH a S)(k:dH b S):a=b:=by
 have d:=h.eq;rw[<-k.eq]at d;cases a;cases b;simp only[ByteArray.mk.injEq];exact Array.toList_inj.1 d
abbrev It:=Nat×ByteArray×Int×Int×Bool
structure ItOk (p:It):Prop where
 txt:∃c,Rd.Good c/\Rd.toks p.2.1.data.toList=Rd.tw c
 len:p.2.1.size<=120
 sp:SpOk p.2.2.1 p.2.2.2.1
def dI:List It->List Value
 | []=>[]
 |p::r=>.pointer (some ⟨p.1,0,none⟩)::.string p.2.1::.int .i64 p.2.2.1::.int .i64 p.2.2.2.1::.bool p.2.2.2.2::dI r
theorem aHe (a b:List It):dI (a++b)=dI a++dI b:=by
 induction a with
 |nil=>rfl
 |cons x r d=>simp[dI,d]
theorem aIr:∀(a:List It) (n:Nat) (h:n<a.length),(dI a)[n*5]?=some (.pointer (some ⟨a[n].1,0,none⟩))/\(dI a)[n*5+1]?=some (.string a[n].2.1)/\(dI a)[n*5+2]?=some (.int .i64 a[n].2.2.1)/\(dI a)[n*5+3]?=some (.int .i64 a[n].2.2.2.1)/\(dI a)[n*5+4]?=some (.bool a[n].2.2.2.2):=by
 intro a
 induction a with
 |nil=>intro n h;simp at h
 |cons x r b=>
  intro n h
  cases n with
  |zero=>simp[dI]
  |succ n=>
   have:=b n (by simpa using h)
   simpa[dI,Nat.add_mul]using this
def iU (w:World)(b:Nat):Prop:=∃T:Rd.Tr,Rd.Wf T/\Rd.mH T<=40/\gW 0 w (some T) (.pointer (some ⟨b,0,none⟩))
theorem iU.oth {n a:World}{b:Nat}(h:iU n b)(g:pJ n a):iU a b:=by
 obtain⟨T,d,e,f⟩:=h;exact⟨T,d,e,f.oth g⟩
structure KInv (w0 w:World) (wb:Nat) (ps:List It):Prop where
 bS:∃v,w.heap[wb]?=some (.cells #[v] 36 (0,0))/\w.ownsRow w0.heap.size 31 5 v ps.length (dI ps)
 lo:w0.heap.size<=wb
 all:∀p∈ps,ItOk p
 zV:Below w0.heap.size w0 w
 ex:∀p∈ps,iU w p.1
theorem KInv.below {w J:World}{b:Nat}{e:List It}(h:KInv n w b e)(a:Below w.heap.size w J):KInv n J b e:=by
 obtain⟨v,d,f⟩:=h.bS;refine⟨⟨v,by rw[a.block b (fJ d)];exact d,?_⟩,h.lo,h.all,h.zV.trans (a.mono h.zV.size),λp i=>(h.ex p i).oth (pJ.eC a)⟩;exact f.kept (row:=none) ⟨a.os,a.tape,a.output,a.size,λk g _=>a.block k g⟩ (by cases v.ownBlock<;>simp)
variable {b:World}{w:Nat}
theorem KInv.tab {d:List It}(h:KInv n b w d)(a:mE n):mE b:=Lib.tabBelow_of_tabIs a b h.zV
theorem Az:(prog.info? 31).map (λi=>(i.zero,i.size,i.bytes))=some (some (.agg #[.pointer none,.string ⟨#[]⟩,.int .i64 0,.int .i64 0,.bool false]),5,48):=by kernel_rfl
theorem aG3 (w:World)(x y z u v:Value)(t:TypeId):∀j q,[x,y,z,u,v][j]?=some q->(w.alloc (.cells #[x,y,z,u,v] t)).cell? ((⟨w.heap.size,0,none⟩:Addr).add j)=some q:=by
 intro j q a
 match j,a with
 |0,a=>simp at a;subst a;simp[Addr.add]
 |1,a=>simp at a;subst a;simp[Addr.add]
 |2,a=>simp at a;subst a;simp[Addr.add]
 |3,a=>simp at a;subst a;simp[Addr.add]
 |4,a=>simp at a;subst a;simp[Addr.add]
variable {a:LB}
theorem aGG {e size W:Nat}(h:n.ownsRow w e size x W a):∃b ln cp,x=.slice b ln cp:=by
 rcases h.2 with⟨h,_⟩|⟨g,d,f,h,_⟩
 .exact⟨_,_,_,h⟩
 .exact⟨_,_,_,h⟩
variable {k:Nat}
theorem aJX (d:n.ownsRow w 31 5 x k a):∀g,x.ownBlock=some g->∃a T,n.heap[g]?=some (.cells a T (0,0))/\T=31:=by
 intro g b
 rcases d.2 with⟨e,_⟩|⟨j,h,f,e,_,i,_⟩
 .rw[e]at b;cases b
 .rw[e]at b;simp only[Value.ownBlock,n4]at b;subst b;exact⟨f,_,i,rfl⟩
variable {o:Obj}
theorem aOA {p:Nat}
  (d:n.heap[w]?=some (.cells #[x] 36 (0,0))) (f:n.ownsRow k 31 5 x p a) (i:(n.alloc o).grownBy b x.ownBlock):
  b.heap[w]?=some (.cells #[x] 36 (0,0)):=by
 rw[i.block w (by simp;have:=fJ d;omega) ?_]
 .rw[Below.heap_alloc _ _ _ (fJ d)];exact d
 .intro e;obtain⟨a,T,g,h⟩:=aJX f w e.symm;rw[d]at g;simp only[n4,p7]at g;have:=g.2.1.trans h;exact absurd this (by decide)
theorem KInv.push {J:World}{l:List It}(h:KInv n b w l){g:Value}{p:It}
  (s:b.heap[w]?=some (.cells #[x] 36 (0,0))) (f:b.ownsRow n.heap.size 31 5 x l.length (dI l)) (M:ItOk p) (F:iU b p.1)
  (i:J.ownsRow n.heap.size 31 5 g (l.length+1) (dI l++[.pointer (some ⟨p.1,0,none⟩),.string p.2.1,.int .i64 p.2.2.1,.int .i64 p.2.2.2.1,.bool p.2.2.2.2])) (C:(b.alloc o).grownBy J x.ownBlock):
  KInv n (J.setCell ⟨w,0,none⟩ g) w (l++[p])/\pJ b (J.setCell ⟨w,0,none⟩ g):=by
 have y:=aJX f;have L:=(Below.refl b.heap.size b).alloc (n5 _) o
 have u:pJ b J:=(pJ.eC L).trans (pJ.aQq C (λa E=>by
  obtain⟨N,T,e,I⟩:=y a E
  exact⟨N,T,by rw[Below.heap_alloc _ _ _ (fJ e)];exact e,o9 I⟩))
 have k:=aOA s f C;have d:pJ b (J.setCell ⟨w,0,none⟩ g):=u.trans (pJ.aWj k g);have j:Below n.heap.size n J:=Dl f h.zV h.zV.size o C;refine⟨⟨⟨g,by rw[sF k];rfl,?_⟩,h.lo,?_,j.setCell h.lo _,?_⟩,d⟩
 .rw[j9,aHe];refine⟨i.1,?_⟩
  rcases i.2 with e|⟨a,A,B,e,D,z,r⟩
  .exact Or.inl e
  .refine o9 ⟨a,A,B,e,D,?_,r⟩;rw[Below.heap_setCell]
   .exact z
   .simp only;intro H;subst H;rw[k]at z;simp only[n4,p7]at z;exact absurd z.2.1 (by decide)
 .intro q hq
  rcases l9.1 hq with hq|hq
  .exact h.all q hq
  .rw[l4.1 hq];exact M
 .intro q hq
  rcases l9.1 hq with hq|hq
  .exact(h.ex q hq).oth d
  .rw[l4.1 hq];exact F.oth d
def kL (d:World)(f:Nat)(n:Nat)(e:Ending)(b:World):Prop:=e=.returned (.bool true)/\∃a,KInv d b f a/\a.length<=n+1
theorem aJb {row:FF}(h:n.drew.grownBy b row):n.grownBy b row:=⟨h.os,h.tape,h.output,h.size,h.block⟩
theorem aOy {j:World}{b p:Nat}{l:Array Value}{h:TypeId}
  (d:n.heap[b]?=some (.cells l h (0,0))) (i:h≠31) (f:n.ownsRow k 31 5 x p a) (r:(n.alloc o).grownBy j x.ownBlock):
  j.heap[b]?=some (.cells l h (0,0)):=by
 rw[r.block b (by simp;have:=fJ d;omega) ?_]
 .rw[Below.heap_alloc _ _ _ (fJ d)];exact d
 .intro e;obtain⟨a,s,g,q⟩:=aJX f b e.symm;rw[d]at g;simp only[n4,p7]at g;exact i (g.2.1.trans q)
theorem aQy (l w:World)(g:Nat)(f:List It)(t:ByteArray)(a b:Int)(k:Bool)(i:t.size<=maxLen)(h:KInv l w g f)(j:Rd.read 1300 t=some (none,1,0))(q:120<t.size):
  Calls prog 13 #[.pointer (some ⟨g,0,none⟩),.string t,sv a b k] w (kL l g f.length):=by
 have X:=aO (λw=>Mv 1300 t w (none,1,0) i j);have o:=aO (h.below ((Below.refl w.heap.size w).alloc (n5 _) (.cells #[.int .i64 a,.int .i64 b,.bool k] 29)))
 have p:(120:Int)<t.size:=by omega
 clear h j i
 go_enter func13,ntmps13
 go_wp2_with fail
 refine(X.out _).mono ?_;rintro e r⟨v,rfl,hv,d⟩;rw[show v=Value.pointer none from hv];clear hv;have n:=aO d;clear d
 go_wp2_with fail
 go_ret
 exact⟨rfl,f,o.out.below n.out,by omega⟩
theorem aK6 (l w:World)(g:Nat)(f:List It)(t:ByteArray)(a b:Int)(k:Bool)(i:t.size<=maxLen)(h:KInv l w g f)(j:Rd.read 1300 t=some (none,3,0))(q:¬120<t.size):
  Calls prog 13 #[.pointer (some ⟨g,0,none⟩),.string t,sv a b k] w (kL l g f.length):=by
 have X:=aO (λw=>Mv 1300 t w (none,3,0) i j);have o:=aO (h.below ((Below.refl w.heap.size w).alloc (n5 _) (.cells #[.int .i64 a,.int .i64 b,.bool k] 29)))
 have p:¬(120:Int)<t.size:=by omega
 clear h j i
 go_enter func13,ntmps13
 go_wp2_with fail
 refine(X.out _).mono ?_;rintro e r⟨v,rfl,hv,d⟩;rw[show v=Value.pointer none from hv];clear hv;have n:=aO d;clear d
 go_wp2_with fail
 go_ret
 exact⟨rfl,f,o.out.below n.out,by omega⟩
theorem aWq (w0 w:World)(S:Nat)(ps:List It)(t:ByteArray)(c:Rd.Tr)(a b:Int)(k:Bool)(hc:Rd.Good c)(ht:Rd.toks t.data.toList=Rd.tw c)(ag:SpOk a b)(hm:t.size<=maxLen)(hI:KInv w0 w S ps)(hT:mE w0)(hn:ps.length<=4000000)
  (hr:Rd.read 1300 t=some (some (Rd.strip c),0,0)) (hl:¬120<t.size) (hd:Rd.dep c<=12) (a5:Rd.ndc c<=40):
  Calls prog 13 #[.pointer (some ⟨S,0,none⟩),.string t,sv a b k] w (kL w0 S ps.length):=by
 have X:=aO (λw=>Mv 1300 t w (some (Rd.strip c),0,0) hm hr);have x:=aO (Rd.aTP (aHL t (t.size+1) 0) hr);have ax:=aO (Rd.aHC (aHL t (t.size+1) 0) hr).2.2;have bj:=(Rd.aRl c hc).pos;have RA:=aO (λ(u:ByteArray) (O:u.data.toList=Rd.text (Rd.strip c))=>Rd.aMj hc hd a5 O)
 have a0:Hid (∀n,ItOk (n,t,a,b,k)):=λn=>⟨⟨c,hc,ht⟩,by show t.size<=120;omega,ag⟩
 obtain⟨i,hi,hz,W,a4⟩:=info_parts Az;have HI:=aO (hI.below ((Below.refl w.heap.size w).alloc (n5 _) (.cells #[.int .i64 a,.int .i64 b,.bool k] 29)));have HT:=aO hT
 have bs:¬(120:Int)<t.size:=by omega
 clear hI hr hm hT hc ht ag;generalize Rd.strip c=T at*
 go_enter func13,ntmps13
 go_wp2_with fail
 refine(X.out _).mono ?_;rintro e z⟨v,rfl,hv,U⟩
 have a6:∃n,v=.pointer (some ⟨n,0,none⟩):=by obtain⟨rb,n,rv,h1,_⟩:=hv;exact⟨n,h1⟩
 obtain⟨n,rfl⟩:=a6;have HV:=aO (gW.zero hv);have I:=aO (HI.out.below U);have M:z.heap[w.heap.size]?=some (cO a b k):=(U.block _ (by simp)).trans (jN _ _);obtain⟨am,ap,aq⟩:=qP M rfl rfl rfl;clear hv U;obtain⟨lv,q,l⟩:=I.out.bS;have c0:z.cell? ⟨S,0,none⟩=some lv:=aX q rfl;have f0:z.frozen? ⟨S,0,none⟩=false:=jY q;have bh:=fJ q;have bt:=I.out.lo;have bq:=I.out.zV.size;have A:=aO q;obtain⟨ao,ln,cp,rfl⟩:=aGG l;clear q
 go_wp2_with fail
 refine Za (λP:World=>P.cell? ⟨S,0,none⟩=some (.slice ao ln cp)/\P.cell? ⟨w.heap.size,0,none⟩=some (.int .i64 a)/\P.cell? ⟨w.heap.size,1,none⟩=some (.int .i64 b)/\P.cell? ⟨w.heap.size,2,none⟩=some (.bool k)) (λi=>!(i==13)) (by kernel_rfl) ?_
 have f:Shut ((λP:World=>P.cell? ⟨S,0,none⟩=some (.slice ao ln cp)/\P.cell? ⟨w.heap.size,0,none⟩=some (.int .i64 a)/\P.cell? ⟨w.heap.size,1,none⟩=some (.int .i64 b)/\P.cell? ⟨w.heap.size,2,none⟩=some (.bool k)) z.drew):=⟨c0,am,ap,aq⟩
 refine uF (i:=0) (v:=?va0) rfl (by kernel_rfl) (by kernel_rfl) (by kernel_rfl) (by kernel_rfl) (λ_ _ _ h=>h) (Or.inl ⟨by rfl,?ya0⟩) f.out ?ra0
 case ya0=>
  intro w hSw
  try dsimp only at hSw
  go_simp
  try with_reducible rfl
 try simp only[Act.put,l5,l7,l8]
 refine uF (i:=1) (v:=?va1) rfl (by kernel_rfl) (by kernel_rfl) (by kernel_rfl) (by kernel_rfl) (λ_ _ _ h=>h) (Or.inl ⟨by rfl,?ya1⟩) f.out ?ra1
 case ya1=>
  intro w hSw
  try dsimp only at hSw
  go_simp
  try with_reducible rfl
 try simp only[Act.put,l5,l7,l8]
 refine uF (i:=2) (v:=?va2) rfl (by kernel_rfl) (by kernel_rfl) (by kernel_rfl) (by kernel_rfl) (λ_ _ _ h=>h) (Or.inl ⟨by rfl,?ya2⟩) f.out ?ra2
 case ya2=>
  intro w hSw
  try dsimp only at hSw
  go_simp
  try with_reducible rfl
 try simp only[Act.put,l5,l7,l8]
 refine uF (i:=3) (v:=?va3) rfl (by kernel_rfl) (by kernel_rfl) (by kernel_rfl) (by kernel_rfl) (λ_ _ _ h=>h) (Or.inl ⟨by rfl,?ya3⟩) f.out ?ra3
 case ya3=>
  intro w hSw
  try dsimp only at hSw
  go_simp
  try with_reducible rfl
 try simp only[Act.put,l5,l7,l8]
 refine uF (i:=4) (v:=?va4) rfl (by kernel_rfl) (by kernel_rfl) (by kernel_rfl) (by kernel_rfl) (λ_ _ _ h=>h) (Or.inl ⟨by rfl,?ya4⟩) f.out ?ra4
 case ya4=>
  intro w hSw
  try dsimp only at hSw
  go_simp
  try with_reducible rfl
 try simp only[Act.put,l5,l7,l8]
 refine uF (i:=5) (v:=?va5) rfl (by kernel_rfl) (by kernel_rfl) (by kernel_rfl) (by kernel_rfl) (λ_ _ _ h=>h) (Or.inl ⟨by rfl,?ya5⟩) f.out ?ra5
 case ya5=>
  intro w hSw
  try dsimp only at hSw
  go_simp
  try with_reducible rfl
 try simp only[Act.put,l5,l7,l8]
 refine uF (i:=6) (v:=?va6) rfl (by kernel_rfl) (by kernel_rfl) (by kernel_rfl) (by kernel_rfl) (λ_ _ _ h=>h) (Or.inl ⟨by rfl,?ya6⟩) f.out ?ra6
 case ya6=>
  intro w hSw
  try dsimp only at hSw
  go_simp
  try with_reducible rfl
 try simp only[Act.put,l5,l7,l8]
 refine uF (i:=7) (v:=?va7) rfl (by kernel_rfl) (by kernel_rfl) (by kernel_rfl) (by kernel_rfl) (λ_ _ _ h=>h) (Or.inl ⟨by rfl,?ya7⟩) f.out ?ra7
 case ya7=>
  intro w hSw
  try dsimp only at hSw
  go_simp
  try with_reducible rfl
 try simp only[Act.put,l5,l7,l8]
 refine uF (i:=8) (v:=?va8) rfl (by kernel_rfl) (by kernel_rfl) (by kernel_rfl) (by kernel_rfl) (λ_ _ _ h=>h) (Or.inl ⟨by rfl,?ya8⟩) f.out ?ra8
 case ya8=>
  intro w hSw
  try dsimp only at hSw
  go_simp
  try with_reducible rfl
 try simp only[Act.put,l5,l7,l8]
 clear f;refine zK (i:=9) (by kernel_rfl) rfl (λK r=>?_)
 go_simp
 obtain⟨X,R⟩:∃X,X=(z.alloc (.cells #[.pointer (some ⟨n,0,none⟩),.string t,.int .i64 a,.int .i64 b,.bool k] 31)).drew:=⟨_,rfl⟩
 rw[<-R]
 have C:X.heap[S]?=some (.cells #[.slice ao ln cp] 36 (0,0)):=by rw[R];exact uD A.out
 have s:X.heap[w.heap.size]?=some (cO a b k):=by rw[R];exact uD M
 have H:X.ownsRow w0.heap.size 31 5 (.slice ao ln cp) ps.length (dI ps):=by rw[R];exact l.alloc _
 have E:∀j u,[.pointer (some ⟨n,0,none⟩),.string t,.int .i64 a,.int .i64 b,.bool k][j]?=some u->X.cell? ((⟨z.heap.size,0,none⟩:Addr).add j)=some u:=by rw[R];exact aG3 z _ _ _ _ _ _
 have ah:z.heap.size<=X.heap.size:=by rw[R];show z.heap.size<=(z.alloc (.cells #[.pointer (some ⟨n,0,none⟩),.string t,.int .i64 a,.int .i64 b,.bool k] 31)).heap.size;simp
 have HX:=aO R;clear R;refine r.out _ _ (λ_=>⟨aX C rfl,aX (o:=0) s rfl,aX (o:=1) s rfl,aX (o:=2) s rfl⟩) ?_;clear r K
 try simp only[Act.put,l5,l7,l8]
 refine zK (i:=10) (by kernel_rfl) rfl (λK r=>?_);refine step_append_lies _ rfl _ _ 23 rfl w0.heap.size 31 i (.agg #[.pointer none,.string ⟨#[]⟩,.int .i64 0,.int .i64 0,.bool false]) 5 48 underlying23 hi hz W a4 rfl (by decide) _ _ _ rfl H ⟨z.heap.size,0,none⟩ 1 1 [.pointer (some ⟨n,0,none⟩),.string t,.int .i64 a,.int .i64 b,.bool k] rfl rfl E (by intro u O;simp at O;rcases O with rfl|rfl|rfl|rfl|rfl<;>rfl) (by decide) (by unfold maxLen;omega) (by omega) (by omega) _ rfl ?_;intro g bp w3 F D _ _;have N:(z.alloc (.cells #[.pointer (some ⟨n,0,none⟩),.string t,.int .i64 a,.int .i64 b,.bool k] 31)).grownBy w3 (Value.slice ao ln cp).ownBlock:=aJb (by rw[<-HX.out];exact D);have L:=aOA A.out l N;have q0:=aX (o:=0) L rfl;have qf:=jY (o:=0) L;have bi:=fJ L;have d:=aOy M (by decide) l N;have PU:=aO (KInv.push (p:=(n,t,a,b,k)) I.out A.out l (a0.out n) ⟨T,x.out.1,ax.out,HV.out⟩ F N);clear L F D N H E C s ah;refine r.out _ _ (λ_=>⟨q0,aX (o:=0) d rfl,aX (o:=1) d rfl,aX (o:=2) d rfl⟩) ?_;clear r K
 try simp only[Act.put,l5,l7,l8]
 refine zK (i:=11) (by kernel_rfl) rfl (λK r=>?_)
 go_simp
 refine r.out _ _ (λ_=>⟨q0,aX (o:=0) d rfl,aX (o:=1) d rfl,aX (o:=2) d rfl⟩) ?_;clear r K
 try simp only[Act.put,l5,l7,l8]
 refine zK (i:=12) (by kernel_rfl) rfl (λK r=>?_)
 go_simp
 refine r.out _ _ (λ_=>⟨q0,aX (o:=0) d rfl,aX (o:=1) d rfl,aX (o:=2) d rfl⟩) ?_;clear r K
 try simp only[Act.put,l5,l7,l8]
 refine zK (i:=13) (by kernel_rfl) rfl (λK r=>?_)
 go_simp
 refine r.out _ _ (λh=>absurd h (by decide)) ?_;clear r K;refine Yz (by kernel_rfl) ?_ _
 go_wp2_with fail
 refine(aE6 0 _ T _ (HV.out.oth PU.out.2) x.out.1 x.out.2 (PU.out.1.tab HT.out)).mono ?_;rintro e w4⟨u,rfl,O,ab⟩;have Y:=aO (PU.out.1.below ab);have bx:=O.size;have RU:=aO (RA.out u O.eq);have HU:=aO O
 have aj:u.size<=maxLen:=by have:=x.out.2;unfold maxLen;omega
 have bu:0<u.size:=by omega
 clear O ab q0 qf d M am ap aq l
 by_cases ae:120<u.size
 .have X2:=aO (λw=>Mv 1300 u w (none,1,0) aj (by rw[RU.out,decide_eq_true ae];rfl))
  have af:(120:Int)<u.size:=by omega
  go_wp2_with fail
  refine(X2.out _).mono ?_;rintro e w5⟨v5,rfl,y,B⟩;rw[show v5=Value.pointer none from y];clear y;have J:=aO (Y.out.below B);clear B
  go_wp2_with fail
  go_ret
  exact⟨by simp;omega,_,J.out,by simp⟩
 .have X2:=aO (λw=>Mv 1300 u w (some T,0,0) aj (by rw[RU.out,decide_eq_false ae];rfl))
  have af:¬(120:Int)<u.size:=by omega
  have bg:(0:Int)<u.size:=by omega
  go_wp2_with fail
  refine(X2.out _).mono ?_;rintro e w5⟨v5,rfl,y,B⟩
  have ak:∃n,v5=.pointer (some ⟨n,0,none⟩):=by obtain⟨rb,n,rv,h1,_⟩:=y;exact⟨n,h1⟩
  obtain⟨yb,rfl⟩:=ak;have az:=aO (gW.zero y);have J:=aO (Y.out.below B);clear y B
  go_wp2_with fail
  refine(aE6 0 _ T _ az.out x.out.1 x.out.2 (J.out.tab HT.out)).mono ?_;rintro e w6⟨u6,rfl,ai,ad⟩;obtain rfl:=HU.out.same ai;have ay:=aO (J.out.below ad);clear ai ad
  go_wp2_with fail
  go_ret
  exact⟨rfl,_,ay.out,by simp⟩
theorem aTE (f w:World)(g:Nat)(e:List It)(t:ByteArray)(c:Rd.Tr)(a b:Int)(k:Bool)(hc:Rd.Good c)(p:Rd.toks t.data.toList=Rd.tw c)(l:SpOk a b)(j:t.size<=maxLen)(i:KInv f w g e)(q:mE f)(r:e.length<=4000000):
  Calls prog 13 #[.pointer (some ⟨g,0,none⟩),.string t,sv a b k] w (kL f g e.length):=by
 have d:=Rd.aIL hc p
 by_cases h:120<t.size
 .rw[decide_eq_true h]at d;exact aQy f w g e t a b k j i d h
 .rw[decide_eq_false h]at d
  by_cases n:12<Rd.dep c
  .rw[decide_eq_true n]at d;exact aK6 f w g e t a b k j i d h
  .by_cases o:40<Rd.ndc c
   .rw[decide_eq_true o,Bool.or_true]at d;exact aK6 f w g e t a b k j i d h
   .rw[decide_eq_false n,decide_eq_false o]at d;exact aWq f w g e t c a b k hc p l j i q r d h (by omega) (by omega)
end Go.Proofs.YtpdflaaamaokbaaGreatDoor
