import Derived.Test.YtkmojpfpfoaloaaGreatDoorCNe18
import Derived.Test.YtkmojpfpfoaloaaGreatDoorCNe16
import Derived.Test.YtkmojpfpfoaloaaGreatDoorCNe17
import Derived.Deep.RegionHeld3
import Derived.LoopN
set_option linter.all false
set_option maxRecDepth 100000
set_option maxHeartbeats 2000000
namespace Go.Proofs.YtkmojpfpfoaloaaGreatDoor
open Go.Proofs.Tryz
namespace Rd
open Go.Deep (BT)
variable {ws:List Wd}{st:St}
theorem aS8 {x:Int}(h:dR (aD ws st.next)=(1,dec x))(b:cU x)(a:x≠0):term ws st=(x,st.aN):=by
 unfold term
 have e:(x==0)=false:=by simpa using a
 rw[Da h,aJV (Kl h) b.1,e];rfl
theorem aEa (x y:Int)(r:List Int):dD (x::y::r)=(1,dec x)::(3,[44])::dD (y::r):=rfl
theorem aMb:∀(r:List Int) (f c:Nat) (a:List Int) (st:St),r≠[]->(∀y∈r,cU y/\y≠0)->c+r.length<=9->Seg ws st.next (dD r)->
  NO (terms ws f c a st) (some (some (a++r),{st with next:=st.next+(dD r).length})):=by
 intro r
 induction r with
 |nil=>intro f c a st h;exact absurd rfl h
 |cons x r s=>
  intro f c a st _ e hc g
  cases f with
  |zero=>exact NO.no _
  |succ f=>
   obtain⟨p,i⟩:=e x (by simp)
   have o:dR (aD ws st.next)=(1,dec x):=by
    cases r with
    |nil=>exact g.1
    |cons y r=>exact g.1
   have d:=aS8 o p i;unfold terms;rw[d]
   cases st.okB with
   |false=>exact NO.no _
   |true=>
    cases st.aN.okB with
    |false=>exact NO.no _
    |true=>
     have b:(x==0)=false:=by simpa using i
     cases r with
     |nil=>
      have j:dR (aD ws st.aN.next)=(3,[93]):=g.2.1
      have l:tk ws st.aN ⟨#[93]⟩=true:=by rw[qH j];rfl
      right;simp only[Bool.and_self,cond_true,b,cond_false,l];rfl
     |cons y r=>
      have j:dR (aD ws st.aN.next)=(3,[44]):=g.2.1
      have l:tk ws st.aN ⟨#[93]⟩=false:=by rw[qH j];rfl
      have n:tk ws st.aN ⟨#[44]⟩=true:=by rw[qH j];rfl
      have k:(c==8)=false:=by
       simp only[List.length_cons]at hc;exact beq_eq_false_iff_ne.2 (by omega)
      simp only[Bool.and_self,cond_true,b,cond_false,l,n,k];have:=s f (c+1) (a++[x]) st.aN.aN (by simp) (fun z q=>e z (by simp[q])) (by simp only[List.length_cons]at hc ⊢;omega) g.2.2;refine this.trans (Or.inr ?_);rw[aEa];simp only[List.append_assoc,List.cons_append,List.nil_append,List.length_cons,St.aN];rw[show st.next+1+1+(dD (y::r)).length=st.next+((dD (y::r)).length+1+1) by omega]
theorem aRM {a b:Option (Option (List Int)×St)}(h:NO a b):NO (lI a) (lI b):=by
 rcases h with h|h
 ·rw[h];exact NO.no _
 ·rw[h];exact NO.refl _
theorem aVN (ws:List Wd){ts:List Int}(h:Co ts):BB ws (dI 4 0 ts):=by
 obtain⟨x,r,rfl,q,o,i,h8⟩:=h;refine Og (k:=2) (fun e=>absurd (show(4:Int)=14 from e) (by decide)) (b:=[99,102]) (r:=(3,[91])::(1,dec x)::(3,[59])::dD r) rfl (by decide) ?_;intro f st p;have a:Seg ws st.next ((2,[99,102])::(3,[91])::(1,dec x)::(3,[59])::dD r):=p;obtain⟨j,v,l,w,d⟩:=a
 have n:named (aD ws st.next).text=4:=by
  unfold named isT;rw[Kl j];rfl
 have k1:tk ws st.aN ⟨#[91]⟩=true:=by rw[qH (st:=st.aN) v];rfl
 have u:tk ws st.aN.aN.aN ⟨#[59]⟩=true:=by rw[qH (st:=st.aN.aN.aN) w];rfl
 have s:(aD ws st.aN.aN.next).kind=1:=Da l;have y:valTo (aD ws st.aN.aN.next).text (aD ws st.aN.aN.next).text.size=x:=aJV (Kl l) q.1;have g:=aMb (ws:=ws) r 8 1 [x] st.aN.aN.aN.aN (by intro e;rw[e]at i;simp at i) o (by omega) d
 cases f with
 |zero=>exact NO.no _
 |succ f=>
  rw[p5,Da j,n];unfold nameOf continued
  cases st.okB with
  |false=>exact NO.no _
  |true=>
   cases decide (st.aN.next<900)&&st.aN.okB with
   |false=>exact NO.no _
   |true=>
    rw[k1,s,u,y];refine(aRM g).trans ?_;simp only[lI]
    cases St.okB { st.aN.aN.aN.aN with next:=st.aN.aN.aN.aN.next+(dD r).length} with
    |false=>exact NO.no _
    |true=>
     right;rw[aSf];simp only[cond_true,St.aN,bF]
     have e:st.next+1+1+1+1+(dD r).length=st.next+(tw (dI 4 0 (x::r))).length:=by
      show _=st.next+((dD r).length+1+1+1+1);omega
     rw[e];rfl
variable {k:Int}
theorem Gn {t:Tr}{b:List UInt8}(h:dR (aD ws st.next)=(k,b))(e:b≠[43])(g:b≠[45])(f:Nat):NO (parse ws f 1 (some t) st) (some (some t,st)):=by
 cases f with
 |zero=>exact NO.no _
 |succ f=>
  have a:tk ws st ⟨#[43]⟩=false:=by rw[qH h];simp[e]
  have d:tk ws st ⟨#[45]⟩=false:=by rw[qH h];simp[g]
  rw[p1]
  cases st.okB with
  |false=>exact NO.no _
  |true=>simp only[a,d,cond_true,cond_false];exact NO.refl _
theorem Ux (x:Tr):tw (eY 14 x)=(3,[40])::(tw x++[(3,[41])]):=rfl
variable {x:Tr}
theorem aQL (h:BB ws x):∀f st,Seg ws st.next (tw (eY 14 x))->NO (parse ws f 6 none st) (some (some (strip (eY 14 x)),bF (eY 14 x) st)):=by
 intro f st e;rw[Ux]at e;obtain⟨k,a⟩:=e;rw[Zq]at a;obtain⟨a,d,_⟩:=a
 have k0:tk ws st ⟨#[40]⟩=true:=by rw[qH k];rfl
 cases f with
 |zero=>exact NO.no _
 |succ f=>
  rw[p6,k0]
  cases st.okB with
  |false=>exact NO.no _
  |true=>
   obtain⟨g,i⟩:=h.b0 f st.aN.lF a (Zh d (by decide) (by decide));have b:=Gn (st:=bF x st.aN.lF) (t:=strip x) d (by decide) (by decide) g;refine((i.trans b).next _).trans ?_;show NO (hY ws (some (strip x)) (bF x st.aN.lF)) _;unfold hY
   cases (bF x st.aN.lF).fU with
   |false=>exact NO.no _
   |true=>
    have j:tk ws (bF x st.aN.lF).out ⟨#[41]⟩=true:=by rw[qH (st:=(bF x st.aN.lF).out) d];rfl
    right;simp only[j,cond_true];simp only[bF,St.out,St.aN,St.lF,Ux,dep,ndc,eY,Option.some.injEq,Prod.mk.injEq,St.mk.injEq,true_and];refine⟨rfl,?_,by omega,?_,rfl⟩
    ·show st.next+1+(tw x).length+1=st.next+((3,[40])::(tw x++[(3,[41])]):List Tok).length;rw[List.length_cons,List.length_append,List.length_cons,List.length_nil];omega
    ·show max st.deepest (st.around+1+dep x)=max st.deepest (st.around+(dep x+1));rw[show st.around+1+dep x=st.around+(dep x+1) by omega]
theorem aTy (h:BB ws x):BB ws (eY 14 x):=by
 refine Og (fun _=>aQL h) (k:=3) (b:=[40]) (r:=tw x++[(3,[41])]) rfl (by decide) ?_;intro f st a;have e:dR (aD ws st.next)=(3,[40]):=a.1;have d:=aQL h
 cases f with
 |zero=>exact NO.no _
 |succ f=>
  rw[p5,Da e]
  cases st.okB with
  |false=>exact NO.no _
  |true=>exact d f st a
theorem Vw (a:k=10\/k=11\/k=12\/k=13)(x:Tr):tw (eY k x)=(2,sym k)::tw x:=by
 rcases a with rfl|rfl|rfl|rfl<;>rfl
theorem aVO (a:k=10\/k=11\/k=12\/k=13)(h:BB ws x)(u:aS x=14):BB ws (eY k x):=by
 refine Og (fun e=>absurd (show k=14 from e) (by omega)) (k:=2) (b:=sym k) (r:=tw x) (Vw a _) (by rcases a with rfl|rfl|rfl|rfl<;>decide) ?_;intro f st i;rw[Vw a]at i;obtain⟨j,d⟩:=i
 have s:named (aD ws st.next).text=k:=by
  unfold named isT;rw[Kl j]
  rcases a with rfl|rfl|rfl|rfl<;>rfl
 have q:=h.b6 u
 cases f with
 |zero=>exact NO.no _
 |succ f=>
  have l:(k==0)=false:=by rcases a with rfl|rfl|rfl|rfl<;>rfl
  have n:(k==2||k==3)=false:=by rcases a with rfl|rfl|rfl|rfl<;>rfl
  have o:(k==4)=false:=by rcases a with rfl|rfl|rfl|rfl<;>rfl
  have p:(k==5||k==14)=false:=by rcases a with rfl|rfl|rfl|rfl<;>rfl
  have g:(k==14)=false:=by rcases a with rfl|rfl|rfl|rfl<;>rfl
  rw[p5,Da j,s];unfold nameOf;rw[l,n,o]
  cases st.okB with
  |false=>exact NO.no _
  |true=>
   refine((q f st.aN d).next _).trans ?_;show NO (dU k (some (strip x)) (bF x st.aN)) _;show NO (bif (bF x st.aN).okB then some (some (eY k (strip x)),(bF x st.aN).node)else none) _
   cases (bF x st.aN).okB with
   |false=>exact NO.no _
   |true=>
    right
    have w:strip (eY k x)=eY k (strip x):=by
     unfold eY;simp only[strip,g,cond_false]
    have d1:dep (eY k x)=dep x:=by
     show(bif k==5||k==14 then dep x+1 else max (dep x) (dep .nil))=_;rw[p];simp[dep]
    have v:ndc (eY k x)=ndc x+1:=by
     show(bif k==14 then ndc x else ndc x+ndc .nil+1)=_;rw[g];simp[ndc]
    simp only[cond_true,w,bF,d1,v,Vw a,St.node,St.aN,Option.some.injEq,Prod.mk.injEq,St.mk.injEq,true_and];refine⟨?_,by omega⟩;rw[List.length_cons];omega
theorem aRp (x:Tr):tw (eY 5 x)=(3,[45])::tw x:=rfl
theorem aTw (h:BB ws x)(d:3<=aP (aS x)):BB ws (eY 5 x):=by
 have b4:∀f st,Seg ws st.next (tw (eY 5 x))->NO (parse ws f 4 none st) (some (some (strip (eY 5 x)),bF (eY 5 x) st)):=by
  intro f st b;rw[aRp]at b;obtain⟨j,a⟩:=b
  have k0:tk ws st ⟨#[45]⟩=true:=by rw[qH j];rfl
  cases f with
  |zero=>exact NO.no _
  |succ f=>
   rw[p4,k0]
   cases st.okB with
   |false=>exact NO.no _
   |true=>
    refine((h.b4 d f st.aN.lF a).next _).trans ?_;show NO (bif (bF x st.aN.lF).fU then dU 5 (some (strip x)) (bF x st.aN.lF).out else none) _
    cases (bF x st.aN.lF).fU with
    |false=>exact NO.no _
    |true=>
     show NO (bif (bF x st.aN.lF).out.okB then some (some (eY 5 (strip x)),(bF x st.aN.lF).out.node)else none) _
     cases (bF x st.aN.lF).out.okB with
     |false=>exact NO.no _
     |true=>
      right
      have g:ndc (eY 5 x)=ndc x+1:=by
       show ndc x+ndc .nil+1=_;simp[ndc]
      have d1:dep (eY 5 x)=dep x+1:=rfl;have i:strip (eY 5 x)=eY 5 (strip x):=rfl;simp only[cond_true,i,bF,d1,g,aRp,St.node,St.aN,St.lF,St.out,Option.some.injEq,Prod.mk.injEq,St.mk.injEq,true_and];refine⟨?_,by omega,?_,by omega⟩
      ·simp;omega
      ·rw[show st.around+1+dep x=st.around+(dep x+1) by omega]
 exact⟨fun e=>absurd (show(5:Int)=14 from e) (by decide),fun e=>absurd (show(3:Int)=4 from e) (by decide),fun _=>b4,fun _=>Vo b4,aRG (Vo b4)⟩
theorem Pd (a:k=6\/k=7\/k=8\/k=9)(l r:Tr):tw (jI k l r)=tw l++(3,sym k)::tw r:=by
 rcases a with rfl|rfl|rfl|rfl<;>rfl
theorem Tl (a:k=6\/k=7\/k=8\/k=9)(l r:Tr):strip (jI k l r)=jI k (strip l) (strip r):=by
 rcases a with rfl|rfl|rfl|rfl<;>rfl
theorem aMr (a:k=6\/k=7\/k=8\/k=9)(l r:Tr)(st:St):(bF r (bF l st).aN).node=bF (jI k l r) st:=by
 have d1:dep (jI k l r)=max (dep l) (dep r):=by rcases a with rfl|rfl|rfl|rfl<;>rfl
 have b:ndc (jI k l r)=ndc l+ndc r+1:=by rcases a with rfl|rfl|rfl|rfl<;>rfl
 simp only[bF,d1,b,Pd a,St.node,St.aN,St.mk.injEq,true_and];refine⟨?_,?_,by omega⟩
 ·simp;omega
 ·omega
variable {X r:Tr}
theorem Hj:NO (operOf k X (some r) st) (some (some (jI k X r),st.node)):=by
 show NO (bif st.okB then some (some (jI k X r),st.node)else none) _
 cases st.okB with
 |false=>exact NO.no _
 |true=>exact NO.refl _
theorem aQF (i:k=8\/k=9)(x:BB ws X)(y:BB ws r)(v:2<=aP (aS X))(w:3<=aP (aS r)):BB ws (jI k X r):=by
 have b:k=6\/k=7\/k=8\/k=9:=by omega
 have b2:∀f st,Seg ws st.next (tw (jI k X r))->∃a,NO (parse ws f 2 none st) (parse ws a 3 (some (strip (jI k X r))) (bF (jI k X r) st)):=by
  intro f st u;rw[Pd b,Zq]at u;obtain⟨j,q,n⟩:=u;obtain⟨a,s⟩:=x.b2 v f st j
  cases a with
  |zero=>exact⟨0,s.trans (NO.no _)⟩
  |succ a=>
   refine⟨a,s.trans ?_⟩;rw[p3]
   cases (bF X st).okB with
   |false=>exact NO.no _
   |true=>
    have h:=y.b4 w a (bF X st).aN n
    have g:NO ((parse ws a 4 none (bF X st).aN).next fun z p=>(operOf k (strip X) z p).next fun o d=>parse ws a 3 o d) (parse ws a 3 (some (strip (jI k X r))) (bF (jI k X r) st)):=by
     refine(h.next _).trans ?_;show NO ((operOf k (strip X) (some (strip r)) (bF r (bF X st).aN)).next fun o d=>parse ws a 3 o d) _;refine(Hj.next _).trans (Or.inr ?_);rw[Tl b,<-aMr b];rfl
    rcases i with rfl|rfl
    ·have k0:tk ws (bF X st) ⟨#[42]⟩=true:=by rw[qH (st:=bF X st) q];rfl
     rw[k0];exact g
    ·have k0:tk ws (bF X st) ⟨#[42]⟩=false:=by rw[qH (st:=bF X st) q];rfl
     have k1:tk ws (bF X st) ⟨#[47]⟩=true:=by rw[qH (st:=bF X st) q];rfl
     rw[k0,k1];exact g
 refine⟨fun e=>absurd (show k=14 from e) (by omega),?_,?_,fun _=>b2,aRG b2⟩
 ·intro e;rcases i with rfl|rfl<;>exact absurd (show(2:Int)=4 from e) (by decide)
 ·intro e;rcases i with rfl|rfl<;>exact absurd (show(3:Int)<=2 from e) (by decide)
theorem aQE (g:k=6\/k=7)(z:BB ws X)(A:BB ws r)(y:2<=aP (aS r)):BB ws (jI k X r):=by
 have b:k=6\/k=7\/k=8\/k=9:=by omega
 have b0:∀f st,Seg ws st.next (tw (jI k X r))->pY ws (bF (jI k X r) st).next->∃a,NO (parse ws f 0 none st) (parse ws a 1 (some (strip (jI k X r))) (bF (jI k X r) st)):=by
  intro f st x w;rw[Pd b,Zq]at x;obtain⟨p,i,q⟩:=x;obtain⟨a,v⟩:=z.b0 f st p (Zh i (by rcases g with rfl|rfl<;>decide) (by rcases g with rfl|rfl<;>decide))
  cases a with
  |zero=>exact⟨0,v.trans (NO.no _)⟩
  |succ a=>
   refine⟨a,v.trans ?_⟩;rw[p1]
   cases (bF X st).okB with
   |false=>exact NO.no _
   |true=>
    obtain⟨f3,j⟩:=A.b2 y a (bF X st).aN q
    have o:pY ws (bF r (bF X st).aN).next:=by
     rw[<-aMr b]at w;exact w
    have n:=j.trans (Gp o f3)
    have h:NO ((parse ws a 2 none (bF X st).aN).next fun B u=>(operOf k (strip X) B u).next fun s d=>parse ws a 1 s d) (parse ws a 1 (some (strip (jI k X r))) (bF (jI k X r) st)):=by
     refine(n.next _).trans ?_;show NO ((operOf k (strip X) (some (strip r)) (bF r (bF X st).aN)).next fun s d=>parse ws a 1 s d) _;refine(Hj.next _).trans (Or.inr ?_);rw[Tl b,<-aMr b];rfl
    rcases g with rfl|rfl
    ·have k0:tk ws (bF X st) ⟨#[43]⟩=true:=by rw[qH (st:=bF X st) i];rfl
     rw[k0];exact h
    ·have k0:tk ws (bF X st) ⟨#[43]⟩=false:=by rw[qH (st:=bF X st) i];rfl
     have k1:tk ws (bF X st) ⟨#[45]⟩=true:=by rw[qH (st:=bF X st) i];rfl
     rw[k0,k1];exact h
 refine⟨fun e=>absurd (show k=14 from e) (by omega),?_,?_,?_,b0⟩
 ·intro e;rcases g with rfl|rfl<;>exact absurd (show(1:Int)=4 from e) (by decide)
 ·intro e;rcases g with rfl|rfl<;>exact absurd (show(3:Int)<=1 from e) (by decide)
 ·intro e;rcases g with rfl|rfl<;>exact absurd (show(2:Int)<=1 from e) (by decide)
theorem aTv:∀c,Good c->BB ws c:=by
 intro c
 induction c with
 |nil=>intro h;exact h.elim
 |node p q a l r b g=>
  intro h;obtain⟨k,v,ts⟩:=a;obtain⟨rfl,rfl,h⟩:=h;simp only at h
  rcases h with⟨rfl,e,rfl,rfl,rfl⟩|⟨e,f,rfl,rfl⟩|⟨rfl,rfl,e,rfl,rfl⟩|⟨rfl,f,d,i,rfl⟩|⟨e,f,d,i,rfl⟩|⟨rfl,f,d,rfl⟩|⟨e,f,d,i,n,j⟩
  ·exact aTx ws e
  ·obtain⟨rfl,rfl⟩:=Prod.mk.inj f;exact aOW ws e
  ·exact aVN ws e
  ·obtain⟨rfl,rfl⟩:=Prod.mk.inj f;exact aTw (b d) i
  ·obtain⟨rfl,rfl⟩:=Prod.mk.inj f;exact aVO e (b d) i
  ·obtain⟨rfl,rfl⟩:=Prod.mk.inj f;exact aTy (b d)
  ·obtain⟨rfl,rfl⟩:=Prod.mk.inj f
   rcases e with rfl|rfl|rfl|rfl
   ·exact aQE (Or.inl rfl) (b d) (g i) j
   ·exact aQE (Or.inr rfl) (b d) (g i) j
   ·exact aQF (Or.inl rfl) (b d) (g i) n j
   ·exact aQF (Or.inr rfl) (b d) (g i) n j
end Rd
namespace Rd
variable {ws:List Wd}
def qA (ws:List Wd):Prop:=∀n,(aD ws n).kind≠0->n+1<ws.length
structure Inv (ws:List Wd) (st:St):Prop where
 next:st.next<ws.length
 around:st.around<=st.next
 nodes:st.nodes<=st.next
 deepest:st.deepest<=st.next
structure Rel (ws:List Wd) (st st':St):Prop where
 inv:Inv ws st'
 next:st.next<=st'.next
 around:st'.around=st.around
 nodes:st'.nodes+st.next<=st.nodes+st'.next
variable {st:St}
theorem Rel.refl (h:Inv ws st):Rel ws st st:=⟨h,Nat.le_refl _,rfl,Nat.le_refl _⟩
theorem Rel.trans {a b c:St}(h:Rel ws a b)(k:Rel ws b c):Rel ws a c:=⟨k.inv,Nat.le_trans h.next k.next,k.around.trans h.around,by have:=h.nodes;have:=k.nodes;omega⟩
theorem Inv.okB {st:St}(h:Inv ws st)(a:ws.length<=121):st.okB=true:=by
 have:=h.next;have:=h.around;have:=h.nodes;have:=h.deepest;simp only[St.okB,decide_eq_true_eq];omega
theorem yL (a:qA ws){c:ByteArray}(h:tk ws st c=true):st.next+1<ws.length:=by
 refine a _ ?_;simp only[tk,Bool.and_eq_true,Bool.not_eq_true',beq_eq_false_iff_ne,ne_eq]at h;exact h.1
theorem Cf (h:Inv ws st)(a:st.next+1<ws.length):Rel ws st st.aN:=
 ⟨⟨a,by have:=h.around;show st.around<=st.next+1;omega,by have:=h.nodes;show st.nodes<=st.next+1;omega,by have:=h.deepest;show st.deepest<=st.next+1;omega⟩,by show st.next<=st.next+1;omega,rfl,by show st.nodes+st.next<=st.nodes+(st.next+1);omega⟩
theorem aKo (h:Inv ws st)(d:st.next+1<ws.length):Rel ws st st.aN.leaf:=by
 have a:=h.around;have b:=h.nodes;have c:=h.deepest;refine⟨⟨d,by show st.around<=st.next+1;omega,by show st.nodes+1<=st.next+1;omega,?_⟩,by show st.next<=st.next+1;omega,rfl,by show st.nodes+1+st.next<=st.nodes+(st.next+1);omega⟩;show(bif decide (st.deepest<st.around)then st.around else st.deepest)<=st.next+1
 cases decide (st.deepest<st.around)<;>simp<;>omega
theorem aQd (d:qA ws)(h:Inv ws st):Rel ws st (term ws st).2:=by
 unfold term
 cases b:((aD ws st.next).kind==1)with
 |false=>exact Rel.refl h
 |true=>
  have a:st.next+1<ws.length:=d _ (by have:=beq_iff_eq.1 b;omega)
  cases valTo (aD ws st.next).text (aD ws st.next).text.size==0 with
  |true=>exact Rel.refl h
  |false=>exact Cf h a
theorem aJP (e:qA ws)(g:ws.length<=121):∀f c ts st,c+f=9->1<=c->c<=8->Inv ws st->∃r a,terms ws f c ts st=some (r,a)/\Rel ws st a/\(r.isSome=true->st.next<a.next):=by
 intro f
 induction f with
 |zero=>intro c ts st p q s;omega
 |succ f u=>
  intro c ts st p q s hi;have b:=aQd e hi;have o1:=hi.okB g;have o2:=b.inv.okB g;rw[terms,o1,o2];simp only[Bool.and_self,cond_true]
  cases a1:((term ws st).1==0)with
  |true=>exact⟨_,_,rfl,b,fun h=>by cases h⟩
  |false=>
   cases i:tk ws (term ws st).2 ⟨#[93]⟩with
   |true=>
    have:=Cf b.inv (yL e i);refine⟨_,_,rfl,b.trans this,fun _=>?_⟩;have:=b.next;show st.next<(term ws st).2.next+1;omega
   |false=>
    cases j:(c==8)with
    |true=>exact⟨_,_,rfl,b,fun h=>by cases h⟩
    |false=>
     cases k:tk ws (term ws st).2 ⟨#[44]⟩with
     |false=>exact⟨_,_,rfl,b,fun h=>by cases h⟩
     |true=>
      have d:=Cf b.inv (yL e k);obtain⟨r,a,l,n,o⟩:=u (c+1) (ts++[(term ws st).1]) _ (by omega) (by omega) (by simp at j;omega) d.inv;refine⟨r,a,l,(b.trans d).trans n,fun h=>?_⟩;have:=(b.trans d).next;have:=o h;omega
theorem aFz (e:qA ws)(f:ws.length<=121)(st:St)(hi:Inv ws st):∃r a,continued ws st=some (r,a)/\Rel ws st a:=by
 have s:=hi.next;unfold continued;rw[hi.okB f,decide_eq_true (show st.next<900 by omega)];simp only[Bool.and_self,cond_true]
 cases a1:tk ws st ⟨#[91]⟩with
 |false=>exact⟨none,st,rfl,Rel.refl hi⟩
 |true=>
  have g:=Cf hi (yL e a1)
  cases j:((aD ws st.aN.next).kind==1)with
  |false=>exact⟨none,st.aN,rfl,g⟩
  |true=>
   have h:=g.trans (Cf g.inv (e _ (by have:=beq_iff_eq.1 j;omega)))
   cases k:tk ws st.aN.aN ⟨#[59]⟩with
   |false=>exact⟨none,st.aN.aN,rfl,h⟩
   |true=>
    have i:=h.trans (Cf h.inv (yL e k));obtain⟨r,a,l,d,n⟩:=aJP e f 8 1 [valTo (aD ws st.aN.next).text (aD ws st.aN.next).text.size] st.aN.aN.aN (by omega) (by omega) (by omega) i.inv;simp only[cond_true];rw[l]
    cases r with
    |none=>exact⟨none,a,rfl,i.trans d⟩
    |some ts=>
     have b:=i.trans d;have q:=n rfl;have en:st.aN.aN.aN.next=st.next+3:=rfl;simp only[lI,d.inv.okB f,cond_true];refine⟨_,_,rfl,?_⟩;have o:=b.inv.around;have u:=b.inv.nodes;have v:=b.inv.deepest;have w:=b.nodes;have p:=b.next;have x:=d.nodes;have y:st.aN.aN.aN.nodes=st.nodes:=rfl;have z:=hi.nodes;refine⟨⟨b.inv.next,o,by show a.nodes+1<=a.next;omega,?_⟩,p,b.around,by show a.nodes+1+st.next<=st.nodes+a.next;omega⟩;show(bif decide (a.deepest<a.around)then a.around else a.deepest)<=a.next
     cases decide (a.deepest<a.around)<;>simp<;>omega
def Cu (ws:List Wd)(a:pJ)(st:St):Prop:=∃r b,a=some (r,b)/\Rel ws st b/\(r.isSome=true->st.next<b.next)
variable {k:Int}
theorem aPJ (e:ws.length<=121){l:Tr}{r:Option Tr}{a:St}(hi:Inv ws st)(b:Rel ws st a)(f:a.nodes+st.next+1<=st.nodes+a.next):
  ∃x d,operOf k l r a=some (x,d)/\Rel ws st d/\d.next=a.next:=by
 cases r with
 |none=>exact⟨none,a,rfl,b,rfl⟩
 |some r=>
  have:=hi.nodes;exact⟨some (jI k l r),a.node,by simp only[operOf,b.inv.okB e,cond_true],⟨⟨b.inv.next,b.inv.around,by show a.nodes+1<=a.next;omega,b.inv.deepest⟩,b.next,b.around,by show a.nodes+1+st.next<=st.nodes+a.next;omega⟩,rfl⟩
theorem aIV (d:ws.length<=121){x:Option Tr}{a:St}(hi:Inv ws st)(b:Rel ws st a)(f:a.nodes+st.next+1<=st.nodes+a.next)(e:x.isSome=true->st.next<a.next):Cu ws (dU k x a) st:=by
 cases x with
 |none=>exact⟨none,a,rfl,b,fun h=>by cases h⟩
 |some x=>
  have:=hi.nodes;exact⟨some (eY k x),a.node,by simp only[dU,b.inv.okB d,cond_true],⟨⟨b.inv.next,b.inv.around,by show a.nodes+1<=a.next;omega,b.inv.deepest⟩,b.next,b.around,by show a.nodes+1+st.next<=st.nodes+a.next;omega⟩,fun _=>e rfl⟩
theorem aNp (hi:Inv ws st)(d:st.next+1<ws.length):Inv ws st.aN.lF:=by
 have a:=hi.around;have b:=hi.nodes;have c:=hi.deepest;exact⟨d,by show st.around+1<=st.next+1;omega,by show st.nodes<=st.next+1;omega,by show st.deepest<=st.next+1;omega⟩
theorem aKE {e:St}(hi:Inv ws st)(h:Rel ws st.aN.lF e):Rel ws st e.out/\1<=e.around/\st.next+1<=e.next/\e.nodes+st.next+1<=st.nodes+e.next:=by
 have a:=h.around;have b:=h.nodes;have c:=h.next;have f:st.aN.lF.next=st.next+1:=rfl;have g:st.aN.lF.nodes=st.nodes:=rfl;have i:st.aN.lF.around=st.around+1:=rfl;rw[f]at c b;rw[g]at b;rw[i]at a;have d:=hi.around;refine⟨⟨⟨h.inv.next,by show e.around-1<=e.next;omega,h.inv.nodes,h.inv.deepest⟩,by show st.next<=e.next;omega,by show e.around-1=st.around;omega,by show e.nodes+st.next<=st.nodes+e.next;omega⟩,by omega,c,by omega⟩
structure T1 (ws:List Wd) (f:Nat):Prop where
 sum:∀l st,Inv ws st->10*(ws.length-st.next)+9<=f->Cu ws (parse ws f 0 l st) st
 sumL:∀l st,Inv ws st->10*(ws.length-st.next)+8<=f->∃r st',parse ws f 1 l st=some (r,st')/\Rel ws st st'
 prod:∀l st,Inv ws st->10*(ws.length-st.next)+8<=f->Cu ws (parse ws f 2 l st) st
 prodL:∀l st,Inv ws st->10*(ws.length-st.next)+7<=f->∃r st',parse ws f 3 l st=some (r,st')/\Rel ws st st'
 signed:∀l st,Inv ws st->10*(ws.length-st.next)+7<=f->Cu ws (parse ws f 4 l st) st
 atom:∀l st,Inv ws st->10*(ws.length-st.next)+6<=f->Cu ws (parse ws f 5 l st) st
 br:∀l st,Inv ws st->10*(ws.length-st.next)+5<=f->Cu ws (parse ws f 6 l st) st
theorem Sx (B:qA ws)(C:ws.length<=121){w h b:Nat}{X:Tr}{c:ByteArray}(hi:Inv ws st)(E:tk ws st c=true)
  (i:∀a,Inv ws a->a.next=st.next+1->Cu ws (parse ws w b none a) a) (j:∀X a,Inv ws a->st.next+1<=a.next->∃r d,parse ws w h X a=some (r,d)/\Rel ws a d):
  ∃r d,((parse ws w b none st.aN).next fun r g=>(operOf k X r g).next fun n e=>parse ws w h n e)=some (r,d)/\Rel ws st d:=by
 have q:=Cf hi (yL B E);obtain⟨r,g,u,o,_⟩:=i st.aN q.inv rfl;have D:=o.nodes;have en:st.aN.next=st.next+1:=rfl;have A:st.aN.nodes=st.nodes:=rfl;rw[en,A]at D;have F:=o.next;rw[en]at F;obtain⟨x,e,v,s,I⟩:=aPJ (k:=k) (l:=X) (r:=r) C hi (q.trans o) (by omega);obtain⟨y,p,z,H⟩:=j x e s.inv (by omega);refine⟨y,p,?_,s.trans H⟩;rw[u];show(operOf k X r g).next (fun n e=>parse ws w h n e)=_;rw[v];exact z
theorem aRD (p:qA ws)(n:ws.length<=121)(f:Nat)(j:T1 ws f):T1 ws (f+1):=by
 constructor
 case sum=>
  intro l st hi z;obtain⟨r,d,q,k,A⟩:=j.prod none st hi (by omega);have F:=k.next;obtain⟨y,g,v,C⟩:=j.sumL r d k.inv (by omega);refine⟨y,g,?_,k.trans C,fun h=>?_⟩
  ·rw[parse,q];exact v
  ·cases r with
   |none=>
    cases f with
    |zero=>cases q
    |succ f=>
     simp only[parse,Option.some.injEq,Prod.mk.injEq]at v;rw[<-v.1]at h;cases h
   |some r=>have:=A rfl;have:=C.next;omega
 case sumL=>
  intro l st hi z
  cases l with
  |none=>exact⟨none,st,rfl,Rel.refl hi⟩
  |some l=>
   rw[parse,hi.okB n];simp only[cond_true]
   cases s:tk ws st ⟨#[43]⟩with
   |true=>
    have:=yL p s;exact Sx p n hi s (fun d o w=>j.prod none d o (by omega)) (fun l d o w=>j.sumL l d o (by omega))
   |false=>
    cases u:tk ws st ⟨#[45]⟩with
    |true=>
     have:=yL p u;exact Sx p n hi u (fun d o w=>j.prod none d o (by omega)) (fun l d o w=>j.sumL l d o (by omega))
    |false=>exact⟨some l,st,rfl,Rel.refl hi⟩
 case prod=>
  intro l st hi z;obtain⟨r,d,q,k,A⟩:=j.signed none st hi (by omega);have F:=k.next;obtain⟨y,g,v,C⟩:=j.prodL r d k.inv (by omega);refine⟨y,g,?_,k.trans C,fun h=>?_⟩
  ·rw[parse,q];exact v
  ·cases r with
   |none=>
    cases f with
    |zero=>cases q
    |succ f=>
     simp only[parse,Option.some.injEq,Prod.mk.injEq]at v;rw[<-v.1]at h;cases h
   |some r=>have:=A rfl;have:=C.next;omega
 case prodL=>
  intro l st hi z
  cases l with
  |none=>exact⟨none,st,rfl,Rel.refl hi⟩
  |some l=>
   rw[parse,hi.okB n];simp only[cond_true]
   cases s:tk ws st ⟨#[42]⟩with
   |true=>
    have:=yL p s;exact Sx p n hi s (fun d o w=>j.signed none d o (by omega)) (fun l d o w=>j.prodL l d o (by omega))
   |false=>
    cases u:tk ws st ⟨#[47]⟩with
    |true=>
     have:=yL p u;exact Sx p n hi u (fun d o w=>j.signed none d o (by omega)) (fun l d o w=>j.prodL l d o (by omega))
    |false=>exact⟨some l,st,rfl,Rel.refl hi⟩
 case signed=>
  intro l st hi z;rw[parse,hi.okB n];simp only[cond_true]
  cases s:tk ws st ⟨#[45]⟩with
  |false=>exact j.atom none st hi (by omega)
  |true=>
   have i:=yL p s;have D:=aNp hi i;have en:st.aN.lF.next=st.next+1:=rfl;obtain⟨x,g,q,k,A⟩:=j.signed none st.aN.lF D (by omega);obtain⟨o1,o2,o3,o4⟩:=aKE hi k;simp only[cond_true];rw[q];show Cu ws (bif g.fU then dU 5 x g.out else none) st;rw[show g.fU=true by simp only[St.fU,k.inv.okB n,decide_eq_true o2];rfl];exact aIV n hi o1 (by show g.nodes+st.next+1<=st.nodes+g.next;exact o4) (fun _=>by show st.next<g.next;omega)
 case atom=>
  intro l st hi z;rw[parse,hi.okB n];simp only[cond_true]
  cases s:((aD ws st.next).kind==1)with
  |true=>
   have i:st.next+1<ws.length:=p _ (by have:=beq_iff_eq.1 s;omega);simp only[cond_true];rw[(Cf hi i).inv.okB n];exact⟨_,_,rfl,aKo hi i,fun _=>by show st.next<st.next+1;omega⟩
  |false=>
   cases u:((aD ws st.next).kind==2)with
   |false=>exact j.br none st hi (by omega)
   |true=>
    have i:st.next+1<ws.length:=p _ (by have:=beq_iff_eq.1 u;omega);have B:=Cf hi i;have en:st.aN.next=st.next+1:=rfl;simp only[cond_true,cond_false];unfold nameOf
    cases k0:(named (aD ws st.next).text==0)with
    |true=>exact⟨none,st,rfl,Rel.refl hi,fun h=>by cases h⟩
    |false=>
     cases I:(named (aD ws st.next).text==2||named (aD ws st.next).text==3)with
     |true=>
      simp only[cond_true,cond_false];rw[B.inv.okB n];exact⟨_,_,rfl,aKo hi i,fun _=>by show st.next<st.next+1;omega⟩
     |false=>
      cases J:(named (aD ws st.next).text==4)with
      |true=>
       obtain⟨r,E,e,h⟩:=aFz p n st.aN B.inv;exact⟨r,E,e,B.trans h,fun _=>by have:=h.next;omega⟩
      |false=>
       obtain⟨x,g,q,k,A⟩:=j.br none st.aN B.inv (by omega);simp only[cond_false];rw[q];have a:=k.nodes;have b:=k.next;have H:st.aN.nodes=st.nodes:=rfl;exact aIV n hi (B.trans k) (by omega) (fun _=>by omega)
 case br=>
  intro l st hi z;rw[parse]
  ·rw[hi.okB n];simp only[cond_true]
   cases s:tk ws st ⟨#[40]⟩with
   |false=>exact⟨none,st,rfl,Rel.refl hi,fun h=>by cases h⟩
   |true=>
    have i:=yL p s;have D:=aNp hi i;have en:st.aN.lF.next=st.next+1:=rfl;obtain⟨x,g,q,k,A⟩:=j.sum none st.aN.lF D (by omega);obtain⟨o1,o2,o3,o4⟩:=aKE hi k;simp only[cond_true];rw[q];show Cu ws (hY ws x g) st;unfold hY;rw[show g.fU=true by simp only[St.fU,k.inv.okB n,decide_eq_true o2];rfl];simp only[cond_true]
    cases x with
    |none=>exact⟨none,g.out,rfl,o1,fun h=>by cases h⟩
    |some x=>
     simp only
     cases u:tk ws g.out ⟨#[41]⟩with
     |false=>exact⟨none,g.out,rfl,o1,fun h=>by cases h⟩
     |true=>exact⟨some x,g.out.aN,rfl,o1.trans (Cf o1.inv (yL p u)),fun _=>by show st.next<g.next+1;omega⟩
  all_goals omega
theorem aTP (a:qA ws)(b:ws.length<=121):∀f,T1 ws f:=by
 intro f
 induction f with
 |zero=>constructor<;>(intro l st _ h;omega)
 |succ f d=>exact aRD a b f d
theorem aJG (d:qA ws)(f:ws.length<=121)(b:0<ws.length):∃r a,parse ws 1300 0 none ⟨0,0,0,0⟩=some (r,a)/\Rel ws ⟨0,0,0,0⟩ a:=by
 obtain⟨r,a,e,h,_⟩:=(aTP d f 1300).sum none ⟨0,0,0,0⟩ ⟨b,Nat.le_refl _,Nat.le_refl _,Nat.le_refl _⟩ (by simp only;omega);exact⟨r,a,e,h⟩
end Rd
namespace Rd
open Go.Deep (BT)
theorem aOD:∀(f:Nat) (l:List UInt8),(toksF f l).length<=l.length:=by
 intro f
 induction f with
 |zero=>intro l;simp[toksF]
 |succ f a=>
  intro l
  cases l with
  |nil=>simp[toksF]
  |cons c r=>
   have e:=a r;have b:=a (r.drop (lU r));have d:=a (r.drop (jT r));simp only[List.length_drop]at b d;simp only[toksF]
   cases c==32<;>cases dg c<;>cases lt c<;>simp<;>omega
theorem aP4 (s:ByteArray):qA (split s (s.size+1) 0)/\(split s (s.size+1) 0).length<=s.size+1/\0<(split s (s.size+1) 0).length/\dR (aD (split s (s.size+1) 0) (toks s.data.toList).length)=(0,[])/\Seg (split s (s.size+1) 0) 0 (toks s.data.toList):=by
 have l:=aMk s
 have q:(split s (s.size+1) 0).length=(toks s.data.toList).length+1:=by
  have:=congrArg List.length l
  simpa using this
 have o:(toks s.data.toList).length<=s.size:=by rw[<-Jv];exact aOD _ _
 have d:∀i,i<(split s (s.size+1) 0).length->dR (aD (split s (s.size+1) 0) i)=(toks s.data.toList++[(0,[])]).getD i (0,[]):=by
  intro i hi;rw[<-l];unfold aD;simp[List.getD,List.getElem?_eq_getElem hi]
 refine⟨?_,by omega,by omega,?_,?_⟩
 ·intro n k
  rcases Nat.lt_or_ge n (split s (s.size+1) 0).length with h|h
  ·rcases Nat.lt_or_ge (n+1) (split s (s.size+1) 0).length with h'|h'
   ·exact h'
   ·exfalso
    have e:n=(toks s.data.toList).length:=by omega
    have:=d n h;rw[e]at this;simp[List.getD]at this;apply k;rw[e];exact Da this
  ·exfalso;apply k;unfold aD;simp[List.getD,List.getElem?_eq_none h]
 ·rw[d _ (by omega)];simp[List.getD]
 ·have g:∀(a b:List Tok) (i:Nat),(∀j,j<a.length->dR (aD (split s (s.size+1) 0) (i+j))=a.getD j (0,[]))->Seg (split s (s.size+1) 0) i a:=by
   intro a
   induction a with
   |nil=>intro _ _ _;trivial
   |cons x r p=>
    intro b i h;refine⟨by simpa using h 0 (by simp),p b (i+1) (fun j f=>?_)⟩;have:=h (j+1) (by simpa using f);rw[show i+1+j=i+(j+1) by omega,this];simp
  refine g _ [] 0 (fun j f=>?_);rw[Nat.zero_add,d j (by omega)];simp[List.getD,List.getElem?_append_left f]
theorem aIw {s:ByteArray}{c:Tr}(hc:Good c)(l:toks s.data.toList=tw c):
  read 1300 s=bif decide (120<s.size)then some (none,1,0)else bif decide (12<dep c)||decide (40<ndc c)then some (none,3,0)else some (some (strip c),0,0):=by
 unfold read
 by_cases f:120<s.size
 ·simp[f]
 ·obtain⟨j,o,k,b,e⟩:=aP4 s;obtain⟨res,n,d,_⟩:=aJG j (by omega) k;rw[l]at b e;have i:=aTv (ws:=split s (s.size+1) 0) c hc
  have a:dR (aD (split s (s.size+1) 0) (bF c ⟨0,0,0,0⟩).next)=(0,[]):=by
   simp only[bF,Nat.zero_add];exact b
  obtain⟨g,h⟩:=i.b0 1300 ⟨0,0,0,0⟩ e (Zh a (by decide) (by decide));have h1:=h.trans (Gn (st:=bF c ⟨0,0,0,0⟩) (t:=strip c) a (by decide) (by decide) g)
  rcases h1 with h1|h1
  ·rw[h1]at d;cases d
  ·rw[h1];simp only[decide_eq_false f,cond_false,Da a];simp only[bF,Nat.zero_add,Nat.zero_max];rfl
def jR (b:Bool)(x:Tr):Tr:=bif b then eY 14 x else x
def fE:Tr->Tr
 |.nil=>.nil
 |.node p q a l r=>
  bif a.1==5 then .node p q a (jR (decide (aP (aS l)<3)) (fE l)) (fE r)
  else bif decide (10<=a.1/\a.1<=13)then .node p q a (eY 14 (fE l)) (fE r)
  else bif decide (6<=a.1/\a.1<=9)then .node p q a (jR (decide (aP (aS l)<aP a.1)) (fE l)) (jR (decide (aP (aS r)<aP a.1+1)) (fE r))
  else .node p q a l r
structure CC (c:Tr):Prop where
 ne:aS (strip c)=aS (fE (strip c))
 kind:aS c≠14->aS (strip c)=aS c
 plain:aS (strip c)≠14
 xN:Good (fE (strip c))
 back:strip (fE (strip c))=strip c
 toks:toks (text (strip c))=tw (fE (strip c))
 dep:dep (fE (strip c))+(bif aS c==14 then 1 else 0)<=dep c
 ndc:ndc (fE (strip c))=ndc c
 pos:0<(text (strip c)).length
variable {b:Bool}
theorem Md {x:Tr}(h:Good x):Good (jR b x):=by
 cases b with
 |false=>exact h
 |true=>exact⟨rfl,rfl,Or.inr (Or.inr (Or.inr (Or.inr (Or.inr (Or.inl ⟨rfl,rfl,h,rfl⟩)))))⟩
theorem Xr (x:Tr):strip (jR b x)=strip x:=by cases b<;>rfl
theorem Yw (x:Tr):ndc (jR b x)=ndc x:=by cases b<;>rfl
theorem aO4 (x:Tr):dep (jR b x)=dep x+(bif b then 1 else 0):=by cases b<;>rfl
theorem Yk {x:Tr}{t:Tr}{m:Int}(h:aS t=aS x)(b:m<=4):m<=aP (aS (jR (decide (aP (aS t)<m)) x)):=by
 by_cases a:aP (aS t)<m
 ·simp only[a,decide_true];show m<=4;exact b
 ·simp only[a,decide_false];show m<=aP (aS x);rw[<-h];omega
theorem Yx (b:Bool)(x:List UInt8)(y:Tr)(h:toks x=tw y):toks (nP b x)=tw (jR b y):=by
 cases b with
 |false=>exact h
 |true=>
  show toks (40::(x++[41]))=(3,[40])::(tw y++[(3,[41])]);rw[wU (by decide) (by decide),uX (by decide),h];rfl
theorem aO5 (b:Bool)(x:List UInt8)(y:Tr)(h:toks x=tw y)(c:UInt8)(hc:an c=false)(r:List UInt8):toks (nP b x++c::r)=tw (jR b y)++toks (c::r):=by
 rw[uX hc,Yx b x y h]
def lZ:List Int->List Tok
 | []=>[]
 |y::r=>(3,[44])::(1,dec y)::lZ r
theorem aI9 (a:List Int)(z:Int):lZ (a++[z])=lZ a++[(3,[44]),(1,dec z)]:=by
 induction a with
 |nil=>rfl
 |cons y r b=>simp[lZ,b]
theorem aLV:∀(r:List Int) (y:Int),dD (y::r)=(1,dec y)::(lZ r++[(3,[93])]):=by
 intro r
 induction r with
 |nil=>intro y;rfl
 |cons z r a=>intro y;rw[aEa,a z];rfl
theorem aQj {x y:Int}{r:List Int}(f:cU x)(g:cU y)(e:∀z∈r,cU z):∀j,j<=r.length->toks (eT (x::y::r) (2+j))=[(2,[99,102]),(3,[91]),(1,dec x),(3,[59]),(1,dec y)]++lZ (r.take j):=by
 intro j
 induction j with
 |zero=>
  intro _;show toks (([99,102,91]++([]++dec x))++([59,32]++dec y))=_
  have a:([99,102,91]++([]++dec x))++([59,32]++dec y)=[99,102]++(91::(dec x++59::32::dec y)):=by simp
  rw[a,uX (by decide),wU (c:=91) (by decide) (by decide),uX (by decide),Ha f,wU (c:=59) (by decide) (by decide),Jz,Ha g];rfl
 |succ j i=>
  intro k
  have a:eT (x::y::r) (2+(j+1))=eT (x::y::r) (2+j)++(44::32::dec r[j]):=by
   rw[show 2+(j+1)=(2+j)+1 by omega,eT]
   have b:sep (2+j)=[44,32]:=by
    unfold sep;rw[beq_eq_false_iff_ne.2 (show 2+j≠0 by omega),beq_eq_false_iff_ne.2 (show 2+j≠1 by omega)];rfl
   have d:(x::y::r).getD (2+j) 0=r[j]:=by
    rw[show 2+j=j+1+1 by omega];simp[List.getD,List.getElem?_eq_getElem (show j<r.length by omega)]
   rw[b,d];rfl
  have h:cU r[j]:=e _ (List.getElem_mem (by omega));rw[a,uX (by decide),i (by omega),wU (by decide) (by decide),Jz,Ha h,List.take_succ_eq_append_getElem (by omega),aI9];simp
theorem aOE {ts:List Int}(h:Co ts):toks (dX ts)=uI ts:=by
 obtain⟨x,r,rfl,e,b,d,_⟩:=h
 cases r with
 |nil=>simp at d
 |cons y r=>
  have a:=aQj e (b y (by simp)).1 (fun z f=>(b z (by simp[f])).1) r.length (Nat.le_refl _);unfold dX;rw[uX (by decide),show(x::y::r).length=2+r.length by simp;omega,a,List.take_length,wU (by decide) (by decide),Kb];simp only[uI,aLV];simp
theorem Tw {c:Tr}(a:strip c=c)(hc:fE c=c)(b:aS c≠14)(d:Good c)(f:toks (text c)=tw c)(e:0<(text c).length):CC c:=by
 refine⟨by rw[a,hc],fun _=>by rw[a],by rw[a];exact b,by rw[a,hc];exact d,by rw[a,hc,a],by rw[a,hc];exact f,?_,by rw[a,hc],by rw[a];exact e⟩;rw[a,hc,beq_eq_false_iff_ne.2 b];exact Nat.le_refl _
variable {x:Tr}
theorem aTA (h:CC x):CC (eY 14 x):=by
 have d:dep (eY 14 x)=dep x+1:=rfl;refine⟨h.ne,fun e=>absurd rfl e,h.plain,h.xN,h.back,h.toks,?_,h.ndc,h.pos⟩;have:=h.dep;rw[d];show dep (fE (strip x))+1<=dep x+1;omega
theorem aJg (h:CC x){m:Int}(d:m<=aP (aS x)):dep (jR (decide (aP (aS (strip x))<m)) (fE (strip x)))<=dep x:=by
 rw[aO4];have a:=h.dep
 by_cases b:aS x=14
 ·rw[b]at a;simp only[beq_self_eq_true,cond_true]at a
  cases decide (aP (aS (strip x))<m)<;>simp<;>omega
 ·have:=h.kind b;rw[this,decide_eq_false (by omega)];simp only[cond_false];omega
theorem aTz (h:CC x)(a:3<=aP (aS x)):CC (eY 5 x):=by
 have b:=aJg h a;refine⟨rfl,fun _=>rfl,by show(5:Int)≠14;decide,?_,?_,?_,?_,?_,?_⟩
 ·exact⟨rfl,rfl,Or.inr (Or.inr (Or.inr (Or.inl ⟨rfl,rfl,Md h.xN,Yk h.ne (by decide),rfl⟩)))⟩
 ·show eY 5 (strip (jR _ (fE (strip x))))=eY 5 (strip x);rw[Xr,h.back]
 ·show toks (45::nP _ (text (strip x)))=(3,[45])::tw (jR _ (fE (strip x)));rw[wU (by decide) (by decide),Yx _ _ _ h.toks]
 ·show dep (jR _ (fE (strip x)))+1+0<=dep x+1;omega
 ·show ndc (jR _ (fE (strip x)))+0+1=ndc x+0+1;rw[Yw,h.ndc]
 ·show 0<(45::nP _ (text (strip x))).length;simp
theorem aVP {k:Int}(e:k=10\/k=11\/k=12\/k=13)(h:CC x)(o:aS x=14):CC (eY k x):=by
 have j:(k==5)=false:=by rcases e with rfl|rfl|rfl|rfl<;>rfl
 have a:(k==14)=false:=by rcases e with rfl|rfl|rfl|rfl<;>rfl
 have f:decide (10<=k/\k<=13)=true:=by rcases e with rfl|rfl|rfl|rfl<;>rfl
 have d:strip (eY k x)=eY k (strip x):=by
  unfold eY;simp only[strip,a,cond_false]
 have c1:fE (eY k (strip x))=eY k (eY 14 (fE (strip x))):=by
  unfold eY;simp only[fE,j,f,cond_false,cond_true];rfl
 have p:∀y,strip (eY k y)=eY k (strip y):=by
  intro y;unfold eY;simp only[strip,a,cond_false]
 have n:text (eY k (strip x))=sym k++40::(text (strip x)++[41]):=by rcases e with rfl|rfl|rfl|rfl<;>rfl
 have g:=h.dep;rw[o]at g;simp only[beq_self_eq_true,cond_true]at g
 have i:∀y,dep (eY k y)=dep y:=by
  intro y;show(bif k==5||k==14 then dep y+1 else max (dep y) (dep .nil))=_;rw[j,a];simp[dep]
 have l:∀y,ndc (eY k y)=ndc y+1:=by
  intro y;show(bif k==14 then ndc y else ndc y+ndc .nil+1)=_;rw[a];simp[ndc]
 refine⟨by rw[d,c1];rfl,fun _=>by rw[d];rfl,by rw[d];show k≠14;omega,?_,?_,?_,?_,?_,?_⟩
 ·rw[d,c1];exact⟨rfl,rfl,Or.inr (Or.inr (Or.inr (Or.inr (Or.inl ⟨e,rfl,Md (b:=true) h.xN,rfl,rfl⟩))))⟩
 ·rw[d,c1,p];show eY k (strip (fE (strip x)))=_;rw[h.back]
 ·rw[d,c1,n,uX (by decide),wU (by decide) (by decide),uX (by decide),h.toks,Vw e,Ux]
  have:toks (sym k)=[(2,sym k)]:=by rcases e with rfl|rfl|rfl|rfl<;>rfl
  rw[this];rfl
 ·rw[d,c1,i,i];show dep (fE (strip x))+1+(bif k==14 then 1 else 0)<=dep x;rw[a];exact g
 ·rw[d,c1,l,l];show ndc (fE (strip x))+1=_;rw[h.ndc]
 ·rw[d,n];simp;omega
theorem aVQ {k:Int}(a:k=6\/k=7\/k=8\/k=9){X r:Tr}(d:CC X)(e:CC r)(p:aP k<=aP (aS X))(q:aP k+1<=aP (aS r)):CC (jI k X r):=by
 have n:(k==5)=false:=by rcases a with rfl|rfl|rfl|rfl<;>rfl
 have g:(k==14)=false:=by rcases a with rfl|rfl|rfl|rfl<;>rfl
 have f:decide (10<=k/\k<=13)=false:=by rcases a with rfl|rfl|rfl|rfl<;>rfl
 have o:decide (6<=k/\k<=9)=true:=by rcases a with rfl|rfl|rfl|rfl<;>rfl
 have rk:aP k<=2:=by rcases a with rfl|rfl|rfl|rfl<;>decide
 have b:=Tl a X r
 have c1:fE (jI k (strip X) (strip r))=jI k (jR (decide (aP (aS (strip X))<aP k)) (fE (strip X))) (jR (decide (aP (aS (strip r))<aP k+1)) (fE (strip r))):=by
  unfold jI;simp only[fE,n,f,o,cond_false,cond_true]
 have j:text (jI k (strip X) (strip r))=nP (decide (aP (aS (strip X))<aP k)) (text (strip X))++32::(sym k++32::nP (decide (aP (aS (strip r))<aP k+1)) (text (strip r))):=by rcases a with rfl|rfl|rfl|rfl<;>rfl
 have ts:∀y,toks (sym k++32::y)=(3,sym k)::toks y:=by
  intro y
  rcases a with rfl|rfl|rfl|rfl<;>(show toks (_::32::y)=_;rw[wU (by decide) (by decide),Jz];rfl)
 have s:=aJg d p;have u:=aJg e q
 have h:∀y z,dep (jI k y z)=max (dep y) (dep z):=fun y z=>by rcases a with rfl|rfl|rfl|rfl<;>rfl
 have i:∀y z,ndc (jI k y z)=ndc y+ndc z+1:=fun y z=>by rcases a with rfl|rfl|rfl|rfl<;>rfl
 refine⟨by rw[b,c1];rfl,fun _=>by rw[b];rfl,by rw[b];show k≠14;omega,?_,?_,?_,?_,?_,?_⟩
 ·rw[b,c1];exact⟨rfl,rfl,Or.inr (Or.inr (Or.inr (Or.inr (Or.inr (Or.inr ⟨a,rfl,Md d.xN,Md e.xN,Yk d.ne (by show aP k<=4;omega),Yk e.ne (by show aP k+1<=4;omega)⟩)))))⟩
 ·rw[b,c1,Tl a,Xr,Xr,d.back,e.back]
 ·rw[b,c1,j,aO5 _ _ _ d.toks _ (by decide),Jz,ts,Yx _ _ _ e.toks,Pd a]
 ·rw[b,c1,h,h];show max _ _+(bif k==14 then 1 else 0)<=_;rw[g];simp only[cond_false];omega
 ·rw[b,c1,i,i,Yw,Yw,d.ndc,e.ndc]
 ·rw[b,j];simp;omega
theorem aQG:∀c,Good c->CC c:=by
 intro c
 induction c with
 |nil=>intro h;exact h.elim
 |node p q a l r e j=>
  intro h;have i:=h;obtain⟨k,v,ts⟩:=a;obtain⟨rfl,rfl,h⟩:=h;simp only at h
  rcases h with⟨rfl,b,rfl,rfl,rfl⟩|⟨b,d,rfl,rfl⟩|⟨rfl,rfl,b,rfl,rfl⟩|⟨rfl,d,f,g,rfl⟩|⟨b,d,f,g,rfl⟩|⟨rfl,d,f,rfl⟩|⟨b,d,f,g,n,o⟩
  ·refine Tw rfl rfl (by show(1:Int)≠14;decide) i (Ha b) ?_;show 0<(dec v).length;rw[dec,Lib.decDigits_length];exact Lib.nDigits_pos _
  ·obtain⟨rfl,rfl⟩:=Prod.mk.inj d
   rcases b with rfl|rfl
   ·exact Tw rfl rfl (by show(2:Int)≠14;decide) i rfl (by decide)
   ·exact Tw rfl rfl (by show(3:Int)≠14;decide) i rfl (by decide)
  ·refine Tw rfl rfl (by show(4:Int)≠14;decide) i (aOE b) ?_;show 0<(dX ts).length;unfold dX;simp
  ·obtain⟨rfl,rfl⟩:=Prod.mk.inj d;exact aTz (e f) g
  ·obtain⟨rfl,rfl⟩:=Prod.mk.inj d;exact aVP b (e f) g
  ·obtain⟨rfl,rfl⟩:=Prod.mk.inj d;exact aTA (e f)
  ·obtain⟨rfl,rfl⟩:=Prod.mk.inj d;exact aVQ b (e f) (j g) n o
theorem aLT {c:Tr}(hc:Good c)(e:dep c<=12)(f:ndc c<=40){u:ByteArray}(b:u.data.toList=text (strip c)):
  read 1300 u=bif decide (120<u.size)then some (none,1,0)else some (some (strip c),0,0):=by
 have h:=aQG c hc;have d:=h.dep;have a:=h.ndc;rw[aIw h.xN (by rw[b];exact h.toks),h.back,a,decide_eq_false (show¬12<dep (fE (strip c)) by omega),decide_eq_false (show¬40<ndc c by omega)];rfl
end Rd
open Go
section
variable {P:Program} {ops:Array Oper} {Q:Exit->Act->World->Prop} {md:Region.Mode} {S:World->Prop} {D:Nat->Bool}
def wpAnyE (P:Program)(md:Region.Mode)(ops:Array Oper)(Q:Exit->Act->World->Prop)(S:World->Prop)(D:Nat->Bool):Nat->Array Bool->Act->World->Prop
 |0,b,a,w=>Region.ready md ops b=[]/\Q .normal a w
 |fuel+1,b,a,w=>
  (Region.ready md ops b=[]->Q .normal a w)/\
  ∀i∈Region.ready md ops b,wpOp P ops Q i (fun e d=>(D i=true->S d)/\wpAnyE P md ops Q S D fuel (b.setIfInBounds i true) e d) a w
theorem aGB:∀(fuel:Nat) (b:Array Bool) (a:Act) (w:World),wpAnyE P md ops Q S D fuel b a w->wpAny P md ops Q fuel b a w
 |0,_,_,_,h=>h
 |fuel+1,_,_,_,h=>⟨h.1,fun i hi=>wpOp_mono (fun d f e=>aGB fuel _ d f e.2) (h.2 i hi)⟩
def Bt (md:Region.Mode)(ops:Array Oper)(D:Nat->Bool)(i:Nat):Bool:=(List.range ops.size).all fun j=>D j||(match ops[j]? with
 |some o=>o.after.any fun e=>Region.binds md e&&e.on==i
 |none=>true)
variable {i:Nat}
theorem aMh (h:Bt md ops D i=true)(j:Nat)(d:Oper)(b:ops[j]?=some d)(n:∀e∈d.after,Region.binds md e=true->e.on≠i):D j=true:=by
 have a:j<ops.size:=(Array.getElem?_eq_some_iff.1 b).1;have:=List.all_eq_true.1 h j (List.mem_range.2 a);rw[b]at this
 rcases Bool.or_eq_true _ _▸this with h1|h1
 ·exact h1
 ·exfalso;simp only[Array.any_eq_true,Bool.and_eq_true,beq_iff_eq]at h1;obtain⟨k,l,f,g⟩:=h1;exact n _ (Array.getElem_mem l) f g
variable {a:Array Bool}
theorem aSt {k:Nat}{l:Oper}(hi:i∈Region.ready md ops a)(u:k∈Region.ready md ops a)(v:ops[k]?=some l):∀e∈l.after,Region.binds md e=true->e.on≠i:=by
 intro e s r g;obtain⟨_,o,h,f⟩:=mem_ready.1 u;obtain rfl:l=o:=Option.some.inj (v.symm.trans h);have up:=f e s r;have d:=(mem_ready.1 hi).1;rw[g,Array.getD_eq_getD_getElem?]at up;rw[Array.getD_eq_getD_getElem?]at d
 cases p:a[i]? with
 |none=>rw[p]at up;cases up
 |some b=>
  rw[p]at up d;have q:b=true:=up;have n:b=false:=d;rw[q]at n;cases n
def Fr (md:Region.Mode)(ops:Array Oper)(i:Nat)(d:Oper)(a:Array Bool):Prop:=
 ∀j b,ops[j]?=some b->j≠i->a.getD j true=false->(∀e∈b.after,Region.binds md e=true->e.on≠i)->d.apart ops b=true
theorem Fr.set {g:Oper}(h:Fr md ops i g a)(j:Nat)(l:a.getD j true=false):Fr md ops i g (a.setIfInBounds j true):=by
 intro k ok f b e d
 rcases Nat.decEq j k with ne|rfl
 ·exact h k ok f b ((getD_set_ne true ne).symm.trans e) d
 ·exact h j ok f b l d
theorem aI1 {n:Oper}{z:Value}(C:Bt md ops D i=true)(hi:ops[i]?=some n)(k:∀(j:Nat) (o:Oper) cs b,ops[j]?=some o->o.op≠.select cs b)
  (E:∀c a w,Q (.panic c) (a.put n.dst z) w->Q (.panic c) a w) (fuel:Nat):∀(d:Array Bool) (a:Act) (w:World),
   Fr md ops i n d->i∈Region.ready md ops d->YieldsIf P ops S n z a->S w->
   wpAnyE P md ops Q S D fuel (d.setIfInBounds i true) (a.put n.dst z) w->wpAnyE P md ops Q S D (fuel+1) d a w:=by
 induction fuel with
 |zero=>
  intro d a w _ l u p H;constructor
  ·intro x;rw[x]at l;exact absurd l (by simp)
  ·intro j q
   rcases Nat.decEq j i with ne|rfl
   ·have:=ready_mono q ne;rw[H.1]at this;exact absurd this (by simp)
   ·exact u.wpOp hi p ⟨fun _=>p,H⟩
 |succ fuel F=>
  intro d a w e l u p H;constructor
  ·intro x;rw[x]at l;exact absurd l (by simp)
  ·intro j q
   rcases Nat.decEq j i with ne|rfl
   ·obtain⟨h,A,f,_⟩:=mem_ready.1 q;have g:=aSt l q f;have step:=wpOp_putIf f (e j A f ne h g) (fun cs b=>k i n cs b hi) (fun cs b=>k j A cs b f) E u (H.2 j (ready_mono q ne));refine wpOp_mono ?_ step;rintro B I⟨y,s,r⟩;refine⟨s,F _ B I (e.set j h) (ready_mono l (Ne.symm ne)) y (s (aMh C j A f g)) ?_⟩;rw[Array.setIfInBounds_comm _ _ ne];exact r
   ·exact u.wpOp hi p ⟨fun _=>p,H⟩
variable {b:Array Bool}{a:Act}{n:World}
theorem Bz {d:Oper}{v:Value}{fuel:Nat}(hi:ops[i]?=some d)(e:Bt md ops D i=true)
  (l:Region.noSelect ops=true) (j:Region.free md ops b i=true) (k:(Region.ready md ops b).contains i=true)
  (f:∀c a n,Q (.panic c) (a.put d.dst v) n->Q (.panic c) a n) (o:YieldsIf P ops S d v a) (g:S n)
  (h:wpAnyE P md ops Q S D fuel (b.setIfInBounds i true) (a.put d.dst v) n):wpAnyE P md ops Q S D (fuel+1) b a n:=
 aI1 e hi (Region.noSelect_spec l) f fuel b a n (Region.free_spec hi j) (by simpa using k) o g h
theorem Ex {o:Oper}{fuel:Nat}(g:Region.ready md ops b=[i])(q:ops[i]?=some o)
  (h:∀d:Act->World->Prop,Shut (∀a n,(D i=true->S n)->wpAnyE P md ops Q S D fuel (b.setIfInBounds i true) a n->d a n)->if Region.wanted o (yielded ops a.tmps)=true then Oper.wp P o a n d Q else d (a.put o.dst undef) n):
  wpAnyE P md ops Q S D (fuel+1) b a n:=by
 refine⟨(fun e=>by rw[g]at e;cases e),fun j f=>?_⟩;rw[g]at f;obtain rfl:=List.mem_singleton.1 f;exact wpOp_step q (fun d k=>h d (fun a n l p=>k a n ⟨l,p⟩))
theorem aF9 (d:Region.ready md ops b=[])(h:Q .normal a n):
  ∀fuel,wpAnyE P md ops Q S D fuel b a n
 |0=>⟨d,h⟩
 |_+1=>⟨fun _=>h,by rw[d];simp⟩
theorem aGa {id:Nat}(S:World->Prop)(D:Nat->Bool)(b:P.follows .mixedOrders=true)
  (h:wpAnyE P .any ops Q S D ops.size (Array.replicate ops.size false) a n.drew):(Code.region id ops true).wp P Q a n:=
 wp_region_any b (aGB _ _ _ _ h)
end
section
variable {P:Program} {ops:Array Oper} {Q:Exit->Act->World->Prop} {md:Region.Mode}
def leftL:List Bool->Nat
 | []=>0
 |b::r=>(bif b then 0 else 1)+leftL r
theorem Ye:∀(l:List Bool) (i:Nat),l[i]?=some false->leftL (l.set i true)+1=leftL l
 | [],i,h=>by simp at h
 |b::r,0,h=>by
  simp at h;subst h;simp[leftL];omega
 |b::r,i+1,h=>by
  have:=Ye r i (by simpa using h);simp only[List.set_cons_succ,leftL];omega
theorem aGo {l:Array Bool}{i:Nat}(h:l.getD i true=false):l.toList[i]?=some false:=by
 rw[Array.getD_eq_getD_getElem?]at h;rw[Array.getElem?_toList]
 cases e:l[i]? with
 |none=>rw[e]at h;cases h
 |some b=>
  rw[e]at h;have:b=false:=h;rw[this]
theorem aI2 {I:Array Bool->Act->World->Prop}(step:∀l a w i o,I l a w->i∈Region.ready md ops l->ops[i]?=some o->wpOp P ops Q i (I (l.setIfInBounds i true)) a w)(b:∀l a w,I l a w->Region.ready md ops l=[]->Q .normal a w):∀(n:Nat) (l:Array Bool) (a:Act) (w:World),leftL l.toList<=n->I l a w->wpAny P md ops Q n l a w
 |0,l,a,w,j,h=>by
  have d:Region.ready md ops l=[]:=by
   apply List.eq_nil_iff_forall_not_mem.2;intro i hi;have:=Ye _ _ (aGo (mem_ready.1 hi).1);omega
  exact⟨d,b l a w h d⟩
 |n+1,l,a,w,j,h=>by
  refine⟨fun d=>b l a w h d,fun i hi=>?_⟩;obtain⟨g,o,k,_⟩:=mem_ready.1 hi;refine wpOp_mono (fun e p f=>aI2 step b n _ e p ?_ f) (step l a w i o h hi k);have:=Ye _ _ (aGo g);rw[Array.toList_setIfInBounds];omega
def Ft (ops:Array Oper):Bool:=(List.range ops.size).all fun i=>match ops[i]? with
 |some o=>o.after.toList.all fun e=>decide (e.on<i)
 |none=>true
def nN (ops:Array Oper)(n:Nat):Bool:=(List.range ops.size).all fun i=>(List.range ops.size).all fun k=>match ops[i]?,ops[k]? with
 |some o,some p=>match o.dst with
  |some d=>decide (d<n)&&(i==k||p.dst != some d)
  |none=>true
 |_,_=>true
theorem Sm {w:Nat}(h:nN ops w=true){i k d:Nat}{o p:Oper}(f:ops[i]?=some o)(j:ops[k]?=some p)(r:o.dst=some d):d<w/\(p.dst=some d->i=k):=by
 have q:=List.all_eq_true.1 h i (List.mem_range.2 (Array.getElem?_eq_some_iff.1 f).1);have b:=List.all_eq_true.1 q k (List.mem_range.2 (Array.getElem?_eq_some_iff.1 j).1);simp only[f,j,r,Bool.and_eq_true,decide_eq_true_eq,Bool.or_eq_true,beq_iff_eq,bne_iff_ne]at b;refine⟨b.1,fun e=>?_⟩
 rcases b.2 with g|g
 ·exact g
 ·exact absurd e g
def cC (t:Array Value):List (Nat×Value)->Array Value
 | []=>t
 |(d,v)::r=>cC (t.setIfInBounds d v) r
def dl (b:Nat->Value):List Oper->Nat->List (Nat×Value)
 | [],_=>[]
 |o::r,i=>match o.dst with
  |some d=>(d,b i)::dl b r (i+1)
  |none=>dl b r (i+1)
theorem Xl:∀(L:List (Nat×Value)) (t:Array Value) (j:Nat),(∀x∈L,x.1≠j)->(cC t L)[j]?=t[j]?
 | [],_,_,_=>rfl
 |(d,v)::r,t,j,h=>by
  rw[cC,Xl r _ j fun x b=>h x (by simp[b])];exact Array.getElem?_setIfInBounds_ne (h (d,v) (by simp))
theorem aIC:∀(L:List (Nat×Value)) (t:Array Value) (j:Nat) (v:Value),(j,v)∈L->(∀x∈L,x.1=j->x.2=v)->j<t.size->(cC t L)[j]?=some v
 | [],_,_,_,h,_,_=>by cases h
 |(d,u)::r,t,j,v,h,n,k=>by
  rw[cC]
  by_cases g:∃x∈r,x.1=j
  ·obtain⟨x,b,f⟩:=g;have e:x=(j,v):=Prod.ext f (n x (by simp[b]) f);rw[e]at b;exact aIC r _ j v b (fun y q=>n y (by simp[q])) (by simpa using k)
  ·rw[Xl r _ j fun x b e=>g ⟨x,b,e⟩]
   have p:(d,u)=(j,v):=by
    rcases List.mem_cons.1 h with e|e
    ·exact e.symm
    ·exact absurd ⟨_,e,rfl⟩ g
   cases p;exact Array.getElem?_setIfInBounds_self_of_lt k
theorem Vh {vs:Nat->Value}:∀(l:List Oper) (n:Nat) (x:Nat×Value),x∈dl vs l n↔∃i o,l[i]?=some o/\o.dst=some x.1/\x.2=vs (n+i)
 | [],n,x=>by simp[dl]
 |o::r,n,x=>by
  have k:=Vh (vs:=vs) r (n+1) x;constructor
  ·intro h;unfold dl at h
   cases j:o.dst with
   |none=>
    rw[j]at h;obtain⟨i,p,b,f,g⟩:=k.1 h;exact⟨i+1,p,by simpa using b,f,by rw[g];congr 1;omega⟩
   |some d=>
    rw[j]at h
    rcases List.mem_cons.1 h with e|e
    ·subst e;exact⟨0,o,rfl,j,rfl⟩
    ·obtain⟨i,p,b,f,g⟩:=k.1 e;exact⟨i+1,p,by simpa using b,f,by rw[g];congr 1;omega⟩
  ·rintro⟨i,p,b,f,g⟩;unfold dl
   cases i with
   |zero=>
    simp at b;subst b;rw[f];exact List.mem_cons.2 (Or.inl (Prod.ext rfl g))
   |succ i=>
    have:=k.2 ⟨i,p,by simpa using b,f,by rw[g];congr 1;omega⟩
    cases o.dst with
    |none=>exact this
    |some d=>exact List.mem_cons.2 (Or.inr this)
structure RgI (ops:Array Oper) (a0:Act) (S:World->Prop) (F:Nat->Value->World->Prop) (l:Array Bool) (a:Act) (w:World):Prop where
 sz:l.size=ops.size
 s:S w
 df:a.defers=a0.defers
 ts:a.tmps.size=a0.tmps.size
 fr:∀j,(∀(i:Nat) (o:Oper),ops[i]?=some o->o.dst≠some j)->a.tmps[j]?=a0.tmps[j]?
 vl:∀(i:Nat) (o:Oper) (d:Nat),ops[i]?=some o->o.dst=some d->l.getD i false=true->∃v,a.tmps[d]?=some v/\F i v w
variable {a:Act}{b:Option Tmp}{z:Value}
theorem aN9 {w:Nat}(h:b≠some w):(a.put b z).tmps[w]?=a.tmps[w]?:=by
 cases b with
 |none=>rfl
 |some d=>exact Array.getElem?_setIfInBounds_ne fun e=>h (by rw[e])
theorem aPP:(a.put b z).tmps.size=a.tmps.size:=by
 cases b with
 |none=>rfl
 |some d=>simp[Act.put]
theorem aSI:(a.put b z).defers=a.defers:=by cases b<;>rfl
def zB (P:Program)(ops:Array Oper)(Q:Exit->Act->World->Prop)(a0:Act)(S:World->Prop)(F:Nat->Value->World->Prop):Prop:=∀(i:Nat) (o:Oper),ops[i]?=some o->∀a w,S w->(∀e∈o.after,Region.binds .any e=true->∀(p:Oper) (d:Nat),ops[e.on]?=some p->p.dst=some d->∃v,a.tmps[d]?=some v/\F e.on v w)->(∀j,(∀(i:Nat) (o:Oper),ops[i]?=some o->o.dst≠some j)->a.tmps[j]?=a0.tmps[j]?)->∀K:Act->World->Prop,(∀v b,F i v b->S b->(∀k u,F k u w->F k u b)->K (a.put o.dst v) b)->if Region.wanted o (yielded ops a.tmps)=true then Oper.wp P o a w K Q else K (a.put o.dst undef) w
def Ep (ops:Array Oper)(Q:Exit->Act->World->Prop)(a0:Act)(S:World->Prop)(F:Nat->Value->World->Prop):Prop:=∀(b:Nat->Value) (w:World),S w->(∀(i:Nat) (o:Oper) (d:Nat),ops[i]?=some o->o.dst=some d->F i (b i) w)->Q .normal ⟨cC a0.tmps (dl b ops.toList 0),a0.defers⟩ w
section
variable {a a0:Act} {w w0:World} {S:World->Prop} {F:Nat->Value->World->Prop} {l:Array Bool} {i:Nat} {o:Oper}
theorem RgI.go (n:nN ops a0.tmps.size=true)(step:zB P ops Q a0 S F)(h:RgI ops a0 S F l a w)(f:ops[i]?=some o)(q:∀e∈o.after,Region.binds .any e=true->l.getD e.on false=true)(K:Act->World->Prop)(J:∀B A,RgI ops a0 S F (l.setIfInBounds i true) B A->K B A):if Region.wanted o (yielded ops a.tmps)=true then Oper.wp P o a w K Q else K (a.put o.dst undef) w:=by
 refine step i o f a w h.s (fun e M L p d g b=>h.vl e.on p d g b (q e M L)) h.fr K fun v A I r z=>J _ _ ⟨by rw[Array.size_setIfInBounds];exact h.sz,r,aSI.trans h.df,aPP.trans h.ts,fun j C=>(aN9 (C i o f)).trans (h.fr j C),?_⟩
 intro k p d g b x
 by_cases e:k=i
 ·subst e;rw[f]at g;cases g;refine⟨v,?_,I⟩;rw[b];exact Array.getElem?_setIfInBounds_self_of_lt (by rw[h.ts];exact(Sm n f f b).1)
 ·have y:l.getD k false=true:=by
   rw[Array.getD_eq_getD_getElem?]at x ⊢;rw[Array.getElem?_setIfInBounds_ne (Ne.symm e)]at x;exact x
  obtain⟨u,E,H⟩:=h.vl k p d g b y;exact⟨u,by rw[aN9 fun D=>e ((Sm n g f b).2 D)];exact E,z k u H⟩
theorem RgI.done (q:nN ops a0.tmps.size=true)(y:Ep ops Q a0 S F)(h:RgI ops a0 S F l a w)(all:∀i,i<ops.size->l.getD i false=true):Q .normal a w:=by
 have u:∃n:Nat->Value,∀(i:Nat) (o:Oper) (d:Nat),ops[i]?=some o->o.dst=some d->a.tmps[d]?=some (n i)/\F i (n i) w:=by
  refine ⟨fun i=>match ops[i]? with
   |some o=>match o.dst with
    |some d=>a.tmps.getD d undef
    |none=>undef
   |none=>undef,fun i o d b f=>?_⟩
  obtain⟨v,D,E⟩:=h.vl i o d b f (all i (Array.getElem?_eq_some_iff.1 b).1);simp only[b,f];rw[Array.getD_eq_getD_getElem?,D];exact⟨rfl,E⟩
 obtain⟨n,hv⟩:=u
 have e:a=⟨cC a0.tmps (dl n ops.toList 0),a0.defers⟩:=by
  have B:a.tmps=cC a0.tmps (dl n ops.toList 0):=by
   apply Array.ext_getElem?;intro j
   by_cases z:∃(i:Nat) (o:Oper),ops[i]?=some o/\o.dst=some j
   ·obtain⟨i,o,b,f⟩:=z;rw[(hv i o j b f).1];refine(aIC _ _ j (n i) ((Vh _ _ _).2 ⟨i,o,by rw[Array.getElem?_toList];exact b,f,by simp⟩) ?_ (Sm q b b f).1).symm;intro x u A;obtain⟨k,p,r,g,e⟩:=(Vh _ _ _).1 u;rw[Array.getElem?_toList]at r;rw[A]at g;rw[e,Nat.zero_add,(Sm q b r f).2 g]
   ·rw[Xl _ _ _ fun x u e=>?_]
    ·exact h.fr j fun i o b f=>z ⟨i,o,b,f⟩
    ·obtain⟨k,p,r,g,_⟩:=(Vh _ _ _).1 u;rw[Array.getElem?_toList]at r;rw[e]at g;exact z ⟨k,p,r,g⟩
  have C:=h.df;cases a;simp only at B C;rw[B,C]
 rw[e]
 exact y n w h.s fun i o d b f=>(hv i o d b f).2
theorem aOd {id:Nat}(D:P.follows .mixedOrders=true)(j:nN ops a0.tmps.size=true)(s:Ft ops=true)(B:S w0.drew)(step:zB P ops Q a0 S F)(r:Ep ops Q a0 S F):(Code.region id ops true).wp P Q a0 w0:=by
 refine wp_region_any D (aI2 (I:=RgI ops a0 S F) ?_ ?_ _ _ _ _ ?_ ⟨by simp,B,rfl,rfl,fun _ _=>rfl,?_⟩)
 ·intro l a w i o h hi g;obtain⟨H,L,q,k⟩:=mem_ready.1 hi;rw[g]at q;cases q
  exact wpOp_step g fun z A=>h.go j step g k z A
 ·intro l a w h E
  have all:∀n i,i<n->i<ops.size->l.getD i false=true:=by
   intro n
   induction n with
   |zero=>intro i hi;omega
   |succ n y=>
    intro i hi f;have g:ops[i]?=some ops[i]:=Array.getElem?_eq_getElem f;have b:=List.all_eq_true.1 s i (List.mem_range.2 f);rw[g]at b
    have p:i<l.size:=by rw[h.sz];exact f
    cases x:l[i]
    ·have:i∈Region.ready .any ops l:=by
      refine mem_ready.2 ⟨by rw[Array.getD_eq_getD_getElem?,Array.getElem?_eq_getElem p,x];rfl,_,g,fun e C _=>?_⟩;have v:=List.all_eq_true.1 b e (Array.mem_toList_iff.2 C);simp only[decide_eq_true_eq]at v;exact y e.on (by omega) (by omega)
     rw[E]at this;cases this
    ·rw[Array.getD_eq_getD_getElem?,Array.getElem?_eq_getElem p,x];rfl
  exact h.done j r fun i hi=>all (i+1) i (by omega) hi
 ·have:∀n,leftL (List.replicate n false)<=n:=by
   intro n
   induction n with
   |zero=>exact Nat.le_refl _
   |succ n y=>rw[List.replicate_succ];simp[leftL];omega
  simpa using this ops.size
 ·intro i o d g J u;rw[Array.getD_eq_getD_getElem?,Array.getElem?_replicate]at u
  split at u<;>cases u
end
end
open Go.RowKit
abbrev sv (a b:Int)(k:Bool):Value:=.agg #[.int .i64 a,.int .i64 b,.bool k]
structure SpOk (a b:Int):Prop where
 lo:-1073741824<=a
 le:a<=b
 hi:b<=1073741824
theorem SpOk.zero:SpOk 0 0:=⟨by decide,by decide,by decide⟩
theorem SpOk.neg {a b:Int}(h:SpOk a b):SpOk (-b) (-a):=⟨by have:=h.hi;omega,by have:=h.le;omega,by have:=h.lo;omega⟩
abbrev cK (a b:Int)(k:Bool):Obj:=.cells #[.int .i64 a,.int .i64 b,.bool k] 29 (0,0)
def bE (w:World)(e:Ending)(d:World):Prop:=∃a b k,e=.returned (sv a b k)/\SpOk a b/\Below w.heap.size w d
theorem lE {P:Program}{f:FuncId}{args:Array Value}{R:Ending->World->Prop}{n:World}(I:World->Prop)(a:I n)(h:∀W,I W->Calls P f args W R):Calls P f args n R:=h _ a
variable {W:World}
theorem zC {n:Nat}{a:Array Value}{t:TypeId}(h:W.heap.size=n):(W.alloc (.cells a t)).heap[n]?=some (.cells a t (0,0)):=by
 subst h;exact jC _ _
variable {o:Obj}
theorem rS {n:Nat}{a:Obj}(h:W.heap[n]?=some o):(W.alloc a).heap[n]?=some o:=by
 rw[Below.heap_alloc _ _ _ (eZ h)];exact h
variable {n:World}{b:Nat}
theorem oM {x f u:Value}(h:n.heap[b]?=some (.cells #[x,f,u] 29 (0,0)))(p q:Int)(k:Bool):
  (((n.setCell ⟨b,0,none⟩ (.int .i64 p)).setCell ⟨b,1,none⟩ (.int .i64 q)).setCell ⟨b,2,none⟩ (.bool k)).cell? ⟨b,0,none⟩=some (.int .i64 p)/\
  (((n.setCell ⟨b,0,none⟩ (.int .i64 p)).setCell ⟨b,1,none⟩ (.int .i64 q)).setCell ⟨b,2,none⟩ (.bool k)).cell? ⟨b,1,none⟩=some (.int .i64 q)/\
  (((n.setCell ⟨b,0,none⟩ (.int .i64 p)).setCell ⟨b,1,none⟩ (.int .i64 q)).setCell ⟨b,2,none⟩ (.bool k)).cell? ⟨b,2,none⟩=some (.bool k):=by
 have e:=rU (rU (rU h (o:=0) (.int .i64 p)) (o:=1) (.int .i64 q)) (o:=2) (.bool k);exact⟨bK e rfl,bK e rfl,bK e rfl⟩
theorem Mk {d:World}(h:Below n.heap.size n d)(a:n.heap.size<=b)(p q:Int)(k:Bool):
  Below n.heap.size n (((d.setCell ⟨b,0,none⟩ (.int .i64 p)).setCell ⟨b,1,none⟩ (.int .i64 q)).setCell ⟨b,2,none⟩ (.bool k)):=
 ((h.setCell a _).setCell a _).setCell a _
def tH (n:Nat)(w W:World):Prop:=Below w.heap.size w W/\W.heap[w.heap.size+n]?=some (cK 0 0 false)
theorem Ll:tH 1 n ((n.alloc o).alloc (.cells #[.int .i64 0,.int .i64 0,.bool false] 29)):=⟨((Below.refl _ _).alloc (Nat.le_refl _) _).alloc (by simp) _,zC (by simp)⟩
theorem Ge {a:Obj}:tH 2 n (((n.alloc o).alloc a).alloc (.cells #[.int .i64 0,.int .i64 0,.bool false] 29)):=⟨(((Below.refl _ _).alloc (Nat.le_refl _) _).alloc (by simp) _).alloc (by simp;omega) _,zC (by simp)⟩
theorem iU {D:World}(e:Below n.heap.size n W)(d:W.heap[b]?=some (cK 0 0 false))(f:Below W.heap.size W D)(g:n.heap.size<=b)(p q:Int)(k:Bool):
  D.cell? ⟨b,0,none⟩=some (.int .i64 0)/\D.cell? ⟨b,1,none⟩=some (.int .i64 0)/\D.cell? ⟨b,2,none⟩=some (.bool false)/\D.frozen? ⟨b,0,none⟩=false/\D.frozen? ⟨b,1,none⟩=false/\D.frozen? ⟨b,2,none⟩=false/\
  Hid ((((D.setCell ⟨b,0,none⟩ (.int .i64 p)).setCell ⟨b,1,none⟩ (.int .i64 q)).setCell ⟨b,2,none⟩ (.bool k)).cell? ⟨b,0,none⟩=some (.int .i64 p)/\
   (((D.setCell ⟨b,0,none⟩ (.int .i64 p)).setCell ⟨b,1,none⟩ (.int .i64 q)).setCell ⟨b,2,none⟩ (.bool k)).cell? ⟨b,1,none⟩=some (.int .i64 q)/\
   (((D.setCell ⟨b,0,none⟩ (.int .i64 p)).setCell ⟨b,1,none⟩ (.int .i64 q)).setCell ⟨b,2,none⟩ (.bool k)).cell? ⟨b,2,none⟩=some (.bool k))/\
  Hid (Below n.heap.size n (((D.setCell ⟨b,0,none⟩ (.int .i64 p)).setCell ⟨b,1,none⟩ (.int .i64 q)).setCell ⟨b,2,none⟩ (.bool k))):=
 have a:=(f.block _ (eZ d)).trans d
 ⟨bK a rfl,bK a rfl,bK a rfl,nD a,nD a,nD a,oM a p q k,Mk (e.trans (f.mono e.size)) g p q k⟩
theorem Bx (w:World):Calls prog 37 #[] w fun e a=>e=.returned (sv 0 0 false)/\Below w.heap.size w a:=by
 go_enter func37,ntmps37
 go_wp2_with fail
 refine bodyPost_ret (v:=sv 0 0 false) (by simp[results,results37,go_sem]) rfl ⟨rfl,?_⟩;exact(Below.refl _ _).alloc (Nat.le_refl _) _
def ofS (a b:Int):Int×Int×Bool:=bif decide (a < -1073741824)||decide (1073741824<b)then(0,0,false)else(a,b,true)
variable {a b:Int}
theorem aNQ (h:a < -1073741824):ofS a b=(0,0,false):=by unfold ofS;rw[decide_eq_true h];rfl
theorem aNR (h:1073741824<b):ofS a b=(0,0,false):=by unfold ofS;rw[decide_eq_true h,Bool.or_true];rfl
theorem aNT (d:¬a < -1073741824)(e:¬1073741824<b):ofS a b=(a,b,true):=by unfold ofS;rw[decide_eq_false d,decide_eq_false e];rfl
theorem aNS (h:a<=b):SpOk (ofS a b).1 (ofS a b).2.1:=by
 by_cases d:a < -1073741824
 ·rw[aNQ d];exact SpOk.zero
 ·by_cases e:1073741824<b
  ·rw[aNR e];exact SpOk.zero
  ·rw[aNT d e];exact⟨by show _<=a;omega,h,by show b<=_;omega⟩
def cM (a b:Int)(w:World)(e:Ending)(d:World):Prop:=e=.returned (sv (ofS a b).1 (ofS a b).2.1 (ofS a b).2.2)/\Below w.heap.size w d
theorem vA (a b:Int)(w:World):Calls prog 20 #[.int .i64 a,.int .i64 b] w (cM a b w):=by
 have N:=aC (fun w=>Bx w)
 by_cases l:a < -1073741824
 ·skip
  have E:=aC (aNQ (b:=b) l)
  go_enter func20,ntmps20
  go_wp2_with fail
  refine lE (fun W=>Below w.heap.size w W/\W.heap[w.heap.size]?=some (cK 0 0 false)) ⟨(Below.refl _ _).alloc (Nat.le_refl _) _,jC _ _⟩ ?_;rintro W⟨f,d⟩;refine(N.out _).mono ?_;rintro e x⟨rfl,h⟩;obtain⟨r,s,u,o,p,q,Q,g⟩:=iU f d h (by omega) 0 0 false;clear h f d
  go_wp2_with fail
  obtain⟨i,j,k⟩:=Q.out;refine bodyPost_ret (v:=sv 0 0 false) (by simp[results,results20,go_sem,i,j,k]) rfl ?_;exact⟨by rw[E.out],g.out⟩
 by_cases n:1073741824<b
 ·skip
  have E:=aC (aNR (a:=a) n)
  go_enter func20,ntmps20
  go_wp2_with fail
  refine lE (fun W=>Below w.heap.size w W/\W.heap[w.heap.size]?=some (cK 0 0 false)) ⟨(Below.refl _ _).alloc (Nat.le_refl _) _,jC _ _⟩ ?_;rintro W⟨f,d⟩;refine(N.out _).mono ?_;rintro e x⟨rfl,h⟩;obtain⟨r,s,u,o,p,q,Q,g⟩:=iU f d h (by omega) 0 0 false;clear h f d
  go_wp2_with fail
  obtain⟨i,j,k⟩:=Q.out;refine bodyPost_ret (v:=sv 0 0 false) (by simp[results,results20,go_sem,i,j,k]) rfl ?_;exact⟨by rw[E.out],g.out⟩
 have E:=aC (aNT l n)
 go_enter func20,ntmps20
 go_wp2_with fail
 refine bodyPost_ret (v:=sv a b true) (by simp[results,results20,go_sem]) rfl ?_;exact⟨by rw[E.out],(Below.refl _ _).alloc (Nat.le_refl _) _⟩
theorem aMa (d:0<b):(a.tmod b<0->a.tdiv b-1=a/b)/\(0<=a.tmod b->a.tdiv b=a/b):=by
 have g:=Int.tdiv_mul_add_tmod a b;have h:=Int.ediv_mul_add_emod a b;have i:=Int.emod_nonneg a (show b≠0 by omega);have j:=Int.emod_lt_of_pos a d;have k:=Int.tmod_lt_of_pos a d
 have l:-b<a.tmod b:=by
  have:=Int.tmod_lt_of_pos (-a) d;rw[Int.neg_tmod]at this;omega
 generalize o:a.tdiv b=q at*;generalize n:a/b=p at*;generalize a.tmod b=r at*;generalize a%b=s at*
 have f:(q-p)*b=s-r:=by rw[Int.sub_mul];omega
 constructor
 ·intro e
  have:q-p=1:=by
   have c1:0*b<(q-p)*b:=by omega
   have c2:(q-p)*b<2*b:=by omega
   have d1:0<q-p:=Int.lt_of_mul_lt_mul_right c1 (by omega);have d2:q-p<2:=Int.lt_of_mul_lt_mul_right c2 (by omega);omega
  omega
 ·intro e
  have:q-p=0:=by
   have c1:-1*b<(q-p)*b:=by omega
   have c2:(q-p)*b<1*b:=by omega
   have d1:-1<q-p:=Int.lt_of_mul_lt_mul_right c1 (by omega);have d2:q-p<1:=Int.lt_of_mul_lt_mul_right c2 (by omega);omega
  omega
theorem aFD {M:Int}(d:0<b)(e:-M<=a)(f:a<=M)(g:0<=M):-M-1<=a/b/\a/b<=M:=by
 constructor
 ·have:-M<=a/b:=by
   rw[Int.le_ediv_iff_mul_le d];have:-M*b<=-M*1:=Int.mul_le_mul_of_nonpos_left (by omega) (by omega);omega
  omega
 ·rcases Int.lt_or_le a 0 with h|h
  ·have:=Int.ediv_neg_of_neg_of_pos h d;omega
  ·have:=Int.ediv_le_self b h;omega
theorem Nc (a b:Int)(w:World)(l:-4611686018427387904<=a)(n:a<=4611686018427387904)(h:0<b)(o:b<=4611686018427387904):
  Calls prog 21 #[.int .i64 a,.int .i64 b] w fun e p=>e=.returned (.int .i64 (a/b))/\w=p:=by
 obtain⟨f,g⟩:=aMa (a:=a) h;obtain⟨q,r⟩:=aFD (a:=a) h (M:=4611686018427387904) l n (by omega);have T1:=aC f;have T2:=aC g
 by_cases i:a.tmod b<0
 ·have j:wrap64 (a.tdiv b-1)=a.tdiv b-1:=by
   have:=T1.out i;unfold wrap64;omega
  have k:=aC j;clear j f g
  go_enter func21,ntmps21
  go_wp2_with fail
  go_ret
  rw[k.out];exact⟨yF (T1.out i),rfl⟩
 ·have d:0<=a.tmod b:=by omega
  clear f g
  go_enter func21,ntmps21
  go_wp2_with fail
  go_ret
  exact⟨yF (T2.out d),rfl⟩
theorem Sq (a b:Int)(w:World)(h:-4611686018427387904<=a)(i:a<=4611686018427387904)(f:0<b)(d:b<=4611686018427387904):
  Calls prog 22 #[.int .i64 a,.int .i64 b] w fun e g=>e=.returned (.int .i64 (-((-a)/b)))/\w=g:=by
 have F:=aC (fun w=>Nc (-a) b w (by omega) (by omega) f d);obtain⟨j,k⟩:=aFD (a:=-a) f (M:=4611686018427387904) (by omega) (by omega) (by omega)
 go_enter func22,ntmps22
 go_wp2_with fail
 refine(F.out _).mono ?_;rintro e l⟨rfl,rfl⟩
 go_wp2_with fail
 go_ret
 exact⟨rfl,rfl⟩
theorem Gy {c:Int}(hc:0<c)(h:a<=b):a/c<=-((-b)/c):=by
 have d:a/c*c<=a:=Int.ediv_mul_le a (by omega);have e:(-b)/c*c<=-b:=Int.ediv_mul_le (-b) (by omega)
 have f:(a/c+(-b)/c)*c<=0:=by rw[Int.add_mul];omega
 have g:a/c+(-b)/c<1:=Int.lt_of_mul_lt_mul_right (a:=c) (by omega) (by omega);omega
theorem Nz (a b:Int)(k:Bool)(w:World)(h:SpOk a b):
  Calls prog 25 #[sv a b k] w fun e d=>e=.returned (sv (-b) (-a) k)/\Below w.heap.size w d:=by
 have f:=h.lo;have g:=h.le;have i:=h.hi
 go_enter func25,ntmps25
 go_wp2_with fail
 refine bodyPost_ret (v:=sv (-b) (-a) k) (by simp[results,results25,go_sem]) rfl ⟨rfl,?_⟩;exact((Below.refl _ _).alloc (Nat.le_refl _) _).alloc (by simp) _
theorem qX {b:World}(h:Below n.drew.heap.size n.drew b):Below n.heap.size n b:=⟨h.os,h.tape,h.output,h.size,h.block⟩
theorem pT (w:World):Below w.heap.size w w.drew:=⟨rfl,rfl,rfl,Nat.le_refl _,fun _ _=>rfl⟩
theorem cM.sp (h:a<=b){e:Ending}{d:World}(k:cM a b n e d):bE n e d:=⟨_,_,_,k.1,aNS h,k.2⟩
theorem Sb (n:Int)(w:World):Calls prog 11 #[.int .i64 n] w (cM n n w):=by
 have N:=aC (fun w=>vA n n w)
 go_enter func11,ntmps11
 go_wp2_with fail
 refine lE (fun W=>Below w.heap.size w W/\W.heap[w.heap.size]?=some (cK 0 0 false)) ⟨(Below.refl _ _).alloc (Nat.le_refl _) _,jC _ _⟩ ?_;rintro W⟨b,a⟩;refine(N.out _).mono ?_;rintro e r⟨rfl,f⟩;obtain⟨o,p,q,j,k,l,Q,d⟩:=iU b a f (by omega) (ofS n n).1 (ofS n n).2.1 (ofS n n).2.2;clear f b a
 go_wp2_with fail
 obtain⟨g,h,i⟩:=Q.out;refine bodyPost_ret (v:=sv (ofS n n).1 (ofS n n).2.1 (ofS n n).2.2) (by simp[results,results11,go_sem,g,h,i]) rfl ?_;exact⟨rfl,d.out⟩
theorem Sc (p q:Int)(w:World)(s:0<=p)(u:p<=1000)(z:1<=q)(A:q<=1000):
  Calls prog 12 #[.int .i64 p,.int .i64 q] w (cM (p*1048576/q) (-((-(p*1048576))/q)) w):=by
 have F:=aC (fun w=>Nc (p*1048576) q w (by omega) (by omega) (by omega) (by omega));have G:=aC (fun w=>Sq (p*1048576) q w (by omega) (by omega) (by omega) (by omega));have N:=aC (fun a b w=>vA a b w)
 go_enter func12,ntmps12
 go_wp2_with fail
 refine lE (fun W=>Below w.heap.size w W/\W.heap[w.heap.size]?=some (cK 0 0 false)) ⟨(Below.refl _ _).alloc (Nat.le_refl _) _,jC _ _⟩ ?_;rintro W⟨f,d⟩;refine(F.out _).mono ?_;rintro e l⟨rfl,rfl⟩
 go_wp2_with fail
 refine(G.out _).mono ?_;rintro e l⟨rfl,rfl⟩
 go_wp2_with fail
 refine(N.out _ _ _).mono ?_;rintro e E⟨rfl,h⟩;generalize p*1048576/q=x at*;generalize -((-(p*1048576))/q)=y at*;obtain⟨B,C,D,n,o,r,Q,g⟩:=iU f d h (by omega) (ofS x y).1 (ofS x y).2.1 (ofS x y).2.2;clear h f d
 go_wp2_with fail
 obtain⟨i,j,k⟩:=Q.out;refine bodyPost_ret (v:=sv (ofS x y).1 (ofS x y).2.1 (ofS x y).2.2) (by simp[results,results12,go_sem,i,j,k]) rfl ?_;exact⟨rfl,g.out⟩
theorem aMq (a b:Int)(k:Bool)(c d:Int)(m:Bool)(w:World)(h:SpOk a b)(p:SpOk c d):Calls prog 23 #[sv a b k,sv c d m] w (bE w):=by
 have B:=h.lo;have C:=h.le;have D:=h.hi;have E:=p.lo;have F:=p.le;have H:=p.hi;have N:=aC (fun w=>Bx w);have O:=aC (fun w=>vA (a+c) (b+d) w);have A:=aC (aNS (show a+c<=b+d by omega));clear h p;cases k
 ·skip
  go_enter func23,ntmps23
  go_wp2_with fail
  refine lE (tH 2 w) Ge ?_;rintro W⟨g,f⟩;refine(N.out _).mono ?_;rintro e z⟨rfl,j⟩;obtain⟨u,x,y,q,r,s,Q,i⟩:=iU g f j (by omega) 0 0 false;clear j g f
  go_wp2_with fail
  obtain⟨l,n,o⟩:=Q.out;refine bodyPost_ret (v:=sv 0 0 false) (by simp[results,results23,go_sem,l,n,o]) rfl ?_;exact⟨0,0,false,rfl,SpOk.zero,i.out⟩
 cases m
 ·skip
  go_enter func23,ntmps23
  go_wp2_with fail
  refine lE (tH 2 w) Ge ?_;rintro W⟨g,f⟩;refine(N.out _).mono ?_;rintro e z⟨rfl,j⟩;obtain⟨u,x,y,q,r,s,Q,i⟩:=iU g f j (by omega) 0 0 false;clear j g f
  go_wp2_with fail
  obtain⟨l,n,o⟩:=Q.out;refine bodyPost_ret (v:=sv 0 0 false) (by simp[results,results23,go_sem,l,n,o]) rfl ?_;exact⟨0,0,false,rfl,SpOk.zero,i.out⟩
 go_enter func23,ntmps23
 go_wp2_with fail
 refine lE (tH 2 w) Ge ?_;rintro W⟨g,f⟩;refine(O.out _).mono ?_;rintro e z⟨rfl,j⟩;obtain⟨u,x,y,q,r,s,Q,i⟩:=iU g f j (by omega) (ofS (a+c) (b+d)).1 (ofS (a+c) (b+d)).2.1 (ofS (a+c) (b+d)).2.2;clear j g f
 go_wp2_with fail
 obtain⟨l,n,o⟩:=Q.out;refine bodyPost_ret (v:=sv (ofS (a+c) (b+d)).1 (ofS (a+c) (b+d)).2.1 (ofS (a+c) (b+d)).2.2) (by simp[results,results23,go_sem,l,n,o]) rfl ?_;exact⟨_,_,_,rfl,A.out,i.out⟩
theorem aPp (a b:Int)(k:Bool)(c d:Int)(m:Bool)(w:World)(h:SpOk a b)(u:SpOk c d):Calls prog 39 #[sv a b k,sv c d m] w (bE w):=by
 have I:=h.lo;have J:=h.le;have L:=h.hi;have M:=u.lo;have P:=u.le;have R:=u.hi;have N:=aC (fun w=>Bx w);have O:=aC (fun x y w=>vA x y w);clear h u;cases k
 ·skip
  go_enter func39,ntmps39
  go_wp2_with fail
  refine lE (tH 2 w) Ge ?_;rintro W⟨g,f⟩;refine(N.out _).mono ?_;rintro e H⟨rfl,j⟩;obtain⟨D,E,F,A,B,C,Q,i⟩:=iU g f j (by omega) 0 0 false;clear j g f
  go_wp2_with fail
  obtain⟨n,o,s⟩:=Q.out;refine bodyPost_ret (v:=sv 0 0 false) (by simp[results,results39,go_sem,n,o,s]) rfl ?_;exact⟨0,0,false,rfl,SpOk.zero,i.out⟩
 cases m
 ·skip
  go_enter func39,ntmps39
  go_wp2_with fail
  refine lE (tH 2 w) Ge ?_;rintro W⟨g,f⟩;refine(N.out _).mono ?_;rintro e H⟨rfl,j⟩;obtain⟨D,E,F,A,B,C,Q,i⟩:=iU g f j (by omega) 0 0 false;clear j g f
  go_wp2_with fail
  obtain⟨n,o,s⟩:=Q.out;refine bodyPost_ret (v:=sv 0 0 false) (by simp[results,results39,go_sem,n,o,s]) rfl ?_;exact⟨0,0,false,rfl,SpOk.zero,i.out⟩
 go_enter func39,ntmps39
 go_wp2_with fail
 all_goals
  refine lE (tH 2 w) Ge ?_;rintro W⟨g,f⟩;refine((O.out _ _ _).mono (fun _ _ h=>cM.sp (by omega) h)).mono ?_;rintro e H⟨p,q,r,rfl,l,j⟩;have z:=aC l;clear l;obtain⟨D,E,F,A,B,C,Q,i⟩:=iU g f j (by omega) p q r;clear j g f
  go_wp2_with fail
  obtain⟨n,o,s⟩:=Q.out;refine bodyPost_ret (v:=sv p q r) (by simp[results,results39,go_sem,n,o,s]) rfl ?_;exact⟨p,q,r,rfl,z.out,i.out⟩
theorem aU2 (e:0<a)(d:a<=b):1099511627776/b<=-((-1099511627776)/a):=by
 have g:(1099511627776:Int)/b<=1099511627776/a:=by
  rw[Int.le_ediv_iff_mul_le e];have h:(1099511627776:Int)/b*b<=1099511627776:=Int.ediv_mul_le _ (by omega);have f:(0:Int)<=1099511627776/b:=Int.ediv_nonneg (by omega) (by omega);have i:=Int.mul_le_mul_of_nonneg_left d f;omega
 have j:=Gy (a:=1099511627776) (b:=1099511627776) e (Int.le_refl _);omega
theorem aSA (a b:Int)(w:World):Calls prog 24 #[sv a b false] w (bE w):=by
 have N:=aC (fun w=>Bx w)
 go_enter func24,ntmps24
 go_wp2_with fail
 refine lE (tH 1 w) Ll ?_;rintro W⟨f,d⟩;refine(N.out _).mono ?_;rintro e s⟨rfl,h⟩;obtain⟨p,q,r,l,n,o,Q,g⟩:=iU f d h (by omega) 0 0 false;clear h f d
 go_wp2_with fail
 obtain⟨i,j,k⟩:=Q.out;refine bodyPost_ret (v:=sv 0 0 false) (by simp[results,results24,go_sem,i,j,k]) rfl ?_;exact⟨0,0,false,rfl,SpOk.zero,g.out⟩
end Go.Proofs.YtkmojpfpfoaloaaGreatDoor
