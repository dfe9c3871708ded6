import Derived.Test.YtpdflaaamaokbaaGreatDoorCCh00
set_option linter.all false
set_option maxRecDepth 100000
set_option maxHeartbeats 2000000
namespace Go.Proofs.YtpdflaaamaokbaaGreatDoor
open Option.some renaming inj->j8,injEq->j9
open List renaming getElem?_eq_getElem->k8,getD->k9,size_toArray->l4,take_append_of_le_length->l5,append_nil->l7,replicate->l8,range->l9,map_cons->n4
open Prod.mk renaming injEq->n5
open Nat renaming lt_of_lt_of_le->n6,le_refl->n7,le_of_succ_le->n8
open _root_.Array renaming getD_eq_getD_getElem?->n9,getElem?_toList->o8,toList_append->o9,toList_replicate->p7
open Bool renaming false_eq_true->p8
open Go.World renaming shape?->p9
open Or renaming inr->q7
open Go.Region renaming wanted->q8
open Go.Sem renaming run_bind->q9,run_pure->s4
open Go.RowKit
namespace Ab
structure AS where
 tmps:List AT
 boxes:List (Nat×bL)
 next:Nat
 nums:List (Int×Nat)
 dirty:List Nat
def look:List (Nat×bL)->Nat->Option bL
 | [],_=>none
 |(i,B)::r,b=>bif i==b then some B else look r b
def jT:List (Nat×bL)->Nat->List AC->List (Nat×bL)
 | [],_,_=>[]
 |(i,B)::r,b,cs=>bif i==b then(i,{B with cs:=cs})::r else(i,B)::jT r b cs
theorem aHh {b k:Nat}{cs:List AC}:∀{l:List (Nat×bL)},look (jT l b cs) k=if k=b then(look l b).map (λB=>{B with cs:=cs})else look l k
 | []=>by simp[jT,look]
 |(i,B)::r=>by
  unfold jT
  cases h:i==b with
  |true=>
   have:i=b:=by simpa using h
   subst this;simp only[cond_true,look]
   by_cases e:i=k
   .subst e;simp
   .have a:(i==k)=false:=by simpa using e
    have d:¬k=i:=λx=>e x.symm
    simp[a,d]
  |false=>
   have f:¬i=b:=by simpa using h
   simp only[cond_false,look];rw[aHh]
   by_cases e:i=k
   .subst e;simp[f]
   .have a:(i==k)=false:=by simpa using e
    simp[a,h]
def iW (tmps:List AT):Operand->AT
 |.tmp t=>tmps.getD t .gG
 |.const v=>vX v
 |.global _=>.top
 |.func f=>.val (.one (.lit (.func (.func f) #[] #[])))
def setB (bx:Nat->Option bL)(b:Nat)(B:bL):Nat->Option bL:=λx=>if x=b then some B else bx x
structure RepF (C:fE) (w0:World) (ψ:LI) (φ:LI) (bx:Nat->Option bL) (nb:Nat->Prop) (ν:LV) (dirty:NU) (w:World):Prop where
 box:wQ C φ ν w bx
 own:∀b B k o,bx b=some B->B.own=true->φ b=some (k,o)->w0.heap.size<=k
 inj:∀b b' B B' k o o',bx b=some B->bx b'=some B'->φ b=some (k,o)->φ b'=some (k,o')->b=b'\/(B.ro=true/\B'.ro=true/\¬(B.tip=true/\B'.tip=true)/\(B.tip=true->o'+B'.cs.length<=o+B.cs.length))
 tip:∀b B,bx b=some B->B.tip=true->B.own=true/\B.ro=true
 fresh:∀b,nb b->φ b=none
 lt:∀b k o,φ b=some (k,o)->k<w.heap.size
 low:∀k,k<w0.heap.size->(∀b∈dirty,∀o,φ b≠some (k,o))->w.heap[k]?=w0.heap[k]?
 on:On C.bt w0 w
 base:∀b x,ψ b=some x->φ b=some x
 qD:∀b B k o,bx b=some B->B.own=true->B.ro=false->φ b=some (k,o)->o=0/\w.shape? k=some (B.ty,B.cs.length)
abbrev RepW (C:fE)(w0:World)(ψ:LI)(φ:LI)(s:AS)(w:World):Prop:=RepF C w0 ψ φ (look s.boxes) (λb=>s.next<=b) s.nums s.dirty w
structure Rep (C:fE) (w0:World) (ψ:LI) (φ:LI) (s:AS) (a:Act) (w:World):Prop where
 wd:RepW C w0 ψ φ s w
 defers:a.defers=[]
 tmps:All2 (relT C φ s.nums w) s.tmps a.tmps.toList
variable {C:fE}{φ:LI}{ν:LV}{w:World}
theorem tU {b:List AT}{a:Act}(h:All2 (relT C φ ν w) b a.tmps.toList)(x:Operand):relT C φ ν w (iW b x) (a.eval x):=by
 cases x with
 |tmp t=>
  simp only[iW,Act.eval]
  by_cases j:t<b.length
  .obtain⟨v,k,n⟩:=h.at (k8 j)
   have e:b.getD t .gG=b[t]:=by simp[k9,k8 j]
   have i:a.tmps.getD t undef=v:=by
    rw[n9];rw[o8]at k;simp[k]
   rw[e,i];exact n
  .have d:b.length<=t:=Nat.le_of_not_lt j
   have e:b.getD t .gG=.gG:=by simp[k9,List.getElem?_eq_none d]
   have l:=h.len;simp at l
   have i:a.tmps.getD t undef=undef:=by
    rw[n9,Array.getElem?_eq_none (by rw[<-l];exact d)];rfl
   rw[e,i];rfl
 |const v=>exact aN4 v
 |global g=>trivial
 |func f=>exact⟨rfl,rfl⟩
def putT (a:List AT):Option Tmp->AT->List AT
 |some d,v=>a.set d v
 |none,_=>a
theorem rP {b:List AT}{a:Act}(h:All2 (relT C φ ν w) b a.tmps.toList)(dst:Option Tmp){t:AT}{x:Value}(hv:relT C φ ν w t x):All2 (relT C φ ν w) (putT b dst t) (a.put dst x).tmps.toList:=by
 cases dst with
 |none=>exact h
 |some d=>
  simp only[putT,Act.put];rw[Array.toList_setIfInBounds];exact h.set d hv
section
variable {C:fE} {w0:World} {ψ:LI} {φ:LI} {bx:Nat->Option bL} {nb:Nat->Prop} {ν:LV} {dirty:NU} {w w':World}
theorem RepF.cQ {a:Nat->Prop}(h:RepF C w0 ψ φ bx nb ν dirty w)(e:∀b,a b->nb b):RepF C w0 ψ φ bx a ν dirty w:=⟨h.box,h.own,h.inj,h.tip,λb d=>h.fresh b (e b d),h.lt,h.low,h.on,h.base,h.qD⟩
theorem RepF.later (h:RepF C w0 ψ φ bx nb ν dirty w)(d:Below w.heap.size w w')(a:LV)(q:∀(i:Nat) (x:Int×Nat),ν[i]?=some x->a[i]?=some x):RepF C w0 ψ φ bx nb a dirty w':=by
 have e:Ext C φ φ ν a w w':=⟨λ_ _ h=>h,q,On.below d⟩
 refine⟨λb B s=>?_,h.own,h.inj,h.tip,h.fresh,λb k o p=>n6 (h.lt b k o p) d.size,λk p u=>?_,h.on.trans (On.below d),h.base,λb B k o j f l n=>⟨(h.qD b B k o j f l n).1,(On.below (bt:=C.bt) d).shape (h.qD b B k o j f l n).2⟩⟩
 .obtain⟨k,o,r,v,g,j,f,l,n⟩:=h.box b B s;exact⟨k,o,r,v,g,j,by rw[d.block k (gZ f)];exact f,l,n.mono (xH e)⟩
 .rw[d.block k (n6 p h.on.size)];exact h.low k p u
def pG (φ:LI)(b:Nat)(k:Nat×Nat):LI:=λx=>if x=b then some k else φ x
theorem pE (φ:LI)(b:Nat)(k:Nat×Nat):pG φ b k b=some k:=by simp[pG]
variable {b:Nat}
theorem kV {x:Nat}{k:Nat×Nat}(h:x≠b):pG φ b k x=φ x:=by simp[pG,h]
theorem sD (bx:Nat->Option bL)(b:Nat)(B:bL):setB bx b B b=some B:=by simp[setB]
variable {B:bL}
theorem mU {x:Nat}(h:x≠b):setB bx b B x=bx x:=by simp[setB,h]
variable {a:LB}
theorem RepF.new (h:RepF C w0 ψ φ bx nb ν dirty w){n:Nat}(O:nb n){post:LB}{d:Nat}(hc:All2 (relC C φ ν w) B.cs a)(M:B.own=true)(R:B.tip=true->B.ro=true)(H:B.ro=false->post=[]):
  RepF C w0 ψ (pG φ n (w.heap.size,0)) (setB bx n B) (λb=>nb b/\b≠n) ν dirty {w with heap:=w.heap.push (.cells (a++post).toArray B.ty),drawn:=d}/\Ext C φ (pG φ n (w.heap.size,0)) ν ν w {w with heap:=w.heap.push (.cells (a++post).toArray B.ty),drawn:=d}:=by
 generalize i:({w with heap:=w.heap.push (.cells (a++post).toArray B.ty),drawn:=d}:World)=w'
 have P:w'.heap.size=w.heap.size+1:=by rw[<-i];simp
 have hold:∀k,k<w.heap.size->w'.heap[k]?=w.heap[k]?:=by
  intro k g;rw[<-i];show(w.heap.push _)[k]?=_;rw[Array.getElem?_push,if_neg (by omega)]
 have r:w'.heap[w.heap.size]?=some (.cells (a++post).toArray B.ty (0,0)):=by rw[<-i];simp
 have u:On C.bt w w':=⟨by rw[<-i],by rw[<-i],by rw[<-i],by omega,λk o s=>Or.inl (by rw[hold k (gZ s)];exact s)⟩
 have F:∀b k,φ b=some k->b≠n:=by
  rintro b k j rfl;rw[h.fresh b O]at j;cases j
 have y:Ext C φ (pG φ n (w.heap.size,0)) ν ν w w':=⟨λb k j=>by rw[kV (F b k j)];exact j,λ_ _ h=>h,u⟩
 refine⟨⟨λb l f=>?_,λb l k o f s g=>?_,λb D L B2 k o S E z p q=>?_,λb l f A=>?_,λb j=>?_,λb k o g=>?_,λk g N=>?_,h.on.trans u,λb x e=>y.φ b x (h.base b x e),λb l k o f s I g=>?_⟩,y⟩
 .by_cases e:b=n
  .subst e;rw[sD]at f;cases f;exact⟨w.heap.size,0,[],a,post,pE _ _ _,by simpa using r,rfl,hc.mono (xH y)⟩
  .rw[mU e]at f;obtain⟨k,o,J,U,T,E,z,p,q⟩:=h.box b l f;exact⟨k,o,J,U,T,y.φ b _ E,by rw[hold k (gZ z)];exact z,p,q.mono (xH y)⟩
 .by_cases e:b=n
  .subst e;rw[pE]at g;cases g;exact h.on.size
  .rw[mU e]at f;rw[kV e]at g;exact h.own b l k o f s g
 .by_cases e:b=n
  .by_cases v:D=n
   .exact Or.inl (by rw[e,v])
   .subst e;rw[pE]at p;rw[kV v]at q;cases p;have:=h.lt D _ _ q;omega
  .by_cases v:D=n
   .subst v;rw[pE]at q;rw[kV e]at p;cases q;have:=h.lt b _ _ p;omega
   .rw[mU e]at E;rw[mU v]at z;rw[kV e]at p;rw[kV v]at q;exact h.inj b D L B2 k o S E z p q
 .by_cases e:b=n
  .subst e;rw[sD]at f;cases f;exact⟨M,R A⟩
  .rw[mU e]at f;exact h.tip b l f A
 .rw[kV j.2];exact h.fresh b j.1
 .by_cases e:b=n
  .subst e;rw[pE]at g;cases g;omega
  .rw[kV e]at g;have:=h.lt b k o g;omega
 .have:=h.on.size;rw[hold k (by omega)]
  exact h.low k g λb j o e=>N b j o (y.φ b _ e)
 .by_cases e:b=n
  .subst e;rw[sD]at f;cases f;rw[pE]at g;cases g;refine⟨rfl,?_⟩;unfold p9;rw[r,H I];simp[hc.len]
  .rw[mU e]at f;rw[kV e]at g;exact⟨(h.qD b l k o f s I g).1,u.shape (h.qD b l k o f s I g).2⟩
variable {k:Nat}{q:LB}
theorem RepF.got (h:RepF C w0 ψ φ bx nb ν dirty w){n p:Nat}(hn:nb n){R:LB}{l:LV}(g:Below w.heap.size w w')(H:∀(i:Nat) (x:Int×Nat),ν[i]?=some x->l[i]?=some x)(X:w.heap.size<=k)(L:w'.heap[k]?=some (.cells (a++R++q).toArray B.ty (0,0)))(S:a.length=p)(hc:All2 (relC C φ l w') B.cs R)(Y:B.own=true)(ht:B.tip=true->B.ro=true)(P:B.ro=false->a=[]/\q=[]):
  RepF C w0 ψ (pG φ n (k,p)) (setB bx n B) (λb=>nb b/\b≠n) l dirty w'/\Ext C φ (pG φ n (k,p)) ν l w w':=by
 have E:=h.later g l H
 have N:∀b k,φ b=some k->b≠n:=by
  rintro b k g rfl;rw[h.fresh b hn]at g;cases g
 have s:Ext C φ (pG φ n (k,p)) l l w' w':=⟨λb k g=>by rw[kV (N b k g)];exact g,λ_ _ h=>h,On.refl _ _⟩
 have J:Ext C φ (pG φ n (k,p)) ν l w w':=⟨s.φ,H,On.below g⟩
 have M:=gZ L;refine⟨⟨λb r d=>?_,λb r u p d O f=>?_,λb I U B2 u p o' A D y z=>?_,λb r d F=>?_,λb g=>?_,λb u p f=>?_,λj hj hd=>?_,E.on,λb x e=>J.φ b x (h.base b x e),λb r u p d O T f=>?_⟩,J⟩
 .by_cases e:b=n
  .subst e;rw[sD]at d;cases d;exact⟨k,p,a,R,q,pE _ _ _,L,S,hc.mono (xH s)⟩
  .rw[mU e]at d;obtain⟨j,p,a,ys,ps,f1,f2,f3,W⟩:=E.box b r d;exact⟨j,p,a,ys,ps,J.φ b _ f1,f2,f3,W.mono (xH s)⟩
 .by_cases e:b=n
  .subst e;rw[pE]at f;cases f;exact Nat.le_trans h.on.size X
  .rw[mU e]at d;rw[kV e]at f;exact h.own b r u p d O f
 .by_cases e:b=n
  .by_cases v:I=n
   .exact Or.inl (by rw[e,v])
   .subst e;rw[pE]at y;rw[kV v]at z;cases y;have:=h.lt I _ _ z;omega
  .by_cases v:I=n
   .subst v;rw[pE]at z;rw[kV e]at y;cases z;have:=h.lt b _ _ y;omega
   .rw[mU e]at A;rw[mU v]at D;rw[kV e]at y;rw[kV v]at z;exact h.inj b I U B2 u p o' A D y z
 .by_cases e:b=n
  .subst e;rw[sD]at d;cases d;exact⟨Y,ht F⟩
  .rw[mU e]at d;exact h.tip b r d F
 .rw[kV g.2];exact h.fresh b g.1
 .by_cases e:b=n
  .subst e;rw[pE]at f;cases f;exact M
  .rw[kV e]at f;exact E.lt b u p f
 .exact E.low j hj λb g p e=>hd b g p (J.φ b _ e)
 .by_cases e:b=n
  .subst e;rw[sD]at d;cases d;rw[pE]at f;cases f;obtain⟨rfl,rfl⟩:=P T;refine⟨S.symm,?_⟩;unfold p9;rw[L];simp[hc.len]
  .rw[mU e]at d;rw[kV e]at f;exact E.qD b r u p d O T f
theorem RepF.Te (h:RepF C w0 ψ φ bx nb ν dirty w)(N:bx b=some B):RepF C w0 ψ φ (setB bx b {B with tip:=false}) nb ν dirty w:=by
 have f:∀c D,setB bx b {B with tip:=false} c=some D->∃d,bx c=some d/\d.cs=D.cs/\d.ty=D.ty/\d.own=D.own/\d.ro=D.ro/\(D.tip=true->d.tip=true):=by
  intro c D g
  by_cases e:c=b
  .subst e;rw[sD]at g;cases g;exact⟨B,N,rfl,rfl,rfl,rfl,λe=>by cases e⟩
  .rw[mU e]at g;exact⟨D,g,rfl,rfl,rfl,rfl,λe=>e⟩
 refine⟨λc D g=>?_,λc D k o g u s=>?_,λc x D d k o W I J L M=>?_,λc D g P=>?_,h.fresh,h.lt,h.low,h.on,h.base,λc D k o g u O s=>?_⟩
 .obtain⟨d,i,j,r,_⟩:=f c D g;obtain⟨k,o,v,X,q,f1,f2,f3,A⟩:=h.box c d i;exact⟨k,o,v,X,q,f1,by rw[<-r];exact f2,f3,by rw[<-j];exact A⟩
 .obtain⟨d,i,_,_,l,_⟩:=f c D g;exact h.own c d k o i (by rw[l];exact u) s
 .obtain⟨E,i,j,_,_,n,p⟩:=f c D I;obtain⟨y,f1,f2,_,_,F,H⟩:=f x d J
  rcases h.inj c x E y k o W i f1 L M with e|⟨R,S,T,U⟩
  .exact Or.inl e
  .exact q7 ⟨by rw[<-n];exact R,by rw[<-F];exact S,λ⟨a,b⟩=>T ⟨p a,H b⟩,λa=>by rw[<-f2,<-j];exact U (p a)⟩
 .obtain⟨d,i,_,_,l,n,p⟩:=f c D g;obtain⟨a1,z⟩:=h.tip c d i (p P);exact⟨by rw[<-l];exact a1,by rw[<-n];exact z⟩
 .obtain⟨d,i,j,r,l,n,p⟩:=f c D g;rw[<-j,<-r];exact h.qD c d k o i (by rw[l];exact u) (by rw[n];exact O) s
theorem RepF.nB (h:RepF C w0 ψ φ bx nb ν dirty w){p:Nat}{cs:List AC}{ys n M:LB}{dirty':NU}(z:bx b=some B)(s:B.ro=false)(J:φ b=some (k,p))(q:fZ w w' k (a++M++n) B.ty)(h0:w.heap[k]?=some (.cells (a++ys++n).toArray B.ty (0,0)))(hp:a.length=p)(hl:ys.length=M.length)(hc:All2 (relC C φ ν w) cs M)(T:cs.length=B.cs.length)(ht:C.bt.contains B.ty=true)(U:∀x∈dirty,x∈dirty')(W:B.own=true\/b∈dirty'):
  RepF C w0 ψ φ (setB bx b {B with cs:=cs}) nb ν dirty' w'/\Ext C φ φ ν ν w w':=by
 have r:On C.bt w w':=⟨q.os,q.tape,q.output,by rw [q.size];exact n7 _,λj x ho=>by
  by_cases e:j=k
  .subst e;rw[h0]at ho;cases ho;refine q7 ⟨ht,?_⟩;unfold p9;rw[q.bS,h0];simp[hl]
  .exact Or.inl (by rw[q.others j e];exact ho)⟩
 have L:Ext C φ φ ν ν w w':=⟨λ_ _ h=>h,λ_ _ h=>h,r⟩
 have F:B.tip=false:=by
  cases e:B.tip with
  |false=>rfl
  |true=>have:=(h.tip b B z e).2;rw[s]at this;cases this
 have g:∀c D,setB bx b {B with cs:=cs} c=some D->(c=b/\D={B with cs:=cs})\/(c≠b/\bx c=some D):=by
  intro c D d
  by_cases e:c=b
  .subst e;rw[sD]at d;cases d;exact Or.inl ⟨rfl,rfl⟩
  .rw[mU e]at d;exact q7 ⟨e,d⟩
 refine⟨⟨λc D d=>?_,λc D i l d ho f=>?_,λc E D I i o1 o2 h1 h2 P R=>?_,λc D d u=>?_,h.fresh,λc i l f=>by rw[q.size];exact h.lt c i l f,λj hj hd=>?_,h.on.trans r,λb x e=>L.φ b x (h.base b x e),λc D i l d ho Y f=>?_⟩,L⟩
 .rcases g c D d with⟨rfl,rfl⟩|⟨e,d⟩
  .exact⟨k,p,a,M,n,J,q.bS,hp,hc.mono (xH L)⟩
  .obtain⟨j,l,H,aa,A,j1,j2,j3,j4⟩:=h.box c D d;refine⟨j,l,H,aa,A,j1,?_,j3,j4.mono (xH L)⟩;rw[q.others j (λN=>?_)]
   .exact j2
   .subst N
    rcases h.inj b c B D j p l z d J j1 with y|⟨v,_⟩
    .exact e y.symm
    .rw[s]at v;cases v
 .rcases g c D d with⟨rfl,rfl⟩|⟨e,d⟩
  .exact h.own c B i l z ho f
  .exact h.own c D i l d ho f
 .rcases g c D h1 with⟨rfl,rfl⟩|⟨e,g1⟩
  .rcases g E I h2 with⟨rfl,rfl⟩|⟨N,O⟩
   .exact Or.inl rfl
   .rcases h.inj c E B I i o1 o2 z O P R with y|⟨v,_⟩
    .exact Or.inl y
    .rw[s]at v;cases v
  .rcases g E I h2 with⟨rfl,rfl⟩|⟨N,O⟩
   .rcases h.inj c E D B i o1 o2 g1 z P R with y|⟨_,v,_⟩
    .exact Or.inl y
    .rw[s]at v;cases v
   .exact h.inj c E D I i o1 o2 g1 O P R
 .rcases g c D d with⟨rfl,rfl⟩|⟨e,d⟩
  .simp only at u;rw[F]at u;cases u
  .exact h.tip c D d u
 .have X:j≠k:=by
   rintro rfl
   rcases W with ho|ho
   .have:=h.own b B j p z ho J;omega
   .exact hd b ho p J
  rw[q.others j X]
  exact h.low j hj λb' S=>hd b' (U b' S)
 .rcases g c D d with⟨rfl,rfl⟩|⟨e,d⟩
  .obtain⟨e1,y⟩:=h.qD c B i l z ho Y f;exact⟨e1,by simp only;rw[T];exact r.shape y⟩
  .exact⟨(h.qD c D i l d ho Y f).1,r.shape (h.qD c D i l d ho Y f).2⟩
theorem RepF.place (h:RepF C w0 ψ φ bx nb ν dirty w){n:Nat}(hn:nb n){W:Nat}{D:bL}{f s new d:LB}(hB:bx b=some B)(H:B.tip=true)(J:φ b=some (k,W))(h0:w.heap[k]?=some (.cells (f++q++s).toArray B.ty (0,0)))(hp:f.length=W)(hy:All2 (relC C φ ν w) B.cs q)
  (A:fZ w w' k (f++(q++new)++d) B.ty) (hl:new.length+d.length=s.length) (hc:All2 (relC C φ ν w) D.cs (q++new)) (S:D.ty=B.ty/\D.own=true/\D.ro=true) (ht:C.bt.contains B.ty=true):
  RepF C w0 ψ (pG φ n (k,W)) (setB (setB bx n D) b {B with tip:=false}) (λx=>nb x/\x≠n) ν dirty w'/\Ext C φ (pG φ n (k,W)) ν ν w w':=by
 have N:b≠n:=by rintro rfl;rw[h.fresh b hn]at J;cases J
 have ar:∀c x,φ c=some x->c≠n:=by rintro c x hc rfl;rw[h.fresh c hn]at hc;cases hc
 have ah:(f++(q++new)++d).length=(f++q++s).length:=by simp;omega
 have U:On C.bt w w':=⟨A.os,A.tape,A.output,by rw [A.size];exact n7 _,λj x R=>by
  by_cases e:j=k
  .subst e;rw[h0]at R;cases R;refine q7 ⟨ht,?_⟩;unfold p9;rw[A.bS,h0];simp only[l4];rw[ah]
  .exact Or.inl (by rw[A.others j e];exact R)⟩
 have L:Ext C φ (pG φ n (k,W)) ν ν w w':=⟨λc x hc=>by rw[kV (ar c x hc)];exact hc,λ_ _ h=>h,U⟩
 obtain⟨T,F⟩:=h.tip b B hB H;have bb:=hy.len;have ag:=hc.len
 -- who is there
 have r:∀c E,setB (setB bx n D) b {B with tip:=false} c=some E->(c=b/\E={B with tip:=false})\/(c=n/\c≠b/\E=D)\/(c≠b/\c≠n/\bx c=some E):=by
  intro c E i
  by_cases e:c=b
  .subst e;rw[sD]at i;cases i;exact Or.inl ⟨rfl,rfl⟩
  .rw[mU e]at i
   by_cases u:c=n
   .subst u;rw[sD]at i;cases i;exact q7 (Or.inl ⟨rfl,e,rfl⟩)
   .rw[mU u]at i;exact q7 (q7 ⟨e,u,i⟩)
 -- others in this block lie ahead of its end
 have oth:∀c E l,c≠b->bx c=some E->φ c=some (k,l)->E.ro=true/\E.tip=false/\l+E.cs.length<=W+B.cs.length:=by
  intro c E l aq i av
  rcases h.inj b c B E k W l hB i J av with e|⟨_,M,i3,i4⟩
  .exact absurd e.symm aq
  .refine⟨M,?_,i4 H⟩
   cases e:E.tip with
   |false=>rfl
   |true=>exact absurd ⟨H,e⟩ i3
 refine⟨⟨λc E i=>?_,λc E O l i R g=>?_,λc c' E E' O o1 o2 h1 h2 P z=>?_,λc E i ai=>?_,λx aj=>?_,λc O l g=>?_,λj hj hd=>?_,h.on.trans U,λb x e=>L.φ b x (h.base b x e),λc E O l i R X g=>?_⟩,L⟩
 .rcases r c E i with⟨rfl,rfl⟩|⟨rfl,_,rfl⟩|⟨I,u,i⟩
  .refine⟨k,W,f,q,new++d,L.φ c _ J,?_,hp,hy.mono (xH L)⟩;have:=A.bS
   simpa using this
  .exact⟨k,W,f,q++new,d,pE _ _ _,by rw[S.1];exact A.bS,hp,hc.mono (xH L)⟩
  .obtain⟨j,l,y,p,v,j1,j2,j3,j4⟩:=h.box c E i
   by_cases ad:j=k
   .subst ad;obtain⟨_,_,a9⟩:=oth c E l I i j1
    have au:E.ty=B.ty:=by
     rw[h0]at j2;have:=j8 j2
     injection this with I u e3
     exact u.symm
    have bc:=j4.len
    -- the same beginning
    have hL:y++p++v=f++q++s:=by
     rw[h0]at j2;have:=j8 j2
     injection this with I u e3
     have:=congrArg Array.toList I
     simpa using this.symm
    refine⟨j,l,y,p,(f++(q++new)++d).drop (l+p.length),L.φ c _ j1,?_,j3,j4.mono (xH L)⟩;rw[A.bS,au];congr 2;apply Array.toList_inj.1;simp only[List.toList_toArray]
    have t1:(f++(q++new)++d).take (l+p.length)=y++p:=by
     have a1:(f++(q++new)++d).take (l+p.length)=(f++q++s).take (l+p.length):=by
      have b1:f++(q++new)++d=(f++q)++(new++d):=by simp
      have q1:l+p.length<=(f++q).length:=by rw[List.length_append];omega
      rw[b1,l5 (l₁:=f++q) q1,l5 (l₁:=f++q) q1]
     rw[a1,<-hL,l5 (by simp;omega),List.take_of_length_le (by simp;omega)]
    rw[<-t1];exact(List.take_append_drop _ _).symm
   .exact⟨j,l,y,p,v,L.φ c _ j1,by rw[A.others j ad];exact j2,j3,j4.mono (xH L)⟩
 .rcases r c E i with⟨rfl,rfl⟩|⟨rfl,_,rfl⟩|⟨I,u,i⟩
  .rw[kV N]at g;exact h.own c B O l hB T g
  .rw[pE]at g;cases g;exact h.own b B k W hB T J
  .rw[kV u]at g;exact h.own c E O l i R g
 .rcases r c E h1 with⟨rfl,rfl⟩|⟨rfl,d1,rfl⟩|⟨I,u,g1⟩
  .rw[kV N,J]at P;cases P
   rcases r c' E' h2 with⟨rfl,rfl⟩|⟨rfl,d2,rfl⟩|⟨f1,f2,g2⟩
   .exact Or.inl rfl
   .exact q7 ⟨F,S.2.2,λ⟨a,_⟩=>(by cases a),λa=>(by cases a)⟩
   .rw[kV f2]at z;obtain⟨Y,M,i3⟩:=oth c' E' o2 f1 g2 z;exact q7 ⟨F,Y,λ⟨a,_⟩=>(by cases a),λa=>(by cases a)⟩
  .rw[pE]at P;cases P
   rcases r c' E' h2 with⟨rfl,rfl⟩|⟨rfl,d2,rfl⟩|⟨f1,f2,g2⟩
   .rw[kV N,J]at z;cases z;refine q7 ⟨S.2.2,F,λ⟨_,a⟩=>(by cases a),λ_=>?_⟩;simp only;simp at ag;omega
   .exact Or.inl rfl
   .rw[kV f2]at z;obtain⟨Y,M,i3⟩:=oth c' E' o2 f1 g2 z;refine q7 ⟨S.2.2,Y,λ⟨_,a⟩=>(by rw[M]at a;cases a),λ_=>?_⟩;simp at ag;omega
  .rw[kV u]at P
   rcases r c' E' h2 with⟨rfl,rfl⟩|⟨rfl,d2,rfl⟩|⟨f1,f2,g2⟩
   .rw[kV N,J]at z;cases z;obtain⟨Y,M,i3⟩:=oth c E o1 I g1 P;exact q7 ⟨Y,F,λ⟨a,_⟩=>(by rw[M]at a;cases a),λa=>(by rw[M]at a;cases a)⟩
   .rw[pE]at z;cases z;obtain⟨Y,M,i3⟩:=oth c E o1 I g1 P;exact q7 ⟨Y,S.2.2,λ⟨a,_⟩=>(by rw[M]at a;cases a),λa=>(by rw[M]at a;cases a)⟩
   .rw[kV f2]at z;exact h.inj c c' E E' O o1 o2 g1 g2 P z
 .rcases r c E i with⟨rfl,rfl⟩|⟨rfl,_,rfl⟩|⟨I,u,i⟩
  .cases ai
  .exact S.2
  .exact h.tip c E i ai
 .rw[kV aj.2];exact h.fresh x aj.1
 .rw[A.size]
  by_cases e:c=n
  .subst e;rw[pE]at g;cases g;exact h.lt b k W J
  .rw[kV e]at g;exact h.lt c O l g
 .have:=h.own b B k W hB T J;rw[A.others j (by omega)]
  exact h.low j hj λc hc l e=>hd c hc l (L.φ c _ e)
 .rcases r c E i with⟨rfl,rfl⟩|⟨rfl,_,rfl⟩|⟨I,u,i⟩
  .simp only at X;rw[F]at X;cases X
  .rw[S.2.2]at X;cases X
  .rw[kV u]at g;exact⟨(h.qD c E O l i R X g).1,U.shape (h.qD c E O l i R X g).2⟩
end
def oQ:List (Nat×bL)->Nat->List (Nat×bL)
 | [],_=>[]
 |(i,B)::r,b=>bif i==b then(i,{B with tip:=false})::r else(i,B)::oQ r b
theorem aHi {b:Nat}{B:bL}:∀{l:List (Nat×bL)},look l b=some B->look (oQ l b)=setB (look l) b {B with tip:=false}
 | [],h=>by simp[look]at h
 |(i,D)::r,h=>by
  funext x;unfold oQ;unfold look at h
  cases e:i==b with
  |true=>
   rw[e]at h;cases h
   have:i=b:=by simpa using e
   subst this;simp only[cond_true,look,setB]
   by_cases ex:x=i
   .subst ex;simp
   .have:(i==x)=false:=by simp;omega
    simp[this,ex]
  |false=>
   rw[e]at h;simp only[cond_false]at h
   have a:¬i=b:=by simpa using e
   simp only[cond_false,look];rw[aHi h];simp only[setB]
   by_cases ex:i=x
   .subst ex;simp[a]
   .have:(i==x)=false:=by simp;omega
    simp[this]
theorem Dm (n:Nat)(B:bL)(l:List (Nat×bL)):look ((n,B)::l)=setB (look l) n B:=by
 funext b;unfold setB;simp only[look]
 by_cases e:b=n
 .subst e;simp
 .have:(n==b)=false:=by simp;omega
  simp[this,e]
theorem aF0 {l:List (Nat×bL)}{b:Nat}{B:bL}(h:look l b=some B)(cs:List AC):look (jT l b cs)=setB (look l) b {B with cs:=cs}:=by grind [jT,setB,aHh]
def Enters (P:Program)(f:FuncId):Prop:=∀a w,(callFunc f a).run P w=.ok (.enter f a) w
abbrev Spec:=FuncId->Bool->List (Int×Nat)->Nat->(Nat->Option bL)->List AV->Option (List (Int×Nat)×AT×List Prop×Option bL)
def SpecOk (C:fE)(w0:World)(ψ:LI)(sp:Spec):Prop:=∀ f d ν id q s n r p j,sp f d ν id q s=some (n,r,p,j)->Enters C.P f/\(Holds p->∀ h,(∀ (i:Nat) (x:Int×Nat),(ν++n)[i]?=some x->h[i]?=some x)->∀ φ w (u:LB),
 (∀b x,ψ b=some x->φ b=some x)->(d=true->Below w0.heap.size w0 w)->On C.bt w0 w->wQ C φ h w q->All2 (dU C φ h w) s u->Calls C.P f u.toArray w λe l=>∃v,e=.returned v/\Below w.heap.size w l/\
  match j with
  |none=>relT C φ h l r v
  |some B=>B.own=true/\(B.tip=true->B.ro=true)/\∃k o,∃g y a:LB,w.heap.size<=k/\l.heap[k]?=some (.cells (g++y++a).toArray B.ty (0,0))/\g.length=o/\All2 (relC C φ h l) B.cs y/\relT C (pG φ id (k,o)) h l r v/\(B.ro=false->g=[]/\a=[]))
def clean (s:AS):Bool:=s.dirty.all λb=>match look s.boxes b with|some B=>B.own|none=>false
theorem RepF.below {w0:World}{ψ:LI}{s:AS}(h:RepW C w0 ψ φ s w)(hc:clean s=true):Below w0.heap.size w0 w:=by
 refine⟨h.on.os,h.on.tape,h.on.output,h.on.size,λk f=>h.low k f λb d o e=>?_⟩;unfold clean at hc;rw[List.all_eq_true]at hc;have:=hc b d
 cases a:look s.boxes b with
 |none=>rw[a]at this;cases this
 |some B=>
  rw[a]at this;have:=h.own b B k o a this e;omega
inductive Gd where
 |yes|no|bad
 |cond (c:Bool)
def gd (all:Array Oper)(e:List AT)(o:Oper):Gd:=
 match o.guard with
 |none=>.yes
 |some (g,a)=>match(all[g]?).bind (·.dst)with
  |none=>.no
  |some d=>match e[d]? with
   |none=>.no
   |some (.val (.one (.bool b)))=>bif b==a then .yes else .no
   |some (.val (.one (.sbool t)))=>.cond (t==a)
   |some .gG=>.no
   |some (.nI c (.one (.sbool t)))=>.cond (c&&(t==a))
   |some (.nI c (.one (.bool t)))=>.cond (c&&(t==a))
   |_=>.bad
section
variable {C:fE} {w0:World} {ψ:LI} {sp:Spec}{o:Oper}
theorem Qd {n:World}{all:Array Oper}{i:List AT}{a:Act}(h:All2 (relT C φ ν n) i a.tmps.toList):
  match gd all i o with
  |.yes=>q8 o (yielded all a.tmps)=true
  |.no=>q8 o (yielded all a.tmps)=false
  |.cond c=>q8 o (yielded all a.tmps)=c
  |.bad=>True:=by
 unfold gd q8
 cases s:o.guard with
 |none=>simp
 |some p=>
  obtain⟨g,e⟩:=p;simp only[yielded]
  cases r:(all[g]?).bind (·.dst)with
  |none=>simp
  |some d=>
   simp only[Option.bind_some]
   cases l:i[d]? with
   |none=>
    have k:=h.len;simp at k
    have:a.tmps[d]?=none:=by
     rw[Array.getElem?_eq_none_iff,<-k];exact List.getElem?_eq_none_iff.1 l
    simp[this]
   |some t=>
    obtain⟨v,j,f⟩:=h.at l;rw[o8]at j;simp only[j]
    cases t with
    |top=>simp
    |gG=>have:v=undef:=f;subst this;simp[undef]
    |tup u=>simp
    |val x=>
     cases x with
     |agg cs=>simp
     |one c=>
      cases c<;>try trivial
      case bool b=>
       have:v=.bool b:=f;subst this
       cases b<;>cases e<;>simp
      case sbool b=>
       have:v=.bool b:=f;subst this
       cases b<;>cases e<;>simp
    |nI c x=>
     cases x with
     |agg cs=>simp
     |one q=>
      cases q<;>try trivial
      case bool b=>
       simp only[relT,dU,relC]at f
       cases c with
       |true=>simp only[if_true]at f;subst f;cases b<;>cases e<;>simp
       |false=>simp only[p8,if_false]at f;subst f;simp[undef]
      case sbool b=>
       simp only[relT,dU,relC]at f
       cases c with
       |true=>simp only[if_true]at f;subst f;cases b<;>cases e<;>simp
       |false=>simp only[p8,if_false]at f;subst f;simp[undef]
variable (C sp)
def oC (c:Bool):List Prop->List Prop
 | []=>[]
 |p::a=>[c=true->Holds (p::a)]
theorem Nx {c:Bool}{a:List Prop}(h:Holds (oC c a))(hc:c=true):Holds a:=by
 cases a with
 |nil=>exact gJ
 |cons p a=>exact h.one hc
def mW (s:AS)(o:Oper):nN->Option (AS×List Prop)
 |.val r p=>some ({s with tmps:=putT s.tmps o.dst r},p)
 |.new cs ty sl=>some ({s with boxes:=(s.next,⟨cs,ty,true,sl.isSome,sl.isSome⟩)::s.boxes,next:=s.next+1,tmps:=putT s.tmps o.dst (.val (.one (Jv s.next sl)))},[])
 |.app old cs ty len size=>bif C.bt.contains ty then some ({s with boxes:=(match old with|none=>(s.next,⟨cs,ty,true,true,true⟩)::s.boxes|some b=>oQ ((s.next,⟨cs,ty,true,true,true⟩)::s.boxes) b),next:=s.next+1,tmps:=putT s.tmps o.dst (.val (.one (.slc s.next 0 len size)))},[])else none
 |.nB b cs=>(look s.boxes b).bind λB=>bif C.bt.contains B.ty then some ({s with boxes:=jT s.boxes b cs,dirty:=bif B.own then s.dirty else b::s.dirty,tmps:=putT s.tmps o.dst .gG},[])else none
 | .call f e=>(sp f (clean s) s.nums s.next (look s.boxes) e).map λ(a,r,p,d)=>(match d with
   |none=>{s with nums:=s.nums++a,tmps:=putT s.tmps o.dst r}
   |some B=>{s with nums:=s.nums++a,boxes:=(s.next,B)::s.boxes,next:=s.next+1,tmps:=putT s.tmps o.dst r},p)
def mM (c:Bool)(s:AS)(o:Oper):nN->Option (AS×List Prop)
 |.val (.val v) p=>some ({s with tmps:=putT s.tmps o.dst (.nI c v)},oC c p)
 |.call f b=>(sp f (clean s) s.nums s.next (look s.boxes) b).bind fun
   |(a,.val v,p,none)=>some ({s with nums:=s.nums++a,tmps:=putT s.tmps o.dst (.nI c v)},oC c p)
   |_=>none
 |_=>none
def wL (all:Array Oper)(s:AS)(o:Oper):Option (AS×List Prop):=
 match gd all s.tmps o with
 |.yes=>(evalOp C.P (iW s.tmps) (look s.boxes) o.op).bind (mW C sp s o)
 |.no=>some ({s with tmps:=putT s.tmps o.dst .gG},[])
 |.cond c=>(evalOp C.P (iW s.tmps) (look s.boxes) o.op).bind (mM sp c s o)
 |.bad=>none
variable {C sp}
theorem sH (ν a:LV)(i:Nat)(x:Int×Nat)(h:ν[i]?=some x):(ν++a)[i]?=some x:=by
 rw[List.getElem?_append_left (List.getElem?_eq_some_iff.1 h).1];exact h
theorem rL (a:Act)(d:Option Tmp)(v:Value):(a.put d v).defers=a.defers:=by cases d<;>rfl
theorem aOe {n:World}{a:LB}{ty:TypeId}{w:Nat}{sl:Option (Nat×Nat)}(h:∀m size,sl=some (m,size)->a.length=m*size):
  relT C (pG φ w (n.heap.size,0)) ν {n with heap:=n.heap.push (.cells a.toArray ty)} (.val (.one (Jv w sl))) (xY n.heap.size sl):=by
 cases sl with
 |none=>exact⟨n.heap.size,0,pE _ _ _,rfl⟩
 |some p=>
  obtain⟨m,size⟩:=p;refine⟨n.heap.size,0,m,ty,a.length,pE _ _ _,rfl,n7 _,by simp[p9],?_⟩;rw[h m size rfl];omega
def mG (a:Nat->Option bL)(n:Nat)(D:bL):Option Nat->Nat->Option bL
 |none=>setB a n D
 |some b=>match a b with
  |some B=>setB (setB a n D) b {B with tip:=false}
  |none=>setB a n D
theorem aPg {a:Nat->Option bL}{b:Nat}(h:kQ a (some b)=true):∃B,a b=some B/\B.tip=true:=by grind [kQ]
theorem aMU {y:Nat->Option bL}{M:Nat->Prop}{dirty:NU}{s:World}{n g len size:Nat}{v:Value}{old:FF}{cs:List AC}{ty:TypeId}(h:RepF C w0 ψ φ y M ν dirty w)(I:M n)(q:len<=g)(O:kQ y old=true)(H:C.bt.contains ty=true)
  (X:(∃ u a:LB,s={w with heap:=w.heap.push (.cells (u++a).toArray ty),drawn:=w.drawn+1}/\v=.slice (some ⟨w.heap.size,0,none⟩) len g/\All2 (relC C φ ν w) cs u/\g*size<=u.length+a.length)\/
    (∃ b B k o,∃ i j a new f:LB,old=some b/\y b=some B/\B.ty=ty/\φ b=some (k,o)/\v=.slice (some ⟨k,o,none⟩) len g/\w.heap[k]?=some (.cells (i++j++a).toArray ty (0,0))/\i.length=o/\All2 (relC C φ ν w) B.cs j/\
     fZ w s k (i++(j++new)++f) ty/\new.length+f.length=a.length/\All2 (relC C φ ν w) cs (j++new)/\o+g*size<=(i++(j++new)++f).length)):
  ∃l,RepF C w0 ψ l (mG y n ⟨cs,ty,true,true,true⟩ old) (λx=>M x/\x≠n) ν dirty s/\Ext C φ l ν ν w s/\relT C l ν s (.val (.one (.slc n 0 len size))) v:=by
 rcases X with⟨u,a,rfl,rfl,W,h2⟩|⟨b,B,k,o,i,j,a,new,f,rfl,z,rfl,P,rfl,R,S,T,N,U,A,E⟩
 .obtain⟨k1,L⟩:=h.new I (B:=⟨cs,ty,true,true,true⟩) (post:=a) (d:=w.drawn+1) W rfl (λh=>h) (λe=>by cases e);refine⟨_,?_,L,w.heap.size,0,g,ty,(u++a).length,pE _ _ _,rfl,q,by simp[p9],by simp;omega⟩
  cases old with
  |none=>exact k1
  |some b=>
   obtain⟨B,F,_⟩:=aPg O
   have J:b≠n:=by
    rintro rfl;obtain⟨k,o,_,_,_,f1,_⟩:=h.box _ _ F;rw[h.fresh _ I]at f1;cases f1
   unfold mG;simp only[F];exact k1.Te (by rw[mU J];exact F)
 .obtain⟨Y,p,r⟩:=aPg O;rw[z]at p;cases p;obtain⟨k1,L⟩:=h.place I (D:=⟨cs,B.ty,true,true,true⟩) z r P R S T N U A ⟨rfl,rfl,rfl⟩ H;refine⟨_,?_,L,k,o,g,B.ty,(i++(j++new)++f).length,pE _ _ _,rfl,q,?_,by simpa using E⟩
  .unfold mG;simp only[z];exact k1
  .unfold p9;rw[N.bS];simp
variable {s:AS}{a:Act}{p:List Prop}{Q:AW}
theorem aNi (aa:SpecOk C w0 ψ sp){s':AS}{K:LL}{e:nN}
  (h:Rep C w0 ψ φ s a w) (H:evalOp C.P (iW s.tmps) (look s.boxes) o.op=some e) (i:mW C sp s o e=some (s',p)) (hp:Holds p)
  (E:∀x a' u,Ext C φ x s.nums s'.nums w u->Rep C w0 ψ x s' a' u->K a' u):o.wp C.P a w K Q:=by
 unfold Oper.wp
 cases e with
 |val r q=>
  simp only[mW,j9,n5]at i;obtain⟨rfl,rfl⟩:=i;have:=wS (o:=o) (tU h.tmps) h.wd.box (λ_=>rfl) (λf J e=>by cases e) H;obtain⟨v,A,D⟩:=this hp;rw[A];exact E φ _ w (Ext.refl _ _ _) ⟨h.wd,by rw[rL];exact h.defers,rP h.tmps o.dst D⟩
 |new cs ty sl=>
  simp only[mW,j9,n5]at i;obtain⟨rfl,rfl⟩:=i;obtain⟨xs,A,D,M⟩:=wS (o:=o) (tU h.tmps) h.wd.box (λ_=>rfl) (λf J e=>by cases e) H;rw[A];obtain⟨k1,l⟩:=h.wd.new (n:=s.next) (n7 _) (B:=⟨cs,ty,true,sl.isSome,sl.isSome⟩) (post:=[]) (d:=w.drawn) D rfl (λh=>h) (λ_=>rfl);rw[<-Dm,l7]at k1;rw[l7]at l;refine E _ _ _ l ⟨k1.cQ λb g=>⟨n8 g,by simp only at g;omega⟩,by rw[rL];exact h.defers,rP (h.tmps.mono (xI l)) o.dst (aOe M)⟩
 |app old cs ty len size=>
  simp only[mW]at i
  cases g:C.bt.contains ty with
  |false=>rw[g]at i;cases i
  |true=>
   rw[g]at i;simp only[cond_true,j9,n5]at i;obtain⟨rfl,rfl⟩:=i;obtain⟨v,u,ah,A,D,M,r4⟩:=wS (o:=o) (tU h.tmps) h.wd.box (λ_=>rfl) (λf J e=>by cases e) H;rw[A];obtain⟨x,k1,l,k3⟩:=aMU h.wd (n:=s.next) (n7 _) D M g r4;refine E x _ _ l ⟨?_,by rw[rL];exact h.defers,rP (h.tmps.mono (xI l)) o.dst k3⟩
   refine RepF.cQ (nb:=λb=>s.next<=b/\b≠s.next) ?_ λb g=>⟨n8 g,by simp only at g;omega⟩
   cases old with
   |none=>simp only[mG]at k1 ⊢;rw[<-Dm]at k1;exact k1
   |some b=>
    simp only[mG]at k1 ⊢;obtain⟨B,U,_⟩:=aPg M;rw[U]at k1
    have Y:b≠s.next:=by
     rintro rfl;obtain⟨k,o,_,_,_,f1,_⟩:=h.wd.box _ _ U;rw[h.wd.fresh _ (n7 _)]at f1;cases f1
    rw[<-Dm]at k1;rw[aHi (B:=B) (by rw[Dm,mU Y];exact U)];exact k1
 |nB b cs=>
  simp only[mW]at i;obtain⟨B,F,y⟩:=aS i
  cases g:C.bt.contains B.ty with
  |false=>rw[g]at y;cases y
  |true=>
   rw[g]at y;simp only[cond_true,j9,n5]at y;obtain⟨rfl,rfl⟩:=y;obtain⟨B',k,oo,u,ab,ys,z,zs,L,gr,N,R,S,T,g6,g7,g8,g9⟩:=wS (o:=o) (tU h.tmps) h.wd.box (λ_=>rfl) (λf J e=>by cases e) H;rw[F]at L;cases L;rw[R];obtain⟨k1,l⟩:=h.wd.nB (dirty':=bif B.own then s.dirty else b::s.dirty) F gr N S T g6 g7 g8 g9 g (by cases B.own<;>simp_all) (by cases B.own<;>simp);rw[<-aF0 F]at k1;exact E _ _ _ l ⟨k1,by rw[rL];exact h.defers,rP (h.tmps.mono (xI l)) o.dst rfl⟩
 |call f J=>
  simp only[mW]at i;obtain⟨⟨j,r,q,I⟩,F,y⟩:=bU i;simp only[n5]at y;obtain⟨rfl,rfl⟩:=y;obtain⟨X,hc⟩:=aa f (clean s) s.nums s.next (look s.boxes) J j r q I F;obtain⟨xs,A,D⟩:=wS (o:=o) (tU h.tmps) h.wd.box (λ_=>rfl) (λf' ar e=>by cases e;exact X) H;rw[A]
  have h0:Ext C φ φ s.nums (s.nums++j) w w:=⟨λ_ _ h=>h,sH _ _,On.refl _ _⟩
  refine(hc hp _ (λ_ _ h=>h) φ w xs h.wd.base (λW=>RepF.below h.wd W) h.wd.on (h.wd.later (Below.refl _ _) _ (sH _ j)).box (D.mono (Vf h0))).mono ?_;rintro e u⟨v,rfl,g,hv⟩
  have hx:Ext C φ φ s.nums (s.nums++j) w u:=⟨λ_ _ h=>h,sH _ _,On.below g⟩
  cases I with
  |none=>
   have k1:=h.wd.later g (s.nums++j) (sH _ _);exact E φ _ u hx ⟨k1,by rw[rL];exact h.defers,rP (h.tmps.mono (xI hx)) o.dst hv⟩
  |some B=>
   obtain⟨b1,b2,k,o',ab,ys,z,L,N,O,R,S,T⟩:=hv;obtain⟨k1,l⟩:=h.wd.got (n:=s.next) (n7 _) g (sH _ j) L N O R b1 b2 T;rw[<-Dm]at k1;exact E _ _ u l ⟨k1.cQ λb g=>⟨n8 g,by simp only at g;omega⟩,by rw[rL];exact h.defers,rP (h.tmps.mono (xI l)) o.dst S⟩
theorem aSH (F:SpecOk C w0 ψ sp){D:AS}{n:World}{K:LL}{e:nN}{c:Bool}
  (h:Rep C w0 ψ φ s a n) (J:evalOp C.P (iW s.tmps) (look s.boxes) o.op=some e) (z:mM sp c s o e=some (D,p)) (L:Holds p)
  (H:∀g y u,Ext C φ g s.nums D.nums n u->Rep C w0 ψ g D y u->K y u):if c=true then o.wp C.P a n K Q else K (a.put o.dst undef) n:=by
 have skip:∀v b,D={s with nums:=s.nums++b,tmps:=putT s.tmps o.dst (.nI c v)}->c=false->K (a.put o.dst undef) n:=by
  rintro v b rfl rfl
  have A:Ext C φ φ s.nums (s.nums++b) n n:=⟨λ_ _ h=>h,sH _ _,On.refl _ _⟩
  have k1:=h.wd.later (Below.refl _ _) (s.nums++b) (sH _ _);exact H φ _ n A ⟨k1,by rw[rL];exact h.defers,rP (h.tmps.mono (xI A)) o.dst (by simp[relT])⟩
 cases e with
 |val r q=>
  cases r with
  |val v=>
   simp only[mM,j9,n5]at z;obtain⟨rfl,rfl⟩:=z
   cases c with
   |false=>simp only[p8,if_false];exact skip v [] (by simp) rfl
   |true=>
    simp only[if_true];refine aNi F h J (p:=q) (s':={s with tmps:=putT s.tmps o.dst (.val v)}) rfl (Nx L rfl) ?_;intro g y u A l;refine H g y u A ⟨l.wd,l.defers,?_⟩;have:=l.tmps;simp only at this ⊢;exact swap this
  |_=>simp[mM]at z
 |call f M=>
  simp only[mM]at z;obtain⟨⟨b,r,q,I⟩,E,j⟩:=aS z
  cases r with
  |val v=>
   cases I with
   |some B=>simp at j
   |none=>
   simp only[j9,n5]at j;obtain⟨rfl,rfl⟩:=j
   cases c with
   |false=>simp only[p8,if_false];exact skip v b rfl rfl
   |true=>
    simp only[if_true];refine aNi F h J (p:=q) (s':={s with nums:=s.nums++b,tmps:=putT s.tmps o.dst (.val v)}) (by simp[mW,E]) (Nx L rfl) ?_;intro g y u A l;refine H g y u A ⟨l.wd,l.defers,?_⟩;exact swap l.tmps
  |_=>simp at j
 |_=>simp[mM]at z
where
 swap {φ:LI} {ν:LV} {n:World} {k:List AT} {d:Option Tmp} {v:AV} {i:LB} (h:All2 (relT C φ ν n) (putT k d (.val v)) i):All2 (relT C φ ν n) (putT k d (.nI true v)) i:=by
  cases d with
  |none=>exact h
  |some d=>
   simp only[putT]at h ⊢;exact sw d k i h
 sw {φ:LI} {ν:LV} {n:World} {v:AV}:∀(d:Nat) (k:List AT) (i:LB),All2 (relT C φ ν n) (k.set d (.val v)) i->All2 (relT C φ ν n) (k.set d (.nI true v)) i
  |_,[],i,h=>h
  |0,_::_,x::i,⟨E,j⟩=>⟨by simpa[relT]using E,j⟩
  |d+1,_::k,x::i,⟨E,j⟩=>⟨E,sw d k i j⟩
  |0,_::_,[],h=>h.elim
  |d+1,_::_,[],h=>h.elim
theorem aT4 (g:SpecOk C w0 ψ sp){r:AS}{n:World}{all:Array Oper}{i:Nat}{K:LL}
  (y:all[i]?=some o) (h:Rep C w0 ψ φ s a n) (b:wL C sp all s o=some (r,p)) (x:Holds p)
  (q:∀j v u,Ext C φ j s.nums r.nums n u->Rep C w0 ψ j r v u->K v u):wpOp C.P all Q i K a n:=by
 unfold wpOp;simp only[y];have d:=Qd (all:=all) (o:=o) h.tmps;unfold wL at b
 cases f:gd all s.tmps o with
 |yes=>
  rw[f]at d b;simp only at d b;obtain⟨e,k,l⟩:=aS b;rw[if_pos d];exact Or.inl (aNi g h k l x q)
 |no=>
  rw[f]at d b;simp only[j9,n5]at d b;obtain⟨rfl,rfl⟩:=b;rw[if_neg (by simp[d])];exact q φ _ n (Ext.refl _ _ _) ⟨h.wd,by rw[rL];exact h.defers,rP h.tmps o.dst rfl⟩
 |cond c=>
  rw[f]at d b;simp only at d b;obtain⟨e,k,l⟩:=aS b;have:=aSH (Q:=Q) g h k l x q;rw[d]
  cases c with
  |true=>simp only[if_true]at this ⊢;exact Or.inl this
  |false=>simpa using this
 |bad=>rw[f]at b;cases b
end
inductive K (F:Type) where
 |code (c:Code)
 |bS (id:Nat)
 |lp (b:Code) (n:Nat)
 |ops (all:Array Oper) (rest:NU)
 |fr (fn:Func) (dst:Option Tmp) (f:F)
 |top (fn:Func)
inductive Tr where
 |ret (r:AT) (s:AS)
 |br (t:Bool) (a b:Tr)
 |need (p:List Prop) (t:Tr)
 |stop (ks:List (K (List AT))) (s:AS)
def Tr.ok (G:AT->AS->Prop)(H:List (K (List AT))->AS->Prop):Tr->Prop
 |.ret r s=>G r s
 |.br t a b=>(t=true->a.ok G H)/\(t=false->b.ok G H)
 |.need p t=>Holds p/\t.ok G H
 |.stop d s=>H d s
def wrap:List Prop->Tr->Tr
 | [],t=>t
 |p::a,t=>.need (p::a) t
theorem Wb {G:AT->AS->Prop}{H:List (K (List AT))->AS->Prop}{a:List Prop}{t:Tr}(h:(wrap a t).ok G H):Holds a/\t.ok G H:=by
 cases a with
 |nil=>exact⟨gJ,h⟩
 |cons p a=>exact h
def dD {F:Type}:List (K F)->List (K F)
 |.fr fn d f::a=>.fr fn d f::a
 |.top fn::a=>.top fn::a
 |_::a=>dD a
 | []=>[]
def bR {F:Type}(id:Nat):List (K F)->Option (List (K F))
 |.bS i::a=>bif i==id then some a else bR id a
 |.fr ..::_=>none
 |.top _::_=>none
 |_::a=>bR id a
 | []=>none
def oU (P:Program)(s:AS):ResultVar->Option AV
 |.tmp t=>Ij (s.tmps.getD t .gG)
 |.cell a t=>(eT (s.tmps.getD a .gG)).bind fun
   |.ptr b d=>(look s.boxes b).bind λB=>vY P t B.cs d
   |_=>none
def Ew (P:Program)(fn:Func)(s:AS):Option AT:=
 (eZ (oU P s) fn.results.toList).map fun
  | [v]=>.val v
  |vs=>.tup vs
section
variable (C:fE) (sp:Spec) (bodies:XW) (draw:Array Oper->AS->Option (AS×List Prop)) (stp:List (K (List AT))->Bool)
def splitOn (all:Array Oper)(a:List AT)(o:Oper):Option (Nat×Bool):=
 o.guard.bind λ(g,_)=>((all[g]?).bind (·.dst)).bind λd=>match a[d]? with
  |some (.val (.one (.sbool t)))=>some (d,t)
  |_=>none
def inl (all:Array Oper)(s:AS)(o:Oper):Option (Func×Code×List AV):=
 match gd all s.tmps o with
 |.yes=>(evalOp C.P (iW s.tmps) (look s.boxes) o.op).bind fun
   |.call f a=>(bodies f).bind λfn=>fn.body.map λc=>(fn,c,a)
   |_=>none
 |_=>none
def run:Nat->List (K (List AT))->AS->Option Tr
 |0,_,_=>none
 |f+1,e,s=>bif stp e then some (.stop e s)else match e with
  | []=>none
  |.top fn::_=>(Ew C.P fn s).map λr=>.ret r s
  |.fr fn h l::e=>(Ew C.P fn s).bind λr=>run f e {s with tmps:=putT l h r}
  |.bS _::e=>run f e s
  |.lp b 0::e=>none
  |.lp b (n+1)::e=>run f (.code b::.lp b n::e) s
  |.ops _ []::e=>run f e s
  |.ops all (i::g)::e=>(all[i]?).bind λo=>
   match splitOn all s.tmps o with
   |some (d,t)=>(run f (.ops all (i::g)::e) {s with tmps:=s.tmps.set d (.val (.one (.bool true)))}).bind λx=>(run f (.ops all (i::g)::e) {s with tmps:=s.tmps.set d (.val (.one (.bool false)))}).map λy=>.br t x y
   |none=>
   match wL C sp all s o with
   |some (j,p)=>(run f (.ops all g::e) j).map (wrap p)
   |none=>match inl C bodies all s o with
    |some (fn,c,k)=>run f (.code c::.fr fn o.dst s.tmps::.ops all g::e) {s with tmps:=k.map .val++l8 (fn.ntmps-k.length) .gG}
    |none=>none
  |.code c::e=>match c with
   |.skip=>run f e s
   |.seq a b=>run f (.code a::.code b::e) s
   |.block id b=>run f (.code b::.bS id::e) s
   |.loop b=>run f (.lp b f::e) s
   |.exit id=>(bR id e).bind λe=>run f e s
   |.ret=>run f (dD e) s
   |.cond x a b=>(eT (iW s.tmps x)).bind fun
    |.bool t=>run f (.code (bif t then a else b)::e) s
    |.sbool t=>(run f (.code a::e) s).bind λx=>(run f (.code b::e) s).map λy=>.br t x y
    |_=>none
   |.region _ ops false=>run f (.ops ops (l9 ops.size)::e) s
   |.region _ ops true=>(draw ops s).bind λ(j,p)=>(run f e j).map (wrap p)
   |_=>none
end
def gD (P:Program)(R:EW):List (K Act)->Exit->Act->World->Prop
 | []=>λ_ _ _=>False
 |.code c::ks=>Exit.then (c.wp P (gD P R ks)) (gD P R ks)
 |.bS id::ks=>Exit.inBlock id (gD P R ks)
 |.lp b n::ks=>Exit.then (Code.rounds P b (gD P R ks) n) (gD P R ks)
 |.ops all d::ks=>Exit.then (wpOps P all (gD P R ks) d) (gD P R ks)
 |.fr fn dst a::ks=>bodyPost P fn λe w=>match e with|.returned v=>gD P R ks .normal (a.put dst v) w|_=>False
 |.top fn::_=>bodyPost P fn R
def SR (C:fE)(φ:LI)(ν:LV)(w:World):List (K (List AT))->List (K Act)->Prop
 | [],[]=>True
 |.code c::ks,.code h::kcs=>h=c/\SR C φ ν w ks kcs
 |.bS i::ks,.bS k::kcs=>k=i/\SR C φ ν w ks kcs
 |.lp b n::ks,.lp g l::kcs=>g=b/\l=n/\SR C φ ν w ks kcs
 |.ops a r::ks,.ops f o::kcs=>f=a/\o=r/\SR C φ ν w ks kcs
 |.fr fn d p::ks,.fr e j a::kcs=>e=fn/\j=d/\a.defers=[]/\All2 (relT C φ ν w) p a.tmps.toList/\SR C φ ν w ks kcs
 |.top fn::ks,.top e::kcs=>e=fn/\SR C φ ν w ks kcs
 |_,_=>False
section
variable {C:fE} {w0:World} {ψ:LI} {sp:Spec} {bodies:XW} {draw:Array Oper->AS->Option (AS×List Prop)} {R:EW}
theorem SR.ext {φ l:LI}{ν k:LV}{n p:World}(j:Ext C φ l ν k n p):∀{g:List (K (List AT))} {f:List (K Act)},SR C φ ν n g f->SR C l k p g f
 | [],[],_=>trivial
 |.code c::g,.code u::f,h=>⟨h.1,SR.ext j h.2⟩
 |.bS i::g,.bS x::f,h=>⟨h.1,SR.ext j h.2⟩
 |.lp b e::g,.lp s y::f,h=>⟨h.1,h.2.1,SR.ext j h.2.2⟩
 |.ops a r::g,.ops q z::f,h=>⟨h.1,h.2.1,SR.ext j h.2.2⟩
 |.fr fn d A::g,.fr o v a::f,h=>⟨h.1,h.2.1,h.2.2.1,h.2.2.2.1.mono (xI j),SR.ext j h.2.2.2.2⟩
 |.top fn::g,.top o::f,h=>⟨h.1,SR.ext j h.2⟩
theorem SR.dD {φ:LI}{ν:LV}{n w':World}{a:Act}:∀{g:List (K (List AT))} {f:List (K Act)},SR C φ ν n g f->SR C φ ν n (dD g) (dD f)/\(gD C.P R (Ab.dD f) .ret a w'->gD C.P R f .ret a w')
 | [],[],_=>⟨trivial,λh=>h⟩
 |.code c::g,.code l::f,h=>⟨(SR.dD (w':=w') (a:=a) h.2).1,(SR.dD h.2).2⟩
 |.bS i::g,.bS p::f,h=>⟨(SR.dD (w':=w') (a:=a) h.2).1,(SR.dD h.2).2⟩
 |.lp b e::g,.lp k q::f,h=>⟨(SR.dD (w':=w') (a:=a) h.2.2).1,(SR.dD h.2.2).2⟩
 |.ops x r::g,.ops v s::f,h=>⟨(SR.dD (w':=w') (a:=a) h.2.2).1,(SR.dD h.2.2).2⟩
 |.fr fn d u::g,.fr j o x::f,h=>⟨h,λh=>h⟩
 |.top fn::g,.top j::f,h=>⟨h,λh=>h⟩
theorem SR.bR {φ:LI}{ν:LV}{n w':World}{a:Act}{id:Nat}:∀{l f:List (K (List AT))} {kcs:List (K Act)},SR C φ ν n l kcs->Ab.bR id l=some f->∃j,SR C φ ν n f j/\(gD C.P R j .normal a w'->gD C.P R kcs (.exit id) a w')
 |.code c::l,f,.code v::kcs,h,e=>let⟨k,o,p⟩:=SR.bR (kcs:=kcs) h.2 (show Ab.bR id l=some f by simpa[Ab.bR]using e);⟨k,o,p⟩
 |.lp b d::l,f,.lp u y::kcs,h,e=>let⟨k,o,p⟩:=SR.bR (kcs:=kcs) h.2.2 (show Ab.bR id l=some f by simpa[Ab.bR]using e);⟨k,o,p⟩
 |.ops x r::l,f,.ops A z::kcs,h,e=>let⟨k,o,p⟩:=SR.bR (kcs:=kcs) h.2.2 (show Ab.bR id l=some f by simpa[Ab.bR]using e);⟨k,o,p⟩
 |.bS i::l,f,.bS s::kcs,h,e=>by
  obtain⟨rfl,h⟩:=h;unfold Ab.bR at e
  cases hi:s==id with
  |true=>
   rw[hi]at e;cases e
   have:s=id:=by simpa using hi
   subst this;exact⟨kcs,h,λg=>by simp only[gD,Exit.inBlock,if_true];exact g⟩
  |false=>
   rw[hi]at e;simp only[cond_false]at e
   have q:¬id=s:=by intro e;subst e;simp at hi
   obtain⟨j,o,p⟩:=SR.bR h e;exact⟨j,o,λg=>by simp only[gD,Exit.inBlock];rw[if_neg q];exact p g⟩
 | [],_,[],_,e=>by simp[Ab.bR]at e
 |.fr ..::_,_,_,_,e=>by simp[Ab.bR]at e
 |.top _::_,_,_,_,e=>by simp[Ab.bR]at e
def oV (tmps:Array Value):ResultVar->Sem Value
 |.tmp t=>pure (tmps.getD t undef)
 |.cell a t=>do loadVar t (<-asAddr (tmps.getD a undef))
theorem aMm (fn:Func)(tmps:Array Value):results fn tmps=(fn.results.mapM (oV tmps)) >>= λa=>pure (if h:a.size=1 then a[0]else .tuple a):=by
 unfold results;congr
theorem aOR {s:AS}{a:Act}{n:World}(h:Rep C w0 ψ φ s a n){A:ResultVar}{v:AV}(q:oU C.P s A=some v):
  ∃x,(oV a.tmps A).run C.P n=.ok x n/\dU C φ s.nums n v x:=by
 cases A with
 |tmp t=>
  simp only[oU]at q;have:=tU h.tmps (.tmp t);simp only[iW,Act.eval]at this;rw[Cg q]at this;exact⟨_,rfl,this⟩
 |cell c t=>
  simp only[oU]at q;obtain⟨I,L,u⟩:=aS q;have y:=tU h.tmps (.tmp c);simp only[iW,Act.eval]at y;rw[pY L]at y
  cases I<;>simp only at u<;>try cases u
  case ptr b off=>
   obtain⟨B,M,E⟩:=aS u;obtain⟨k,o,i,N,e,k1,H,k0,z⟩:=h.wd.box b B M;obtain⟨O,S,j,F⟩:=y;rw[k1]at j;cases j;subst k0;unfold vY at E;obtain⟨g,D,l⟩:=aS E
   cases g with
   |true=>
    simp only[cond_true]at l;obtain⟨d,r,f⟩:=aS l
    cases p:Nat.ble (off+d) B.cs.length with
    |false=>rw[p]at f;cases f
    |true=>
     rw[p]at f;simp only[cond_true,j9]at f;subst f;rw[Nat.ble_eq,z.len]at p;refine⟨.agg ((N.drop off).take d).toArray,?_,_,rfl,(z.drop off).take d⟩;simp only[oV];rw[F];simp only[asAddr,loadVar,loadCells,q9,s4,Result.andThen_ok,Kp D,uC r,if_true,Ts H (i.length+off) d 0 #[] (by simp;omega),Nat.add_zero,aHH p];simp
   |false=>
    simp only[cond_false]at l;obtain⟨c,r,rfl⟩:=bU l;obtain⟨x,f,J⟩:=z.at r;refine⟨x,?_,J⟩;simp only[oV];rw[F];have sg:=aOW (pre:=i) (post:=e) f;rw[List.append_assoc]at sg;simp[asAddr,loadVar,Kp D,Ls H,sg]
theorem aOQ {s:AS}{a:Act}{n:World}(h:Rep C w0 ψ φ s a n){fn:Func}{r:AT}(k:Ew C.P fn s=some r):∃x,(results fn a.tmps).run C.P n=.ok x n/\relT C φ s.nums n r x:=by
 unfold Ew at k;obtain⟨f,u,e⟩:=bU k
 have i:∀(l:List ResultVar) (f:List AV),eZ (oU C.P s) l=some f->∃b:LB,(l.mapM (oV a.tmps)).run C.P n=.ok b n/\All2 (dU C φ s.nums n) f b:=by
  intro l
  induction l with
  |nil=>intro f h;simp[eZ]at h;subst h;exact⟨[],by simp,trivial⟩
  |cons A l y=>
   intro f hv;unfold eZ at hv;obtain⟨v,o,p⟩:=aS hv;obtain⟨j,q,rfl⟩:=bU p;obtain⟨x,x1,x2⟩:=aOR h o;obtain⟨b,y1,y2⟩:=y j q;refine⟨x::b,?_,x2,y2⟩;rw[List.mapM_cons,q9,x1];simp only[Result.andThen_ok,q9,y1,s4]
 obtain⟨b,k1,g⟩:=i _ _ u
 have d:(results fn a.tmps).run C.P n=.ok (if h:b.toArray.size=1 then b.toArray[0]else .tuple b.toArray) n:=by
  rw[aMm,<-Array.toArray_toList (xs:=fn.results),List.mapM_toArray];simp only[q9,Sem.run_map];rw[k1];rfl
 match f,b,g,e,d with
 | [],[],_,e,d=>subst e;exact⟨_,d,[],by simp,trivial⟩
 | [v],[x],⟨g,_⟩,e,d=>subst e;exact⟨x,by rw[d];simp,g⟩
 |v::B::f,x::z::b,g,e,d=>subst e;exact⟨_,d,x::z::b,by simp,g⟩
end
section
variable {C:fE} {w0:World} {ψ:LI} {sp:Spec} {bodies:XW} {draw:Array Oper->AS->Option (AS×List Prop)} {R:EW}
def bQ (C:fE)(bodies:XW):Prop:=∀f fn,bodies f=some fn->C.P.funcs[f]?=some fn/\Enters C.P f
def uA (C:fE)(w0:World)(ψ:LI)(draw:Array Oper->AS->Option (AS×List Prop)):Prop:=∀ops s d p,draw ops s=some (d,p)->Holds p->∀φ a w (id:Nat) (Q:AW),Rep C w0 ψ φ s a w->
 (∀b f e,Ext C φ b s.nums d.nums w e->Rep C w0 ψ b d f e->Q .normal f e)->(Code.region id ops true).wp C.P Q a w
theorem aV2 {s:AS}{a:Act}{n:World}{all:Array Oper}{o:Oper}{fn:Func}{c:Code}{l:List AV}(g:bQ C bodies)(h:Rep C w0 ψ φ s a n)(hi:inl C bodies all s o=some (fn,c,l)):
  q8 o (yielded all a.tmps)=true/\∃f b,C.P.funcs[f]?=some fn/\fn.body=some c/\(execOp a.eval o).run C.P n=.ok (.enter f b.toArray) n/\All2 (dU C φ s.nums n) l b:=by
 have i:=Qd (all:=all) (o:=o) h.tmps;unfold inl at hi
 cases j:gd all s.tmps o<;>rw[j]at hi i<;>simp only at hi i<;>try cases hi
 obtain⟨e,q,d⟩:=aS hi
 cases e<;>simp only at d<;>try cases d
 rename_i f k;obtain⟨p,r,u⟩:=aS d;obtain⟨B,v,x⟩:=bU u;cases x;obtain⟨y,h8⟩:=g f fn r;obtain⟨b,z,A⟩:=wS (o:=o) (tU h.tmps) h.wd.box (λ_=>rfl) (λD k e=>by cases e;exact h8) q;exact⟨i,f,b,y,v,z,A⟩
theorem aLd {b:Type}:∀{l:List b} {i:Nat} {a:b},l[i]?=some a->l.set i a=l
 | [],_,_,h=>by simp at h
 |x::l,0,a,h=>by simp at h;simp[h]
 |x::l,i+1,a,h=>by simp only[List.set_cons_succ];rw[aLd (by simpa using h)]
theorem Vs {φ:LI}{ν:LV}{n:World}:∀{a:List AV} {b:LB},All2 (dU C φ ν n) a b->All2 (relT C φ ν n) (a.map .val) b
 | [],[],_=>trivial
 |_::_,_::_,⟨d,e⟩=>⟨d,Vs e⟩
 | [],_::_,h=>h.elim
 |_::_,[],h=>h.elim
theorem Vr {φ:LI}{ν:LV}{w:World}:∀(n:Nat),All2 (relT C φ ν w) (l8 n .gG) (l8 n undef)
 |0=>trivial
 |n+1=>⟨rfl,Vr n⟩
theorem vC {stp:List (K (List AT))->Bool}(ai:SpecOk C w0 ψ sp)(ag:bQ C bodies)(ah:uA C w0 ψ draw)(G:AT->AS->Prop)(H:List (K (List AT))->AS->Prop)(hH:∀D s,H D s->∀(j:List (K Act)) (φ:LI) (a:Act) (w:World),SR C φ s.nums w D j->Rep C w0 ψ φ s a w->gD C.P R j .normal a w)(hG:∀r s φ v w,G r s->relT C φ s.nums w r v->RepW C w0 ψ φ s w->R (.returned v) w):
  ∀(f:Nat) (D:List (K (List AT))) (s:AS) (I:Tr),run C sp bodies draw stp f D s=some I->I.ok G H->∀(j:List (K Act)) (φ:LI) (a:Act) (w:World),SR C φ s.nums w D j->Rep C w0 ψ φ s a w->gD C.P R j .normal a w
 |0,D,s,I,h,k,j,φ,a,w,q,u=>by simp[run]at h
 |f+1,D,s,I,h,k,j,φ,a,w,q,u=>by
  have E:=vC (stp:=stp) ai ag ah G H hH hG f;unfold run at h
  cases J:stp D with
  |true=>
   rw[J]at h;simp only[cond_true,j9]at h;subst h;exact hH D s k j φ a w q u
  |false=>
  rw[J]at h;simp only[cond_false]at h;clear J
  match D,j,q with
  | [],[],_=>cases h
  |.top fn::D,.top am::j,q=>
   obtain⟨rfl,q⟩:=q;simp only at h;obtain⟨r,M,rfl⟩:=bU h;obtain⟨x,x1,x2⟩:=aOQ u M;exact⟨u.defers,x,x1,hG r s φ x w k x2 u.wd⟩
  |.fr fn a8 tm::D,.fr am ad b::j,q=>
   obtain⟨rfl,rfl,hd,W,q⟩:=q;simp only at h;obtain⟨r,M,B⟩:=aS h;obtain⟨x,x1,x2⟩:=aOQ u M;refine⟨u.defers,x,x1,?_⟩;exact E D _ I B k j φ _ w q ⟨u.wd,by rw[rL];exact hd,rP W ad x2⟩
  |.bS i::D,.bS i'::j,q=>
   obtain⟨rfl,q⟩:=q;simp only at h;exact E D s I h k j φ a w q u
  |.lp b 0::D,_,_=>cases h
  |.lp b (n+1)::D,.lp b' n'::j,q=>
   obtain⟨rfl,rfl,q⟩:=q;simp only at h;have:=E _ s I h k (.code b'::.lp b' n::j) φ a w ⟨rfl,rfl,rfl,q⟩ u;exact this
  |.ops all []::D,.ops A r'::j,q=>
   obtain⟨rfl,rfl,q⟩:=q;simp only at h;exact E D s I h k j φ a w q u
  |.ops all (i::F)::D,.ops A r'::j,q=>
   obtain⟨rfl,rfl,q⟩:=q;simp only at h;obtain⟨o,M,B⟩:=aS h
   cases L:splitOn A s.tmps o with
   |some dt=>
    obtain⟨d,t⟩:=dt;rw[L]at B;simp only at B;obtain⟨t1,S,h4⟩:=aS B;obtain⟨t2,h5,rfl⟩:=bU h4
    have W:s.tmps[d]?=some (.val (.one (.sbool t))):=by
     unfold splitOn at L;obtain⟨⟨g,a5⟩,_,q2⟩:=aS L;obtain⟨d',_,q4⟩:=aS q2;split at q4
     .rename_i t' e;cases q4;exact e
     .cases q4
    have O:∀b,t=b->All2 (relT C φ s.nums w) (s.tmps.set d (.val (.one (.bool b)))) a.tmps.toList:=by
     rintro b rfl;obtain⟨v,v1,v2⟩:=u.tmps.at W;have:=u.tmps.set d (a:=.val (.one (.bool t))) (b:=v) v2
     rwa[aLd v1]at this
    cases t with
    |true=>exact E _ _ t1 S (k.1 rfl) (.ops A (i::F)::j) φ a w ⟨rfl,rfl,q⟩ ⟨u.wd,u.defers,O true rfl⟩
    |false=>exact E _ _ t2 h5 (k.2 rfl) (.ops A (i::F)::j) φ a w ⟨rfl,rfl,q⟩ ⟨u.wd,u.defers,O false rfl⟩
   |none=>
   rw[L]at B;simp only at B;show wpOps C.P A (gD C.P R j) (i::F) a w;rw[wpOps_cons]
   cases J:wL C sp A s o with
   |some av=>
    obtain⟨s',p⟩:=av;rw[J]at B;simp only at B;obtain⟨Y,S,rfl⟩:=bU B;refine aT4 ai M u J (Wb k).1 ?_;intro aa a' w' N U;exact E _ s' Y S (Wb k).2 (.ops A F::j) aa a' w' ⟨rfl,rfl,q.ext N⟩ U
   |none=>
    rw[J]at B;simp only at B
    cases T:inl C bodies A s o with
    |none=>rw[T]at B;cases B
    |some x=>
     obtain⟨fn,c,vs⟩:=x;rw[T]at B;simp only at B;obtain⟨hw,g,xs,g1,g2,g3,g4⟩:=aV2 ag u T;unfold wpOp;simp only[M];rw[if_pos hw];refine Or.inl ?_;unfold Oper.wp;rw[g3];show Calls C.P g xs.toArray w _
     have X:=E _ _ I B k (.code c::.fr fn o.dst a::.ops A F::j) φ { tmps:=xs.toArray++Array.replicate (fn.ntmps-xs.toArray.size) undef,defers:=[]} w ⟨rfl,rfl,rfl,u.defers,u.tmps,rfl,rfl,q⟩
      ⟨u.wd,rfl,by
       have hl:=g4.len;simp only[o9,p7,l4];rw[<-hl]
       exact(Vs g4).append (Vr _)⟩
     refine(calls_of_wp g1 g2 X).mono ?_;intro e w' he
     cases e with
     |returned v=>exact he
     |panicked ch=>exact he.elim
     |outgrown=>exact he.elim
  |.code c::D,.code c'::j,q=>
   obtain⟨rfl,q⟩:=q;show c'.wp C.P (gD C.P R j) a w
   cases c' with
   |skip=>simp only at h;exact wp_skip (E D s I h k j φ a w q u)
   |seq x y=>simp only at h;exact wp_seq (E _ s I h k (.code x::.code y::j) φ a w ⟨rfl,rfl,q⟩ u)
   |block id b=>simp only at h;exact wp_block (E _ s I h k (.code b::.bS id::j) φ a w ⟨rfl,rfl,q⟩ u)
   |loop b=>simp only at h;exact wp_loop_rounds f (E _ s I h k (.lp b f::j) φ a w ⟨rfl,rfl,q⟩ u)
   |exit id=>
    simp only at h;obtain⟨ar,M,B⟩:=aS h;obtain⟨aj,g1,g2⟩:=SR.bR (R:=R) (a:=a) (w':=w) q M;exact wp_exit (g2 (E ar s I B k aj φ a w g1 u))
   |ret=>
    simp only at h;obtain⟨g1,g2⟩:=SR.dD (R:=R) (a:=a) (w':=w) q;have:=E _ s I h k _ φ a w g1 u;refine wp_ret (g2 ?_)
    have X:∀l:List (K Act),gD C.P R (dD l) .normal a w->gD C.P R (dD l) .ret a w:=by
     intro l
     induction l with
     |nil=>exact λh=>h
     |cons x l E=>cases x<;>first|exact E|exact λh=>h
    exact X j this
   |cond x y z=>
    simp only at h;obtain⟨cc,M,B⟩:=aS h;have N:=tU u.tmps x;rw[pY M]at N
    cases cc<;>simp only at B<;>try cases B
    case bool t=>
     have N:a.eval x=.bool t:=N;have:=E _ s I B k (.code (bif t then y else z)::j) φ a w ⟨rfl,q⟩ u;refine wp_cond N ?_
     cases t<;>exact this
    case sbool t=>
     have N:a.eval x=.bool t:=N;obtain⟨t1,S,h4⟩:=aS B;obtain⟨t2,h5,rfl⟩:=bU h4;exact wp_cond_split N (λe=>E _ s t1 S (k.1 e) (.code y::j) φ a w ⟨rfl,q⟩ u) (λe=>E _ s t2 h5 (k.2 e) (.code z::j) φ a w ⟨rfl,q⟩ u)
   |region id ops dr=>
    cases dr with
    |false=>simp only at h;exact wp_region (E _ s I h k (.ops ops (l9 ops.size)::j) φ a w ⟨rfl,rfl,q⟩ u)
    |true=>
     simp only at h;obtain⟨⟨s',p⟩,M,B⟩:=aS h;obtain⟨Y,S,rfl⟩:=bU B;refine ah ops s s' p M (Wb k).1 φ a w id _ u ?_;intro aa a' w' N U;exact E D s' Y S (Wb k).2 j aa a' w' (q.ext N) U
   |_=>cases h
theorem mO (h:SpecOk C w0 ψ sp)(d:bQ C bodies)(e:uA C w0 ψ draw){B:FuncId}{fn:Func}{c:Code}(o:C.P.funcs[B]?=some fn)(l:fn.body=some c){args:LB}{vs:List AV}{s:AS}
  (q:s.tmps=vs.map .val++l8 (fn.ntmps-vs.length) .gG) (hv:All2 (dU C φ s.nums w0) vs args) (x:RepW C w0 ψ φ s w0)
  (n:Nat) {stp:List (K (List AT))->Bool} {X:Tr} (u:run C sp bodies draw stp n [.code c,.top fn] s=some X) (G:AT->AS->Prop) (H:List (K (List AT))->AS->Prop) (k:∀i s,H i s->∀(b:List (K Act)) (φ:LI) (a:Act) (w:World),SR C φ s.nums w i b->Rep C w0 ψ φ s a w->gD C.P R b .normal a w) (g:X.ok G H) (j:∀r s φ v w,G r s->relT C φ s.nums w r v->RepW C w0 ψ φ s w->R (.returned v) w):Calls C.P B args.toArray w0 R:=by
 refine calls_of_wp o l ?_;have p:=hv.len
 exact vC h d e G H k j n _ s X u g [.code c,.top fn] φ _ w0 ⟨rfl,rfl,trivial⟩ ⟨x,rfl,by
  rw[q];simp only[o9,p7,l4];rw[<-p]
  exact(Vs hv).append (Vr _)⟩
end
structure gH where
 res:AT
 new:Option bL
 nB:Option (Nat×List AC)
 app:Option Nat
def eY (bt:List TypeId)(sp:Spec)(g d:Nat->Option bL)(ν:LV)(id:Nat):nN->Option (gH×List (Int×Nat)×List Prop)
 |.val r p=>some (⟨r,none,none,none⟩,[],p)
 |.new cs ty sl=>some (⟨.val (.one (Jv id sl)),some ⟨cs,ty,true,sl.isSome,sl.isSome⟩,none,none⟩,[],[])
 |.app old cs ty len size=>bif bt.contains ty then some (⟨.val (.one (.slc id 0 len size)),some ⟨cs,ty,true,true,true⟩,none,old⟩,[],[])else none
 |.nB b cs=>(d b).bind λB=>bif bt.contains B.ty then some (⟨.gG,none,some (b,cs),none⟩,[],[])else none
 |.call f e=>(sp f false ν id g e).bind fun
   |(a,r,p,none)=>some (⟨r,none,none,none⟩,a,p)
   |(a,r,p,some B)=>some (⟨r,some B,none,none⟩,a,p)
def fU (c:Bool)(sp:Spec)(d:Nat->Option bL)(ν:LV)(id:Nat):nN->Option (gH×List (Int×Nat)×List Prop)
 |.val (.val v) p=>some (⟨.nI c v,none,none,none⟩,[],oC c p)
 |.call f b=>(sp f false ν id d b).bind fun
   |(a,.val v,p,none)=>some (⟨.nI c v,none,none,none⟩,a,oC c p)
   |_=>none
 |_=>none
def pB:List AT->Option (List AV×List Bool)
 | []=>some ([],[])
 |.val v::r=>(pB r).map λp=>(v::p.1,p.2)
 |.nI c v::r=>(pB r).map λp=>(v::p.1,c::p.2)
 |_::_=>none
def kC (c:Bool)(sp:Spec)(e:Nat->Option bL)(ν:LV)(id:Nat)(b:Operand->AT):Op->Option (gH×List (Int×Nat)×List Prop)
 |.call { callee:=.value (.func f),args:=args,..}=>(pB (args.toList.map b)).bind λp=>(sp f false ν id e p.1).bind fun
   |(a,.val v,q,none)=>some (⟨.nI c v,none,none,none⟩,a,oC c (q++p.2.map λd=>d=true))
   |_=>none
 |_=>none
def orElse {b:Type}(x y:Option b):Option b:=match x with|some a=>some a|none=>y
def qS (C:fE)(sp:Spec)(d:Nat->Option bL)(all:Array Oper)(a:List AT)(b:Nat->Option bL)(ν:LV)(id:Nat)(o:Oper):Option (gH×List (Int×Nat)×List Prop):=
 match gd all a o with
 |.yes=>(evalOp C.P (iW a) b o.op).bind (eY C.bt sp d b ν id)
 |.no=>some (⟨.gG,none,none,none⟩,[],[])
 |.cond c=>orElse ((evalOp C.P (iW a) b o.op).bind (fU c sp d ν id)) (kC c sp d ν id (iW a) o.op)
 |.bad=>none
def iN (id:Nat)(e:gH)(a:Nat->Option bL):Nat->Option bL:=
 match e.new with
 |some B=>mG a id B e.app
 |none=>match e.nB with
  |some (b,cs)=>match a b with
   |some B=>setB a b {B with cs:=cs}
   |none=>a
  |none=>a
def xR (id:Nat)(e:gH)(l:List (Nat×bL)):List (Nat×bL):=
 match e.new with
 | some B=>(match e.app with
  |none=>(id,B)::l
  |some b=>match look l b with
   |some _=>oQ ((id,B)::l) b
   |none=>(id,B)::l)
 |none=>match e.nB with
  |some (b,cs)=>jT l b cs
  |none=>l
section
variable {C:fE} {w0:World} {ψ:LI} {sp:Spec}
def Hk:AT->AT
 |.nI c v=>bif c then .val v else .nI c v
 |t=>t
theorem aUk {n:World}{t:AT}{x:Value}(h:relT C φ ν n t x):relT C φ ν n (Hk t) x:=by
 cases t with
 |nI c v=>
  cases c with
  |true=>simpa[Hk,relT]using h
  |false=>exact h
 |_=>exact h
theorem aKc:∀{ts:List AT} {a:List AV} {cs:List Bool},pB ts=some (a,cs)->(∀d∈cs,d=true)->qL (ts.map Hk)=some a
 | [],a,cs,h,_=>by simp[pB]at h;rw[h.1];rfl
 |.val v::r,a,cs,h,hc=>by
  simp only[pB]at h;obtain⟨p,b,f⟩:=bU h;cases f;simp only[n4,Hk,qL,aKc b hc,Option.map_some]
 |.nI c v::r,a,cs,h,hc=>by
  simp only[pB]at h;obtain⟨p,b,f⟩:=bU h;cases f;have e:c=true:=hc c (by simp);subst e;simp only[n4,Hk,cond_true,qL,aKc b (λd g=>hc d (by simp[g])),Option.map_some]
 |.top::_,_,_,h,_=>by simp[pB]at h
 |.gG::_,_,_,h,_=>by simp[pB]at h
 |.tup _::_,_,_,h,_=>by simp[pB]at h
variable {p:List Prop}
theorem aE5 {id:Nat}{c:Bool}{l:Nat->Option bL}{b:LV}{j:Operand->AT}{op:Op}{e:gH}(h:kC c sp l ν id j op=some (e,b,p)):∃f args ts g cs a v q,op=.call { callee:=.value (.func f),args:=args,argTypes:=ts}/\pB (args.toList.map j)=some (g,cs)/\sp f false ν id l g=some (a,.val v,q,none)/\e=⟨.nI c v,none,none,none⟩/\b=a/\p=oC c (q++cs.map λd=>d=true):=by
 unfold kC at h;split at h
 .rename_i f args ts;obtain⟨⟨g,cs⟩,n,o⟩:=aS h;obtain⟨⟨a,r,q,i⟩,s,k⟩:=aS o
  cases r<;>cases i<;>simp only at k<;>try cases k
  exact⟨f,args,ts,g,cs,_,_,_,rfl,n,s,rfl,rfl,rfl⟩
 .cases h
theorem aVR (am:SpecOk C w0 ψ sp){tm:List AT}{xb F:Nat->Option bL}{nb:Nat->Prop}{id i:Nat}{s ak:LV}{dirty:NU}{a:Act}{all:Array Oper}{o:Oper}{e:gH}{Q:AW}{K:LL}
  (ho:all[i]?=some o) (h:RepF C w0 ψ φ F nb s dirty w) (S:a.defers=[]) (H:All2 (relT C φ s w) tm a.tmps.toList) (l:qS C sp xb all tm F ν id o=some (e,ak,p)) (hp:Holds p) (ao:∀b B,xb b=some B->F b=some B) (ap:∀(i:Nat) (x:Int×Nat),(ν++ak)[i]?=some x->s[i]?=some x)
  (ai:nb id) (T:∀b cs,e.nB=some (b,cs)->b∈dirty)
  (hK:∀N a' M,RepF C w0 ψ N (iN id e F) (λb=>nb b/\b≠id) s dirty M->a'.defers=[]->All2 (relT C N s M) (putT tm o.dst e.res) a'.tmps.toList->Ext C φ N s s w M->K a' M):wpOp C.P all Q i K a w:=by
 unfold wpOp;simp only[ho];have U:=Qd (all:=all) (o:=o) H
 have L:RepF C w0 ψ φ F (λb=>nb b/\b≠id) s dirty w:=h.cQ λ_ u=>u.1
 have skip:∀r,e=⟨r,none,none,none⟩->relT C φ s w r undef->K (a.put o.dst undef) w:=by
  rintro r rfl hr;exact hK φ _ w L (by rw[rL];exact S) (rP H o.dst hr) (Ext.refl _ _ _)
 have go:∀(ev:Operand->AT),(∀x,relT C φ s w (ev x) (a.eval x))->∀(f:nN) (e':gH) (p:List Prop),Holds p->evalOp C.P ev F o.op=some f->eY C.bt sp xb F ν id f=some (e',ak,p)->(e'.new=e.new/\e'.nB=e.nB/\e'.app=e.app/\∀φ w v,relT C φ s w e'.res v->relT C φ s w e.res v)->o.wp C.P a w K Q:=by
  intro ev D f e' p hp J g j
  have hB:iN id e F=iN id e' F:=by unfold iN;rw[j.1,j.2.1,j.2.2.1]
  rw[hB]at hK;unfold Oper.wp
  cases f with
  |val r q=>
   simp only[eY,j9,n5]at g;obtain⟨rfl,rfl,rfl⟩:=g;obtain⟨v,X,Y⟩:=wS (o:=o) D h.box (λ_=>rfl) (λf R e=>by cases e) J hp;rw[X];exact hK φ _ w L (by rw[rL];exact S) (rP H o.dst (j.2.2.2 _ _ _ Y)) (Ext.refl _ _ _)
  |new cs ty sl=>
   simp only[eY,j9,n5]at g;obtain⟨rfl,rfl,rfl⟩:=g;obtain⟨xs,X,Y,r3⟩:=wS (o:=o) D h.box (λ_=>rfl) (λf R e=>by cases e) J;rw[X];obtain⟨k1,I⟩:=h.new (n:=id) ai (B:=⟨cs,ty,true,sl.isSome,sl.isSome⟩) (post:=[]) (d:=w.drawn) Y rfl (λh=>h) (λ_=>rfl);rw[l7]at k1 I;exact hK _ _ _ k1 (by rw[rL];exact S) (rP (H.mono (xI I)) o.dst (j.2.2.2 _ _ _ (aOe r3))) I
  |app old cs ty len size=>
   simp only[eY]at g
   cases u:C.bt.contains ty with
   |false=>rw[u]at g;cases g
   |true=>
    rw[u]at g;simp only[cond_true,j9,n5]at g;obtain⟨rfl,rfl,rfl⟩:=g;obtain⟨v,M,a7,X,Y,r3,r4⟩:=wS (o:=o) D h.box (λ_=>rfl) (λf R e=>by cases e) J;rw[X];obtain⟨N,k1,I,k3⟩:=aMU h (n:=id) ai Y r3 u r4;exact hK N _ _ k1 (by rw[rL];exact S) (rP (H.mono (xI I)) o.dst (j.2.2.2 _ _ _ k3)) I
  |nB b cs=>
   simp only[eY]at g;obtain⟨B,O,z⟩:=aS g
   cases u:C.bt.contains B.ty with
   |false=>rw[u]at z;cases z
   |true=>
    rw[u]at z;simp only[cond_true,j9,n5]at z;obtain⟨rfl,rfl,rfl⟩:=z;obtain⟨B',k,oo,M,a4,ys,ae,zs,m1,mr,m2,m3,m4,m5,m6,m7,m8,m9⟩:=wS (o:=o) D h.box (λ_=>rfl) (λf R e=>by cases e) J;rw[O]at m1;cases m1;rw[m3];obtain⟨k1,I⟩:=h.nB (dirty':=dirty) O mr m2 m4 m5 m6 m7 m8 m9 u (λ_ A=>A) (q7 (T b cs (by rw[<-j.2.1])))
    have e2:iN id ⟨.gG,none,some (b,cs),none⟩ F=setB F b {B with cs:=cs}:=by simp only[iN,O]
    rw[<-e2]at k1;exact hK _ _ _ (k1.cQ λ_ u=>u.1) (by rw[rL];exact S) (rP (H.mono (xI I)) o.dst (j.2.2.2 _ _ _ rfl)) I
  |call f R=>
   simp only[eY]at g;obtain⟨⟨aa,r,q,aj⟩,O,z⟩:=aS g
   cases aj with
   |some B=>
    simp only[j9,n5]at z;obtain⟨rfl,rfl,rfl⟩:=z;obtain⟨ah,hc⟩:=am f false ν id xb R aa r q (some B) O;obtain⟨xs,X,Y⟩:=wS (o:=o) D h.box (λ_=>rfl) (λf' a6 e=>by cases e;exact ah) J;rw[X];refine(hc hp s ap φ w xs h.base (λe=>by cases e) h.on (λb B e=>h.box b B (ao b B e)) Y).mono ?_;rintro e M⟨v,rfl,u,b1,b2,k,o',a4,ys,ae,m1,m2,m3,m4,m5,m6⟩;obtain⟨k1,I⟩:=h.got (n:=id) ai u (λ_ _ h=>h) m1 m2 m3 m4 b1 b2 m6;exact hK _ _ M k1 (by rw[rL];exact S) (rP (H.mono (xI I)) o.dst (j.2.2.2 _ _ _ m5)) I
   |none=>
   simp only[j9,n5]at z;obtain⟨rfl,rfl,rfl⟩:=z;obtain⟨ah,hc⟩:=am f false ν id xb R aa r q none O;obtain⟨xs,X,Y⟩:=wS (o:=o) D h.box (λ_=>rfl) (λf' a6 e=>by cases e;exact ah) J;rw[X];refine(hc hp s ap φ w xs h.base (λe=>by cases e) h.on (λb B e=>h.box b B (ao b B e)) Y).mono ?_;rintro e M⟨v,rfl,u,hv⟩
   have A:Ext C φ φ s s w M:=⟨λ_ _ h=>h,λ_ _ h=>h,On.below u⟩
   exact hK φ _ M (L.later u s (λ_ _ h=>h)) (by rw[rL];exact S) (rP (H.mono (xI A)) o.dst (j.2.2.2 _ _ _ hv)) A
 unfold qS at l
 cases W:gd all tm o with
 |yes=>
  rw[W]at U l;simp only at U l;obtain⟨f,J,g⟩:=aS l;rw[if_pos U];exact Or.inl (go _ (tU H) f e p hp J g ⟨rfl,rfl,rfl,λ_ _ _ h=>h⟩)
 |no=>
  rw[W]at U l;simp only[j9,n5]at U l;obtain⟨rfl,rfl,rfl⟩:=l;rw[if_neg (by simp[U])];exact skip _ rfl rfl
 |cond c=>
  rw[W]at U l;simp only at U l;rw[U]
  have two:∀v,e=⟨.nI c v,none,none,none⟩->(c=true->o.wp C.P a w K Q)->if c=true then o.wp C.P a w K Q\/(o.asks C.P a w/\LetsOut Q)else K (a.put o.dst undef) w:=by
   intro v hv hw
   cases c with
   |true=>simp only[if_true];exact Or.inl (hw rfl)
   |false=>simp only[p8,if_false];exact skip _ hv (by simp[relT])
  cases A:(evalOp C.P (iW tm) F o.op).bind (fU c sp xb ν id)with
  |none=>
   rw[A]at l;simp only[orElse]at l;obtain⟨f,args,ts,R,cs,aa,v,q,ay,hu,O,rfl,rfl,rfl⟩:=aE5 l
   refine two v rfl λhc=>?_
   subst hc;have E:=Nx hp rfl
   have ax:∀d∈cs,d=true:=λd S=>E (d=true) (List.mem_append_right _ (List.mem_map.2 ⟨d,S,rfl⟩))
   refine go (λx=>Hk (iW tm x)) (λx=>aUk (tU H x)) (.call f R) ⟨.val v,none,none,none⟩ q (λy hy=>E y (List.mem_append_left _ hy)) ?_ (by simp[eY,O]) ⟨rfl,rfl,rfl,λφ w x A=>by simpa[relT]using A⟩;rw[ay];simp only[evalOp];have:=aKc hu ax;rw[List.map_map]at this;rw[show(λx=>Hk (iW tm x))=(Hk∘iW tm)from rfl,this];rfl
  |some y=>
  rw[A]at l;simp only[orElse,j9]at l;subst l;obtain⟨f,J,g⟩:=aS A
  cases f with
  |val r q=>
   cases r with
   |val v=>
    simp only[fU,j9,n5]at g;obtain⟨rfl,rfl,rfl⟩:=g
    refine two v rfl λhc=>?_
    subst hc;have E:=Nx hp rfl;exact go _ (tU H) (.val (.val v) q) ⟨.val v,none,none,none⟩ q E J rfl ⟨rfl,rfl,rfl,λφ w x A=>by simpa[relT]using A⟩
   |_=>simp[fU]at g
  |call f R=>
   simp only[fU]at g;obtain⟨⟨aa,r,q,aj⟩,O,z⟩:=aS g
   cases r with
   |val v=>
    cases aj with
    |some B=>simp at z
    |none=>
    simp only[j9,n5]at z;obtain⟨rfl,rfl,rfl⟩:=z
    refine two v rfl λhc=>?_
    subst hc;have E:=Nx hp rfl;exact go _ (tU H) (.call f R) ⟨.val v,none,none,none⟩ q E J (by simp[eY,O]) ⟨rfl,rfl,rfl,λφ w x A=>by simpa[relT]using A⟩
   |_=>simp at z
  |_=>simp[fU]at g
 |bad=>rw[W]at l;cases l
end
end Ab
end Go.Proofs.YtpdflaaamaokbaaGreatDoor
