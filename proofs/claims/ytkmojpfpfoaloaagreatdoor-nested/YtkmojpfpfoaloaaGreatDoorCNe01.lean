import Derived.Test.YtkmojpfpfoaloaaGreatDoorCNe00
set_option linter.all false
set_option maxRecDepth 100000
set_option maxHeartbeats 2000000
namespace Go.Proofs.YtkmojpfpfoaloaaGreatDoor
open Go.RowKit
namespace Ab
structure AS where
 tmps:List AT
 boxes:List (Nat×bO)
 next:Nat
 nums:List (Int×Nat)
 dirty:List Nat
def look:List (Nat×bO)->Nat->Option bO
 | [],_=>none
 |(i,B)::r,b=>bif i==b then some B else look r b
def kY:List (Nat×bO)->Nat->List AC->List (Nat×bO)
 | [],_,_=>[]
 |(i,B)::r,b,cs=>bif i==b then(i,{B with cs:=cs})::r else(i,B)::kY r b cs
theorem Yp {b k:Nat}{cs:List AC}:∀{l:List (Nat×bO)},look (kY l b cs) k=if k=b then(look l b).map (fun B=>{B with cs:=cs})else look l k
 | []=>by simp[kY,look]
 |(i,B)::r=>by
  unfold kY
  cases h:i==b with
  |true=>
   have:i=b:=by simpa using h
   subst this;simp only[cond_true,look]
   by_cases e:i=k
   ·subst e;simp
   ·have a:(i==k)=false:=by simpa using e
    have d:¬k=i:=fun x=>e x.symm
    simp[a,d]
  |false=>
   have f:¬i=b:=by simpa using h
   simp only[cond_false,look];rw[Yp]
   by_cases e:i=k
   ·subst e;simp[f]
   ·have a:(i==k)=false:=by simpa using e
    simp[a,h]
def iS (tmps:List AT):Operand->AT
 |.tmp t=>tmps.getD t .gC
 |.const v=>vW v
 |.global _=>.top
 |.func f=>.val (.one (.lit (.func (.func f) #[] #[])))
def setB (bx:Nat->Option bO)(b:Nat)(B:bO):Nat->Option bO:=fun x=>if x=b then some B else bx x
structure RepF (C:fF) (w0:World) (ψ:Nat->Option (Nat×Nat)) (φ:Nat->Option (Nat×Nat)) (bx:Nat->Option bO) (nb:Nat->Prop) (ν:List (Int×Nat)) (dirty:List Nat) (w:World):Prop where
 box:wO C φ ν w bx
 own:∀b B k o,bx b=some B->B.own=true->φ b=some (k,o)->w0.heap.size<=k
 inj:∀b b' B B' k o o',bx b=some B->bx b'=some B'->φ b=some (k,o)->φ b'=some (k,o')->b=b'\/(B.ro=true/\B'.ro=true/\¬(B.tip=true/\B'.tip=true)/\(B.tip=true->o'+B'.cs.length<=o+B.cs.length))
 tip:∀b B,bx b=some B->B.tip=true->B.own=true/\B.ro=true
 fresh:∀b,nb b->φ b=none
 lt:∀b k o,φ b=some (k,o)->k<w.heap.size
 low:∀k,k<w0.heap.size->(∀b∈dirty,∀o,φ b≠some (k,o))->w.heap[k]?=w0.heap[k]?
 on:On C.bt w0 w
 base:∀b x,ψ b=some x->φ b=some x
 pV:∀b B k o,bx b=some B->B.own=true->B.ro=false->φ b=some (k,o)->o=0/\w.shape? k=some (B.ty,B.cs.length)
abbrev RepW (C:fF)(w0:World)(ψ:Nat->Option (Nat×Nat))(φ:Nat->Option (Nat×Nat))(s:AS)(w:World):Prop:=RepF C w0 ψ φ (look s.boxes) (fun b=>s.next<=b) s.nums s.dirty w
structure Rep (C:fF) (w0:World) (ψ:Nat->Option (Nat×Nat)) (φ:Nat->Option (Nat×Nat)) (s:AS) (a:Act) (w:World):Prop where
 wd:RepW C w0 ψ φ s w
 defers:a.defers=[]
 tmps:All2 (relT C φ s.nums w) s.tmps a.tmps.toList
variable {C:fF}{φ:Nat->Option (Nat×Nat)}{ν:List (Int×Nat)}{w:World}
theorem tQ {b:List AT}{a:Act}(h:All2 (relT C φ ν w) b a.tmps.toList)(x:Operand):relT C φ ν w (iS b x) (a.eval x):=by
 cases x with
 |tmp t=>
  simp only[iS,Act.eval]
  by_cases j:t<b.length
  ·obtain⟨v,k,n⟩:=h.at (List.getElem?_eq_getElem j)
   have e:b.getD t .gC=b[t]:=by simp[List.getD,List.getElem?_eq_getElem j]
   have i:a.tmps.getD t undef=v:=by
    rw[Array.getD_eq_getD_getElem?];rw[Array.getElem?_toList]at k;simp[k]
   rw[e,i];exact n
  ·have d:b.length<=t:=Nat.le_of_not_lt j
   have e:b.getD t .gC=.gC:=by simp[List.getD,List.getElem?_eq_none d]
   have l:=h.len;simp at l
   have i:a.tmps.getD t undef=undef:=by
    rw[Array.getD_eq_getD_getElem?,Array.getElem?_eq_none (by rw[<-l];exact d)];rfl
   rw[e,i];rfl
 |const v=>exact aNy v
 |global g=>trivial
 |func f=>exact⟨rfl,rfl⟩
def putT (a:List AT):Option Tmp->AT->List AT
 |some d,v=>a.set d v
 |none,_=>a
theorem rH {b:List AT}{a:Act}(h:All2 (relT C φ ν w) b a.tmps.toList)(dst:Option Tmp){t:AT}{z:Value}(hv:relT C φ ν w t z):All2 (relT C φ ν w) (putT b dst t) (a.put dst z).tmps.toList:=by
 cases dst with
 |none=>exact h
 |some d=>
  simp only[putT,Act.put];rw[Array.toList_setIfInBounds];exact h.set d hv
section
variable {C:fF} {w0:World} {ψ:Nat->Option (Nat×Nat)} {φ:Nat->Option (Nat×Nat)} {bx:Nat->Option bO} {nb:Nat->Prop} {ν:List (Int×Nat)} {dirty:List Nat} {w w':World}
theorem RepF.cT {a:Nat->Prop}(h:RepF C w0 ψ φ bx nb ν dirty w)(e:∀b,a b->nb b):RepF C w0 ψ φ bx a ν dirty w:=⟨h.box,h.own,h.inj,h.tip,fun b d=>h.fresh b (e b d),h.lt,h.low,h.on,h.base,h.pV⟩
theorem RepF.later (h:RepF C w0 ψ φ bx nb ν dirty w)(d:Below w.heap.size w w')(a:List (Int×Nat))(q:∀(i:Nat) (x:Int×Nat),ν[i]?=some x->a[i]?=some x):RepF C w0 ψ φ bx nb a dirty w':=by
 have e:Ext C φ φ ν a w w':=⟨fun _ _ h=>h,q,On.below d⟩
 refine⟨fun b B s=>?_,h.own,h.inj,h.tip,h.fresh,fun b k o p=>Nat.lt_of_lt_of_le (h.lt b k o p) d.size,fun k p u=>?_,h.on.trans (On.below d),h.base,fun b B k o j f l n=>⟨(h.pV b B k o j f l n).1,(On.below (bt:=C.bt) d).shape (h.pV b B k o j f l n).2⟩⟩
 ·obtain⟨k,o,r,v,g,j,f,l,n⟩:=h.box b B s;exact⟨k,o,r,v,g,j,by rw[d.block k (gU f)];exact f,l,n.mono (wZ e)⟩
 ·rw[d.block k (Nat.lt_of_lt_of_le p h.on.size)];exact h.low k p u
def oW (φ:Nat->Option (Nat×Nat))(b:Nat)(k:Nat×Nat):Nat->Option (Nat×Nat):=fun x=>if x=b then some k else φ x
theorem oV (φ:Nat->Option (Nat×Nat))(b:Nat)(k:Nat×Nat):oW φ b k b=some k:=by simp[oW]
variable {b:Nat}
theorem kR {x:Nat}{k:Nat×Nat}(h:x≠b):oW φ b k x=φ x:=by simp[oW,h]
theorem rT (bx:Nat->Option bO)(b:Nat)(B:bO):setB bx b B b=some B:=by simp[setB]
variable {B:bO}
theorem mH {x:Nat}(h:x≠b):setB bx b B x=bx x:=by simp[setB,h]
variable {i:List Value}
theorem RepF.new (h:RepF C w0 ψ φ bx nb ν dirty w){n:Nat}(O:nb n){post:List Value}{d:Nat}(hc:All2 (relC C φ ν w) B.cs i)(M:B.own=true)(R:B.tip=true->B.ro=true)(H:B.ro=false->post=[]):
  RepF C w0 ψ (oW φ n (w.heap.size,0)) (setB bx n B) (fun b=>nb b/\b≠n) ν dirty {w with heap:=w.heap.push (.cells (i++post).toArray B.ty),drawn:=d}/\Ext C φ (oW φ n (w.heap.size,0)) ν ν w {w with heap:=w.heap.push (.cells (i++post).toArray B.ty),drawn:=d}:=by
 generalize g:({w with heap:=w.heap.push (.cells (i++post).toArray B.ty),drawn:=d}:World)=w'
 have P:w'.heap.size=w.heap.size+1:=by rw[<-g];simp
 have hold:∀k,k<w.heap.size->w'.heap[k]?=w.heap[k]?:=by
  intro k f;rw[<-g];show(w.heap.push _)[k]?=_;rw[Array.getElem?_push,if_neg (by omega)]
 have r:w'.heap[w.heap.size]?=some (.cells (i++post).toArray B.ty (0,0)):=by rw[<-g];simp
 have u:On C.bt w w':=⟨by rw[<-g],by rw[<-g],by rw[<-g],by omega,fun k o s=>Or.inl (by rw[hold k (gU s)];exact s)⟩
 have F:∀b k,φ b=some k->b≠n:=by
  rintro b k j rfl;rw[h.fresh b O]at j;cases j
 have y:Ext C φ (oW φ n (w.heap.size,0)) ν ν w w':=⟨fun b k j=>by rw[kR (F b k j)];exact j,fun _ _ h=>h,u⟩
 refine⟨⟨fun b l a=>?_,fun b l k o a s f=>?_,fun b D L B2 k o S E z p q=>?_,fun b l a A=>?_,fun b j=>?_,fun b k o f=>?_,fun k f N=>?_,h.on.trans u,fun b x e=>y.φ b x (h.base b x e),fun b l k o a s I f=>?_⟩,y⟩
 ·by_cases e:b=n
  ·subst e;rw[rT]at a;cases a;exact⟨w.heap.size,0,[],i,post,oV _ _ _,by simpa using r,rfl,hc.mono (wZ y)⟩
  ·rw[mH e]at a;obtain⟨k,o,J,U,T,E,z,p,q⟩:=h.box b l a;exact⟨k,o,J,U,T,y.φ b _ E,by rw[hold k (gU z)];exact z,p,q.mono (wZ y)⟩
 ·by_cases e:b=n
  ·subst e;rw[oV]at f;cases f;exact h.on.size
  ·rw[mH e]at a;rw[kR e]at f;exact h.own b l k o a s f
 ·by_cases e:b=n
  ·by_cases v:D=n
   ·exact Or.inl (by rw[e,v])
   ·subst e;rw[oV]at p;rw[kR v]at q;cases p;have:=h.lt D _ _ q;omega
  ·by_cases v:D=n
   ·subst v;rw[oV]at q;rw[kR e]at p;cases q;have:=h.lt b _ _ p;omega
   ·rw[mH e]at E;rw[mH v]at z;rw[kR e]at p;rw[kR v]at q;exact h.inj b D L B2 k o S E z p q
 ·by_cases e:b=n
  ·subst e;rw[rT]at a;cases a;exact⟨M,R A⟩
  ·rw[mH e]at a;exact h.tip b l a A
 ·rw[kR j.2];exact h.fresh b j.1
 ·by_cases e:b=n
  ·subst e;rw[oV]at f;cases f;omega
  ·rw[kR e]at f;have:=h.lt b k o f;omega
 ·have:=h.on.size;rw[hold k (by omega)]
  exact h.low k f fun b j o e=>N b j o (y.φ b _ e)
 ·by_cases e:b=n
  ·subst e;rw[rT]at a;cases a;rw[oV]at f;cases f;refine⟨rfl,?_⟩;unfold World.shape?;rw[r,H I];simp[hc.len]
  ·rw[mH e]at a;rw[kR e]at f;exact⟨(h.pV b l k o a s I f).1,u.shape (h.pV b l k o a s I f).2⟩
variable {k:Nat}
theorem RepF.got (h:RepF C w0 ψ φ bx nb ν dirty w){n p:Nat}(hn:nb n){g R l:List Value}{r:List (Int×Nat)}(f:Below w.heap.size w w')(H:∀(i:Nat) (x:Int×Nat),ν[i]?=some x->r[i]?=some x)(X:w.heap.size<=k)(L:w'.heap[k]?=some (.cells (g++R++l).toArray B.ty (0,0)))(S:g.length=p)(hc:All2 (relC C φ r w') B.cs R)(Y:B.own=true)(ht:B.tip=true->B.ro=true)(P:B.ro=false->g=[]/\l=[]):
  RepF C w0 ψ (oW φ n (k,p)) (setB bx n B) (fun b=>nb b/\b≠n) r dirty w'/\Ext C φ (oW φ n (k,p)) ν r w w':=by
 have E:=h.later f r H
 have N:∀b k,φ b=some k->b≠n:=by
  rintro b k f rfl;rw[h.fresh b hn]at f;cases f
 have s:Ext C φ (oW φ n (k,p)) r r w' w':=⟨fun b k f=>by rw[kR (N b k f)];exact f,fun _ _ h=>h,On.refl _ _⟩
 have J:Ext C φ (oW φ n (k,p)) ν r w w':=⟨s.φ,H,On.below f⟩
 have M:=gU L;refine⟨⟨fun b q a=>?_,fun b q u p a O d=>?_,fun b I U B2 u p o' A D y z=>?_,fun b q a F=>?_,fun b f=>?_,fun b u p d=>?_,fun j hj hd=>?_,E.on,fun b x e=>J.φ b x (h.base b x e),fun b q u p a O T d=>?_⟩,J⟩
 ·by_cases e:b=n
  ·subst e;rw[rT]at a;cases a;exact⟨k,p,g,R,l,oV _ _ _,L,S,hc.mono (wZ s)⟩
  ·rw[mH e]at a;obtain⟨j,p,g,ys,ps,f1,f2,f3,W⟩:=E.box b q a;exact⟨j,p,g,ys,ps,J.φ b _ f1,f2,f3,W.mono (wZ s)⟩
 ·by_cases e:b=n
  ·subst e;rw[oV]at d;cases d;exact Nat.le_trans h.on.size X
  ·rw[mH e]at a;rw[kR e]at d;exact h.own b q u p a O d
 ·by_cases e:b=n
  ·by_cases v:I=n
   ·exact Or.inl (by rw[e,v])
   ·subst e;rw[oV]at y;rw[kR v]at z;cases y;have:=h.lt I _ _ z;omega
  ·by_cases v:I=n
   ·subst v;rw[oV]at z;rw[kR e]at y;cases z;have:=h.lt b _ _ y;omega
   ·rw[mH e]at A;rw[mH v]at D;rw[kR e]at y;rw[kR v]at z;exact h.inj b I U B2 u p o' A D y z
 ·by_cases e:b=n
  ·subst e;rw[rT]at a;cases a;exact⟨Y,ht F⟩
  ·rw[mH e]at a;exact h.tip b q a F
 ·rw[kR f.2];exact h.fresh b f.1
 ·by_cases e:b=n
  ·subst e;rw[oV]at d;cases d;exact M
  ·rw[kR e]at d;exact E.lt b u p d
 ·exact E.low j hj fun b f p e=>hd b f p (J.φ b _ e)
 ·by_cases e:b=n
  ·subst e;rw[rT]at a;cases a;rw[oV]at d;cases d;obtain⟨rfl,rfl⟩:=P T;refine⟨S.symm,?_⟩;unfold World.shape?;rw[L];simp[hc.len]
  ·rw[mH e]at a;rw[kR e]at d;exact E.pV b q u p a O T d
theorem RepF.Rm (h:RepF C w0 ψ φ bx nb ν dirty w)(N:bx b=some B):RepF C w0 ψ φ (setB bx b {B with tip:=false}) nb ν dirty w:=by
 have f:∀c D,setB bx b {B with tip:=false} c=some D->∃d,bx c=some d/\d.cs=D.cs/\d.ty=D.ty/\d.own=D.own/\d.ro=D.ro/\(D.tip=true->d.tip=true):=by
  intro c D g
  by_cases e:c=b
  ·subst e;rw[rT]at g;cases g;exact⟨B,N,rfl,rfl,rfl,rfl,fun e=>by cases e⟩
  ·rw[mH e]at g;exact⟨D,g,rfl,rfl,rfl,rfl,fun e=>e⟩
 refine⟨fun c D g=>?_,fun c D k o g u s=>?_,fun c x D d k o W I J L M=>?_,fun c D g P=>?_,h.fresh,h.lt,h.low,h.on,h.base,fun c D k o g u O s=>?_⟩
 ·obtain⟨d,i,j,r,_⟩:=f c D g;obtain⟨k,o,v,X,q,f1,f2,f3,A⟩:=h.box c d i;exact⟨k,o,v,X,q,f1,by rw[<-r];exact f2,f3,by rw[<-j];exact A⟩
 ·obtain⟨d,i,_,_,l,_⟩:=f c D g;exact h.own c d k o i (by rw[l];exact u) s
 ·obtain⟨E,i,j,_,_,n,p⟩:=f c D I;obtain⟨y,f1,f2,_,_,F,H⟩:=f x d J
  rcases h.inj c x E y k o W i f1 L M with e|⟨R,S,T,U⟩
  ·exact Or.inl e
  ·exact Or.inr ⟨by rw[<-n];exact R,by rw[<-F];exact S,fun⟨a,b⟩=>T ⟨p a,H b⟩,fun a=>by rw[<-f2,<-j];exact U (p a)⟩
 ·obtain⟨d,i,_,_,l,n,p⟩:=f c D g;obtain⟨a1,z⟩:=h.tip c d i (p P);exact⟨by rw[<-l];exact a1,by rw[<-n];exact z⟩
 ·obtain⟨d,i,j,r,l,n,p⟩:=f c D g;rw[<-j,<-r];exact h.pV c d k o i (by rw[l];exact u) (by rw[n];exact O) s
theorem RepF.mQ (h:RepF C w0 ψ φ bx nb ν dirty w){p:Nat}{cs:List AC}{ys n M:List Value}{dirty':List Nat}(z:bx b=some B)(s:B.ro=false)(J:φ b=some (k,p))(q:jP w w' k (i++M++n) B.ty)(h0:w.heap[k]?=some (.cells (i++ys++n).toArray B.ty (0,0)))(hp:i.length=p)(hl:ys.length=M.length)(hc:All2 (relC C φ ν w) cs M)(T:cs.length=B.cs.length)(ht:C.bt.contains B.ty=true)(U:∀x∈dirty,x∈dirty')(W:B.own=true\/b∈dirty'):
  RepF C w0 ψ φ (setB bx b {B with cs:=cs}) nb ν dirty' w'/\Ext C φ φ ν ν w w':=by
 have r:On C.bt w w':=⟨q.os,q.tape,q.output,by rw [q.size];exact Nat.le_refl _,fun j x ho=>by
  by_cases e:j=k
  ·subst e;rw[h0]at ho;cases ho;refine Or.inr ⟨ht,?_⟩;unfold World.shape?;rw[q.cD,h0];simp[hl]
  ·exact Or.inl (by rw[q.others j e];exact ho)⟩
 have L:Ext C φ φ ν ν w w':=⟨fun _ _ h=>h,fun _ _ h=>h,r⟩
 have F:B.tip=false:=by
  cases e:B.tip with
  |false=>rfl
  |true=>have:=(h.tip b B z e).2;rw[s]at this;cases this
 have f:∀c D,setB bx b {B with cs:=cs} c=some D->(c=b/\D={B with cs:=cs})\/(c≠b/\bx c=some D):=by
  intro c D a
  by_cases e:c=b
  ·subst e;rw[rT]at a;cases a;exact Or.inl ⟨rfl,rfl⟩
  ·rw[mH e]at a;exact Or.inr ⟨e,a⟩
 refine⟨⟨fun c D a=>?_,fun c D g l a ho d=>?_,fun c E D I g o1 o2 h1 h2 P R=>?_,fun c D a u=>?_,h.fresh,fun c g l d=>by rw[q.size];exact h.lt c g l d,fun j hj hd=>?_,h.on.trans r,fun b x e=>L.φ b x (h.base b x e),fun c D g l a ho Y d=>?_⟩,L⟩
 ·rcases f c D a with⟨rfl,rfl⟩|⟨e,a⟩
  ·exact⟨k,p,i,M,n,J,q.cD,hp,hc.mono (wZ L)⟩
  ·obtain⟨j,l,H,aa,A,j1,j2,j3,j4⟩:=h.box c D a;refine⟨j,l,H,aa,A,j1,?_,j3,j4.mono (wZ L)⟩;rw[q.others j (fun N=>?_)]
   ·exact j2
   ·subst N
    rcases h.inj b c B D j p l z a J j1 with y|⟨v,_⟩
    ·exact e y.symm
    ·rw[s]at v;cases v
 ·rcases f c D a with⟨rfl,rfl⟩|⟨e,a⟩
  ·exact h.own c B g l z ho d
  ·exact h.own c D g l a ho d
 ·rcases f c D h1 with⟨rfl,rfl⟩|⟨e,g1⟩
  ·rcases f E I h2 with⟨rfl,rfl⟩|⟨N,O⟩
   ·exact Or.inl rfl
   ·rcases h.inj c E B I g o1 o2 z O P R with y|⟨v,_⟩
    ·exact Or.inl y
    ·rw[s]at v;cases v
  ·rcases f E I h2 with⟨rfl,rfl⟩|⟨N,O⟩
   ·rcases h.inj c E D B g o1 o2 g1 z P R with y|⟨_,v,_⟩
    ·exact Or.inl y
    ·rw[s]at v;cases v
   ·exact h.inj c E D I g o1 o2 g1 O P R
 ·rcases f c D a with⟨rfl,rfl⟩|⟨e,a⟩
  ·simp only at u;rw[F]at u;cases u
  ·exact h.tip c D a u
 ·have X:j≠k:=by
   rintro rfl
   rcases W with ho|ho
   ·have:=h.own b B j p z ho J;omega
   ·exact hd b ho p J
  rw[q.others j X]
  exact h.low j hj fun b' S=>hd b' (U b' S)
 ·rcases f c D a with⟨rfl,rfl⟩|⟨e,a⟩
  ·obtain⟨e1,y⟩:=h.pV c B g l z ho Y d;exact⟨e1,by simp only;rw[T];exact r.shape y⟩
  ·exact⟨(h.pV c D g l a ho Y d).1,r.shape (h.pV c D g l a ho Y d).2⟩
theorem RepF.place (h:RepF C w0 ψ φ bx nb ν dirty w){n:Nat}(hn:nb n){W:Nat}{D:bO}{q s new d:List Value}(hB:bx b=some B)(H:B.tip=true)(J:φ b=some (k,W))(h0:w.heap[k]?=some (.cells (i++q++s).toArray B.ty (0,0)))(hp:i.length=W)(hy:All2 (relC C φ ν w) B.cs q)
  (A:jP w w' k (i++(q++new)++d) B.ty) (hl:new.length+d.length=s.length) (hc:All2 (relC C φ ν w) D.cs (q++new)) (S:D.ty=B.ty/\D.own=true/\D.ro=true) (ht:C.bt.contains B.ty=true):
  RepF C w0 ψ (oW φ n (k,W)) (setB (setB bx n D) b {B with tip:=false}) (fun x=>nb x/\x≠n) ν dirty w'/\Ext C φ (oW φ n (k,W)) ν ν w w':=by
 have N:b≠n:=by rintro rfl;rw[h.fresh b hn]at J;cases J
 have ar:∀c x,φ c=some x->c≠n:=by rintro c x hc rfl;rw[h.fresh c hn]at hc;cases hc
 have ah:(i++(q++new)++d).length=(i++q++s).length:=by simp;omega
 have U:On C.bt w w':=⟨A.os,A.tape,A.output,by rw [A.size];exact Nat.le_refl _,fun j x R=>by
  by_cases e:j=k
  ·subst e;rw[h0]at R;cases R;refine Or.inr ⟨ht,?_⟩;unfold World.shape?;rw[A.cD,h0];simp only[List.size_toArray];rw[ah]
  ·exact Or.inl (by rw[A.others j e];exact R)⟩
 have L:Ext C φ (oW φ n (k,W)) ν ν w w':=⟨fun c x hc=>by rw[kR (ar c x hc)];exact hc,fun _ _ h=>h,U⟩
 obtain⟨T,F⟩:=h.tip b B hB H;have bb:=hy.len;have ag:=hc.len
 -- who is there
 have r:∀c E,setB (setB bx n D) b {B with tip:=false} c=some E->(c=b/\E={B with tip:=false})\/(c=n/\c≠b/\E=D)\/(c≠b/\c≠n/\bx c=some E):=by
  intro c E g
  by_cases e:c=b
  ·subst e;rw[rT]at g;cases g;exact Or.inl ⟨rfl,rfl⟩
  ·rw[mH e]at g
   by_cases u:c=n
   ·subst u;rw[rT]at g;cases g;exact Or.inr (Or.inl ⟨rfl,e,rfl⟩)
   ·rw[mH u]at g;exact Or.inr (Or.inr ⟨e,u,g⟩)
 -- others in this block lie ahead of its end
 have oth:∀c E l,c≠b->bx c=some E->φ c=some (k,l)->E.ro=true/\E.tip=false/\l+E.cs.length<=W+B.cs.length:=by
  intro c E l aq g av
  rcases h.inj b c B E k W l hB g J av with e|⟨_,M,i3,i4⟩
  ·exact absurd e.symm aq
  ·refine⟨M,?_,i4 H⟩
   cases e:E.tip with
   |false=>rfl
   |true=>exact absurd ⟨H,e⟩ i3
 refine⟨⟨fun c E g=>?_,fun c E O l g R f=>?_,fun c c' E E' O o1 o2 h1 h2 P z=>?_,fun c E g ai=>?_,fun x aj=>?_,fun c O l f=>?_,fun j hj hd=>?_,h.on.trans U,fun b x e=>L.φ b x (h.base b x e),fun c E O l g R X f=>?_⟩,L⟩
 ·rcases r c E g with⟨rfl,rfl⟩|⟨rfl,_,rfl⟩|⟨I,u,g⟩
  ·refine⟨k,W,i,q,new++d,L.φ c _ J,?_,hp,hy.mono (wZ L)⟩;have:=A.cD
   simpa using this
  ·exact⟨k,W,i,q++new,d,oV _ _ _,by rw[S.1];exact A.cD,hp,hc.mono (wZ L)⟩
  ·obtain⟨j,l,y,p,v,j1,j2,j3,j4⟩:=h.box c E g
   by_cases ad:j=k
   ·subst ad;obtain⟨_,_,a9⟩:=oth c E l I g j1
    have au:E.ty=B.ty:=by
     rw[h0]at j2;have:=Option.some.inj j2
     injection this with I u e3
     exact u.symm
    have bc:=j4.len
    -- the same beginning
    have hL:y++p++v=i++q++s:=by
     rw[h0]at j2;have:=Option.some.inj j2
     injection this with I u e3
     have:=congrArg Array.toList I
     simpa using this.symm
    refine⟨j,l,y,p,(i++(q++new)++d).drop (l+p.length),L.φ c _ j1,?_,j3,j4.mono (wZ L)⟩;rw[A.cD,au];congr 2;apply Array.toList_inj.1;simp only[List.toList_toArray]
    have t1:(i++(q++new)++d).take (l+p.length)=y++p:=by
     have a1:(i++(q++new)++d).take (l+p.length)=(i++q++s).take (l+p.length):=by
      have b1:i++(q++new)++d=(i++q)++(new++d):=by simp
      have q1:l+p.length<=(i++q).length:=by rw[List.length_append];omega
      rw[b1,List.take_append_of_le_length (l₁:=i++q) q1,List.take_append_of_le_length (l₁:=i++q) q1]
     rw[a1,<-hL,List.take_append_of_le_length (by simp;omega),List.take_of_length_le (by simp;omega)]
    rw[<-t1];exact(List.take_append_drop _ _).symm
   ·exact⟨j,l,y,p,v,L.φ c _ j1,by rw[A.others j ad];exact j2,j3,j4.mono (wZ L)⟩
 ·rcases r c E g with⟨rfl,rfl⟩|⟨rfl,_,rfl⟩|⟨I,u,g⟩
  ·rw[kR N]at f;exact h.own c B O l hB T f
  ·rw[oV]at f;cases f;exact h.own b B k W hB T J
  ·rw[kR u]at f;exact h.own c E O l g R f
 ·rcases r c E h1 with⟨rfl,rfl⟩|⟨rfl,d1,rfl⟩|⟨I,u,g1⟩
  ·rw[kR N,J]at P;cases P
   rcases r c' E' h2 with⟨rfl,rfl⟩|⟨rfl,d2,rfl⟩|⟨f1,f2,g2⟩
   ·exact Or.inl rfl
   ·exact Or.inr ⟨F,S.2.2,fun⟨a,_⟩=>(by cases a),fun a=>(by cases a)⟩
   ·rw[kR f2]at z;obtain⟨Y,M,i3⟩:=oth c' E' o2 f1 g2 z;exact Or.inr ⟨F,Y,fun⟨a,_⟩=>(by cases a),fun a=>(by cases a)⟩
  ·rw[oV]at P;cases P
   rcases r c' E' h2 with⟨rfl,rfl⟩|⟨rfl,d2,rfl⟩|⟨f1,f2,g2⟩
   ·rw[kR N,J]at z;cases z;refine Or.inr ⟨S.2.2,F,fun⟨_,a⟩=>(by cases a),fun _=>?_⟩;simp only;simp at ag;omega
   ·exact Or.inl rfl
   ·rw[kR f2]at z;obtain⟨Y,M,i3⟩:=oth c' E' o2 f1 g2 z;refine Or.inr ⟨S.2.2,Y,fun⟨_,a⟩=>(by rw[M]at a;cases a),fun _=>?_⟩;simp at ag;omega
  ·rw[kR u]at P
   rcases r c' E' h2 with⟨rfl,rfl⟩|⟨rfl,d2,rfl⟩|⟨f1,f2,g2⟩
   ·rw[kR N,J]at z;cases z;obtain⟨Y,M,i3⟩:=oth c E o1 I g1 P;exact Or.inr ⟨Y,F,fun⟨a,_⟩=>(by rw[M]at a;cases a),fun a=>(by rw[M]at a;cases a)⟩
   ·rw[oV]at z;cases z;obtain⟨Y,M,i3⟩:=oth c E o1 I g1 P;exact Or.inr ⟨Y,S.2.2,fun⟨a,_⟩=>(by rw[M]at a;cases a),fun a=>(by rw[M]at a;cases a)⟩
   ·rw[kR f2]at z;exact h.inj c c' E E' O o1 o2 g1 g2 P z
 ·rcases r c E g with⟨rfl,rfl⟩|⟨rfl,_,rfl⟩|⟨I,u,g⟩
  ·cases ai
  ·exact S.2
  ·exact h.tip c E g ai
 ·rw[kR aj.2];exact h.fresh x aj.1
 ·rw[A.size]
  by_cases e:c=n
  ·subst e;rw[oV]at f;cases f;exact h.lt b k W J
  ·rw[kR e]at f;exact h.lt c O l f
 ·have:=h.own b B k W hB T J;rw[A.others j (by omega)]
  exact h.low j hj fun c hc l e=>hd c hc l (L.φ c _ e)
 ·rcases r c E g with⟨rfl,rfl⟩|⟨rfl,_,rfl⟩|⟨I,u,g⟩
  ·simp only at X;rw[F]at X;cases X
  ·rw[S.2.2]at X;cases X
  ·rw[kR u]at f;exact⟨(h.pV c E O l g R X f).1,U.shape (h.pV c E O l g R X f).2⟩
end
def oF:List (Nat×bO)->Nat->List (Nat×bO)
 | [],_=>[]
 |(i,B)::r,b=>bif i==b then(i,{B with tip:=false})::r else(i,B)::oF r b
theorem Yq {b:Nat}{B:bO}:∀{l:List (Nat×bO)},look l b=some B->look (oF l b)=setB (look l) b {B with tip:=false}
 | [],h=>by simp[look]at h
 |(i,D)::r,h=>by
  funext x;unfold oF;unfold look at h
  cases e:i==b with
  |true=>
   rw[e]at h;cases h
   have:i=b:=by simpa using e
   subst this;simp only[cond_true,look,setB]
   by_cases ex:x=i
   ·subst ex;simp
   ·have:(i==x)=false:=by simp;omega
    simp[this,ex]
  |false=>
   rw[e]at h;simp only[cond_false]at h
   have a:¬i=b:=by simpa using e
   simp only[cond_false,look];rw[Yq h];simp only[setB]
   by_cases ex:i=x
   ·subst ex;simp[a]
   ·have:(i==x)=false:=by simp;omega
    simp[this]
theorem Cx (n:Nat)(B:bO)(l:List (Nat×bO)):look ((n,B)::l)=setB (look l) n B:=by
 funext b;unfold setB;simp only[look]
 by_cases e:b=n
 ·subst e;simp
 ·have:(n==b)=false:=by simp;omega
  simp[this,e]
theorem aFN {l:List (Nat×bO)}{b:Nat}{B:bO}(h:look l b=some B)(cs:List AC):look (kY l b cs)=setB (look l) b {B with cs:=cs}:=by
 funext x;rw[Yp];unfold setB
 by_cases e:x=b
 ·rw[if_pos e,if_pos e,h];rfl
 ·rw[if_neg e,if_neg e]
def Enters (P:Program)(f:FuncId):Prop:=∀a w,(callFunc f a).run P w=.ok (.enter f a) w
abbrev Spec:=FuncId->Bool->List (Int×Nat)->Nat->(Nat->Option bO)->List AV->Option (List (Int×Nat)×AT×List Prop×Option bO)
def SpecOk (C:fF)(w0:World)(ψ:Nat->Option (Nat×Nat))(sp:Spec):Prop:=∀ f d ν id q s n r p j,sp f d ν id q s=some (n,r,p,j)->Enters C.P f/\(Holds p->∀ h,(∀ (i:Nat) (x:Int×Nat),(ν++n)[i]?=some x->h[i]?=some x)->∀ φ w (u:List Value),
 (∀b x,ψ b=some x->φ b=some x)->(d=true->Below w0.heap.size w0 w)->On C.bt w0 w->wO C φ h w q->All2 (dM C φ h w) s u->Calls C.P f u.toArray w fun e l=>∃v,e=.returned v/\Below w.heap.size w l/\
  match j with
  |none=>relT C φ h l r v
  |some B=>B.own=true/\(B.tip=true->B.ro=true)/\∃k o,∃g y a:List Value,w.heap.size<=k/\l.heap[k]?=some (.cells (g++y++a).toArray B.ty (0,0))/\g.length=o/\All2 (relC C φ h l) B.cs y/\relT C (oW φ id (k,o)) h l r v/\(B.ro=false->g=[]/\a=[]))
def clean (s:AS):Bool:=s.dirty.all fun b=>match look s.boxes b with|some B=>B.own|none=>false
theorem RepF.below {w0:World}{ψ:Nat->Option (Nat×Nat)}{s:AS}(h:RepW C w0 ψ φ s w)(hc:clean s=true):Below w0.heap.size w0 w:=by
 refine⟨h.on.os,h.on.tape,h.on.output,h.on.size,fun k f=>h.low k f fun b d o e=>?_⟩;unfold clean at hc;rw[List.all_eq_true]at hc;have:=hc b d
 cases a:look s.boxes b with
 |none=>rw[a]at this;cases this
 |some B=>
  rw[a]at this;have:=h.own b B k o a this e;omega
inductive Gd where
 |yes|no|bad
 |cond (c:Bool)
def gd (all:Array Oper)(e:List AT)(o:Oper):Gd:=
 match o.guard with
 |none=>.yes
 |some (g,a)=>match(all[g]?).bind (·.dst)with
  |none=>.no
  |some d=>match e[d]? with
   |none=>.no
   |some (.val (.one (.bool b)))=>bif b==a then .yes else .no
   |some (.val (.one (.sbool t)))=>.cond (t==a)
   |some .gC=>.no
   |some (.mY c (.one (.sbool t)))=>.cond (c&&(t==a))
   |some (.mY c (.one (.bool t)))=>.cond (c&&(t==a))
   |_=>.bad
section
variable {C:fF} {w0:World} {ψ:Nat->Option (Nat×Nat)} {sp:Spec}{all:Array Oper}{o:Oper}
theorem Pb {n:World}{i:List AT}{a:Act}(h:All2 (relT C φ ν n) i a.tmps.toList):
  match gd all i o with
  |.yes=>Region.wanted o (yielded all a.tmps)=true
  |.no=>Region.wanted o (yielded all a.tmps)=false
  |.cond c=>Region.wanted o (yielded all a.tmps)=c
  |.bad=>True:=by
 unfold gd Region.wanted
 cases s:o.guard with
 |none=>simp
 |some p=>
  obtain⟨g,e⟩:=p;simp only[yielded]
  cases r:(all[g]?).bind (·.dst)with
  |none=>simp
  |some d=>
   simp only[Option.bind_some]
   cases l:i[d]? with
   |none=>
    have k:=h.len;simp at k
    have:a.tmps[d]?=none:=by
     rw[Array.getElem?_eq_none_iff,<-k];exact List.getElem?_eq_none_iff.1 l
    simp[this]
   |some t=>
    obtain⟨v,j,f⟩:=h.at l;rw[Array.getElem?_toList]at j;simp only[j]
    cases t with
    |top=>simp
    |gC=>have:v=undef:=f;subst this;simp[undef]
    |tup u=>simp
    |val x=>
     cases x with
     |agg cs=>simp
     |one c=>
      cases c<;>try trivial
      case bool b=>
       have:v=.bool b:=f;subst this
       cases b<;>cases e<;>simp
      case sbool b=>
       have:v=.bool b:=f;subst this
       cases b<;>cases e<;>simp
    |mY c x=>
     cases x with
     |agg cs=>simp
     |one q=>
      cases q<;>try trivial
      case bool b=>
       simp only[relT,dM,relC]at f
       cases c with
       |true=>simp only[if_true]at f;subst f;cases b<;>cases e<;>simp
       |false=>simp only[Bool.false_eq_true,if_false]at f;subst f;simp[undef]
      case sbool b=>
       simp only[relT,dM,relC]at f
       cases c with
       |true=>simp only[if_true]at f;subst f;cases b<;>cases e<;>simp
       |false=>simp only[Bool.false_eq_true,if_false]at f;subst f;simp[undef]
variable (C sp)
def nT (c:Bool):List Prop->List Prop
 | []=>[]
 |p::a=>[c=true->Holds (p::a)]
theorem Nb {c:Bool}{a:List Prop}(h:Holds (nT c a))(hc:c=true):Holds a:=by
 cases a with
 |nil=>exact iC
 |cons p a=>exact h.one hc
def mJ (s:AS)(o:Oper):nC->Option (AS×List Prop)
 |.val r p=>some ({s with tmps:=putT s.tmps o.dst r},p)
 |.new cs ty sl=>some ({s with boxes:=(s.next,⟨cs,ty,true,sl.isSome,sl.isSome⟩)::s.boxes,next:=s.next+1,tmps:=putT s.tmps o.dst (.val (.one (Jd s.next sl)))},[])
 |.app old cs ty len size=>bif C.bt.contains ty then some ({s with boxes:=(match old with|none=>(s.next,⟨cs,ty,true,true,true⟩)::s.boxes|some b=>oF ((s.next,⟨cs,ty,true,true,true⟩)::s.boxes) b),next:=s.next+1,tmps:=putT s.tmps o.dst (.val (.one (.slc s.next 0 len size)))},[])else none
 |.mQ b cs=>(look s.boxes b).bind fun B=>bif C.bt.contains B.ty then some ({s with boxes:=kY s.boxes b cs,dirty:=bif B.own then s.dirty else b::s.dirty,tmps:=putT s.tmps o.dst .gC},[])else none
 | .call f e=>(sp f (clean s) s.nums s.next (look s.boxes) e).map fun (a,r,p,d)=>(match d with
   |none=>{s with nums:=s.nums++a,tmps:=putT s.tmps o.dst r}
   |some B=>{s with nums:=s.nums++a,boxes:=(s.next,B)::s.boxes,next:=s.next+1,tmps:=putT s.tmps o.dst r},p)
def mB (c:Bool)(s:AS)(o:Oper):nC->Option (AS×List Prop)
 |.val (.val v) p=>some ({s with tmps:=putT s.tmps o.dst (.mY c v)},nT c p)
 |.call f b=>(sp f (clean s) s.nums s.next (look s.boxes) b).bind fun
   |(a,.val v,p,none)=>some ({s with nums:=s.nums++a,tmps:=putT s.tmps o.dst (.mY c v)},nT c p)
   |_=>none
 |_=>none
def wK (all:Array Oper)(s:AS)(o:Oper):Option (AS×List Prop):=
 match gd all s.tmps o with
 |.yes=>(evalOp C.P (iS s.tmps) (look s.boxes) o.op).bind (mJ C sp s o)
 |.no=>some ({s with tmps:=putT s.tmps o.dst .gC},[])
 |.cond c=>(evalOp C.P (iS s.tmps) (look s.boxes) o.op).bind (mB sp c s o)
 |.bad=>none
variable {C sp}
theorem rW (ν a:List (Int×Nat))(i:Nat)(x:Int×Nat)(h:ν[i]?=some x):(ν++a)[i]?=some x:=by
 rw[List.getElem?_append_left (List.getElem?_eq_some_iff.1 h).1];exact h
theorem rG (a:Act)(d:Option Tmp)(v:Value):(a.put d v).defers=a.defers:=by cases d<;>rfl
theorem aNH {n:World}{i:List Value}{ty:TypeId}{w:Nat}{sl:Option (Nat×Nat)}(h:∀m size,sl=some (m,size)->i.length=m*size):
  relT C (oW φ w (n.heap.size,0)) ν {n with heap:=n.heap.push (.cells i.toArray ty)} (.val (.one (Jd w sl))) (xS n.heap.size sl):=by
 cases sl with
 |none=>exact⟨n.heap.size,0,oV _ _ _,rfl⟩
 |some p=>
  obtain⟨m,size⟩:=p;refine⟨n.heap.size,0,m,ty,i.length,oV _ _ _,rfl,Nat.le_refl _,by simp[World.shape?],?_⟩;rw[h m size rfl];omega
def lX (a:Nat->Option bO)(n:Nat)(D:bO):Option Nat->Nat->Option bO
 |none=>setB a n D
 |some b=>match a b with
  |some B=>setB (setB a n D) b {B with tip:=false}
  |none=>setB a n D
theorem aOB {a:Nat->Option bO}{b:Nat}(h:kO a (some b)=true):∃B,a b=some B/\B.tip=true:=by
 unfold kO at h;simp only at h
 cases d:a b with
 |none=>rw[d]at h;cases h
 |some B=>rw[d]at h;exact⟨B,rfl,h⟩
theorem aMu {y:Nat->Option bO}{N:Nat->Prop}{dirty:List Nat}{s:World}{n g len size:Nat}{z:Value}{old:Option Nat}{cs:List AC}{ty:TypeId}(h:RepF C w0 ψ φ y N ν dirty w)(J:N n)(q:len<=g)(P:kO y old=true)(I:C.bt.contains ty=true)
  (Y:(∃ u a:List Value,s={w with heap:=w.heap.push (.cells (u++a).toArray ty),drawn:=w.drawn+1}/\z=.slice (some ⟨w.heap.size,0,none⟩) len g/\All2 (relC C φ ν w) cs u/\g*size<=u.length+a.length)\/
    (∃ b B k o,∃ i j a new f:List Value,old=some b/\y b=some B/\B.ty=ty/\φ b=some (k,o)/\z=.slice (some ⟨k,o,none⟩) len g/\w.heap[k]?=some (.cells (i++j++a).toArray ty (0,0))/\i.length=o/\All2 (relC C φ ν w) B.cs j/\
     jP w s k (i++(j++new)++f) ty/\new.length+f.length=a.length/\All2 (relC C φ ν w) cs (j++new)/\o+g*size<=(i++(j++new)++f).length)):
  ∃l,RepF C w0 ψ l (lX y n ⟨cs,ty,true,true,true⟩ old) (fun x=>N x/\x≠n) ν dirty s/\Ext C φ l ν ν w s/\relT C l ν s (.val (.one (.slc n 0 len size))) z:=by
 rcases Y with⟨u,a,rfl,rfl,X,h2⟩|⟨b,B,k,o,i,j,a,new,f,rfl,A,rfl,R,rfl,S,T,U,O,W,E,F⟩
 ·obtain⟨k1,M⟩:=h.new J (B:=⟨cs,ty,true,true,true⟩) (post:=a) (d:=w.drawn+1) X rfl (fun h=>h) (fun e=>by cases e);refine⟨_,?_,M,w.heap.size,0,g,ty,(u++a).length,oV _ _ _,rfl,q,by simp[World.shape?],by simp;omega⟩
  cases old with
  |none=>exact k1
  |some b=>
   obtain⟨B,H,_⟩:=aOB P
   have L:b≠n:=by
    rintro rfl;obtain⟨k,o,_,_,_,f1,_⟩:=h.box _ _ H;rw[h.fresh _ J]at f1;cases f1
   unfold lX;simp only[H];exact k1.Rm (by rw[mH L];exact H)
 ·obtain⟨B',p,r⟩:=aOB P;rw[A]at p;cases p;obtain⟨k1,M⟩:=h.place J (D:=⟨cs,B.ty,true,true,true⟩) A r R S T U O W E ⟨rfl,rfl,rfl⟩ I;refine⟨_,?_,M,k,o,g,B.ty,(i++(j++new)++f).length,oV _ _ _,rfl,q,?_,by simpa using F⟩
  ·unfold lX;simp only[A];exact k1
  ·unfold World.shape?;rw[O.cD];simp
variable {s:AS}{a:Act}{p:List Prop}{Q:Exit->Act->World->Prop}
theorem aMR (aa:SpecOk C w0 ψ sp){s':AS}{K:Act->World->Prop}{e:nC}
  (h:Rep C w0 ψ φ s a w) (H:evalOp C.P (iS s.tmps) (look s.boxes) o.op=some e) (i:mJ C sp s o e=some (s',p)) (hp:Holds p)
  (E:∀x a' u,Ext C φ x s.nums s'.nums w u->Rep C w0 ψ x s' a' u->K a' u):o.wp C.P a w K Q:=by
 unfold Oper.wp
 cases e with
 |val r q=>
  simp only[mJ,Option.some.injEq,Prod.mk.injEq]at i;obtain⟨rfl,rfl⟩:=i;have:=wR (o:=o) (tQ h.tmps) h.wd.box (fun _=>rfl) (fun f J e=>by cases e) H;obtain⟨v,A,D⟩:=this hp;rw[A];exact E φ _ w (Ext.refl _ _ _) ⟨h.wd,by rw[rG];exact h.defers,rH h.tmps o.dst D⟩
 |new cs ty sl=>
  simp only[mJ,Option.some.injEq,Prod.mk.injEq]at i;obtain⟨rfl,rfl⟩:=i;obtain⟨xs,A,D,M⟩:=wR (o:=o) (tQ h.tmps) h.wd.box (fun _=>rfl) (fun f J e=>by cases e) H;rw[A];obtain⟨k1,l⟩:=h.wd.new (n:=s.next) (Nat.le_refl _) (B:=⟨cs,ty,true,sl.isSome,sl.isSome⟩) (post:=[]) (d:=w.drawn) D rfl (fun h=>h) (fun _=>rfl);rw[<-Cx,List.append_nil]at k1;rw[List.append_nil]at l;refine E _ _ _ l ⟨k1.cT fun b g=>⟨Nat.le_of_succ_le g,by simp only at g;omega⟩,by rw[rG];exact h.defers,rH (h.tmps.mono (xA l)) o.dst (aNH M)⟩
 |app old cs ty len size=>
  simp only[mJ]at i
  cases g:C.bt.contains ty with
  |false=>rw[g]at i;cases i
  |true=>
   rw[g]at i;simp only[cond_true,Option.some.injEq,Prod.mk.injEq]at i;obtain⟨rfl,rfl⟩:=i;obtain⟨v,u,ah,A,D,M,r4⟩:=wR (o:=o) (tQ h.tmps) h.wd.box (fun _=>rfl) (fun f J e=>by cases e) H;rw[A];obtain⟨x,k1,l,k3⟩:=aMu h.wd (n:=s.next) (Nat.le_refl _) D M g r4;refine E x _ _ l ⟨?_,by rw[rG];exact h.defers,rH (h.tmps.mono (xA l)) o.dst k3⟩
   refine RepF.cT (nb:=fun b=>s.next<=b/\b≠s.next) ?_ fun b g=>⟨Nat.le_of_succ_le g,by simp only at g;omega⟩
   cases old with
   |none=>simp only[lX]at k1 ⊢;rw[<-Cx]at k1;exact k1
   |some b=>
    simp only[lX]at k1 ⊢;obtain⟨B,U,_⟩:=aOB M;rw[U]at k1
    have Y:b≠s.next:=by
     rintro rfl;obtain⟨k,o,_,_,_,f1,_⟩:=h.wd.box _ _ U;rw[h.wd.fresh _ (Nat.le_refl _)]at f1;cases f1
    rw[<-Cx]at k1;rw[Yq (B:=B) (by rw[Cx,mH Y];exact U)];exact k1
 |mQ b cs=>
  simp only[mJ]at i;obtain⟨B,F,y⟩:=aU i
  cases g:C.bt.contains B.ty with
  |false=>rw[g]at y;cases y
  |true=>
   rw[g]at y;simp only[cond_true,Option.some.injEq,Prod.mk.injEq]at y;obtain⟨rfl,rfl⟩:=y;obtain⟨B',k,oo,u,ab,ys,z,zs,L,gr,N,R,S,T,g6,g7,g8,g9⟩:=wR (o:=o) (tQ h.tmps) h.wd.box (fun _=>rfl) (fun f J e=>by cases e) H;rw[F]at L;cases L;rw[R];obtain⟨k1,l⟩:=h.wd.mQ (dirty':=bif B.own then s.dirty else b::s.dirty) F gr N S T g6 g7 g8 g9 g (by cases B.own<;>simp_all) (by cases B.own<;>simp);rw[<-aFN F]at k1;exact E _ _ _ l ⟨k1,by rw[rG];exact h.defers,rH (h.tmps.mono (xA l)) o.dst rfl⟩
 |call f J=>
  simp only[mJ]at i;obtain⟨⟨j,r,q,I⟩,F,y⟩:=cA i;simp only[Prod.mk.injEq]at y;obtain⟨rfl,rfl⟩:=y;obtain⟨X,hc⟩:=aa f (clean s) s.nums s.next (look s.boxes) J j r q I F;obtain⟨xs,A,D⟩:=wR (o:=o) (tQ h.tmps) h.wd.box (fun _=>rfl) (fun f' ar e=>by cases e;exact X) H;rw[A]
  have h0:Ext C φ φ s.nums (s.nums++j) w w:=⟨fun _ _ h=>h,rW _ _,On.refl _ _⟩
  refine(hc hp _ (fun _ _ h=>h) φ w xs h.wd.base (fun W=>RepF.below h.wd W) h.wd.on (h.wd.later (Below.refl _ _) _ (rW _ j)).box (D.mono (Th h0))).mono ?_;rintro e u⟨v,rfl,g,hv⟩
  have hx:Ext C φ φ s.nums (s.nums++j) w u:=⟨fun _ _ h=>h,rW _ _,On.below g⟩
  cases I with
  |none=>
   have k1:=h.wd.later g (s.nums++j) (rW _ _);exact E φ _ u hx ⟨k1,by rw[rG];exact h.defers,rH (h.tmps.mono (xA hx)) o.dst hv⟩
  |some B=>
   obtain⟨b1,b2,k,o',ab,ys,z,L,N,O,R,S,T⟩:=hv;obtain⟨k1,l⟩:=h.wd.got (n:=s.next) (Nat.le_refl _) g (rW _ j) L N O R b1 b2 T;rw[<-Cx]at k1;exact E _ _ u l ⟨k1.cT fun b g=>⟨Nat.le_of_succ_le g,by simp only at g;omega⟩,by rw[rG];exact h.defers,rH (h.tmps.mono (xA l)) o.dst S⟩
theorem aRT (F:SpecOk C w0 ψ sp){D:AS}{n:World}{K:Act->World->Prop}{e:nC}{c:Bool}
  (h:Rep C w0 ψ φ s a n) (J:evalOp C.P (iS s.tmps) (look s.boxes) o.op=some e) (z:mB sp c s o e=some (D,p)) (L:Holds p)
  (H:∀g y u,Ext C φ g s.nums D.nums n u->Rep C w0 ψ g D y u->K y u):if c=true then o.wp C.P a n K Q else K (a.put o.dst undef) n:=by
 have skip:∀v b,D={s with nums:=s.nums++b,tmps:=putT s.tmps o.dst (.mY c v)}->c=false->K (a.put o.dst undef) n:=by
  rintro v b rfl rfl
  have A:Ext C φ φ s.nums (s.nums++b) n n:=⟨fun _ _ h=>h,rW _ _,On.refl _ _⟩
  have k1:=h.wd.later (Below.refl _ _) (s.nums++b) (rW _ _);exact H φ _ n A ⟨k1,by rw[rG];exact h.defers,rH (h.tmps.mono (xA A)) o.dst (by simp[relT])⟩
 cases e with
 |val r q=>
  cases r with
  |val v=>
   simp only[mB,Option.some.injEq,Prod.mk.injEq]at z;obtain⟨rfl,rfl⟩:=z
   cases c with
   |false=>simp only[Bool.false_eq_true,if_false];exact skip v [] (by simp) rfl
   |true=>
    simp only[if_true];refine aMR F h J (p:=q) (s':={s with tmps:=putT s.tmps o.dst (.val v)}) rfl (Nb L rfl) ?_;intro g y u A l;refine H g y u A ⟨l.wd,l.defers,?_⟩;have:=l.tmps;simp only at this ⊢;exact swap this
  |_=>simp[mB]at z
 |call f M=>
  simp only[mB]at z;obtain⟨⟨b,r,q,I⟩,E,j⟩:=aU z
  cases r with
  |val v=>
   cases I with
   |some B=>simp at j
   |none=>
   simp only[Option.some.injEq,Prod.mk.injEq]at j;obtain⟨rfl,rfl⟩:=j
   cases c with
   |false=>simp only[Bool.false_eq_true,if_false];exact skip v b rfl rfl
   |true=>
    simp only[if_true];refine aMR F h J (p:=q) (s':={s with nums:=s.nums++b,tmps:=putT s.tmps o.dst (.val v)}) (by simp[mJ,E]) (Nb L rfl) ?_;intro g y u A l;refine H g y u A ⟨l.wd,l.defers,?_⟩;exact swap l.tmps
  |_=>simp at j
 |_=>simp[mB]at z
where
 swap {φ:Nat->Option (Nat×Nat)} {ν:List (Int×Nat)} {n:World} {k:List AT} {d:Option Tmp} {v:AV} {i:List Value} (h:All2 (relT C φ ν n) (putT k d (.val v)) i):All2 (relT C φ ν n) (putT k d (.mY true v)) i:=by
  cases d with
  |none=>exact h
  |some d=>
   simp only[putT]at h ⊢;exact sw d k i h
 sw {φ:Nat->Option (Nat×Nat)} {ν:List (Int×Nat)} {n:World} {v:AV}:∀(d:Nat) (k:List AT) (i:List Value),All2 (relT C φ ν n) (k.set d (.val v)) i->All2 (relT C φ ν n) (k.set d (.mY true v)) i
  |_,[],i,h=>h
  |0,_::_,x::i,⟨E,j⟩=>⟨by simpa[relT]using E,j⟩
  |d+1,_::k,x::i,⟨E,j⟩=>⟨E,sw d k i j⟩
  |0,_::_,[],h=>h.elim
  |d+1,_::_,[],h=>h.elim
theorem aS4 (g:SpecOk C w0 ψ sp){r:AS}{n:World}{i:Nat}{K:Act->World->Prop}
  (y:all[i]?=some o) (h:Rep C w0 ψ φ s a n) (b:wK C sp all s o=some (r,p)) (x:Holds p)
  (q:∀j v u,Ext C φ j s.nums r.nums n u->Rep C w0 ψ j r v u->K v u):wpOp C.P all Q i K a n:=by
 unfold wpOp;simp only[y];have d:=Pb (all:=all) (o:=o) h.tmps;unfold wK at b
 cases f:gd all s.tmps o with
 |yes=>
  rw[f]at d b;simp only at d b;obtain⟨e,k,l⟩:=aU b;rw[if_pos d];exact Or.inl (aMR g h k l x q)
 |no=>
  rw[f]at d b;simp only[Option.some.injEq,Prod.mk.injEq]at d b;obtain⟨rfl,rfl⟩:=b;rw[if_neg (by simp[d])];exact q φ _ n (Ext.refl _ _ _) ⟨h.wd,by rw[rG];exact h.defers,rH h.tmps o.dst rfl⟩
 |cond c=>
  rw[f]at d b;simp only at d b;obtain⟨e,k,l⟩:=aU b;have:=aRT (Q:=Q) g h k l x q;rw[d]
  cases c with
  |true=>simp only[if_true]at this ⊢;exact Or.inl this
  |false=>simpa using this
 |bad=>rw[f]at b;cases b
end
inductive K (F:Type) where
 |code (c:Code)
 |cD (id:Nat)
 |lp (b:Code) (n:Nat)
 |ops (all:Array Oper) (rest:List Nat)
 |fr (fn:Func) (dst:Option Tmp) (f:F)
 |top (fn:Func)
inductive Tr where
 |ret (r:AT) (s:AS)
 |br (t:Bool) (a b:Tr)
 |need (p:List Prop) (t:Tr)
 |stop (ks:List (K (List AT))) (s:AS)
def Tr.ok (G:AT->AS->Prop)(H:List (K (List AT))->AS->Prop):Tr->Prop
 |.ret r s=>G r s
 |.br t a b=>(t=true->a.ok G H)/\(t=false->b.ok G H)
 |.need p t=>Holds p/\t.ok G H
 |.stop d s=>H d s
def wrap:List Prop->Tr->Tr
 | [],t=>t
 |p::a,t=>.need (p::a) t
theorem Uh {G:AT->AS->Prop}{H:List (K (List AT))->AS->Prop}{a:List Prop}{t:Tr}(h:(wrap a t).ok G H):Holds a/\t.ok G H:=by
 cases a with
 |nil=>exact⟨iC,h⟩
 |cons p a=>exact h
def dB {F:Type}:List (K F)->List (K F)
 |.fr fn d f::a=>.fr fn d f::a
 |.top fn::a=>.top fn::a
 |_::a=>dB a
 | []=>[]
def bZ {F:Type}(id:Nat):List (K F)->Option (List (K F))
 |.cD i::a=>bif i==id then some a else bZ id a
 |.fr ..::_=>none
 |.top _::_=>none
 |_::a=>bZ id a
 | []=>none
def oJ (P:Program)(s:AS):ResultVar->Option AV
 |.tmp t=>Hp (s.tmps.getD t .gC)
 |.cell a t=>(eR (s.tmps.getD a .gC)).bind fun
   |.ptr b d=>(look s.boxes b).bind fun B=>vX P t B.cs d
   |_=>none
def Ee (P:Program)(fn:Func)(s:AS):Option AT:=
 (eW (oJ P s) fn.results.toList).map fun
  | [v]=>.val v
  |vs=>.tup vs
section
variable (C:fF) (sp:Spec) (bodies:FuncId->Option Func) (draw:Array Oper->AS->Option (AS×List Prop)) (stp:List (K (List AT))->Bool)
def splitOn (all:Array Oper)(a:List AT)(o:Oper):Option (Nat×Bool):=
 o.guard.bind fun(g,_)=>((all[g]?).bind (·.dst)).bind fun d=>match a[d]? with
  |some (.val (.one (.sbool t)))=>some (d,t)
  |_=>none
def inl (all:Array Oper)(s:AS)(o:Oper):Option (Func×Code×List AV):=
 match gd all s.tmps o with
 |.yes=>(evalOp C.P (iS s.tmps) (look s.boxes) o.op).bind fun
   |.call f a=>(bodies f).bind fun fn=>fn.body.map fun c=>(fn,c,a)
   |_=>none
 |_=>none
def run:Nat->List (K (List AT))->AS->Option Tr
 |0,_,_=>none
 |f+1,e,s=>bif stp e then some (.stop e s)else match e with
  | []=>none
  |.top fn::_=>(Ee C.P fn s).map fun r=>.ret r s
  |.fr fn h l::e=>(Ee C.P fn s).bind fun r=>run f e {s with tmps:=putT l h r}
  |.cD _::e=>run f e s
  |.lp b 0::e=>none
  |.lp b (n+1)::e=>run f (.code b::.lp b n::e) s
  |.ops _ []::e=>run f e s
  |.ops all (i::g)::e=>(all[i]?).bind fun o=>
   match splitOn all s.tmps o with
   |some (d,t)=>(run f (.ops all (i::g)::e) {s with tmps:=s.tmps.set d (.val (.one (.bool true)))}).bind fun x=>(run f (.ops all (i::g)::e) {s with tmps:=s.tmps.set d (.val (.one (.bool false)))}).map fun y=>.br t x y
   |none=>
   match wK C sp all s o with
   |some (j,p)=>(run f (.ops all g::e) j).map (wrap p)
   |none=>match inl C bodies all s o with
    |some (fn,c,k)=>run f (.code c::.fr fn o.dst s.tmps::.ops all g::e) {s with tmps:=k.map .val++List.replicate (fn.ntmps-k.length) .gC}
    |none=>none
  |.code c::e=>match c with
   |.skip=>run f e s
   |.seq a b=>run f (.code a::.code b::e) s
   |.block id b=>run f (.code b::.cD id::e) s
   |.loop b=>run f (.lp b f::e) s
   |.exit id=>(bZ id e).bind fun e=>run f e s
   |.ret=>run f (dB e) s
   |.cond x a b=>(eR (iS s.tmps x)).bind fun
    |.bool t=>run f (.code (bif t then a else b)::e) s
    |.sbool t=>(run f (.code a::e) s).bind fun x=>(run f (.code b::e) s).map fun y=>.br t x y
    |_=>none
   |.region _ ops false=>run f (.ops ops (List.range ops.size)::e) s
   |.region _ ops true=>(draw ops s).bind fun(j,p)=>(run f e j).map (wrap p)
   |_=>none
end
def fZ (P:Program)(R:Ending->World->Prop):List (K Act)->Exit->Act->World->Prop
 | []=>fun _ _ _=>False
 |.code c::ks=>Exit.then (c.wp P (fZ P R ks)) (fZ P R ks)
 |.cD id::ks=>Exit.inBlock id (fZ P R ks)
 |.lp b n::ks=>Exit.then (Code.rounds P b (fZ P R ks) n) (fZ P R ks)
 |.ops all d::ks=>Exit.then (wpOps P all (fZ P R ks) d) (fZ P R ks)
 |.fr fn dst a::ks=>bodyPost P fn fun e w=>match e with|.returned v=>fZ P R ks .normal (a.put dst v) w|_=>False
 |.top fn::_=>bodyPost P fn R
def SR (C:fF)(φ:Nat->Option (Nat×Nat))(ν:List (Int×Nat))(w:World):List (K (List AT))->List (K Act)->Prop
 | [],[]=>True
 |.code c::ks,.code h::kcs=>h=c/\SR C φ ν w ks kcs
 |.cD i::ks,.cD k::kcs=>k=i/\SR C φ ν w ks kcs
 |.lp b n::ks,.lp g l::kcs=>g=b/\l=n/\SR C φ ν w ks kcs
 |.ops a r::ks,.ops f o::kcs=>f=a/\o=r/\SR C φ ν w ks kcs
 |.fr fn d p::ks,.fr e j a::kcs=>e=fn/\j=d/\a.defers=[]/\All2 (relT C φ ν w) p a.tmps.toList/\SR C φ ν w ks kcs
 |.top fn::ks,.top e::kcs=>e=fn/\SR C φ ν w ks kcs
 |_,_=>False
section
variable {C:fF} {w0:World} {ψ:Nat->Option (Nat×Nat)} {sp:Spec} {bodies:FuncId->Option Func} {draw:Array Oper->AS->Option (AS×List Prop)} {R:Ending->World->Prop}
theorem SR.ext {φ I:Nat->Option (Nat×Nat)}{ν k:List (Int×Nat)}{n o:World}(j:Ext C φ I ν k n o):∀{g:List (K (List AT))} {f:List (K Act)},SR C φ ν n g f->SR C I k o g f
 | [],[],_=>trivial
 |.code c::g,.code s::f,h=>⟨h.1,SR.ext j h.2⟩
 |.cD i::g,.cD v::f,h=>⟨h.1,SR.ext j h.2⟩
 |.lp b e::g,.lp q x::f,h=>⟨h.1,h.2.1,SR.ext j h.2.2⟩
 |.ops a r::g,.ops p y::f,h=>⟨h.1,h.2.1,SR.ext j h.2.2⟩
 |.fr fn d z::g,.fr l u a::f,h=>⟨h.1,h.2.1,h.2.2.1,h.2.2.2.1.mono (xA j),SR.ext j h.2.2.2.2⟩
 |.top fn::g,.top l::f,h=>⟨h.1,SR.ext j h.2⟩
theorem SR.dB {φ:Nat->Option (Nat×Nat)}{ν:List (Int×Nat)}{n w':World}{a:Act}:∀{g:List (K (List AT))} {f:List (K Act)},SR C φ ν n g f->SR C φ ν n (dB g) (dB f)/\(fZ C.P R (Ab.dB f) .ret a w'->fZ C.P R f .ret a w')
 | [],[],_=>⟨trivial,fun h=>h⟩
 |.code c::g,.code l::f,h=>⟨(SR.dB (w':=w') (a:=a) h.2).1,(SR.dB h.2).2⟩
 |.cD i::g,.cD p::f,h=>⟨(SR.dB (w':=w') (a:=a) h.2).1,(SR.dB h.2).2⟩
 |.lp b e::g,.lp k q::f,h=>⟨(SR.dB (w':=w') (a:=a) h.2.2).1,(SR.dB h.2.2).2⟩
 |.ops x r::g,.ops v s::f,h=>⟨(SR.dB (w':=w') (a:=a) h.2.2).1,(SR.dB h.2.2).2⟩
 |.fr fn d u::g,.fr j o x::f,h=>⟨h,fun h=>h⟩
 |.top fn::g,.top j::f,h=>⟨h,fun h=>h⟩
theorem SR.bZ {φ:Nat->Option (Nat×Nat)}{ν:List (Int×Nat)}{n w':World}{a:Act}{id:Nat}:∀{l f:List (K (List AT))} {kcs:List (K Act)},SR C φ ν n l kcs->Ab.bZ id l=some f->∃j,SR C φ ν n f j/\(fZ C.P R j .normal a w'->fZ C.P R kcs (.exit id) a w')
 |.code c::l,f,.code v::kcs,h,e=>let⟨k,o,p⟩:=SR.bZ (kcs:=kcs) h.2 (show Ab.bZ id l=some f by simpa[Ab.bZ]using e);⟨k,o,p⟩
 |.lp b d::l,f,.lp u y::kcs,h,e=>let⟨k,o,p⟩:=SR.bZ (kcs:=kcs) h.2.2 (show Ab.bZ id l=some f by simpa[Ab.bZ]using e);⟨k,o,p⟩
 |.ops x r::l,f,.ops A z::kcs,h,e=>let⟨k,o,p⟩:=SR.bZ (kcs:=kcs) h.2.2 (show Ab.bZ id l=some f by simpa[Ab.bZ]using e);⟨k,o,p⟩
 |.cD i::l,f,.cD s::kcs,h,e=>by
  obtain⟨rfl,h⟩:=h;unfold Ab.bZ at e
  cases hi:s==id with
  |true=>
   rw[hi]at e;cases e
   have:s=id:=by simpa using hi
   subst this;exact⟨kcs,h,fun g=>by simp only[fZ,Exit.inBlock,if_true];exact g⟩
  |false=>
   rw[hi]at e;simp only[cond_false]at e
   have q:¬id=s:=by intro e;subst e;simp at hi
   obtain⟨j,o,p⟩:=SR.bZ h e;exact⟨j,o,fun g=>by simp only[fZ,Exit.inBlock];rw[if_neg q];exact p g⟩
 | [],_,[],_,e=>by simp[Ab.bZ]at e
 |.fr ..::_,_,_,_,e=>by simp[Ab.bZ]at e
 |.top _::_,_,_,_,e=>by simp[Ab.bZ]at e
def oL (tmps:Array Value):ResultVar->Sem Value
 |.tmp t=>pure (tmps.getD t undef)
 |.cell a t=>do loadVar t (<-asAddr (tmps.getD a undef))
theorem aLW (fn:Func)(tmps:Array Value):results fn tmps=(fn.results.mapM (oL tmps)) >>= fun a=>pure (if h:a.size=1 then a[0]else .tuple a):=by
 unfold results;congr
theorem aOh {s:AS}{a:Act}{n:World}(h:Rep C w0 ψ φ s a n){A:ResultVar}{v:AV}(q:oJ C.P s A=some v):
  ∃x,(oL a.tmps A).run C.P n=.ok x n/\dM C φ s.nums n v x:=by
 cases A with
 |tmp t=>
  simp only[oJ]at q;have:=tQ h.tmps (.tmp t);simp only[iS,Act.eval]at this;rw[Bs q]at this;exact⟨_,rfl,this⟩
 |cell c t=>
  simp only[oJ]at q;obtain⟨I,L,u⟩:=aU q;have y:=tQ h.tmps (.tmp c);simp only[iS,Act.eval]at y;rw[pP L]at y
  cases I<;>simp only at u<;>try cases u
  case ptr b off=>
   obtain⟨B,M,E⟩:=aU u;obtain⟨k,o,i,N,e,k1,H,k0,z⟩:=h.wd.box b B M;obtain⟨O,S,j,F⟩:=y;rw[k1]at j;cases j;subst k0;unfold vX at E;obtain⟨g,D,l⟩:=aU E
   cases g with
   |true=>
    simp only[cond_true]at l;obtain⟨d,r,f⟩:=aU l
    cases p:Nat.ble (off+d) B.cs.length with
    |false=>rw[p]at f;cases f
    |true=>
     rw[p]at f;simp only[cond_true,Option.some.injEq]at f;subst f;rw[Nat.ble_eq,z.len]at p;refine⟨.agg ((N.drop off).take d).toArray,?_,_,rfl,(z.drop off).take d⟩;simp only[oL];rw[F];simp only[asAddr,loadVar,loadCells,Sem.run_bind,Sem.run_pure,Result.andThen_ok,Jw D,tO r,if_true,Ry H (i.length+off) d 0 #[] (by simp;omega),Nat.add_zero,Zo p];simp
   |false=>
    simp only[cond_false]at l;obtain⟨c,r,rfl⟩:=cA l;obtain⟨x,f,J⟩:=z.at r;refine⟨x,?_,J⟩;simp only[oL];rw[F];have sg:=aOm (pre:=i) (post:=e) f;rw[List.append_assoc]at sg;simp[asAddr,loadVar,Jw D,Kt H,sg]
theorem aOg {s:AS}{a:Act}{n:World}(h:Rep C w0 ψ φ s a n){fn:Func}{r:AT}(k:Ee C.P fn s=some r):∃x,(results fn a.tmps).run C.P n=.ok x n/\relT C φ s.nums n r x:=by
 unfold Ee at k;obtain⟨f,u,e⟩:=cA k
 have i:∀(l:List ResultVar) (f:List AV),eW (oJ C.P s) l=some f->∃b:List Value,(l.mapM (oL a.tmps)).run C.P n=.ok b n/\All2 (dM C φ s.nums n) f b:=by
  intro l
  induction l with
  |nil=>intro f h;simp[eW]at h;subst h;exact⟨[],by simp,trivial⟩
  |cons A l y=>
   intro f hv;unfold eW at hv;obtain⟨v,o,p⟩:=aU hv;obtain⟨j,q,rfl⟩:=cA p;obtain⟨x,x1,x2⟩:=aOh h o;obtain⟨b,y1,y2⟩:=y j q;refine⟨x::b,?_,x2,y2⟩;rw[List.mapM_cons,Sem.run_bind,x1];simp only[Result.andThen_ok,Sem.run_bind,y1,Sem.run_pure]
 obtain⟨b,k1,g⟩:=i _ _ u
 have d:(results fn a.tmps).run C.P n=.ok (if h:b.toArray.size=1 then b.toArray[0]else .tuple b.toArray) n:=by
  rw[aLW,<-Array.toArray_toList (xs:=fn.results),List.mapM_toArray];simp only[Sem.run_bind,Sem.run_map];rw[k1];rfl
 match f,b,g,e,d with
 | [],[],_,e,d=>subst e;exact⟨_,d,[],by simp,trivial⟩
 | [v],[x],⟨g,_⟩,e,d=>subst e;exact⟨x,by rw[d];simp,g⟩
 |v::B::f,x::z::b,g,e,d=>subst e;exact⟨_,d,x::z::b,by simp,g⟩
end
section
variable {C:fF} {w0:World} {ψ:Nat->Option (Nat×Nat)} {sp:Spec} {bodies:FuncId->Option Func} {draw:Array Oper->AS->Option (AS×List Prop)} {R:Ending->World->Prop}
def bV (C:fF)(bodies:FuncId->Option Func):Prop:=∀f fn,bodies f=some fn->C.P.funcs[f]?=some fn/\Enters C.P f
def tZ (C:fF)(w0:World)(ψ:Nat->Option (Nat×Nat))(draw:Array Oper->AS->Option (AS×List Prop)):Prop:=∀ops s d p,draw ops s=some (d,p)->Holds p->∀φ a w (id:Nat) (Q:Exit->Act->World->Prop),Rep C w0 ψ φ s a w->
 (∀b f e,Ext C φ b s.nums d.nums w e->Rep C w0 ψ b d f e->Q .normal f e)->(Code.region id ops true).wp C.P Q a w
theorem aU1 {s:AS}{a:Act}{n:World}{all:Array Oper}{o:Oper}{fn:Func}{c:Code}{l:List AV}(g:bV C bodies)(h:Rep C w0 ψ φ s a n)(hi:inl C bodies all s o=some (fn,c,l)):
  Region.wanted o (yielded all a.tmps)=true/\∃f b,C.P.funcs[f]?=some fn/\fn.body=some c/\(execOp a.eval o).run C.P n=.ok (.enter f b.toArray) n/\All2 (dM C φ s.nums n) l b:=by
 have i:=Pb (all:=all) (o:=o) h.tmps;unfold inl at hi
 cases j:gd all s.tmps o<;>rw[j]at hi i<;>simp only at hi i<;>try cases hi
 obtain⟨e,q,d⟩:=aU hi
 cases e<;>simp only at d<;>try cases d
 rename_i f k;obtain⟨p,r,u⟩:=aU d;obtain⟨B,v,x⟩:=cA u;cases x;obtain⟨y,h8⟩:=g f fn r;obtain⟨b,z,A⟩:=wR (o:=o) (tQ h.tmps) h.wd.box (fun _=>rfl) (fun D k e=>by cases e;exact h8) q;exact⟨i,f,b,y,v,z,A⟩
theorem aKR {b:Type}:∀{l:List b} {i:Nat} {a:b},l[i]?=some a->l.set i a=l
 | [],_,_,h=>by simp at h
 |x::l,0,a,h=>by simp at h;simp[h]
 |x::l,i+1,a,h=>by simp only[List.set_cons_succ];rw[aKR (by simpa using h)]
theorem Ty {φ:Nat->Option (Nat×Nat)}{ν:List (Int×Nat)}{n:World}:∀{a:List AV} {b:List Value},All2 (dM C φ ν n) a b->All2 (relT C φ ν n) (a.map .val) b
 | [],[],_=>trivial
 |_::_,_::_,⟨d,e⟩=>⟨d,Ty e⟩
 | [],_::_,h=>h.elim
 |_::_,[],h=>h.elim
theorem Tx {φ:Nat->Option (Nat×Nat)}{ν:List (Int×Nat)}{w:World}:∀(n:Nat),All2 (relT C φ ν w) (List.replicate n .gC) (List.replicate n undef)
 |0=>trivial
 |n+1=>⟨rfl,Tx n⟩
theorem vB {stp:List (K (List AT))->Bool}(ai:SpecOk C w0 ψ sp)(ag:bV C bodies)(ah:tZ C w0 ψ draw)(G:AT->AS->Prop)(H:List (K (List AT))->AS->Prop)(hH:∀D s,H D s->∀(j:List (K Act)) (φ:Nat->Option (Nat×Nat)) (a:Act) (w:World),SR C φ s.nums w D j->Rep C w0 ψ φ s a w->fZ C.P R j .normal a w)(hG:∀r s φ v w,G r s->relT C φ s.nums w r v->RepW C w0 ψ φ s w->R (.returned v) w):
  ∀(f:Nat) (D:List (K (List AT))) (s:AS) (I:Tr),run C sp bodies draw stp f D s=some I->I.ok G H->∀(j:List (K Act)) (φ:Nat->Option (Nat×Nat)) (a:Act) (w:World),SR C φ s.nums w D j->Rep C w0 ψ φ s a w->fZ C.P R j .normal a w
 |0,D,s,I,h,k,j,φ,a,w,q,u=>by simp[run]at h
 |f+1,D,s,I,h,k,j,φ,a,w,q,u=>by
  have E:=vB (stp:=stp) ai ag ah G H hH hG f;unfold run at h
  cases J:stp D with
  |true=>
   rw[J]at h;simp only[cond_true,Option.some.injEq]at h;subst h;exact hH D s k j φ a w q u
  |false=>
  rw[J]at h;simp only[cond_false]at h;clear J
  match D,j,q with
  | [],[],_=>cases h
  |.top fn::D,.top am::j,q=>
   obtain⟨rfl,q⟩:=q;simp only at h;obtain⟨r,M,rfl⟩:=cA h;obtain⟨x,x1,x2⟩:=aOg u M;exact⟨u.defers,x,x1,hG r s φ x w k x2 u.wd⟩
  |.fr fn a8 tm::D,.fr am ad b::j,q=>
   obtain⟨rfl,rfl,hd,W,q⟩:=q;simp only at h;obtain⟨r,M,B⟩:=aU h;obtain⟨x,x1,x2⟩:=aOg u M;refine⟨u.defers,x,x1,?_⟩;exact E D _ I B k j φ _ w q ⟨u.wd,by rw[rG];exact hd,rH W ad x2⟩
  |.cD i::D,.cD i'::j,q=>
   obtain⟨rfl,q⟩:=q;simp only at h;exact E D s I h k j φ a w q u
  |.lp b 0::D,_,_=>cases h
  |.lp b (n+1)::D,.lp b' n'::j,q=>
   obtain⟨rfl,rfl,q⟩:=q;simp only at h;have:=E _ s I h k (.code b'::.lp b' n::j) φ a w ⟨rfl,rfl,rfl,q⟩ u;exact this
  |.ops all []::D,.ops A r'::j,q=>
   obtain⟨rfl,rfl,q⟩:=q;simp only at h;exact E D s I h k j φ a w q u
  |.ops all (i::F)::D,.ops A r'::j,q=>
   obtain⟨rfl,rfl,q⟩:=q;simp only at h;obtain⟨o,M,B⟩:=aU h
   cases L:splitOn A s.tmps o with
   |some dt=>
    obtain⟨d,t⟩:=dt;rw[L]at B;simp only at B;obtain⟨t1,S,h4⟩:=aU B;obtain⟨t2,h5,rfl⟩:=cA h4
    have W:s.tmps[d]?=some (.val (.one (.sbool t))):=by
     unfold splitOn at L;obtain⟨⟨g,a5⟩,_,q2⟩:=aU L;obtain⟨d',_,q4⟩:=aU q2;split at q4
     ·rename_i t' e;cases q4;exact e
     ·cases q4
    have O:∀b,t=b->All2 (relT C φ s.nums w) (s.tmps.set d (.val (.one (.bool b)))) a.tmps.toList:=by
     rintro b rfl;obtain⟨v,v1,v2⟩:=u.tmps.at W;have:=u.tmps.set d (a:=.val (.one (.bool t))) (b:=v) v2
     rwa[aKR v1]at this
    cases t with
    |true=>exact E _ _ t1 S (k.1 rfl) (.ops A (i::F)::j) φ a w ⟨rfl,rfl,q⟩ ⟨u.wd,u.defers,O true rfl⟩
    |false=>exact E _ _ t2 h5 (k.2 rfl) (.ops A (i::F)::j) φ a w ⟨rfl,rfl,q⟩ ⟨u.wd,u.defers,O false rfl⟩
   |none=>
   rw[L]at B;simp only at B;show wpOps C.P A (fZ C.P R j) (i::F) a w;rw[wpOps_cons]
   cases J:wK C sp A s o with
   |some av=>
    obtain⟨s',p⟩:=av;rw[J]at B;simp only at B;obtain⟨Y,S,rfl⟩:=cA B;refine aS4 ai M u J (Uh k).1 ?_;intro aa a' w' N U;exact E _ s' Y S (Uh k).2 (.ops A F::j) aa a' w' ⟨rfl,rfl,q.ext N⟩ U
   |none=>
    rw[J]at B;simp only at B
    cases T:inl C bodies A s o with
    |none=>rw[T]at B;cases B
    |some x=>
     obtain⟨fn,c,vs⟩:=x;rw[T]at B;simp only at B;obtain⟨hw,g,xs,g1,g2,g3,g4⟩:=aU1 ag u T;unfold wpOp;simp only[M];rw[if_pos hw];refine Or.inl ?_;unfold Oper.wp;rw[g3];show Calls C.P g xs.toArray w _
     have X:=E _ _ I B k (.code c::.fr fn o.dst a::.ops A F::j) φ { tmps:=xs.toArray++Array.replicate (fn.ntmps-xs.toArray.size) undef,defers:=[]} w ⟨rfl,rfl,rfl,u.defers,u.tmps,rfl,rfl,q⟩
      ⟨u.wd,rfl,by
       have hl:=g4.len;simp only[Array.toList_append,Array.toList_replicate,List.size_toArray];rw[<-hl]
       exact(Ty g4).append (Tx _)⟩
     refine(calls_of_wp g1 g2 X).mono ?_;intro e w' he
     cases e with
     |returned v=>exact he
     |panicked ch=>exact he.elim
     |outgrown=>exact he.elim
  |.code c::D,.code c'::j,q=>
   obtain⟨rfl,q⟩:=q;show c'.wp C.P (fZ C.P R j) a w
   cases c' with
   |skip=>simp only at h;exact wp_skip (E D s I h k j φ a w q u)
   |seq x y=>simp only at h;exact wp_seq (E _ s I h k (.code x::.code y::j) φ a w ⟨rfl,rfl,q⟩ u)
   |block id b=>simp only at h;exact wp_block (E _ s I h k (.code b::.cD id::j) φ a w ⟨rfl,rfl,q⟩ u)
   |loop b=>simp only at h;exact wp_loop_rounds f (E _ s I h k (.lp b f::j) φ a w ⟨rfl,rfl,q⟩ u)
   |exit id=>
    simp only at h;obtain⟨ar,M,B⟩:=aU h;obtain⟨aj,g1,g2⟩:=SR.bZ (R:=R) (a:=a) (w':=w) q M;exact wp_exit (g2 (E ar s I B k aj φ a w g1 u))
   |ret=>
    simp only at h;obtain⟨g1,g2⟩:=SR.dB (R:=R) (a:=a) (w':=w) q;have:=E _ s I h k _ φ a w g1 u;refine wp_ret (g2 ?_)
    have X:∀l:List (K Act),fZ C.P R (dB l) .normal a w->fZ C.P R (dB l) .ret a w:=by
     intro l
     induction l with
     |nil=>exact fun h=>h
     |cons x l E=>cases x<;>first|exact E|exact fun h=>h
    exact X j this
   |cond x y z=>
    simp only at h;obtain⟨cc,M,B⟩:=aU h;have N:=tQ u.tmps x;rw[pP M]at N
    cases cc<;>simp only at B<;>try cases B
    case bool t=>
     have N:a.eval x=.bool t:=N;have:=E _ s I B k (.code (bif t then y else z)::j) φ a w ⟨rfl,q⟩ u;refine wp_cond N ?_
     cases t<;>exact this
    case sbool t=>
     have N:a.eval x=.bool t:=N;obtain⟨t1,S,h4⟩:=aU B;obtain⟨t2,h5,rfl⟩:=cA h4;exact wp_cond_split N (fun e=>E _ s t1 S (k.1 e) (.code y::j) φ a w ⟨rfl,q⟩ u) (fun e=>E _ s t2 h5 (k.2 e) (.code z::j) φ a w ⟨rfl,q⟩ u)
   |region id ops dr=>
    cases dr with
    |false=>simp only at h;exact wp_region (E _ s I h k (.ops ops (List.range ops.size)::j) φ a w ⟨rfl,rfl,q⟩ u)
    |true=>
     simp only at h;obtain⟨⟨s',p⟩,M,B⟩:=aU h;obtain⟨Y,S,rfl⟩:=cA B;refine ah ops s s' p M (Uh k).1 φ a w id _ u ?_;intro aa a' w' N U;exact E D s' Y S (Uh k).2 j aa a' w' (q.ext N) U
   |_=>cases h
theorem mC (h:SpecOk C w0 ψ sp)(d:bV C bodies)(e:tZ C w0 ψ draw){f:FuncId}{fn:Func}{c:Code}(o:C.P.funcs[f]?=some fn)(l:fn.body=some c){args:List Value}{vs:List AV}{s:AS}
  (q:s.tmps=vs.map .val++List.replicate (fn.ntmps-vs.length) .gC) (hv:All2 (dM C φ s.nums w0) vs args) (x:RepW C w0 ψ φ s w0)
  (n:Nat) {stp:List (K (List AT))->Bool} {X:Tr} (u:run C sp bodies draw stp n [.code c,.top fn] s=some X) (G:AT->AS->Prop) (H:List (K (List AT))->AS->Prop) (k:∀i s,H i s->∀(b:List (K Act)) (φ:Nat->Option (Nat×Nat)) (a:Act) (w:World),SR C φ s.nums w i b->Rep C w0 ψ φ s a w->fZ C.P R b .normal a w) (g:X.ok G H) (j:∀r s φ v w,G r s->relT C φ s.nums w r v->RepW C w0 ψ φ s w->R (.returned v) w):Calls C.P f args.toArray w0 R:=by
 refine calls_of_wp o l ?_;have p:=hv.len
 exact vB h d e G H k j n _ s X u g [.code c,.top fn] φ _ w0 ⟨rfl,rfl,trivial⟩ ⟨x,rfl,by
  rw[q];simp only[Array.toList_append,Array.toList_replicate,List.size_toArray];rw[<-p]
  exact(Ty hv).append (Tx _)⟩
end
structure iF where
 res:AT
 new:Option bO
 mQ:Option (Nat×List AC)
 app:Option Nat
def eV (bt:List TypeId)(sp:Spec)(g d:Nat->Option bO)(ν:List (Int×Nat))(id:Nat):nC->Option (iF×List (Int×Nat)×List Prop)
 |.val r p=>some (⟨r,none,none,none⟩,[],p)
 |.new cs ty sl=>some (⟨.val (.one (Jd id sl)),some ⟨cs,ty,true,sl.isSome,sl.isSome⟩,none,none⟩,[],[])
 |.app old cs ty len size=>bif bt.contains ty then some (⟨.val (.one (.slc id 0 len size)),some ⟨cs,ty,true,true,true⟩,none,old⟩,[],[])else none
 |.mQ b cs=>(d b).bind fun B=>bif bt.contains B.ty then some (⟨.gC,none,some (b,cs),none⟩,[],[])else none
 |.call f e=>(sp f false ν id g e).bind fun
   |(a,r,p,none)=>some (⟨r,none,none,none⟩,a,p)
   |(a,r,p,some B)=>some (⟨r,some B,none,none⟩,a,p)
def fS (c:Bool)(sp:Spec)(d:Nat->Option bO)(ν:List (Int×Nat))(id:Nat):nC->Option (iF×List (Int×Nat)×List Prop)
 |.val (.val v) p=>some (⟨.mY c v,none,none,none⟩,[],nT c p)
 |.call f b=>(sp f false ν id d b).bind fun
   |(a,.val v,p,none)=>some (⟨.mY c v,none,none,none⟩,a,nT c p)
   |_=>none
 |_=>none
def oS:List AT->Option (List AV×List Bool)
 | []=>some ([],[])
 |.val v::r=>(oS r).map fun p=>(v::p.1,p.2)
 |.mY c v::r=>(oS r).map fun p=>(v::p.1,c::p.2)
 |_::_=>none
def kC (c:Bool)(sp:Spec)(e:Nat->Option bO)(ν:List (Int×Nat))(id:Nat)(b:Operand->AT):Op->Option (iF×List (Int×Nat)×List Prop)
 |.call { callee:=.value (.func f),args:=args,..}=>(oS (args.toList.map b)).bind fun p=>(sp f false ν id e p.1).bind fun
   |(a,.val v,q,none)=>some (⟨.mY c v,none,none,none⟩,a,nT c (q++p.2.map fun d=>d=true))
   |_=>none
 |_=>none
def orElse {b:Type}(x y:Option b):Option b:=match x with|some a=>some a|none=>y
def qO (C:fF)(sp:Spec)(d:Nat->Option bO)(all:Array Oper)(a:List AT)(b:Nat->Option bO)(ν:List (Int×Nat))(id:Nat)(o:Oper):Option (iF×List (Int×Nat)×List Prop):=
 match gd all a o with
 |.yes=>(evalOp C.P (iS a) b o.op).bind (eV C.bt sp d b ν id)
 |.no=>some (⟨.gC,none,none,none⟩,[],[])
 |.cond c=>orElse ((evalOp C.P (iS a) b o.op).bind (fS c sp d ν id)) (kC c sp d ν id (iS a) o.op)
 |.bad=>none
def iH (id:Nat)(e:iF)(a:Nat->Option bO):Nat->Option bO:=
 match e.new with
 |some B=>lX a id B e.app
 |none=>match e.mQ with
  |some (b,cs)=>match a b with
   |some B=>setB a b {B with cs:=cs}
   |none=>a
  |none=>a
def xL (id:Nat)(e:iF)(l:List (Nat×bO)):List (Nat×bO):=
 match e.new with
 | some B=>(match e.app with
  |none=>(id,B)::l
  |some b=>match look l b with
   |some _=>oF ((id,B)::l) b
   |none=>(id,B)::l)
 |none=>match e.mQ with
  |some (b,cs)=>kY l b cs
  |none=>l
section
variable {C:fF} {w0:World} {ψ:Nat->Option (Nat×Nat)} {sp:Spec}
def Gq:AT->AT
 |.mY c v=>bif c then .val v else .mY c v
 |t=>t
theorem aTk {n:World}{t:AT}{x:Value}(h:relT C φ ν n t x):relT C φ ν n (Gq t) x:=by
 cases t with
 |mY c v=>
  cases c with
  |true=>simpa[Gq,relT]using h
  |false=>exact h
 |_=>exact h
theorem aJT:∀{ts:List AT} {a:List AV} {cs:List Bool},oS ts=some (a,cs)->(∀d∈cs,d=true)->qI (ts.map Gq)=some a
 | [],a,cs,h,_=>by simp[oS]at h;rw[h.1];rfl
 |.val v::r,a,cs,h,hc=>by
  simp only[oS]at h;obtain⟨p,b,f⟩:=cA h;cases f;simp only[List.map_cons,Gq,qI,aJT b hc,Option.map_some]
 |.mY c v::r,a,cs,h,hc=>by
  simp only[oS]at h;obtain⟨p,b,f⟩:=cA h;cases f;have e:c=true:=hc c (by simp);subst e;simp only[List.map_cons,Gq,cond_true,qI,aJT b (fun d g=>hc d (by simp[g])),Option.map_some]
 |.top::_,_,_,h,_=>by simp[oS]at h
 |.gC::_,_,_,h,_=>by simp[oS]at h
 |.tup _::_,_,_,h,_=>by simp[oS]at h
variable {p:List Prop}
theorem aET {id:Nat}{c:Bool}{l:Nat->Option bO}{b:List (Int×Nat)}{j:Operand->AT}{op:Op}{e:iF}(h:kC c sp l ν id j op=some (e,b,p)):∃f args ts g cs a v q,op=.call { callee:=.value (.func f),args:=args,argTypes:=ts}/\oS (args.toList.map j)=some (g,cs)/\sp f false ν id l g=some (a,.val v,q,none)/\e=⟨.mY c v,none,none,none⟩/\b=a/\p=nT c (q++cs.map fun d=>d=true):=by
 unfold kC at h;split at h
 ·rename_i f args ts;obtain⟨⟨g,cs⟩,n,o⟩:=aU h;obtain⟨⟨a,r,q,i⟩,s,k⟩:=aU o
  cases r<;>cases i<;>simp only at k<;>try cases k
  exact⟨f,args,ts,g,cs,_,_,_,rfl,n,s,rfl,rfl,rfl⟩
 ·cases h
theorem aUQ (am:SpecOk C w0 ψ sp){tm:List AT}{xb F:Nat->Option bO}{nb:Nat->Prop}{id i:Nat}{s ak:List (Int×Nat)}{dirty:List Nat}{a:Act}{all:Array Oper}{o:Oper}{e:iF}{Q:Exit->Act->World->Prop}{K:Act->World->Prop}
  (ho:all[i]?=some o) (h:RepF C w0 ψ φ F nb s dirty w) (S:a.defers=[]) (H:All2 (relT C φ s w) tm a.tmps.toList) (l:qO C sp xb all tm F ν id o=some (e,ak,p)) (hp:Holds p) (ao:∀b B,xb b=some B->F b=some B) (ap:∀(i:Nat) (x:Int×Nat),(ν++ak)[i]?=some x->s[i]?=some x)
  (ai:nb id) (T:∀b cs,e.mQ=some (b,cs)->b∈dirty)
  (hK:∀N a' M,RepF C w0 ψ N (iH id e F) (fun b=>nb b/\b≠id) s dirty M->a'.defers=[]->All2 (relT C N s M) (putT tm o.dst e.res) a'.tmps.toList->Ext C φ N s s w M->K a' M):wpOp C.P all Q i K a w:=by
 unfold wpOp;simp only[ho];have U:=Pb (all:=all) (o:=o) H
 have L:RepF C w0 ψ φ F (fun b=>nb b/\b≠id) s dirty w:=h.cT fun _ u=>u.1
 have skip:∀r,e=⟨r,none,none,none⟩->relT C φ s w r undef->K (a.put o.dst undef) w:=by
  rintro r rfl hr;exact hK φ _ w L (by rw[rG];exact S) (rH H o.dst hr) (Ext.refl _ _ _)
 have go:∀(ev:Operand->AT),(∀x,relT C φ s w (ev x) (a.eval x))->∀(f:nC) (e':iF) (p:List Prop),Holds p->evalOp C.P ev F o.op=some f->eV C.bt sp xb F ν id f=some (e',ak,p)->(e'.new=e.new/\e'.mQ=e.mQ/\e'.app=e.app/\∀φ w v,relT C φ s w e'.res v->relT C φ s w e.res v)->o.wp C.P a w K Q:=by
  intro ev D f e' p hp J g j
  have hB:iH id e F=iH id e' F:=by unfold iH;rw[j.1,j.2.1,j.2.2.1]
  rw[hB]at hK;unfold Oper.wp
  cases f with
  |val r q=>
   simp only[eV,Option.some.injEq,Prod.mk.injEq]at g;obtain⟨rfl,rfl,rfl⟩:=g;obtain⟨v,X,Y⟩:=wR (o:=o) D h.box (fun _=>rfl) (fun f R e=>by cases e) J hp;rw[X];exact hK φ _ w L (by rw[rG];exact S) (rH H o.dst (j.2.2.2 _ _ _ Y)) (Ext.refl _ _ _)
  |new cs ty sl=>
   simp only[eV,Option.some.injEq,Prod.mk.injEq]at g;obtain⟨rfl,rfl,rfl⟩:=g;obtain⟨xs,X,Y,r3⟩:=wR (o:=o) D h.box (fun _=>rfl) (fun f R e=>by cases e) J;rw[X];obtain⟨k1,I⟩:=h.new (n:=id) ai (B:=⟨cs,ty,true,sl.isSome,sl.isSome⟩) (post:=[]) (d:=w.drawn) Y rfl (fun h=>h) (fun _=>rfl);rw[List.append_nil]at k1 I;exact hK _ _ _ k1 (by rw[rG];exact S) (rH (H.mono (xA I)) o.dst (j.2.2.2 _ _ _ (aNH r3))) I
  |app old cs ty len size=>
   simp only[eV]at g
   cases u:C.bt.contains ty with
   |false=>rw[u]at g;cases g
   |true=>
    rw[u]at g;simp only[cond_true,Option.some.injEq,Prod.mk.injEq]at g;obtain⟨rfl,rfl,rfl⟩:=g;obtain⟨v,M,a7,X,Y,r3,r4⟩:=wR (o:=o) D h.box (fun _=>rfl) (fun f R e=>by cases e) J;rw[X];obtain⟨N,k1,I,k3⟩:=aMu h (n:=id) ai Y r3 u r4;exact hK N _ _ k1 (by rw[rG];exact S) (rH (H.mono (xA I)) o.dst (j.2.2.2 _ _ _ k3)) I
  |mQ b cs=>
   simp only[eV]at g;obtain⟨B,O,z⟩:=aU g
   cases u:C.bt.contains B.ty with
   |false=>rw[u]at z;cases z
   |true=>
    rw[u]at z;simp only[cond_true,Option.some.injEq,Prod.mk.injEq]at z;obtain⟨rfl,rfl,rfl⟩:=z;obtain⟨B',k,oo,M,a4,ys,ae,zs,m1,mr,m2,m3,m4,m5,m6,m7,m8,m9⟩:=wR (o:=o) D h.box (fun _=>rfl) (fun f R e=>by cases e) J;rw[O]at m1;cases m1;rw[m3];obtain⟨k1,I⟩:=h.mQ (dirty':=dirty) O mr m2 m4 m5 m6 m7 m8 m9 u (fun _ A=>A) (Or.inr (T b cs (by rw[<-j.2.1])))
    have e2:iH id ⟨.gC,none,some (b,cs),none⟩ F=setB F b {B with cs:=cs}:=by simp only[iH,O]
    rw[<-e2]at k1;exact hK _ _ _ (k1.cT fun _ u=>u.1) (by rw[rG];exact S) (rH (H.mono (xA I)) o.dst (j.2.2.2 _ _ _ rfl)) I
  |call f R=>
   simp only[eV]at g;obtain⟨⟨aa,r,q,aj⟩,O,z⟩:=aU g
   cases aj with
   |some B=>
    simp only[Option.some.injEq,Prod.mk.injEq]at z;obtain⟨rfl,rfl,rfl⟩:=z;obtain⟨ah,hc⟩:=am f false ν id xb R aa r q (some B) O;obtain⟨xs,X,Y⟩:=wR (o:=o) D h.box (fun _=>rfl) (fun f' a6 e=>by cases e;exact ah) J;rw[X];refine(hc hp s ap φ w xs h.base (fun e=>by cases e) h.on (fun b B e=>h.box b B (ao b B e)) Y).mono ?_;rintro e M⟨v,rfl,u,b1,b2,k,o',a4,ys,ae,m1,m2,m3,m4,m5,m6⟩;obtain⟨k1,I⟩:=h.got (n:=id) ai u (fun _ _ h=>h) m1 m2 m3 m4 b1 b2 m6;exact hK _ _ M k1 (by rw[rG];exact S) (rH (H.mono (xA I)) o.dst (j.2.2.2 _ _ _ m5)) I
   |none=>
   simp only[Option.some.injEq,Prod.mk.injEq]at z;obtain⟨rfl,rfl,rfl⟩:=z;obtain⟨ah,hc⟩:=am f false ν id xb R aa r q none O;obtain⟨xs,X,Y⟩:=wR (o:=o) D h.box (fun _=>rfl) (fun f' a6 e=>by cases e;exact ah) J;rw[X];refine(hc hp s ap φ w xs h.base (fun e=>by cases e) h.on (fun b B e=>h.box b B (ao b B e)) Y).mono ?_;rintro e M⟨v,rfl,u,hv⟩
   have A:Ext C φ φ s s w M:=⟨fun _ _ h=>h,fun _ _ h=>h,On.below u⟩
   exact hK φ _ M (L.later u s (fun _ _ h=>h)) (by rw[rG];exact S) (rH (H.mono (xA A)) o.dst (j.2.2.2 _ _ _ hv)) A
 unfold qO at l
 cases W:gd all tm o with
 |yes=>
  rw[W]at U l;simp only at U l;obtain⟨f,J,g⟩:=aU l;rw[if_pos U];exact Or.inl (go _ (tQ H) f e p hp J g ⟨rfl,rfl,rfl,fun _ _ _ h=>h⟩)
 |no=>
  rw[W]at U l;simp only[Option.some.injEq,Prod.mk.injEq]at U l;obtain⟨rfl,rfl,rfl⟩:=l;rw[if_neg (by simp[U])];exact skip _ rfl rfl
 |cond c=>
  rw[W]at U l;simp only at U l;rw[U]
  have two:∀v,e=⟨.mY c v,none,none,none⟩->(c=true->o.wp C.P a w K Q)->if c=true then o.wp C.P a w K Q\/(o.asks C.P a w/\LetsOut Q)else K (a.put o.dst undef) w:=by
   intro v hv hw
   cases c with
   |true=>simp only[if_true];exact Or.inl (hw rfl)
   |false=>simp only[Bool.false_eq_true,if_false];exact skip _ hv (by simp[relT])
  cases A:(evalOp C.P (iS tm) F o.op).bind (fS c sp xb ν id)with
  |none=>
   rw[A]at l;simp only[orElse]at l;obtain⟨f,args,ts,R,cs,aa,v,q,ay,hu,O,rfl,rfl,rfl⟩:=aET l
   refine two v rfl fun hc=>?_
   subst hc;have E:=Nb hp rfl
   have ax:∀d∈cs,d=true:=fun d S=>E (d=true) (List.mem_append_right _ (List.mem_map.2 ⟨d,S,rfl⟩))
   refine go (fun x=>Gq (iS tm x)) (fun x=>aTk (tQ H x)) (.call f R) ⟨.val v,none,none,none⟩ q (fun y hy=>E y (List.mem_append_left _ hy)) ?_ (by simp[eV,O]) ⟨rfl,rfl,rfl,fun φ w x A=>by simpa[relT]using A⟩;rw[ay];simp only[evalOp];have:=aJT hu ax;rw[List.map_map]at this;rw[show(fun x=>Gq (iS tm x))=(Gq∘iS tm)from rfl,this];rfl
  |some y=>
  rw[A]at l;simp only[orElse,Option.some.injEq]at l;subst l;obtain⟨f,J,g⟩:=aU A
  cases f with
  |val r q=>
   cases r with
   |val v=>
    simp only[fS,Option.some.injEq,Prod.mk.injEq]at g;obtain⟨rfl,rfl,rfl⟩:=g
    refine two v rfl fun hc=>?_
    subst hc;have E:=Nb hp rfl;exact go _ (tQ H) (.val (.val v) q) ⟨.val v,none,none,none⟩ q E J rfl ⟨rfl,rfl,rfl,fun φ w x A=>by simpa[relT]using A⟩
   |_=>simp[fS]at g
  |call f R=>
   simp only[fS]at g;obtain⟨⟨aa,r,q,aj⟩,O,z⟩:=aU g
   cases r with
   |val v=>
    cases aj with
    |some B=>simp at z
    |none=>
    simp only[Option.some.injEq,Prod.mk.injEq]at z;obtain⟨rfl,rfl,rfl⟩:=z
    refine two v rfl fun hc=>?_
    subst hc;have E:=Nb hp rfl;exact go _ (tQ H) (.call f R) ⟨.val v,none,none,none⟩ q E J (by simp[eV,O]) ⟨rfl,rfl,rfl,fun φ w x A=>by simpa[relT]using A⟩
   |_=>simp at z
  |_=>simp[fS]at g
 |bad=>rw[W]at l;cases l
end
end Ab
end Go.Proofs.YtkmojpfpfoaloaaGreatDoor
