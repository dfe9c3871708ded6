import Derived.Test.YtpdflaaamaokbaaGreatDoorCCh07
import Derived.Test.YtpdflaaamaokbaaGreatDoorCCh04
set_option linter.all false
set_option maxRecDepth 100000
set_option maxHeartbeats 2000000
namespace Go.Proofs.YtpdflaaamaokbaaGreatDoor
open Option renaming bind_eq_some_iff->j8,map_eq_some_iff->j9,bind_some->k8,map_some->k9
open List renaming any_eq_false->l4,getElem?_append_left->l5,getElem?_append_right->l7,getElem?_eq_some_iff->l8,getElem?_eq_getElem->l9,map_cons->n4,map_nil->n5,mem_cons->n6,replicate->n7,find?->n8
open Int renaming le_of_lt->n9,mul_pos->o8,natAbs_pos->o9,lt_trichotomy->p7,tmod_eq_emod_of_nonneg->p8,mul_le_mul->p9,mul_nonneg->q7,tdiv_eq_ediv_of_nonneg->q8
open Option.some renaming injEq->q9
open Nat renaming le_refl->s4
open Bool renaming false_or->s8,false_eq_true->s9
open Nm (tz jB jC hO jZ)
open Go.Proofs.Tryz
namespace Pg
open Rf Nw
def eG (v:V):Int:=if v.1=0/\v.2=0 then 1 else v.1+v.2
def scaled (u v o r:V):Int:=(((u.1*v.2-u.2*v.1)*(eG o*eG r)).natAbs:Int)
def yG (a b:Int):Int:=if a<b then b else a
def rH (cs:List V)(times:Int):Int:=
 match cs with
 | [a,b,c,d]=>Nm.cmp (yG (scaled a c b d) (scaled b d a c)*times) (yG (scaled a b c d) (scaled c d a b))
 |_=>0
def zC (S:Int)(f:V)(x:Int):Prop:=0<f.2/\0<=f.1/\f.1*S=2*x*f.2
theorem Zh {k a b:Int}(d:0<k):k*a<=k*b↔a<=b:=⟨λh=>Int.le_of_mul_le_mul_left h d,λh=>Int.mul_le_mul_of_nonneg_left h (n9 d)⟩
theorem zC.dW {v:Int}{M F:V}{x r:Int}(l:0<v)(n:zC v M x)(o:zC v F r):zC v (Rf.dW M F) (yG x r):=by
 obtain⟨f1,f2,f3⟩:=n;obtain⟨b,k,d⟩:=o
 have a:F.1*M.2<=M.1*F.2↔r<=x:=by
  have i:v*(F.1*M.2)=2*(M.2*F.2)*r:=by
   calc v*(F.1*M.2)=(F.1*v)*M.2:=by grind
    _=2*(M.2*F.2)*r:=by rw[d];grind
  have j:v*(M.1*F.2)=2*(M.2*F.2)*x:=by
   calc v*(M.1*F.2)=(M.1*v)*F.2:=by grind
    _=2*(M.2*F.2)*x:=by rw[f3];grind
  have p:0<2*(M.2*F.2):=o8 (by decide) (o8 f1 b);rw[<-Zh l,i,j,Zh p]
 unfold Rf.dW yG
 by_cases h:r<=x
 .rw[if_pos (a.2 h),if_neg (by omega)];exact⟨f1,f2,f3⟩
 .rw[if_neg (λe=>h (a.1 e)),if_pos (by omega)];exact⟨b,k,d⟩
theorem aNd {k a b:Int}(d:0<k):Nm.cmp (k*a) (k*b)=Nm.cmp a b:=by
 have e:k*a<k*b↔a<b:=⟨λh=>Int.lt_of_mul_lt_mul_left h (n9 d),λh=>Int.mul_lt_mul_of_pos_left h d⟩
 have f:k*a=k*b↔a=b:=⟨λh=>Int.eq_of_mul_eq_mul_left (by omega) h,λh=>by rw[h]⟩
 unfold Nm.cmp;simp only[e,f]
theorem zC.cmp {v:Int}{M F:V}{x r y:Int}(e:0<v)(h:zC v M x)(i:zC v F r):Nm.cmp (y*M.1*F.2) (F.1*M.2)=Nm.cmp (x*y) r:=by
 obtain⟨f1,f2,f3⟩:=h;obtain⟨b,k,d⟩:=i;have j:0<2*(M.2*F.2):=o8 (by decide) (o8 f1 b);rw[<-aNd e,<-aNd (a:=x*y) j];congr 1
 .calc v*(y*M.1*F.2)=y*(M.1*v)*F.2:=by grind
   _=2*(M.2*F.2)*(x*y):=by rw[f3];grind
 .calc v*(F.1*M.2)=(F.1*v)*M.2:=by grind
   _=2*(M.2*F.2)*r:=by rw[d];grind
def pI (v:V):Prop:=(0<=v.1/\0<=v.2)\/(v.1<=0/\v.2<=0)
theorem Uz {D:List V}(h:fits D=true):∀v∈D,pI v:=by
 unfold fits at h;intro v hv;unfold pI
 cases b:D.any pC with
 |false=>
  have:=l4.1 b v hv;simp[pC]at this;omega
 |true=>
  cases a:D.any lO with
  |true=>rw[b,a]at h;cases h
  |false=>
   have:=l4.1 a v hv;simp[lO]at this;omega
theorem Xb {M:V}(h:pI M):eG M≠0:=by
 unfold eG pI at*
 split<;>omega
theorem Xa {M:V}(h:pI M):(M.1+M.2=0↔M.1=0/\M.2=0):=by
 unfold pI at h;omega
theorem Ua {M F o r:V}{e S:Int}(y:0<e)(j:pI M)(hv:pI F)(z:pI o)(E:pI r)(q:S=((eG M).natAbs:Int)*((eG F).natAbs:Int)*(((eG o).natAbs:Int)*((eG r).natAbs:Int))):zC S (apart (sc e M) (sc e F)) (scaled M F o r):=by
 have n:(sc e M).1+(sc e M).2=e*(M.1+M.2):=by unfold sc;simp;grind
 have p:(sc e F).1+(sc e F).2=e*(F.1+F.2):=by unfold sc;simp;grind
 have d:∀x:Int,e*x=0↔x=0:=λx=>⟨λh=>by rcases Int.mul_eq_zero.1 h with h|h;omega;exact h,λh=>by rw[h];simp⟩
 unfold apart;rw[n,p]
 by_cases hc:M.1+M.2=0\/F.1+F.2=0
 .rw[if_pos (by rw[d,d];exact hc)]
  have s:scaled M F o r=0:=by
   have:M.1*F.2-M.2*F.1=0:=by
    rcases hc with h|h
    .obtain⟨a,b⟩:=(Xa j).1 h;rw[a,b];simp
    .obtain⟨a,b⟩:=(Xa hv).1 h;rw[a,b];simp
   unfold scaled;rw[this];simp
  refine⟨by decide,by decide,?_⟩;rw[s];simp
 .rw[if_neg (by rw[d,d];exact hc)]
  have g:M.1+M.2≠0:=λh=>hc (Or.inl h)
  have i:F.1+F.2≠0:=λh=>hc (Or.inr h)
  have w:eG M=M.1+M.2:=by unfold eG;rw[if_neg (λh=>g ((Xa j).2 h))]
  have sv:eG F=F.1+F.2:=by unfold eG;rw[if_neg (λh=>i ((Xa hv).2 h))]
  have n0:e*(M.1+M.2)*(e*(F.1+F.2))≠0:=Int.mul_ne_zero (λh=>g ((d _).1 h)) (λh=>i ((d _).1 h))
  have f:((sc e M).1-(sc e M).2)*(e*(F.1+F.2))-((sc e F).1-(sc e F).2)*(e*(M.1+M.2))=2*(e*e)*(M.1*F.2-M.2*F.1):=by unfold sc;simp;grind
  refine⟨by simp only;omega,by simp only;omega,?_⟩;simp only;rw[f,q,w,sv];unfold scaled;simp only[Int.natAbs_mul,Int.natCast_mul]
  have l:((e.natAbs:Nat):Int)=e:=by omega
  rw[l];generalize ((M.1+M.2).natAbs:Int)=A;generalize ((F.1+F.2).natAbs:Int)=B;generalize ((eG o).natAbs:Int)=C;generalize ((eG r).natAbs:Int)=D;generalize ((M.1*F.2-M.2*F.1).natAbs:Int)=X;have k:(((2:Int).natAbs:Nat):Int)=2:=rfl;rw[k];grind
theorem eN.wider {D cs:List V}(h:eN D cs)(p:D.length=4)(g:Nw.fits D=true)(f:Int):Rf.wider f D=rH cs f:=by
 obtain⟨x,y,z,t,rfl⟩:=four h.len;obtain⟨a,b,c,d,rfl⟩:=four p;rw[h.fits]at g;obtain⟨e,i,rfl,rfl,rfl,rfl⟩:=h.of4;have o1:=Uz g x (by simp);have o2:=Uz g y (by simp);have o3:=Uz g z (by simp);have o4:=Uz g t (by simp);have p1:=o9.2 (Xb o1);have q:=o9.2 (Xb o2);have p3:=o9.2 (Xb o3);have p4:=o9.2 (Xb o4);have j:0<((eG x).natAbs:Int)*((eG y).natAbs:Int)*(((eG z).natAbs:Int)*((eG t).natAbs:Int)):=o8 (o8 (by omega) (by omega)) (o8 (by omega) (by omega));have f1:=Ua (S:=((eG x).natAbs:Int)*((eG y).natAbs:Int)*(((eG z).natAbs:Int)*((eG t).natAbs:Int))) i o1 o3 o2 o4 (by grind);have f2:=Ua (S:=((eG x).natAbs:Int)*((eG y).natAbs:Int)*(((eG z).natAbs:Int)*((eG t).natAbs:Int))) i o2 o4 o1 o3 (by grind);have f3:=Ua (S:=((eG x).natAbs:Int)*((eG y).natAbs:Int)*(((eG z).natAbs:Int)*((eG t).natAbs:Int))) i o1 o2 o3 o4 (by grind);have k:=Ua (S:=((eG x).natAbs:Int)*((eG y).natAbs:Int)*(((eG z).natAbs:Int)*((eG t).natAbs:Int))) i o3 o4 o1 o2 (by grind);have n:=zC.dW j f1 f2;have o:=zC.dW j f3 k;unfold Rf.wider rH;simp only;exact zC.cmp j n o
def qR (op:Rf.Op)(hi lo:V):Bool:=
 let u:=hi.1*lo.2
 let l:=lo.1*hi.2
 if op=.sqrt then decide (u<=l+l)
 else decide ((u-l)*4<=(if op=.fK then hi.2*lo.2+l else if op=.atan then hi.2*lo.2+hi.1*lo.1 else hi.2*lo.2))
theorem aQb {op:Rf.Op}(f:op=.sqrt\/op=.exp\/op=.fK\/op=.atan){e:Int}(h:0<e)(hi lo:V):known op (sc e lo) (sc e hi)=qR op hi lo:=by
 have d:0<e*e:=o8 h h
 have g:∀{a b x y:Int},a=e*e*x->b=e*e*y->decide (a<=b)=decide (x<=y):=by
  intro a b x y i j;rw[decide_eq_decide,i,j,Zh d]
 rcases f with rfl|rfl|rfl|rfl<;>simp only[known,qR,reduceCtorEq,if_true,if_false]<;>apply g<;>simp only[sc]<;>grind
end Pg
namespace Pg
open Rf Nw
structure HC (n:Nd):Prop where
 len:n.dR.length=n.out.length+1
 fst:n.dR[0]?=some one
 lst:n.dR[n.out.length]?=some n.told
 step:∀(r:Nat) (c:Int) (m:Mt),n.out[r]?=some c->n.dR[r]?=some m->n.dR[r+1]?=some (m.mul (Mt.sym c))
theorem HC.fresh (pos:Bool)(t:List V)(args:NU):HC (fresh pos t args):=⟨rfl,rfl,rfl,λr c m h=>by simp[Rf.fresh]at h⟩
variable {d:Nd}
theorem HC.of {n':Nd}(h:HC d)(b:n'.out=d.out)(a:n'.dR=d.dR)(e:n'.told=d.told):HC n':=⟨by rw[b,a];exact h.len,by rw[a];exact h.fst,by rw[b,a,e];exact h.lst,by rw[b,a];exact h.step⟩
variable {n:Nd}
theorem HC.give (h:HC n)(c:Int):HC {n with out:=n.out++[c],told:=n.told.mul (Mt.sym c),dR:=n.dR++[n.told.mul (Mt.sym c)]}:=by
 refine⟨by simp[h.len],?_,?_,?_⟩
 .simp only;rw[l5 (by rw[h.len];omega)];exact h.fst
 .simp only;rw[l7 (by simp[h.len])];simp[h.len]
 .intro r d m a b;simp only at a b ⊢
  by_cases f:r<n.out.length
  .rw[l5 f]at a;rw[l5 (by rw[h.len];omega)]at b ⊢;exact h.step r d m a b
  .have e:r=n.out.length:=by
    have:=(l8.1 a).1;simp at this;omega
   subst e;rw[l7 (s4 _)]at a;simp at a;rw[l5 (by rw[h.len];omega),h.lst]at b;cases b;subst a;rw[l7 (by rw[h.len];omega)];simp[h.len]
structure Go (ns ns':List Nd):Prop where
 len:ns.length<=ns'.length
 at':∀(i:Nat) (n:Nd),ns[i]?=some n->∃n',ns'[i]?=some n'/\n'.pos=n.pos/\(∀(r:Nat) (m:Mt),n.dR[r]?=some m->n'.dR[r]?=some m)/\(∀(r:Nat) (c:Int),n.out[r]?=some c->n'.out[r]?=some c)
theorem Go.refl (ns:List Nd):Go ns ns:=⟨s4 _,λi n h=>⟨n,h,rfl,λ_ _ h=>h,λ_ _ h=>h⟩⟩
theorem Go.trans {a b c:List Nd}(h:Go a b)(d:Go b c):Go a c:=⟨Nat.le_trans h.len d.len,λi n q=>by
 obtain⟨s,f,g,j,k⟩:=h.at' i n q;obtain⟨u,l,o,p,h8⟩:=d.at' i s f
 exact⟨u,l,o.trans g,λr m e=>p r m (j r m e),λr m e=>h8 r m (k r m e)⟩⟩
theorem Go.more (ns a:List Nd):Go ns (ns++a):=⟨by simp,λi n h=>⟨n,by rw[l5 (l8.1 h).1];exact h,rfl,λ_ _ h=>h,λ_ _ h=>h⟩⟩
theorem Go.set {ns:List Nd}{i:Nat}{d n':Nd}(h:ns[i]?=some d)(g:n'.pos=d.pos)(e:∀(r:Nat) (m:Mt),d.dR[r]?=some m->n'.dR[r]?=some m)(f:∀(r:Nat) (c:Int),d.out[r]?=some c->n'.out[r]?=some c):Go ns (ns.set i n'):=by
 refine⟨by simp,λk m a=>?_⟩
 by_cases b:i=k
 .subst b;rw[h]at a;cases a;exact⟨n',by rw[List.getElem?_set_self (l8.1 h).1],g,e,f⟩
 .exact⟨m,by rw[List.getElem?_set_ne b];exact a,rfl,λ_ _ h=>h,λ_ _ h=>h⟩
theorem Go.ends {ns b:List Nd}(h:Go ns b){d:Nd}{w:Nat}{e:V×V}(s:ends ns d w=some e):ends b d w=some e:=by
 unfold Rf.ends at*;obtain⟨a,i,j⟩:=j8.1 s;obtain⟨x,k,l⟩:=j8.1 j;obtain⟨r,o,p⟩:=j8.1 l;obtain⟨m,q,rfl⟩:=j9.1 p;obtain⟨u,f,_,g,_⟩:=h.at' a x k;rw[i];simp only[k8,f,o,g r m q,k9]
theorem Go.bare {ns b:List Nd}(h:Go ns b){d:Nd}{D:List V}(a:bare ns d=some D):bare b d=some D:=by
 unfold Rf.bare at*;split at a
 .exact a
 .exact a
 .obtain⟨e,g,rfl⟩:=j9.1 a;rw[h.ends g];rfl
 .obtain⟨e,g,j⟩:=j8.1 a;rw[h.ends g];simp only[k8];obtain⟨r,f,rfl⟩:=j9.1 j
  by_cases i:d.args.length=2
  .rw[if_pos i]at f ⊢;rw[h.ends f];rfl
  .rw[if_neg i]at f ⊢;rw[f];rfl
 .cases a
theorem Go.corners {ns a:List Nd}(h:Go ns a){d:Nd}{D:List V}(f:corners ns d=some D):corners a d=some D:=by
 unfold Rf.corners at*;obtain⟨b,e,rfl⟩:=j9.1 f;rw[h.bare e];rfl
theorem Go.waits {ns e:List Nd}(h:Go ns e):∀(d rd:NU),(∀a∈d,a<ns.length)->waits e d rd=waits ns d rd
 | [],_,_=>by simp[Rf.waits]
 |_::_,[],_=>by simp[Rf.waits]
 |a::d,r::l,g=>by
  unfold Rf.waits;have f:=g a (by simp);obtain⟨n,i,j,_⟩:=h.at' a ns[a] (l9 f);rw[i,l9 f,h.waits d l (λb k=>g b (by simp[k]))];simp only[j]
variable {ns:List Nd}{D:List V}
theorem aIb (f:corners ns d=some D)(c:Int)(o:LN)(a:List Mt):corners ns {d with out:=o,told:=d.told.mul (Mt.sym c),dR:=a}=some (D.map (fG (Mt.sym c))):=by
 unfold Rf.corners at*;obtain⟨b,e,rfl⟩:=j9.1 f;have:bare ns {d with out:=o,told:=d.told.mul (Mt.sym c),dR:=a}=some b:=e;rw[this];simp only[k9,List.map_map];congr 2;funext v;exact aKd _ _ v
theorem aH6:∀(l:NU) (k r:Nat),l[k]?=some r->(bump l k)[k]?=some (r+1)
 | [],_,_,h=>by simp at h
 |x::l,0,r,h=>by simp at h;subst h;simp[bump]
 |x::l,k+1,r,h=>by simp[bump];exact aH6 l k r (by simpa using h)
variable {M F:V}
theorem Ur (a:n.t=[M,F]):bare ns n=(ends ns n 0).map λe=>[eX ⟨M.1,F.1,M.2,F.2⟩ e.1,eX ⟨M.1,F.1,M.2,F.2⟩ e.2]:=by
 unfold Rf.bare;rw[a]
variable {y z:V}
theorem Dk (a:n.t=[M,F,y,z]):bare ns n=(ends ns n 0).bind λe=>(if n.args.length=2 then ends ns n 1 else some ((1,0),(0,1))).map λr=>[bK [M,F,y,z] e.1 r.1,bK [M,F,y,z] e.1 r.2,bK [M,F,y,z] e.2 r.1,bK [M,F,y,z] e.2 r.2]:=by
 unfold Rf.bare;rw[a]
theorem aGU (a:n.t=[]):bare ns n=some [eX n.part (1,0),eX n.part (0,1)]:=by
 unfold Rf.bare;rw[a]
variable {a r:Nat}{x:Nd}
theorem Zz {w:Nat}{c:Int}{e:V×V}(b:ends ns n w=some e)(h:n.args[w]?=some a)(j:ns[a]?=some x)(f:n.read[w]?=some r)(hc:x.out[r]?=some c)(d:HC x):
  ends ns {n with read:=bump n.read w} w=some (iR e.1 e.2 (Mt.sym c),rd2 e.1 e.2 (Mt.sym c)):=by
 unfold Rf.ends at*;rw[h]at b ⊢;simp only[k8,j,f]at b ⊢;obtain⟨m,g,rfl⟩:=j9.1 b;have i:(bump n.read w)[w]?=some (r+1):=aH6 n.read w r f;rw[i];simp only[k8,d.step r c m hc g,k9];rw[Rh,Ri]
theorem aM6:∀(l:NU) (k j:Nat),j≠k->(bump l k)[j]?=l[j]?
 | [],_,_,_=>by simp[bump]
 |x::l,0,0,h=>absurd rfl h
 |x::l,0,j+1,_=>by simp[bump]
 |x::l,k+1,0,_=>by simp[bump]
 |x::l,k+1,j+1,h=>by simp[bump];exact aM6 l k j (by omega)
theorem aGz {w k:Nat}(h:w≠k):ends ns {n with read:=bump n.read k} w=ends ns n w:=by
 unfold Rf.ends;rw[aM6 _ _ _ h]
theorem aJx (h:d.t=[M,F])(k:corners ns d=some D){c:Int}(j:d.args[0]?=some a)(s:ns[a]?=some x)(o:d.read[0]?=some r)(hc:x.out[r]?=some c)(f:HC x):
  ∃p q,D=[p,q]/\corners ns {d with read:=bump d.read 0}=some [iR p q (Mt.sym c),rd2 p q (Mt.sym c)]:=by
 unfold Rf.corners at*;obtain⟨b,g,rfl⟩:=j9.1 k;rw[Ur h]at g;obtain⟨e,i,rfl⟩:=j9.1 g;refine⟨_,_,rfl,?_⟩;rw[Ur (n:={d with read:=bump d.read 0}) h,Zz i j s o hc f];simp only[k9,n4,n5];rw[Lk,Ll,aTL,aTN]
theorem aIc (i:d.t=[M,F,y,z])(A:corners ns d=some D){c:Int}(w:d.args[0]?=some a)(C:ns[a]?=some x)(B:d.read[0]?=some r)(hc:x.out[r]?=some c)(f:HC x):
  ∃p q s t,D=[p,q,s,t]/\corners ns {d with read:=bump d.read 0}=some [iR p s (Mt.sym c),iR q t (Mt.sym c),rd2 p s (Mt.sym c),rd2 q t (Mt.sym c)]:=by
 unfold Rf.corners at*;obtain⟨b,h,rfl⟩:=j9.1 A;rw[Dk i]at h;obtain⟨e,j,k⟩:=j8.1 h;obtain⟨g,o,rfl⟩:=j9.1 k;refine⟨_,_,_,_,rfl,?_⟩;rw[Dk (n:={d with read:=bump d.read 0}) i,Zz j w C B hc f,aGz (by decide)];simp only[k8];rw[o];simp only[k9,n4,n5];rw[aI2,aI2,aI3,aI3,Lk,Lk,Ll,Ll]
theorem aG9 (j:d.t=[M,F,y,z])(f:d.args.length=2)(B:corners ns d=some D){c:Int}(A:d.args[1]?=some a)(E:ns[a]?=some x)(C:d.read[1]?=some r)(hc:x.out[r]?=some c)(h:HC x):
  ∃p q s t,D=[p,q,s,t]/\corners ns {d with read:=bump d.read 1}=some [iR p q (Mt.sym c),rd2 p q (Mt.sym c),iR s t (Mt.sym c),rd2 s t (Mt.sym c)]:=by
 unfold Rf.corners at*;obtain⟨b,i,rfl⟩:=j9.1 B;rw[Dk j,if_pos f]at i;obtain⟨e,k,o⟩:=j8.1 i;obtain⟨g,w,rfl⟩:=j9.1 o;refine⟨_,_,_,_,rfl,?_⟩;rw[Dk (n:={d with read:=bump d.read 1}) j,if_pos f,aGz (by decide),k];simp only[k8];rw[Zz w A E C hc h];simp only[k9,n4,n5];rw[aI4,aI4,aI5,aI5,Lk,Lk,Ll,Ll]
theorem aIg (j:d.t=[M,F,y,z]){b:Nat}(f:d.args=[a])(i:d.read=[r])(s:corners ns d=some D)(w:ns[b]?=some x)(p:x.dR[0]?=some one):corners ns {d with args:=d.args++[b],read:=d.read++[0]}=some D:=by
 unfold Rf.corners at*;obtain⟨A,g,rfl⟩:=j9.1 s;rw[Dk j,if_neg (by rw[f];simp)]at g;obtain⟨e,h,q⟩:=j8.1 g
 have k:ends ns {d with args:=d.args++[b],read:=d.read++[0]} 0=some e:=by
  unfold Rf.ends at*;simp only[f,i]at h ⊢
  simpa using h
 have o:ends ns {d with args:=d.args++[b],read:=d.read++[0]} 1=some ((1,0),(0,1)):=by
  unfold Rf.ends;simp only[f,i];simp[w,p,Lb]
 rw[Dk (n:={d with args:=d.args++[b],read:=d.read++[0]}) j,if_pos (by simp[f]),k];simp only[k8];rw[o,q];rfl
theorem aIf (b:d.t=[])(a:corners ns d=some D)(m:Mt)(k:Nat):∃p q,D=[p,q]/\corners ns {d with part:=d.part.mul m,k:=k}=some [iR p q m,rd2 p q m]:=by
 unfold Rf.corners at*;rw[aGU b]at a;simp only[k9,q9]at a;subst a;refine⟨_,_,rfl,?_⟩;rw[aGU (n:={d with part:=d.part.mul m,k:=k}) b];simp only[k9,n4,n5];rw[Rh,Ri,Lk,Ll]
end Pg
open Go.RowKit
namespace Ab
variable {z:Int}{s:LN}
theorem Gc {t:Int}(h:∀y∈s,y=0\/(0<=t/\t<=(tz y:Int))):∀y∈z::s,y=0\/(0<=cQ t z/\cQ t z<=(tz y:Int)):=by
 intro y hy
 have e:cQ t z=(if z=0 then t else if t<0\/(tz z:Int)<t then(tz z:Int)else t):=by
  unfold cQ
  by_cases b:z=0
  .rw[jB b,if_pos b];rfl
  .have:(Nm.cmp z 0==0)=false:=by
    rw[beq_eq_false_iff_ne]
    rcases Int.lt_or_gt_of_ne b with g|g
    .rw[jC g];decide
    .rw[hO g];decide
   rw[this,if_neg b,cond_false]
   by_cases a:t<0
   .rw[decide_eq_true a,if_pos (Or.inl a)];rfl
   .rw[decide_eq_false a,cond_false]
    by_cases d:(tz z:Int)<t
    .rw[decide_eq_true d,if_pos (Or.inr d)];rfl
    .rw[decide_eq_false d,if_neg (by omega)];rfl
 rw[e];simp only[n6]at hy
 rcases hy with rfl|hy
 .by_cases b:y=0
  .exact Or.inl b
  .right;rw[if_neg b]
   split<;>omega
 .rcases h y hy with a|⟨a,d⟩
  .exact Or.inl a
  .right;split
   .exact⟨a,d⟩
   .split<;>omega
theorem aL2 {v:Int}{w:Nat}(h:(2:Int)^w ∣ v):v=2^w*Nm.half v w:=by
 have b:(0:Int)<2^w:=jZ (by decide) w;have a:(2:Int)^w ∣ (v.natAbs:Int):=Int.dvd_natAbs.2 h;have e:2^w*((v.natAbs:Int)/2^w)=v.natAbs:=Int.mul_ediv_cancel' a;unfold Nm.half;split
 .rw[Int.mul_neg,e];omega
 .rw[e];omega
theorem aP9 {t:Int}(h:z=0\/(0<=t/\t<=(tz z:Int))):z=(if t<1 then 1 else 2^t.toNat)*hv t z:=by
 unfold hv
 by_cases a:t<1
 .rw[if_pos a,decide_eq_true a,cond_true,Int.one_mul]
 .rw[if_neg a,decide_eq_false a,cond_false];unfold iE;rw[decide_eq_false a,cond_false];refine aL2 ?_
  rcases h with rfl|⟨b,d⟩
  .exact Int.dvd_zero _
  .refine Int.dvd_trans ⟨2^(tz z-t.toNat),?_⟩ (Nm.aSd z);rw[<-Int.pow_add];congr 1;omega
theorem aNP (a d p1 e b f p3 g:Int):∃s:Int,0<s/\[(a,d),(p1,e),(b,f),(p3,g)]=[(hv (tw8 a d p1 e b f p3 g) a,hv (tw8 a d p1 e b f p3 g) d),(hv (tw8 a d p1 e b f p3 g) p1,hv (tw8 a d p1 e b f p3 g) e),(hv (tw8 a d p1 e b f p3 g) b,hv (tw8 a d p1 e b f p3 g) f),(hv (tw8 a d p1 e b f p3 g) p3,hv (tw8 a d p1 e b f p3 g) g)].map (Pg.sc s):=by
 have j:∀y∈([]:LN),y=0\/(0<=(-1:Int)/\(-1:Int)<=(tz y:Int)):=λy i=>by cases i
 have h:=Gc (z:=g) (Gc (z:=p3) (Gc (z:=f) (Gc (z:=b) (Gc (z:=e) (Gc (z:=p1) (Gc (z:=d) (Gc (z:=a) j)))))));have l:cQ (cQ (cQ (cQ (cQ (cQ (cQ (cQ (-1) a) d) p1) e) b) f) p3) g=tw8 a d p1 e b f p3 g:=rfl;rw[l]at h;generalize tw8 a d p1 e b f p3 g=t at*;refine⟨if t<1 then 1 else 2^t.toNat,by split;decide;exact jZ (by decide) _,?_⟩
 have k:∀y∈[g,p3,f,b,e,p1,d,a],y=(if t<1 then 1 else 2^t.toNat)*hv t y:=λy i=>aP9 (h y i)
 simp only[n4,n5,Pg.sc];rw[<-k a (by simp),<-k d (by simp),<-k p1 (by simp),<-k e (by simp),<-k b (by simp),<-k f (by simp),<-k p3 (by simp),<-k g (by simp)]
def code (c:Int):Int:=if c=-1 then 5 else if c=0 then 6 else if c=1 then 7 else if c=43 then 1 else if c=45 then 2 else if c=111 then 3 else 4
theorem Vk (c:Int):fP (code c)=(Mt.sym c).a/\fQ (code c)=(Mt.sym c).b/\fR (code c)=(Mt.sym c).c/\fS (code c)=(Mt.sym c).d:=by
 unfold code Mt.sym;split
 .exact⟨rfl,rfl,rfl,rfl⟩
 .split
  .exact⟨rfl,rfl,rfl,rfl⟩
  .split
   .exact⟨rfl,rfl,rfl,rfl⟩
   .split
    .exact⟨rfl,rfl,rfl,rfl⟩
    .split
     .exact⟨rfl,rfl,rfl,rfl⟩
     .split<;>exact⟨rfl,rfl,rfl,rfl⟩
theorem Kz (c:Int):1<=code c/\code c<=7:=by unfold code;split<;>(try decide);split<;>(try decide);split<;>(try decide);split<;>(try decide);split<;>(try decide);split<;>decide
theorem aNt (e g p1 i f j p3 k a b c d:Int):mP e g p1 i f j p3 k a b c d=Nw.fits ([(e,g),(p1,i),(f,j),(p3,k)].map (Rf.fG ⟨a,b,c,d⟩)):=by
 have k1:∀x y:Int,decide (Nm.cmp x y<0)=decide (x-y<0):=λx y=>by
  rcases p7 x y with h|h|h
  .rw[jC h,decide_eq_true (by decide),decide_eq_true (by omega)]
  .rw[jB h,decide_eq_false (by decide),decide_eq_false (by omega)]
  .rw[hO h,decide_eq_false (by decide),decide_eq_false (by omega)]
 have n:∀x y:Int,decide (Nm.cmp x y>0)=decide (0<x-y):=λx y=>by
  rcases p7 x y with h|h|h
  .rw[jC h,decide_eq_false (by decide),decide_eq_false (by omega)]
  .rw[jB h,decide_eq_false (by decide),decide_eq_false (by omega)]
  .rw[hO h,decide_eq_true (by decide),decide_eq_true (by omega)]
 have l:∀p q:Int,(Rf.fG ⟨a,b,c,d⟩ (p,q))=(d*p-b*q,a*q-c*p):=λp q=>by
  unfold Rf.fG Mt.vG Mt.vH;simp only[Int.neg_mul,Int.sub_eq_add_neg]
 unfold mP nL Nw.fits Nw.pC Nw.lO cl cp;simp only[n4,n5,List.any_cons,List.any_nil,Bool.or_false,s8,k1,n,l];rw[Bool.beq_comm];rfl
def eL (p q:Int):Int:=((Rf.near p q 20000 1).getD (0,0)).1
def eM (p q:Int):Int:=((Rf.near p q 20000 1).getD (0,0)).2
def uO:List G->Option RG
 | [.ns [p,q]]=>some (.tup [.ns [eL p q],.ns [eM p q]])
 |_=>none
def nT:List G->List Prop
 | [.ns [p,q]]=>[0<p/\0<q/\(Rf.near p q 20000 1).isSome=true]
 |_=>[]
theorem aQn:bI Z 144 (hY true uO nT (λ_=>2) [1]):=by
 refine aI1 aOd ?_;intro d out h a f;unfold uO at h;split at h
 .rename_i p q;cases h;have a:0<p/\0<q/\(Rf.near p q 20000 1).isSome=true:=a.one;refine⟨?_,gB ⟨a.1,a.2.1⟩ gJ⟩;obtain⟨b,e⟩:=Option.isSome_iff_exists.1 a.2.2;show(Rf.near p q 20000 1).map (λb=>RG.tup [.ns [b.1],.ns [b.2]])=some (.tup [.ns [((Rf.near p q 20000 1).getD (0,0)).1],.ns [((Rf.near p q 20000 1).getD (0,0)).2]]);rw[e];rfl
 .cases h
noncomputable def tN2:List (FuncId×TE):=(144,hY true uO nT (λ_=>2) [1])::tC7
theorem aR6:cV Z tN2:=⟨aQn,aWC⟩
def Jd:List G->Option RG
 | [.ns [p,q]]=>some (.one (.ns [eL p q*q,eM p q*p,eM p q*q,eL p q*q]))
 |_=>none
theorem aUJ:bI Z 128 (eB true Jd nT 3 [1]):=by
 refine iG (l:=tN2) aR6 dJ (bD func128 rfl rfl) ?_;intro b out h;unfold Jd at h;split at h
 .rename_i p q;cases h;exact⟨[0<p/\0<q/\(Rf.near p q 20000 1).isSome=true],3,by kernel_rfl,by decide,λa _=>gB a.one gJ⟩
 .cases h
noncomputable def tN:List (FuncId×TE):=(128,eB true Jd nT 3 [1])::tN2
theorem jO:cV Z tN:=⟨aUJ,aR6⟩
def Mh (d:Bool)(b mt e g f:Int)(lp rp a nst gv:AC):List AC:=.sbool d::bH true 0 8++[a,.sint .i64 mt,lp,.sint .i64 e,rp,.sint .i64 g,gv,.sint .i64 b,nst,.sint .i64 f]
def nF (i:Nat):Option Bool->List (Nat×bL)
 |none=>[]
 |some s=>[(i,ext (.sbool s::Dx 26) 120)]
def Bp (i:Nat):Option Bool->AC
 |none=>.lit (.pointer none)
 |some _=>.ptr i 0
def gvC:Option Nat->AC
 |none=>.lit (.slice none 0 0)
 |some len=>.dsl 3 0 len 1
def Xw:Option Nat->List (Nat×bL)
 |none=>[]
 |some _=>[(3,ext [] 62)]
def xC (i:Nat):Bool->AC
 |false=>.lit (.pointer none)
 |true=>.ptr i 0
def xB (i:Nat)(ty:TypeId):Bool->List (Nat×bL)
 |false=>[]
 |true=>[(i,ext [] ty)]
def Ss (i:LN)(b:Bool)(l r:Option Bool)(g:FF)(c n:Bool)(a mt d h f:Int)(e:Nat):AS:=
 ⟨.val (.one (.ptr 0 0))::n7 e .gG,(0,ext (Mh b a mt d h f (Bp 1 l) (Bp 2 r) (xC 4 c) (xC 5 n) (gvC g)) 120)::(nF 1 l++(nF 2 r++(Xw g++(xB 4 161 c++xB 5 223 n)))),6,i.map λz=>(z,10),[]⟩
def Dy:Option Bool->Int->Int->Int
 |none,_,k=>k
 |some s,r,k=>bif s then(bif r==0 then 0 else k)else k
def fitS (a d p1 e b f p3 g s:Int):Bool:=mP a d p1 e b f p3 g (fP s) (fQ s) (fR s) (fS s)
def Sx (a d p1 e b f p3 g:Int):Int:=bif fitS a d p1 e b f p3 g 1 then 1 else bif fitS a d p1 e b f p3 g 2 then 2 else bif fitS a d p1 e b f p3 g 3 then 3 else bif fitS a d p1 e b f p3 g 4 then 4 else 0
def Qy (a d p1 e b f p3 g:Int):Int:=bif fitS a d p1 e b f p3 g 5 then 5 else bif fitS a d p1 e b f p3 g 7 then 7 else bif fitS a d p1 e b f p3 g 6 then 6 else 0
def uR (a:Bool)(g:FF)(x y:Int):Int:=
 match g with
 |none=>bif a then x else y
 |some len=>bif a then(bif (len:Int)==0 then x else y)else y
def sX (b e p1 f d h p3 i:Int)(j:Bool)(l r:Option Bool)(g:FF)(a k n:Int):Int:=
 bif a != 0 then 0 else Dy l k (Dy r n (uR j g (Sx b e p1 f d h p3 i) (Qy b e p1 f d h p3 i)))
noncomputable def bN:XW:=λf=>bif f==145 then some f145 else bif f==146 then some f146 else none
theorem aVs:bQ Z bN:=by
 intro f fn h;unfold bN at h
 cases a:f==145 with
 |true=>
  rw[a]at h;cases h
  have:f=145:=by simpa using a
  subst this;exact⟨(bD func145 rfl rfl).at',(bD func145 rfl rfl).en⟩
 |false=>
  rw[a]at h
  cases b:f==146 with
  |true=>
   rw[b]at h;cases h
   have:f=146:=by simpa using b
   subst this;exact⟨(bD func146 rfl rfl).at',(bD func146 rfl rfl).en⟩
  |false=>rw[b]at h;cases h
noncomputable def wD (h:LN)(b:Bool)(l r:Option Bool)(g:FF)(c n:Bool)(a mt d f e:Int):Option Tr:=run Z (aE tN) bN (aL Z (aE tN)) (λ_=>false) 2000 [.code (aF f131),.top f131] (Ss h b l r g c n a mt d f e 39)
theorem aOf (e h p1 j f k p3 o:Int)(b:Bool)(l r:Option Bool)(g:FF)(c n:Bool)(a mt d p q:Int):((wD [e,h,p1,j,f,k,p3,o] b l r g c n a mt d p q).bind outcome).bind (jH true)=some ([],.one (.i .i64 (sX e h p1 j f k p3 o b l r g a d p)),0):=by
 cases l with
 |none=>
  cases r with
  |none=>cases g<;>kernel_rfl
  |some s=>cases g<;>kernel_rfl
 |some u=>
  cases r with
  |none=>cases g<;>kernel_rfl
  |some s=>cases g<;>kernel_rfl
structure NodeAt (w:World) (k:Nat) (zs:LN) (hs:Bool) (uns mt lr rr pl:Int) (lp rp gv cv nv:Value):Prop where
 ex:∃xs:LB,w.heap[k]?=some (.cells (.bool hs::xs++[cv,.int .i64 mt,lp,.int .i64 lr,rp,.int .i64 rr,gv,.int .i64 uns,nv,.int .i64 pl]).toArray 120 (0,0))/\Hold true w zs xs
def iL (w:World):Option (Nat×Bool)->Value->Prop
 |none,v=>v=.pointer none
 |some (k,s),v=>v=.pointer (some ⟨k,0,none⟩)/\∃a:LB,w.heap[k]?=some (.cells (.bool s::a).toArray 120 (0,0))/\a.length=26/\∀y∈a,One y
def GivAt (w:World):Option (Nat×Nat)->Value->Prop
 |none,v=>v=.slice none 0 0
 |some (k,len),v=>∃a,v=.slice (some ⟨k,0,none⟩) len a/\∃cs:LB,w.heap[k]?=some (.cells cs.toArray 62 (0,0))
def ExtAt (w:World)(ty:TypeId):Option Nat->Value->Prop
 |none,v=>v=.pointer none
 |some k,v=>v=.pointer (some ⟨k,0,none⟩)/\∃cs:LB,w.heap[k]?=some (.cells cs.toArray ty (0,0))
def Hg (k:Nat)(l r:Option (Nat×Bool))(g:Option (Nat×Nat))(c n:FF):Nat->Option (Nat×Nat)
 |0=>some (k,0)
 |1=>l.map λx=>(x.1,0)
 |2=>r.map λx=>(x.1,0)
 |3=>g.map λx=>(x.1,0)
 |4=>c.map λx=>(x,0)
 |5=>n.map λx=>(x,0)
 |_=>none
theorem Vt {φ:LI}{ν:LV}{w:World}:∀(n:Nat) (a:LB),a.length=n->(∀y∈a,One y)->All2 (relC Z φ ν w) (Dx n) a
 |0,[],_,_=>trivial
 |n+1,y::a,b,h=>⟨h y (by simp),Vt n a (by simpa using b) λz d=>h z (by simp[d])⟩
 |0,_::_,h,_=>by simp at h
 |_+1,[],h,_=>by simp at h
variable {φ:LI}{ν:LV}{n:World}{i:Nat}{l:Option (Nat×Bool)}{v:Value}
theorem aOH (a:φ i=l.map λx=>(x.1,0))(h:iL n l v):relC Z φ ν n (Bp i (l.map (·.2))) v:=by
 cases l with
 |none=>exact⟨h,rfl⟩
 |some x=>exact⟨x.1,0,a,h.1⟩
variable {g:Option (Nat×Nat)}
theorem aS3 (b:φ 3=g.map λx=>(x.1,0))(h:GivAt n g v):relC Z φ ν n (gvC (g.map (·.2))) v:=by
 cases g with
 |none=>exact⟨h,rfl⟩
 |some x=>obtain⟨a,d,_⟩:=h;exact⟨x.1,a,by rw[b];rfl,d⟩
theorem aNp {ty:TypeId}{c:FF}(a:φ i=c.map λx=>(x,0))(h:ExtAt n ty c v):relC Z φ ν n (xC i c.isSome) v:=by
 cases c with
 |none=>exact⟨h,rfl⟩
 |some x=>exact⟨x,0,a,h.1⟩
theorem nE {b:Nat}{B:bL}:∀{l:List (Nat×bL)},look l b=some B->(b,B)∈l
 | [],h=>by simp[look]at h
 |(c,D)::l,h=>by
  simp only[look]at h
  cases hc:(c==b)with
  |true=>
   rw[hc]at h;simp only[cond_true,q9]at h
   have:c=b:=by simpa using hc
   rw[<-h,this];simp
  |false=>
   rw[hc]at h;exact List.mem_cons_of_mem _ (nE h)
variable {b:Nat}{B:bL}
theorem aKn (h:(b,B)∈nF i (l.map (·.2))):∃x,l=some x/\b=i/\B=ext (.sbool x.2::Dx 26) 120:=by
 cases l with
 |none=>simp[nF]at h
 |some x=>simp[nF]at h;exact⟨x,rfl,h⟩
theorem aS6 (h:(b,B)∈Xw (g.map (·.2))):∃x,g=some x/\b=3/\B=ext [] 62:=by
 cases g with
 |none=>simp[Xw]at h
 |some x=>simp[Xw]at h;exact⟨x,rfl,h⟩
theorem aSj {ty:TypeId}{c:FF}(h:(b,B)∈xB i ty c.isSome):∃x,c=some x/\b=i/\B=ext [] ty:=by
 cases c with
 |none=>simp[xB]at h
 |some x=>simp[xB]at h;exact⟨x,rfl,h⟩
variable {k:Nat}{i:Bool}{r:Option (Nat×Bool)}{v mt y:Int}{lp rp gv Y:Value}
theorem aV9 {c a:FF}{D E:Int}{R:Value}(hn:NodeAt n k s i v mt D y E lp rp gv Y R)(h8:s.length=8)(hb:∀z∈s,Bits 10 z)(N:iL n l lp)(P:iL n r rp)(L:GivAt n g gv)(hc:ExtAt n 161 c Y)(O:ExtAt n 223 a R)(nt:Nat):
  RepW Z n (Hg k l r g c a) (Hg k l r g c a) (Ss s i (l.map (·.2)) (r.map (·.2)) (g.map (·.2)) c.isSome a.isSome v mt D y E nt) n:=by
 obtain⟨F,S,U⟩:=hn.ex
 have J:All2 (relC Z (Hg k l r g c a) (s.map λz=>(z,10)) n) (Mh i v mt D y E (Bp 1 (l.map (·.2))) (Bp 2 (r.map (·.2))) (xC 4 c.isSome) (xC 5 a.isSome) (gvC (g.map (·.2)))) (.bool i::F++[Y,.int .i64 mt,lp,.int .i64 D,rp,.int .i64 y,gv,.int .i64 v,R,.int .i64 E]):=by
  have hx:All2 (relC Z (Hg k l r g c a) (s.map λz=>(z,10)) n) (bH true 0 8) F:=by
   rw[<-h8]
   exact tV s F 0 _ U hb λj z hz=>by rw[Nat.zero_add,List.getElem?_map,hz];rfl
  exact All2.append (show All2 (relC Z (Hg k l r g c a) (s.map λz=>(z,10)) n) (.sbool i::bH true 0 8) (.bool i::F)from⟨rfl,hx⟩) ⟨aNp rfl hc,rfl,aOH rfl N,rfl,aOH rfl P,rfl,aS3 rfl L,rfl,aNp rfl O,rfl,trivial⟩
 have f:∀{q:Nat} {cs:LB} {ty:TypeId} {u:List AC},n.heap[q]?=some (.cells cs.toArray ty (0,0))->All2 (relC Z (Hg k l r g c a) (s.map λz=>(z,10)) n) u cs->Seg Z (Hg k l r g c a) (s.map λz=>(z,10)) n q 0 ty u:=λM X=>⟨[],_,[],by simpa using M,rfl,X⟩
 have o:∀{q:Nat} {cs:LB} {ty:TypeId},n.heap[q]?=some (.cells cs.toArray ty (0,0))->Seg Z (Hg k l r g c a) (s.map λz=>(z,10)) n q 0 ty []:=λ{q cs ty} M=>⟨[],[],cs,M,rfl,trivial⟩
 refine rQ rfl ?_ ?_ ?_
 .intro b B W;have A:=nE W;simp only[Ss,n6,List.mem_append,Prod.mk.injEq]at A
  rcases A with⟨rfl,rfl⟩|h|h|h|h|h
  .exact⟨rfl,rfl,rfl,k,0,rfl,f S J⟩
  .obtain⟨x,rfl,rfl,rfl⟩:=aKn h;obtain⟨_,C,d,H,I⟩:=N;exact⟨rfl,rfl,rfl,x.1,0,rfl,f d ⟨rfl,Vt 26 C H I⟩⟩
  .obtain⟨x,rfl,rfl,rfl⟩:=aKn h;obtain⟨_,C,d,H,I⟩:=P;exact⟨rfl,rfl,rfl,x.1,0,rfl,f d ⟨rfl,Vt 26 C H I⟩⟩
  .obtain⟨x,rfl,rfl,rfl⟩:=aS6 h;obtain⟨T,_,cs,d⟩:=L;exact⟨rfl,rfl,rfl,x.1,0,rfl,o d⟩
  .obtain⟨x,rfl,rfl,rfl⟩:=aSj h;obtain⟨_,cs,d⟩:=hc;exact⟨rfl,rfl,rfl,x,0,rfl,o d⟩
  .obtain⟨x,rfl,rfl,rfl⟩:=aSj h;obtain⟨_,cs,d⟩:=O;exact⟨rfl,rfl,rfl,x,0,rfl,o d⟩
 .intro b p;have:6<=b:=p
  match b,this with
  |b+6,_=>rfl
 .intro b q o' p
  match b,p with
  |0,e=>cases e;exact fJ S
  |1,e=>
   cases l with
   |none=>cases e
   |some x=>cases e;obtain⟨_,C,d,_⟩:=N;exact fJ d
  |2,e=>
   cases r with
   |none=>cases e
   |some x=>cases e;obtain⟨_,C,d,_⟩:=P;exact fJ d
  |3,e=>
   cases g with
   |none=>cases e
   |some x=>cases e;obtain⟨_,_,cs,d⟩:=L;exact fJ d
  |4,e=>
   cases c with
   |none=>cases e
   |some x=>cases e;obtain⟨_,cs,d⟩:=hc;exact fJ d
  |5,e=>
   cases a with
   |none=>cases e
   |some x=>cases e;obtain⟨_,cs,d⟩:=O;exact fJ d
  |_+6,e=>cases e
theorem aKR {sp:Spec}{bodies:XW}{B:FuncId}{fn:Func}(F:Fn B fn)(q:∀X ψ,SpecOk Z X ψ sp)(h:bQ Z bodies){w:World}{d:LN}{c x:FF}{u C:Int}{A:Value}(R:NodeAt w k d i v mt u y C lp rp gv Y A)(h8:d.length=8)(M:∀z∈d,Bits 10 z)(O:iL w l lp)(T:iL w r rp)(N:GivAt w g gv)(hc:ExtAt w 161 c Y)(P:ExtAt w 223 x A)
  {n nt:Nat} (p:fn.ntmps-1=nt) {D:List Prop} {out:RG} {m:Nat} (U:((run Z sp bodies (aL Z sp) (λ_=>false) n [.code (aF fn),.top fn] (Ss d i (l.map (·.2)) (r.map (·.2)) (g.map (·.2)) c.isSome x.isSome v mt u y C nt)).bind outcome).bind (jH true)=some (D,out,m)) (S:Holds D):
  Calls prog B #[.pointer (some ⟨k,0,none⟩)] w λe b=>∃a,e=.returned a/\RRV Z b (wH true m out) a/\Below w.heap.size w b:=by
 obtain⟨o,E,H⟩:=aS U;obtain⟨tr,I,J⟩:=aS E;refine sI (vs:=[.one (.ptr 0 0)]) (args:=[.pointer (some ⟨k,0,none⟩)]) F (q _ _) h (by subst p;rfl) ⟨⟨k,0,rfl,rfl⟩,trivial⟩ (aV9 R h8 M O T N hc P _) I _ (yK J (Dq H S (s4 _))) ?_;rintro r0 s φ a b⟨j,r',L,h8⟩ hrel W;exact⟨a,rfl,h8 b a (Cr L hrel),RepF.below W j⟩
theorem aMd {w:World}{p1 f A p3 H:Int}{c q:FF}{d o p u:Int}{s:Value}(E:NodeAt w k [v,z,p1,y,f,A,p3,H] i d mt o p u lp rp gv Y s)(h:∀b∈[v,z,p1,y,f,A,p3,H],Bits 10 b)(C:iL w l lp)(F:iL w r rp)(B:GivAt w g gv)(hc:ExtAt w 161 c Y)(D:ExtAt w 223 q s):
  Calls prog 131 #[.pointer (some ⟨k,0,none⟩)] w λe x=>e=.returned (.int .i64 (sX v z p1 y f A p3 H i (l.map (·.2)) (r.map (·.2)) (g.map (·.2)) d o p))/\Below w.heap.size w x:=by
 have W:=aOf v z p1 y f A p3 H i (l.map (·.2)) (r.map (·.2)) (g.map (·.2)) c.isSome q.isSome d mt o p u;unfold wD at W
 have j:f131.ntmps-1=39:=by kernel_rfl
 refine(aKR (sp:=aE tN) (bodies:=bN) (n:=2000) (nt:=39) (fn:=f131) (bD func131 rfl rfl) (λ_ _=>dL jO) aVs E rfl h C F B hc D j W gJ).mono ?_;rintro e x⟨a,rfl,hv,h⟩;have hv:a=_:=hv.2;rw[hv];exact⟨rfl,h⟩
def dB:Option Bool->Int->Bool
 |none,_=>false
 |some s,r=>s&&(r==0)
theorem aMX (l:Option Bool)(r k:Int):Dy l r k=if dB l r then 0 else k:=by
 cases l with
 |none=>rfl
 |some s=>
  unfold Dy dB
  cases s with
  |false=>rfl
  |true=>cases h:(r==0)<;>simp
theorem aSZ (a d p1 e b f p3 g c:Int):fitS a d p1 e b f p3 g (code c)=Nw.fits ([(a,d),(p1,e),(b,f),(p3,g)].map (Rf.fG (Mt.sym c))):=by
 obtain⟨h,i,j,k⟩:=Vk c;unfold fitS;rw[h,i,j,k,aNt]
def eK:Option Int->Int
 |none=>0
 |some c=>code c
variable {I:FF}
theorem aNq {x:Int}{len:Nat}(a:I.getD 0=len):uR i I x z=if i=true/\len=0 then x else z:=by
 unfold uR
 cases I with
 |none=>
  simp at a;subst a
  cases i<;>simp
 |some m=>
  simp at a;subst a
  cases i with
  |false=>simp
  |true=>
   by_cases h:m=0
   .subst h;simp
   .have:((m:Int)==0)=false:=by rw[beq_eq_false_iff_ne];omega
    simp[this,h]
theorem aTm {ns:List Rf.Nd}{n:Rf.Nd}{a:List Rf.V}{p1 e A p3 H:Int}{l r:Option Bool}{w x:Int}{o:Option Int}(hc:Rf.corners ns n=some a)(L:Pg.eN a [(v,z),(p1,y),(e,A),(p3,H)])(D:n.pos=!i)(M:I.getD 0=n.out.length)(j:(dB l w||dB r x)=Rf.waits ns n.args n.read)(b:Rf.next ns n=some o):
  sX v z p1 y e A p3 H i l r I 0 w x=eK o:=by
 unfold sX;rw[show((0:Int) != 0)=false from rfl,cond_false,aMX,aMX];unfold Rf.next at b
 cases B:dB l w with
 |true=>
  rw[B,Bool.true_or]at j;rw[<-j]at b;simp at b;subst b;rfl
 |false=>
  rw[B,s8]at j;simp only[s9,if_false]
  cases C:dB r x with
  |true=>
   rw[C]at j;rw[<-j]at b;simp at b;subst b;rfl
  |false=>
   rw[C]at j;rw[<-j]at b;simp only[s9,if_false,hc,k9,q9]at b ⊢;rw[aNq M]
   have d:∀c,Rf.can a c=fitS v z p1 y e A p3 H (code c):=λc=>by rw[L.can,aSZ]
   have s:code 43=1:=rfl;have u:code 45=2:=rfl;have k:code 111=3:=rfl;have p:code 119=4:=rfl;have J:code (-1)=5:=rfl;have F:code 1=7:=rfl;have E:code 0=6:=rfl;have f:n.out.length=0↔n.out=[]:=List.length_eq_zero_iff;subst b;unfold Rf.tries
   by_cases q:i=true/\n.out.length=0
   .rw[if_pos q,if_pos ⟨by rw[D,q.1];rfl,f.1 q.2⟩];simp only[n8,d,s,u,k,p];unfold Sx
    cases fitS v z p1 y e A p3 H 1<;>simp only[cond_true,cond_false]<;>try rfl
    cases fitS v z p1 y e A p3 H 2<;>simp only[cond_true,cond_false]<;>try rfl
    cases fitS v z p1 y e A p3 H 3<;>simp only[cond_true,cond_false]<;>try rfl
    cases fitS v z p1 y e A p3 H 4<;>rfl
   .rw[if_neg q,if_neg (λh=>q ⟨by have:=h.1;rw[D]at this;simpa using this,f.2 h.2⟩)];simp only[n8,d,J,F,E];unfold Qy
    cases fitS v z p1 y e A p3 H 5<;>simp only[cond_true,cond_false]<;>try rfl
    cases fitS v z p1 y e A p3 H 7<;>simp only[cond_true,cond_false]<;>try rfl
    cases fitS v z p1 y e A p3 H 6<;>rfl
end Ab
theorem aRH (w:World)(k o:Nat)(p:Option Addr)(h:w.cell? ⟨k,o+25,none⟩=some (.pointer p)):Calls prog 171 #[.pointer (some ⟨k,o,none⟩)] w λe b=>e=.returned (.int .i64 (if p.isSome then 8 else 1))/\b=w:=by
 cases p with
 |none=>
  go_enter func171,ntmps171
  go_wp2_with fail
  go_ret
  exact⟨rfl,rfl⟩
 |some a=>
  go_enter func171,ntmps171
  go_wp2_with fail
  go_ret
  exact⟨rfl,rfl⟩
namespace Ab
def xP (s:Bool)(r:Int):Int:=bif s then(bif decide (r>0)then Wr (r-1)else r)else r
def sDg (s:Bool)(r:Int):AS:=⟨.val (.agg [.ptr 0 0,.sint .i64 r])::n7 22 .gG,[(0,ext [.sbool s] 120)],1,[],[]⟩
def sDn (r:Int):AS:=⟨.val (.agg [.lit (.pointer none),.sint .i64 r])::n7 22 .gG,[],0,[],[]⟩
theorem aSQ (s:Bool)(r:Int):((run Z (aE []) (λ_=>none) (aL Z (aE [])) (λ_=>false) 300 [.code (aF f172),.top f172] (sDg s r)).bind outcome).bind (jH true)=some ([],.one (.i .i64 (xP s r)),0):=by kernel_rfl
theorem aST (r:Int):((run Z (aE []) (λ_=>none) (aL Z (aE [])) (λ_=>false) 300 [.code (aF f172),.top f172] (sDn r)).bind outcome).bind (jH true)=some ([],.one (.i .i64 r),0):=by kernel_rfl
theorem aVN {n:World}{k o:Nat}{s:Bool}{pre post:LB}(r:Int)(f:n.heap[k]?=some (.cells (pre++[Value.bool s]++post).toArray 120 (0,0)))(u:pre.length=o):Calls prog 172 #[.agg #[.pointer (some ⟨k,o,none⟩),.int .i64 r]] n λe d=>e=.returned (.int .i64 (xP s r))/\Below n.heap.size n d:=by
 obtain⟨A,g,h⟩:=aS (aSQ s r);obtain⟨E,i,j⟩:=aS g;refine sI (vs:=[.agg [.ptr 0 0,.sint .i64 r]]) (args:=[.agg #[.pointer (some ⟨k,o,none⟩),.int .i64 r]]) (φ:=λb=>bif b==0 then some (k,o)else none) (s:=sDg s r) (bD func172 rfl rfl) (dL (l:=[]) trivial) dJ rfl ⟨⟨[.pointer (some ⟨k,o,none⟩),.int .i64 r],rfl,⟨k,o,rfl,rfl⟩,rfl,trivial⟩,trivial⟩ (rQ rfl ?_ ?_ ?_) i _ (yK j (Dq h gJ (s4 _))) ?_
 .intro b B q;have:=nE q;simp[sDg]at this;obtain⟨rfl,rfl⟩:=this;exact⟨rfl,rfl,rfl,k,o,rfl,pre,[.bool s],post,f,u,rfl,trivial⟩
 .intro b a;have:1<=b:=a
  cases b with
  |zero=>omega
  |succ b=>rfl
 .intro b y z a
  cases b with
  |zero=>cases a;exact fJ f
  |succ b=>cases a
 .rintro D st φ v d⟨hc,C,p,h8⟩ hrel x;have hv:v=_:=(h8 d v (Cr p hrel)).2;rw[hv];exact⟨rfl,RepF.below x hc⟩
theorem aVQ (w:World)(r:Int):Calls prog 172 #[.agg #[.pointer none,.int .i64 r]] w λe a=>e=.returned (.int .i64 r)/\Below w.heap.size w a:=by
 obtain⟨p,d,f⟩:=aS (aST r);obtain⟨x,g,h⟩:=aS d;refine sI (vs:=[.agg [.lit (.pointer none),.sint .i64 r]]) (args:=[.agg #[.pointer none,.int .i64 r]]) (φ:=λ_=>none) (s:=sDn r) (bD func172 rfl rfl) (dL (l:=[]) trivial) dJ rfl ⟨⟨[.pointer none,.int .i64 r],rfl,⟨rfl,rfl⟩,rfl,trivial⟩,trivial⟩ (rQ rfl (λb B j=>by simp[sDn,look]at j) (λ_ _=>rfl) (λb k o e=>by cases e)) g _ (yK h (Dq f gJ (s4 _))) ?_;rintro u st φ v a⟨hc,q,i,h8⟩ hrel n;have hv:v=_:=(h8 a v (Cr i hrel)).2;rw[hv];exact⟨rfl,RepF.below n hc⟩
def Eh:AC->Option Int
 |.int .i64 n=>some n
 |.sint .i64 n=>some n
 |_=>none
def lwO:Option AC->Option Int
 |some (.lit (.pointer none))=>some 1
 |some (.ptr _ _)=>some 8
 |_=>none
def Sz:Spec:=λf _ ν _ a d=>
 bif f==172 then (match d with
  | [.agg [.lit (.pointer none),c]]=>(Eh c).map λr=>([],.val (.one (.sint .i64 r)),[],none)
  | [.agg [.ptr b 0,c]]=>(Eh c).bind λr=>(a b).bind λB=>bif B.ty==120 then(match B.cs with|.sbool s::_=>some ([],.val (.one (.sint .i64 (xP s r))),[],none)|_=>none)else none
  |_=>none)
 else bif f==171 then (match d with
  | [.one (.ptr b 0)]=>(a b).bind λB=>bif B.ty==120 then(lwO (B.cs[25]?)).map λn=>([],.val (.one (.int .i64 n)),[],none)else none
  |_=>none)
 else none
theorem aNS {φ:LI}{ν:LV}{n:World}{c:AC}{r:Int}{x:Value}(h:Eh c=some r)(a:relC Z φ ν n c x):x=.int .i64 r:=by
 unfold Eh at h;split at h
 .cases h;exact a
 .cases h;exact a
 .cases h
theorem aWy (w0:World)(ψ:LI):SpecOk Z w0 ψ Sz:=by
 intro f d ν id bx vs au r p ap h;unfold Sz at h
 cases X:f==172 with
 |true=>
  have:f=172:=by simpa using X
  subst this;rw[X]at h;simp only[cond_true]at h;refine⟨(bD func172 rfl rfl).en,?_⟩;split at h
  .obtain⟨n,R,S⟩:=bU h;cases S;intro _ q C φ w z _ _ _ g a;obtain⟨x,rfl,P,rfl,L⟩:=Qf a
   match P,L with
   | [u,v],⟨J,Y,_⟩=>
    have hu:u=.pointer none:=J.1;have hv:=aNS R Y;subst hu hv;refine(aVQ w n).mono ?_;rintro e w'⟨rfl,hb⟩;exact⟨_,rfl,hb,rfl⟩
   | [_],⟨_,h⟩=>exact h.elim
   |_::_::_::_,⟨_,_,h⟩=>exact h.elim
  .rename_i b c;obtain⟨n,R,S⟩:=aS h;obtain⟨B,T,j⟩:=aS S
   cases H:(B.ty==120)with
   |false=>rw[H]at j;cases j
   |true=>
    rw[H]at j;simp only[cond_true]at j;split at j
    .rename_i s aj ab;cases j;intro _ q C φ w z _ _ _ g a;obtain⟨k,o,D,E,l,U,F,W,O⟩:=g b B T;rw[ab]at O;obtain⟨x,rfl,P,rfl,L⟩:=Qf a
     match P,L,E,O,F with
     | [u,v],⟨⟨k',o',N,q2⟩,Y,_⟩,y::E,⟨k1,_⟩,F=>
      rw[U]at N;cases N;have hv:=aNS R Y;have L:y=.bool s:=k1;subst hv L q2
      have ad:B.ty=120:=by simpa using H
      rw[ad]at F;refine(aVN (pre:=D) (post:=E++l) n (by simpa using F) W).mono ?_;rintro e w'⟨rfl,hb⟩;exact⟨_,rfl,hb,rfl⟩
     | [_],⟨_,h⟩,_,_,_=>exact h.elim
     |_::_::_::_,⟨_,_,h⟩,_,_,_=>exact h.elim
    .cases j
  .cases h
 |false=>
  rw[X]at h;simp only[cond_false]at h
  cases J:f==171 with
  |false=>rw[J]at h;cases h
  |true=>
   have:f=171:=by simpa using J
   subst this;rw[J]at h;simp only[cond_true]at h;refine⟨(bD func171 rfl rfl).en,?_⟩;split at h
   .rename_i b;obtain⟨B,T,j⟩:=aS h
    cases H:(B.ty==120)with
    |false=>rw[H]at j;cases j
    |true=>
     rw[H]at j;simp only[cond_true]at j
     have M:∀(φ:LI) (q:LV) (w:World) (z:LB) (c:AC),B.cs[25]?=some c->wQ Z φ q w bx->All2 (dU Z φ q w) [.one (.ptr b 0)] z->∃k o x,z=[.pointer (some ⟨k,o,none⟩)]/\relC Z φ q w c x/\w.cell? ⟨k,o+25,none⟩=some x:=by
      intro φ q w z c hc g a;obtain⟨k,o,D,P,l,U,F,W,O⟩:=g b B T;obtain⟨x,rfl,k',o',N,q2⟩:=Qf a;rw[U]at N;cases N;obtain⟨y,ae,af⟩:=O.at hc;refine⟨k,o,y,by rw[q2];rfl,af,?_⟩;rw[Ls F,<-W];exact aOW ae
     obtain⟨nn,I,e6⟩:=bU j;cases e6;unfold lwO at I;split at I
     .rename_i hc;cases I;intro _ q C φ w z _ _ _ g a;obtain⟨k,o,x,rfl,A,i⟩:=M φ q w z _ hc g a;have A:x=.pointer none:=A.1;subst A;refine(aRH w k o none i).mono ?_;rintro e w'⟨rfl,rfl⟩;exact⟨_,rfl,Below.refl _ _,rfl⟩
     .rename_i b' ai hc;cases I;intro _ q C φ w z _ _ _ g a;obtain⟨k,o,x,rfl,A,i⟩:=M φ q w z _ hc g a;obtain⟨k2,o2,_,A⟩:=A;subst A;refine(aRH w k o _ i).mono ?_;rintro e w'⟨rfl,rfl⟩;exact⟨_,rfl,Below.refl _ _,rfl⟩
     .cases I
   .cases h
def Aq:List G->Option RG
 | [.ns [a,d,p1,e,b,f,p3,g],.i .i64 t]=>bif decide (t.natAbs<100)then some (.one (.i .i64 (kD a d p1 e b f p3 g t)))else none
 |_=>none
theorem aUn:bI Z 170 (eB true Aq bF 0 [15,0]):=by
 refine aI1 aRn ?_;intro b out h d e;unfold Aq at h;split at h
 .rename_i f i p1 j g k p3 l t
  cases a:decide (t.natAbs<100)with
  |false=>rw[a]at h;cases h
  |true=>
   rw[a]at h;cases h
   have:t.natAbs<100:=by simpa using a
   exact⟨rfl,gB (by omega) gJ⟩
 .cases h
noncomputable def tR:List (FuncId×TE):=(170,eB true Aq bF 0 [15,0])::tN
theorem aXS:cV Z tR:=⟨aUn,jO⟩
def Th:Option Bool->Int->Bool->Bool->Bool
 |none,_,_,k=>k
 |some s,r,v,k=>bif s then(bif r==0 then v else k)else k
def dgO:Option Bool->Int->Int
 |none,r=>r
 |some s,r=>xP s r
def rlK (a d p1 e b f p3 g t:Int)(x:Bool):Bool:=bif mP a d p1 e b f p3 g 1 0 0 1 then(bif kD a d p1 e b f p3 g t==1 then true else bif kD a d p1 e b f p3 g t==-1 then false else x)else x
def wgt:Bool->Int
 |false=>1
 |true=>8
def oS (e g p1 h f i p3 j:Int)(l r:Option Bool)(n:Bool)(a d:Int):Bool:=
 match l with
 |none=>false
 |some b=>Th (some b) a true (Th r d false (rlK e g p1 h f i p3 j (wgt n) (decide (dgO (some b) a<=dgO r d))))
noncomputable def tD (h:LN)(b:Bool)(l r:Option Bool)(g:FF)(c n:Bool)(a mt d f e:Int):Option Tr:=run Z (fI Sz (aE tR)) bN (aL Z (fI Sz (aE tR))) (λ_=>false) 2000 [.code (aF f148),.top f148] (Ss h b l r g c n a mt d f e 45)
theorem aMk (e h p1 i f j p3 k:Int)(p:Bool)(l r:Option Bool)(g:FF)(c n:Bool)(a mt d o q:Int):((tD [e,h,p1,i,f,j,p3,k] p l r g c n a mt d o q).bind outcome).bind (jH true)=some ([],.one (.b (oS e h p1 i f j p3 k l r n d o)),0):=by
 cases l with
 |none=>kernel_rfl
 |some s=>
  cases r with
  |none=>cases n<;>cases g<;>cases c<;>kernel_rfl
  |some u=>cases n<;>cases g<;>cases c<;>kernel_rfl
variable {i:Bool}
theorem aJZ {w:World}{k:Nat}{v z p1 y f A p3 H:Int}{l r:Option (Nat×Bool)}{g:Option (Nat×Nat)}{c p:FF}{d mt o q u:Int}{lp rp gv Y s:Value}(E:NodeAt w k [v,z,p1,y,f,A,p3,H] i d mt o q u lp rp gv Y s)(h:∀b∈[v,z,p1,y,f,A,p3,H],Bits 10 b)(C:iL w l lp)(F:iL w r rp)(B:GivAt w g gv)(hc:ExtAt w 161 c Y)(D:ExtAt w 223 p s):
  Calls prog 148 #[.pointer (some ⟨k,0,none⟩)] w λe x=>e=.returned (.bool (oS v z p1 y f A p3 H (l.map (·.2)) (r.map (·.2)) p.isSome o q))/\Below w.heap.size w x:=by
 have W:=aMk v z p1 y f A p3 H i (l.map (·.2)) (r.map (·.2)) (g.map (·.2)) c.isSome p.isSome d mt o q u;unfold tD at W
 have j:f148.ntmps-1=45:=by kernel_rfl
 refine(aKR (sp:=fI Sz (aE tR)) (bodies:=bN) (n:=2000) (nt:=45) (fn:=f148) (bD func148 rfl rfl) (λ_ _=>Oz (aWy _ _) (dL aXS)) aVs E rfl h C F B hc D j W gJ).mono ?_;rintro e x⟨a,rfl,hv,h⟩;have hv:a=_:=hv.2;rw[hv];exact⟨rfl,h⟩
theorem aKC (p:Int):(Nm.cmp p 0==0)=decide (p=0):=by
 rcases p7 p 0 with h|h|h
 .rw[jC h,decide_eq_false (by omega)];rfl
 .rw[jB h,decide_eq_true h];rfl
 .rw[hO h,decide_eq_false (by omega)];rfl
theorem aO8 (p q:Int):Bw p q=Pg.eG (p,q):=by
 unfold Bw Pg.eG;rw[aKC,aKC]
 by_cases a:p=0
 .by_cases b:q=0
  .simp[a,b]
  .simp[a,b]
 .simp[a]
theorem aMp (up d e f op a rp b:Int):iZ up d e f op a rp b=Pg.scaled (up,d) (e,f) (op,a) (rp,b):=by
 unfold iZ Pg.scaled;rw[aO8,aO8]
theorem aV1 (a b:Int):Xv a b=Pg.yG a b:=by
 unfold Xv Pg.yG
 rcases p7 a b with h|h|h
 .rw[jC h,if_pos h];rfl
 .rw[jB h,if_neg (by omega)];rfl
 .rw[hO h,if_neg (by omega)];rfl
theorem aMF (a d p1 e b f p3 g t:Int):kD a d p1 e b f p3 g t=Pg.rH [(a,d),(p1,e),(b,f),(p3,g)] t:=by
 unfold kD Pg.rH;simp only[aV1,aMp]
theorem aSY (a d p1 e b f p3 g:Int):mP a d p1 e b f p3 g 1 0 0 1=Nw.fits [(a,d),(p1,e),(b,f),(p3,g)]:=by
 rw[aNt];have:∀v:Rf.V,Rf.fG ⟨1,0,0,1⟩ v=v:=Pg.Gi;simp only[n4,n5,this]
def vJ:Option Bool->Nat->Option Nat
 |none,_=>some 0
 |some s,r=>if s then(if r=0 then none else some (r-1))else some r
variable {l:Option Bool}{r:Nat}
theorem aRv {a:Nat}(b:l=none->r=0)(f:r<=1000000)(h:vJ l r=some a):dgO l r=(a:Int):=by
 cases l with
 |none=>simp[vJ]at h;subst h;rw[b rfl];rfl
 |some s=>
  unfold vJ at h;show xP s r=(a:Int);unfold xP
  cases s with
  |false=>simp at h;subst h;rfl
  |true=>
   simp at h;obtain⟨d,e⟩:=h;rw[decide_eq_true (by omega:(r:Int)>0),cond_true,cond_true,mV (by omega) (by omega)];omega
theorem aLF {k:Bool}(h:vJ l r=none):Th l r i k=i:=by
 cases l with
 |none=>simp[vJ]at h
 |some s=>
  unfold vJ at h
  cases s with
  |false=>simp at h
  |true=>simp at h;subst h;rfl
theorem aLG {a:Nat}{k:Bool}(h:vJ l r=some a):Th l r i k=k:=by
 cases l with
 |none=>rfl
 |some s=>
  unfold vJ at h
  cases s with
  |false=>rfl
  |true=>
   simp at h
   have:((r:Int)==0)=false:=by rw[beq_eq_false_iff_ne];omega
   simp[Th,this]
theorem aQF {ns:List Rf.Nd}{n:Rf.Nd}{f:List Rf.V}{v z p1 y e A p3 H:Int}{r:Option Bool}{w k:Nat}{p:Nat}(E:n.t.length=4)(hc:Rf.corners ns n=some f)(s:f.length=4)(x:Pg.eN f [(v,z),(p1,y),(e,A),(p3,H)])(B:w<=1000000)(C:k<=1000000)(u:r=none->k=0)(d0:Rf.digits ns n 0=some (vJ (some i) w))(d1:Rf.digits ns n 1=some (vJ r k))(d:Rf.side ns n=some p):
  oS v z p1 y e A p3 H (some i) r n.nest w k=decide (p=0):=by
 unfold Rf.side at d;rw[if_neg (by omega),d0]at d;simp only[k8]at d;unfold oS;simp only
 cases l:vJ (some i) w with
 |none=>
  rw[l]at d;simp at d;subst d;rw[aLF l];rfl
 |some a=>
  rw[l]at d;rw[aLG l];simp only at d;rw[d1]at d;simp only[k8]at d
  cases o:vJ r k with
  |none=>
   rw[o]at d;simp at d;subst d;rw[aLF o];rfl
  |some b=>
   rw[o]at d;rw[aLG o];simp only[hc,k9,q9]at d;rw[aRv (by intro h;cases h) B l,aRv u C o];unfold rlK;rw[aSY,aMF,<-x.fits]
   have D:((wgt n.nest):Int)=(if n.nest then 8 else 1):=by cases n.nest<;>rfl
   rw[D]
   have q:decide ((a:Int)<=(b:Int))=decide (a<=b):=by rw[decide_eq_decide];omega
   rw[q]
   cases j:Nw.fits f with
   |false=>
    rw[j]at d;simp at d;rw[cond_false]
    by_cases g:a<=b
    .simp[g]at d ⊢;exact d.symm
    .simp[g]at d ⊢;omega
   |true=>
    rw[j]at d;simp only[if_true]at d;rw[cond_true,<-x.wider s j];generalize Rf.wider (if n.nest=true then 8 else 1) f=c at*
    by_cases c1:c=1
    .subst c1;simp at d;subst d;rfl
    .by_cases c2:c=-1
     .subst c2;simp at d;subst d;rfl
     .have b1:(c==1)=false:=by rw[beq_eq_false_iff_ne];exact c1
      have b2:(c==-1)=false:=by rw[beq_eq_false_iff_ne];exact c2
      rw[b1,b2,cond_false,cond_false];rw[if_neg c1,if_neg c2]at d
      by_cases g:a<=b
      .rw[if_pos g]at d;subst d;simp[g]
      .rw[if_neg g]at d;subst d;simp[g]
end Ab
def oB (len k:Nat):Nat:=if k=0 then 0 else 1+(k-1)%(len-1)
theorem aLM (w:World)(g a len k:Nat)(t:Int)(l:2<=len)(b:len<=1000000)(n:k<=1000000)(hc:w.cell? ⟨g,oB len k,none⟩=some (.int .i64 t)):Calls prog 183 #[.slice (some ⟨g,0,none⟩) len a,.int .i64 k] w λe h=>e=.returned (.int .i64 t)/\h=w:=by
 have s:¬((len:Int)-1<1):=by omega
 have u:¬((k:Int)<0):=by omega
 rcases Nat.eq_zero_or_pos k with rfl|hp
 .have hc:w.cell? ⟨g,0,none⟩=some (.int .i64 t):=hc
  have v:(0:Int)<len:=by omega
  have x:0<len:=by omega
  go_enter func183,ntmps183
  go_wp2_with fail
  go_ret
  exact⟨rfl,rfl⟩
 .have f:oB len k=1+(k-1)%(len-1):=by unfold oB;rw[if_neg (by omega)]
  rw[f]at hc;have o:=Nat.mod_lt (k-1) (show 0<len-1 by omega)
  have i:((k:Int)-1).tmod ((len:Int)-1)=(((k-1)%(len-1):Nat):Int):=by
   rw[p8 (by omega)]
   have a1:(k:Int)-1=((k-1:Nat):Int):=by omega
   have d:(len:Int)-1=((len-1:Nat):Int):=by omega
   rw[a1,d,Int.natCast_emod]
  generalize (k-1)%(len-1)=j at*;have k0:((k:Int)==0)=false:=beq_eq_false_iff_ne.2 (by omega)
  have d0:¬((len:Int)-1=0):=by omega
  have d1:(((len:Int)-1)==0)=false:=beq_eq_false_iff_ne.2 d0
  have p:(1:Int)+(j:Int)<len:=by omega
  have q:((1:Int)+(j:Int)).toNat=1+j:=by omega
  have r:(0:Int)<=1+(j:Int):=by omega
  go_enter func183,ntmps183
  go_wp2_with fail
  go_ret
  exact⟨rfl,rfl⟩
namespace Ab
def Ke (e:Int)(f:LN)(k:Int):AS:=⟨.val (.one (.ptr 0 0))::.val (.one (.sint .i64 k))::n7 34 .gG,[(0,ext (.int .i64 e::.any::bH true 0 8) 161)],1,f.map λz=>(z,1),[]⟩
noncomputable def bC:XW:=λf=>bif f==184 then some f184 else none
theorem aSw:bQ Z bC:=by
 intro f fn h;unfold bC at h
 cases e:f==184 with
 |true=>
  rw[e]at h;cases h
  have:f=184:=by simpa using e
  subst this;exact⟨(bD func184 rfl rfl).at',(bD func184 rfl rfl).en⟩
 |false=>rw[e]at h;cases h
noncomputable def jQ (e:Int)(f:LN)(k:Int):Option (List Prop×RG×Nat):=((run Z (aE tN) bC (aL Z (aE tN)) (λ_=>false) 2000 [.code (aF f167),.top f167] (Ke e f k)).bind outcome).bind (jH true)
def uV (e p q s r k:Int):LN:=
 [bif decide (k>0) then (bif (e==13)||(e==11) then 0 else 0) else 0,bif decide (k>0) then (bif (e==13)||(e==11) then s*gM e k else p*gM e k) else p*gM e k,
  bif decide (k>0)then(bif (e==13)||(e==11)then r else q)else q,bif decide (k>0)then(bif (e==13)||(e==11)then r*gN e k else q*gN e k)else q*gN e k]
def yB (e k:Int):List Prop:=
 [decide (k>0)=true->((e==13)||(e==11))=true->(gM e k).natAbs<1000000000000000000,decide (k>0)=true->((e==13)||(e==11))=true->(gN e k).natAbs<1000000000000000000,
  decide (k>0)=true->((e==13)||(e==11))=false->(gM e k).natAbs<1000000000000000000,decide (k>0)=true->((e==13)||(e==11))=false->(gN e k).natAbs<1000000000000000000,
  decide (k>0)=false->(gM e k).natAbs<1000000000000000000,decide (k>0)=false->(gN e k).natAbs<1000000000000000000]
section
variable (p q s r a b c d k:Int)
theorem aZB:jQ 2 [p,q,s,r,a,b,c,d] k=some ([0<=k/\k<=100000000],.one (.ns [bif k==0 then 0 else 0,bif k==0 then 4 else Wr (k*k),bif k==0 then 1 else 1,bif k==0 then 1 else Wr (Wr (2*k)+1)]),1):=by kernel_rfl
theorem aZC:jQ 3 [p,q,s,r,a,b,c,d] k=some ([(hP k).natAbs<1000000000000000000],.one (.ns [hP k,1,1,0]),1):=by kernel_rfl
theorem Qr:jQ 10 [p,q,s,r,a,b,c,d] k=some ([],.one (.ns [a,b,c,d]),1):=by kernel_rfl
theorem Qs:jQ 11 [p,q,s,r,a,b,c,d] k=some (yB 11 k,.one (.ns (uV 11 p q s r k)),2):=by kernel_rfl
theorem Qt:jQ 12 [p,q,s,r,a,b,c,d] k=some (yB 12 k,.one (.ns (uV 12 p q s r k)),2):=by kernel_rfl
theorem Qu:jQ 13 [p,q,s,r,a,b,c,d] k=some (yB 13 k,.one (.ns (uV 13 p q s r k)),2):=by kernel_rfl
end
variable {k:Nat}
theorem aRy {v:Int}{op:Rf.Op}(B:k<=1000000)(h:(v=11/\op=.exp)\/(v=12/\op=.fK)\/(v=13/\op=.atan)):gM v k=(Rf.shape op k).1/\gN v k=(Rf.shape op k).2:=by
 have C:(k:Int)*k<=1000000*1000000:=p9 (by omega) (by omega) (by omega) (by omega);have j:0<=(k:Int)*k:=q7 (by omega) (by omega);have l:Wr ((k:Int)*k)=(k:Int)*k:=mV (by omega) (by omega);have n:Wr (4*(k:Int))=4*k:=mV (by omega) (by omega);have o:Wr (4*(k:Int)+2)=4*k+2:=mV (by omega) (by omega);have u:Wr (2*(k:Int))=2*k:=mV (by omega) (by omega);have w:Wr (2*(k:Int)+1)=2*k+1:=mV (by omega) (by omega);have x:Wr ((k:Int)+1)=k+1:=mV (by omega) (by omega)
 have g:((k:Int)+1).tdiv 2=(((k+1)/2:Nat):Int):=by
  rw[q8 (by omega)];omega
 have y:Wr ((((k+1)/2:Nat):Int))=(((k+1)/2:Nat):Int):=mV (by omega) (by omega);have A:(((k+1)/2:Nat):Int)*(((k+1)/2:Nat):Int)<=1000000*1000000:=p9 (by omega) (by omega) (by omega) (by omega);have i:0<=(((k+1)/2:Nat):Int)*(((k+1)/2:Nat):Int):=q7 (by omega) (by omega);have z:Wr ((((k+1)/2:Nat):Int)*(((k+1)/2:Nat):Int))=(((k+1)/2:Nat):Int)*(((k+1)/2:Nat):Int):=mV (by omega) (by omega)
 by_cases e:k=0
 .subst e
  rcases h with⟨rfl,rfl⟩|⟨rfl,rfl⟩|⟨rfl,rfl⟩<;>exact⟨rfl,rfl⟩
 .have f:((k:Int)==0)=false:=beq_eq_false_iff_ne.2 (by omega)
  rcases h with⟨rfl,rfl⟩|⟨rfl,rfl⟩|⟨rfl,rfl⟩
  .refine⟨rfl,?_⟩;show Wr (Wr (4*(k:Int))+2)=((4*k+2:Nat):Int);rw[n,o];omega
  .unfold gM gN Rf.shape;simp only[f,e,if_true,if_false,show((12:Int)==11)=false from rfl,show((12:Int)==13)=false from rfl,cond_false,x,g,y,z]
   refine⟨?_,?_⟩<;>simp
  .unfold gM gN Rf.shape;simp only[f,e,if_true,if_false,show((13:Int)==11)=false from rfl,show((13:Int)==13)=true from rfl,cond_false,cond_true,l,u,w,reduceCtorEq]
   refine⟨?_,?_⟩<;>simp
variable {n:Rf.Nd}
theorem aWv {kd p q s r g h:Int}(B:k<=1000000)(i:(kd=11/\n.op=.exp)\/(kd=12/\n.op=.fK)\/(kd=13/\n.op=.atan))(z:0<g)(A:0<h)(u:n.p=g*p)(v:n.q=g*q)(w:n.p*n.p=h*s)(x:n.q*n.q=h*r):∃f a b c d,0<f/\uV kd p q s r k=[a,b,c,d]/\Rf.constant n k=some (Pg.wC f ⟨a,b,c,d⟩):=by
 obtain⟨f1,f2⟩:=aRy B i
 have hc:Rf.constant n k=some (if n.op≠.fK/\0<k then⟨0,(Rf.shape n.op k).1*(n.p*n.p),n.q*n.q,(Rf.shape n.op k).2*(n.q*n.q)⟩else⟨0,(Rf.shape n.op k).1*n.p,n.q,(Rf.shape n.op k).2*n.q⟩):=by
  unfold Rf.constant
  rcases i with⟨_,e⟩|⟨_,e⟩|⟨_,e⟩<;>rw[e]
 by_cases j:n.op≠.fK/\0<k
 .rw[if_pos j]at hc
  have o:((kd==13)||(kd==11))=true:=by
   rcases i with⟨rfl,_⟩|⟨rfl,e⟩|⟨rfl,_⟩
   .rfl
   .exact absurd e j.1
   .rfl
  refine⟨h,0,s*gM kd k,r,r*gN kd k,A,?_,?_⟩
  .unfold uV;rw[decide_eq_true (by omega:(k:Int)>0),o];rfl
  .rw[hc,f1,f2,w,x];unfold Pg.wC
   congr 2<;>simp only<;>grind
 .rw[if_neg j]at hc
  have o:uV kd p q s r k=[0,p*gM kd k,q,q*gN kd k]:=by
   unfold uV
   by_cases y:k=0
   .subst y;rfl
   .have:n.op=.fK:=by
     rcases i with⟨_,e⟩|⟨_,e⟩|⟨_,e⟩
     .exact absurd ⟨by rw[e];decide,by omega⟩ j
     .exact e
     .exact absurd ⟨by rw[e];decide,by omega⟩ j
    have l:kd=12:=by
     rcases i with⟨_,e⟩|⟨e,_⟩|⟨_,e⟩
     .rw[e]at this;cases this
     .exact e
     .rw[e]at this;cases this
    subst l
    cases decide ((k:Int)>0)<;>rfl
  refine⟨g,0,p*gM kd k,q,q*gN kd k,z,o,?_⟩;rw[hc,f1,f2,u,v];unfold Pg.wC
  congr 2<;>simp only<;>grind
theorem aXP (i:k<=1000000)(a:n.op=.pi):Rf.constant n k=some ⟨bif (k:Int)==0 then 0 else 0,bif (k:Int)==0 then 4 else Wr ((k:Int)*k),bif (k:Int)==0 then 1 else 1,bif (k:Int)==0 then 1 else Wr (Wr (2*(k:Int))+1)⟩:=by
 have j:(k:Int)*k<=1000000*1000000:=p9 (by omega) (by omega) (by omega) (by omega);have e:0<=(k:Int)*k:=q7 (by omega) (by omega);have f:Wr ((k:Int)*k)=(k:Int)*k:=mV (by omega) (by omega);have g:Wr (2*(k:Int))=2*k:=mV (by omega) (by omega);have h:Wr (2*(k:Int)+1)=2*k+1:=mV (by omega) (by omega);unfold Rf.constant;rw[a]
 by_cases b:k=0
 .subst b;rfl
 .have d:((k:Int)==0)=false:=beq_eq_false_iff_ne.2 (by omega);simp only[b,if_false,d,cond_false,f,g,h];simp
theorem Rg (p:k<=1000000)(b:n.op=.e):Rf.constant n k=some ⟨hP k,1,1,0⟩:=by
 have j:Wr ((k:Int)+1)=k+1:=mV (by omega) (by omega);have l:Wr (2*((k:Int)+1))=2*(k+1):=mV (by omega) (by omega);have g:(2*((k:Int)+1)).tdiv 3=2*(k+1)/3:=q8 (by omega);have o:Wr (2*((k:Int)+1)/3)=2*(k+1)/3:=mV (by omega) (by omega);have i:(k:Int).tmod 3=(k:Int)%3:=p8 (by omega);unfold Rf.constant;rw[b];simp only;congr 2;unfold Rf.hP hP
 by_cases d:k=0
 .subst d;rfl
 .have h:((k:Int)==0)=false:=beq_eq_false_iff_ne.2 (by omega);rw[if_neg d,h,cond_false,i,j,l,g,o]
  by_cases f:k%3=2
  .have a:((k:Int)%3==2)=true:=by rw[beq_iff_eq];omega
   rw[if_pos f,a,cond_true];omega
  .have a:((k:Int)%3==2)=false:=by rw[beq_eq_false_iff_ne];omega
   rw[if_neg f,a,cond_false]
def Ff (cs:List AC)(ty:TypeId):bL:=⟨cs,ty,false,false,false⟩
variable {L:fE}{n:World}{φ:LI}{s:AS}
theorem aOP (I:s.dirty=[])(h:∀b B,look s.boxes b=some B->B.own=false/\B.tip=false/\∃k o,φ b=some (k,o)/\Seg L φ s.nums n k o B.ty B.cs)(hi:∀b f B i k o r,look s.boxes b=some B->look s.boxes f=some i->φ b=some (k,o)->φ f=some (k,r)->b=f\/(B.ro=true/\i.ro=true))(z:∀b,s.next<=b->φ b=none)(y:∀b k o,φ b=some (k,o)->k<n.heap.size):RepW L n φ φ s n:=by
 refine⟨λb B j=>?_,λb B k o j A=>?_,λb f B i k o r g d p q=>?_,λb B j D=>?_,z,y,λk _ _=>rfl,On.refl _ _,λb x e=>e,λb B k o g d=>(by rw[(h b B g).1]at d;cases d)⟩
 .obtain⟨_,_,k,o,g,u,H,l,d,p,q⟩:=h b B j;exact⟨k,o,u,H,l,g,d,p,q⟩
 .have:=(h b B j).1;rw[A]at this;cases this
 .obtain⟨_,v,_⟩:=h b B g;obtain⟨_,J,_⟩:=h f i d
  rcases hi b f B i k o r g d p q with e|⟨E,F⟩
  .exact Or.inl e
  .exact Or.inr ⟨E,F,λ⟨a,_⟩=>(by rw[v]at a;cases a),λa=>(by rw[v]at a;cases a)⟩
 .have:=(h b B j).2.1;rw[D]at this;cases this
variable {q:LI}
theorem aTQ {w:World}{f:NU}(h:Holds (oT s.nums f))(a:RepW Z n q φ s w):RepW Z n q φ (Eu f s) w:=by
 refine⟨?_,a.own,a.inj,a.tip,a.fresh,a.lt,a.low,a.on,a.base,a.qD⟩;intro b B g;obtain⟨k,o,e,p,d,k1,i,j,l⟩:=a.box b B g;exact⟨k,o,e,p,d,k1,i,j,l.mono (Vv h)⟩
def aG (f:FuncId)(o:Oper):Bool:=
 match o.op with
 |.call { callee:=.value (.func g),..}=>g==f
 |_=>false
def sZ (o:Oper):Bool:=
 match o.op with
 |.call { callee:=.builtin .append,..}=>true
 |_=>false
def nH (p:Oper->Bool):List (K (List AT))->Bool
 |.ops all (i::_)::_=>match all[i]? with|some o=>p o|none=>false
 |_=>false
def Ay (p:Oper->Bool):List Oper->Nat->Option Nat
 | [],_=>none
 |o::r,i=>bif p o then some i else Ay p r (i+1)
def mJ (p:Oper->Bool):Code->List (K (List AT))->Option (List (K (List AT)))
 |.region _ ops false,d=>(Ay p ops.toList 0).map λj=>.ops ops ((List.range ops.size).drop (j+1))::d
 |.seq a b,d=>match mJ p a (.code b::d)with|some r=>some r|none=>mJ p b d
 |.block id b,d=>mJ p b (.bS id::d)
 |.cond _ a b,d=>match mJ p a d with|some r=>some r|none=>mJ p b d
 |_,_=>none
def eE (p:Oper->Bool)(fn:Func):List (K (List AT)):=(mJ p (aF fn) [.top fn]).getD []
def cP (C:fE)(s:AS):List (K (List AT))->Option (FuncId×List AV×Option Tmp×List (K (List AT)))
 |.ops all (i::a)::b=>(all[i]?).bind λo=>
  match gd all s.tmps o with
  |.yes=>match evalOp C.P (iW s.tmps) (look s.boxes) o.op with
   |some (.call f d)=>some (f,d,o.dst,.ops all a::b)
   |_=>none
  |_=>none
 |_=>none
variable {R:EW}{a:Act}{vs:List AV}{dst:Option Tmp}
theorem qI {b:World}{ks ks2:List (K (List AT))}{l:List (K Act)}{f:FuncId}(h:cP L s ks=some (f,vs,dst,ks2))(D:Enters L.P f)(r:noFr ks=true){φ1:LI}{ν1:LV}{w1:World}(F:SR L φ1 ν1 w1 ks l)(E:Rep L n q φ s a b)
  (H:∀z:LB,All2 (dU L φ s.nums b) vs z->Calls L.P f z.toArray b λe N=>∃v,e=.returned v/\∀j,noFr ks2=true->(∀B A y,SR L B A y ks2 j)->gD L.P R j .normal (a.put dst v) N):gD L.P R l .normal a b:=by
 unfold cP at h;split at h
 .rename_i all i k I;obtain⟨o,X,p⟩:=aS h;split at p
  .rename_i W;split at p
   .rename_i T J U;cases p
    match l,F with
    |.ops d r'::g,⟨O,S,x⟩=>
     subst O S;show wpOps L.P d (gD L.P R g) (i::k) a b;rw[wpOps_cons];have M:=Qd (all:=d) (o:=o) E.tmps;rw[W]at M;obtain⟨z,Y,r2⟩:=wS (o:=o) (tU E.tmps) E.wd.box (λ_=>rfl) (λT J e=>by cases e;exact D) U;unfold wpOp;simp only[X];rw[if_pos M];refine Or.inl ?_;unfold Oper.wp;rw[Y];show Calls L.P f z.toArray b _;refine(H z r2).mono ?_;rintro e N⟨v,rfl,hv⟩
     have u:noFr I=true:=by simpa[noFr]using r
     exact hv (.ops d k::g) (by simpa[noFr]using r) λB A y=>⟨rfl,rfl,SR.any u x⟩
   .cases p
  .cases p
 .cases h
def vV (a:NU):AC->Bool
 |.int _ _=>true
 |.bool _=>true
 |.sint _ _=>true
 |.sbool _=>true
 |.lit _=>true
 |.ptr b _=>a.contains b
 |_=>false
def kP (a b:NU):Nat->List AT->List AT
 |_,[]=>[]
 |i,t::r=>(bif b.contains i then(match t with|.val (.one c)=>bif vV a c then t else .top|.gG=>.gG|_=>.top)else .top)::kP a b (i+1) r
variable {C:LI}
theorem aN0 {ν d:LV}{i:World}{f:NU}{c:AC}{x:Value}(h:vV f c=true)(a:∀b,f.contains b=true->C b=φ b)(r:relC L φ ν n c x):relC L C d i c x:=by
 cases c<;>simp only[vV]at h<;>try (first|exact r|cases h)
 obtain⟨k,o,e,g⟩:=r;exact⟨k,o,by rw[a _ h];exact e,g⟩
theorem aIs {L:fE}{φ C:LI}{ν e:LV}{n l:World}{f j:NU}(a:∀b,f.contains b=true->C b=φ b):∀(i:Nat) (ts:List AT) (d:LB),All2 (relT L φ ν n) ts d->All2 (relT L C e l) (kP f j i ts) d
 |_,[],[],_=>trivial
 |_,[],_::_,h=>h.elim
 |_,_::_,[],h=>h.elim
 |i,t::r,x::d,⟨g,k⟩=>by
  refine⟨?_,aIs a (i+1) r d k⟩
  cases j.contains i with
  |false=>trivial
  |true=>
   simp only[cond_true];split
   .rename_i c
    cases hc:vV f c with
    |false=>trivial
    |true=>exact aN0 hc a g
   .exact g
   .trivial
theorem pK {e:World}{d:LI}{f:AS}{J h:World}{v:Value}{r:AT}{kb kt:NU}(i:Rep L n q φ s a J)(k:RepW L e C d f h)(j:f.tmps=putT (kP kb kt 0 s.tmps) dst r)(g:∀b,kb.contains b=true->d b=φ b)(hv:relT L d f.nums h r v):Rep L e C d f (a.put dst v) h:=by
 refine⟨k,by rw[rL];exact i.defers,?_⟩;rw[j];exact rP (aIs g 0 _ _ i.tmps) dst hv
inductive XT where
 |ret (r:AT) (s:AS)
 |stp (ks:List (K (List AT))) (s:AS)
 |br (t:Bool) (a b:XT)
 |need (p:List Prop) (o:XT)
def XT.ok (G:AT->AS->Prop)(H:List (K (List AT))->AS->Prop):XT->Prop
 |.ret r s=>G r s
 |.stp d s=>H d s
 |.br t a b=>(t=true->a.ok G H)/\(t=false->b.ok G H)
 |.need p o=>Holds p/\o.ok G H
def fF (d e:NU)(f:Nat)(a:NU)(s:AS):Option (AS×List Prop):=(norm d e f s).map λb=>(Eu a b,oT b.nums a)
def eF (d ns:AS->Option (AS×List Prop)):Tr->Option XT
 |.ret r s=>(d s).map λx=>match x.2 with| []=>.ret r x.1|p::e=>.need (p::e) (.ret r x.1)
 |.stop f s=>(ns s).map λx=>match x.2 with| []=>.stp f x.1|p::e=>.need (p::e) (.stp f x.1)
 |.br t a b=>(eF d ns a).bind λx=>(eF d ns b).map λy=>.br t x y
 |.need p t=>(eF d ns t).map (.need p)
theorem Lj {l ns:AS->Option (AS×List Prop)}{G:AT->AS->Prop}{H:List (K (List AT))->AS->Prop}:∀{n:Tr} {j:XT},eF l ns n=some j->j.ok G H->n.ok (λr s=>∃g p,l s=some (g,p)/\Holds p/\G r g) λk s=>∃g p,ns s=some (g,p)/\Holds p/\H k g
 |.ret r s,j,h,d=>by
  simp only[eF]at h;obtain⟨⟨g,q⟩,i,f⟩:=bU h
  cases q with
  |nil=>simp only at f;subst f;exact⟨g,[],i,gJ,d⟩
  |cons p u=>simp only at f;subst f;exact⟨g,_,i,d.1,d.2⟩
 |.stop k s,j,h,d=>by
  simp only[eF]at h;obtain⟨⟨g,q⟩,i,f⟩:=bU h
  cases q with
  |nil=>simp only at f;subst f;exact⟨g,[],i,gJ,d⟩
  |cons p u=>simp only at f;subst f;exact⟨g,_,i,d.1,d.2⟩
 |.br t a b,j,h,d=>by
  simp only[eF]at h;obtain⟨x,i,f⟩:=aS h;obtain⟨y,o,rfl⟩:=bU f;exact⟨λe=>Lj i (d.1 e),λe=>Lj o (d.2 e)⟩
 |.need p t,j,h,d=>by
  simp only[eF]at h;obtain⟨x,i,rfl⟩:=bU h;exact⟨d.1,Lj i d.2⟩
variable {f o:NU}{p:List Prop}
theorem aOk {d:World}{w:Nat}{r:NU}{g:AS}(h:fF f o w r s=some (g,p))(k:Holds p)(e:∀b x,q b=some x->f.contains b=true)(l:Rep Z n q φ s a d):Rep Z n q (rst f φ) g a d:=by
 unfold fF at h;obtain⟨t,i,j⟩:=bU h;cases j;exact aOL k (aOj i e l)
theorem aJS {a:World}{l:NU}{w:Nat}{e:AS}(h:fF f l w o s=some (e,p))(j:Holds p)(d:∀b x,q b=some x->f.contains b=true)(k:RepW Z n q φ s a):RepW Z n q (rst f φ) e a:=by
 unfold fF at h;obtain⟨t,g,i⟩:=bU h;cases i;exact aTQ j (aKW g d k)
theorem pM {B:FuncId}{fn:Func}(F:Fn B fn){args:LB}(i:s.tmps=vs.map .val++n7 (fn.ntmps-vs.length) .gG)(hv:All2 (dU Z φ s.nums n) vs args)(j:RepW Z n φ φ s n)
  (h:∀(b:List (K Act)) (d:LI) (a:Act) (e:World),SR Z d s.nums e [.code (aF fn),.top fn] b->Rep Z n φ d s a e->gD Z.P R b .normal a e):Calls prog B args.toArray n R:=by
 refine calls_of_wp (P:=Z.P) F.at' F.body ?_;have g:=hv.len
 exact h [.code (aF fn),.top fn] φ _ n ⟨rfl,rfl,trivial⟩ ⟨j,rfl,by
  rw[i];simp only[Array.toList_append,Array.toList_replicate,List.size_toArray];rw[<-g]
  exact(Vs hv).append (Vr _)⟩
end Ab
end Go.Proofs.YtpdflaaamaokbaaGreatDoor
