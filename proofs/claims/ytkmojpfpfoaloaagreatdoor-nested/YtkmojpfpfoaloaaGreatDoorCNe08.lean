import Derived.Test.YtkmojpfpfoaloaaGreatDoorCNe07
import Derived.Test.YtkmojpfpfoaloaaGreatDoorCNe04
set_option linter.all false
set_option maxRecDepth 100000
set_option maxHeartbeats 2000000
namespace Go.Proofs.YtkmojpfpfoaloaaGreatDoor
open Go.Proofs.Tryz
namespace Pg
open Rf Nw
def eE (v:V):Int:=if v.1=0/\v.2=0 then 1 else v.1+v.2
def scaled (u v o r:V):Int:=(((u.1*v.2-u.2*v.1)*(eE o*eE r)).natAbs:Int)
def yA (a b:Int):Int:=if a<b then b else a
def rA (cs:List V)(times:Int):Int:=
 match cs with
 | [a,b,c,d]=>Nm.cmp (yA (scaled a c b d) (scaled b d a c)*times) (yA (scaled a b c d) (scaled c d a b))
 |_=>0
def yU (S:Int)(f:V)(x:Int):Prop:=0<f.2/\0<=f.1/\f.1*S=2*x*f.2
theorem Xw {k a b:Int}(d:0<k):k*a<=k*b↔a<=b:=⟨fun h=>Int.le_of_mul_le_mul_left h d,fun h=>Int.mul_le_mul_of_nonneg_left h (Int.le_of_lt d)⟩
theorem yU.dS {v:Int}{B Y:V}{x l:Int}(n:0<v)(o:yU v B x)(p:yU v Y l):yU v (Rf.dS B Y) (yA x l):=by
 obtain⟨f1,f2,f3⟩:=o;obtain⟨b,k,d⟩:=p
 have a:Y.1*B.2<=B.1*Y.2↔l<=x:=by
  have i:v*(Y.1*B.2)=2*(B.2*Y.2)*l:=by
   calc v*(Y.1*B.2)=(Y.1*v)*B.2:=by grind
    _=2*(B.2*Y.2)*l:=by rw[d];grind
  have j:v*(B.1*Y.2)=2*(B.2*Y.2)*x:=by
   calc v*(B.1*Y.2)=(B.1*v)*Y.2:=by grind
    _=2*(B.2*Y.2)*x:=by rw[f3];grind
  have q:0<2*(B.2*Y.2):=Int.mul_pos (by decide) (Int.mul_pos f1 b);rw[<-Xw n,i,j,Xw q]
 unfold Rf.dS yA
 by_cases h:l<=x
 ·rw[if_pos (a.2 h),if_neg (by omega)];exact⟨f1,f2,f3⟩
 ·rw[if_neg (fun e=>h (a.1 e)),if_pos (by omega)];exact⟨b,k,d⟩
theorem aMM {k a b:Int}(d:0<k):Nm.cmp (k*a) (k*b)=Nm.cmp a b:=by
 have e:k*a<k*b↔a<b:=⟨fun h=>Int.lt_of_mul_lt_mul_left h (Int.le_of_lt d),fun h=>Int.mul_lt_mul_of_pos_left h d⟩
 have f:k*a=k*b↔a=b:=⟨fun h=>Int.eq_of_mul_eq_mul_left (by omega) h,fun h=>by rw[h]⟩
 unfold Nm.cmp;simp only[e,f]
theorem yU.cmp {v:Int}{B Y:V}{x l j:Int}(e:0<v)(h:yU v B x)(i:yU v Y l):Nm.cmp (j*B.1*Y.2) (Y.1*B.2)=Nm.cmp (x*j) l:=by
 obtain⟨f1,f2,f3⟩:=h;obtain⟨b,n,d⟩:=i;have k:0<2*(B.2*Y.2):=Int.mul_pos (by decide) (Int.mul_pos f1 b);rw[<-aMM e,<-aMM (a:=x*j) k];congr 1
 ·calc v*(j*B.1*Y.2)=j*(B.1*v)*Y.2:=by grind
   _=2*(B.2*Y.2)*(x*j):=by rw[f3];grind
 ·calc v*(Y.1*B.2)=(Y.1*v)*B.2:=by grind
   _=2*(B.2*Y.2)*l:=by rw[d];grind
def oX (v:V):Prop:=(0<=v.1/\0<=v.2)\/(v.1<=0/\v.2<=0)
theorem Sw {L:List V}(h:fits L=true):∀v∈L,oX v:=by
 unfold fits at h;intro v hv;unfold oX
 cases b:L.any oT with
 |false=>
  have:=List.any_eq_false.1 b v hv;simp[oT]at this;omega
 |true=>
  cases a:L.any lJ with
  |true=>rw[b,a]at h;cases h
  |false=>
   have:=List.any_eq_false.1 a v hv;simp[lJ]at this;omega
theorem Vg {B:V}(h:oX B):eE B≠0:=by
 unfold eE oX at*
 split<;>omega
theorem Vf {B:V}(h:oX B):(B.1+B.2=0↔B.1=0/\B.2=0):=by
 unfold oX at h;omega
theorem Sf {B Y o r:V}{e S:Int}(z:0<e)(k:oX B)(hv:oX Y)(E:oX o)(F:oX r)(s:S=((eE B).natAbs:Int)*((eE Y).natAbs:Int)*(((eE o).natAbs:Int)*((eE r).natAbs:Int))):yU S (apart (sc e B) (sc e Y)) (scaled B Y o r):=by
 have p:(sc e B).1+(sc e B).2=e*(B.1+B.2):=by unfold sc;simp;grind
 have q:(sc e Y).1+(sc e Y).2=e*(Y.1+Y.2):=by unfold sc;simp;grind
 have f:∀x:Int,e*x=0↔x=0:=fun x=>⟨fun h=>by rcases Int.mul_eq_zero.1 h with h|h;omega;exact h,fun h=>by rw[h];simp⟩
 unfold apart;rw[p,q]
 by_cases hc:B.1+B.2=0\/Y.1+Y.2=0
 ·rw[if_pos (by rw[f,f];exact hc)]
  have w:scaled B Y o r=0:=by
   have:B.1*Y.2-B.2*Y.1=0:=by
    rcases hc with h|h
    ·obtain⟨a,b⟩:=(Vf k).1 h;rw[a,b];simp
    ·obtain⟨a,b⟩:=(Vf hv).1 h;rw[a,b];simp
   unfold scaled;rw[this];simp
  refine⟨by decide,by decide,?_⟩;rw[w];simp
 ·rw[if_neg (by rw[f,f];exact hc)]
  have i:B.1+B.2≠0:=fun h=>hc (Or.inl h)
  have j:Y.1+Y.2≠0:=fun h=>hc (Or.inr h)
  have y:eE B=B.1+B.2:=by unfold eE;rw[if_neg (fun h=>i ((Vf k).2 h))]
  have sv:eE Y=Y.1+Y.2:=by unfold eE;rw[if_neg (fun h=>j ((Vf hv).2 h))]
  have n0:e*(B.1+B.2)*(e*(Y.1+Y.2))≠0:=Int.mul_ne_zero (fun h=>i ((f _).1 h)) (fun h=>j ((f _).1 h))
  have g:((sc e B).1-(sc e B).2)*(e*(Y.1+Y.2))-((sc e Y).1-(sc e Y).2)*(e*(B.1+B.2))=2*(e*e)*(B.1*Y.2-B.2*Y.1):=by unfold sc;simp;grind
  refine⟨by simp only;omega,by simp only;omega,?_⟩;simp only;rw[g,s,y,sv];unfold scaled;simp only[Int.natAbs_mul,Int.natCast_mul]
  have n:((e.natAbs:Nat):Int)=e:=by omega
  rw[n];generalize ((B.1+B.2).natAbs:Int)=A;generalize ((Y.1+Y.2).natAbs:Int)=d;generalize ((eE o).natAbs:Int)=C;generalize ((eE r).natAbs:Int)=D;generalize ((B.1*Y.2-B.2*Y.1).natAbs:Int)=X;have l:(((2:Int).natAbs:Nat):Int)=2:=rfl;rw[l];grind
theorem eL.wider {L cs:List V}(h:eL L cs)(p:L.length=4)(g:Nw.fits L=true)(f:Int):Rf.wider f L=rA cs f:=by
 obtain⟨x,y,z,t,rfl⟩:=four h.len;obtain⟨a,b,c,d,rfl⟩:=four p;rw[h.fits]at g;obtain⟨e,i,rfl,rfl,rfl,rfl⟩:=h.of4;have o1:=Sw g x (by simp);have o2:=Sw g y (by simp);have o3:=Sw g z (by simp);have o4:=Sw g t (by simp);have p1:=Int.natAbs_pos.2 (Vg o1);have q:=Int.natAbs_pos.2 (Vg o2);have p3:=Int.natAbs_pos.2 (Vg o3);have p4:=Int.natAbs_pos.2 (Vg o4);have j:0<((eE x).natAbs:Int)*((eE y).natAbs:Int)*(((eE z).natAbs:Int)*((eE t).natAbs:Int)):=Int.mul_pos (Int.mul_pos (by omega) (by omega)) (Int.mul_pos (by omega) (by omega));have f1:=Sf (S:=((eE x).natAbs:Int)*((eE y).natAbs:Int)*(((eE z).natAbs:Int)*((eE t).natAbs:Int))) i o1 o3 o2 o4 (by grind);have f2:=Sf (S:=((eE x).natAbs:Int)*((eE y).natAbs:Int)*(((eE z).natAbs:Int)*((eE t).natAbs:Int))) i o2 o4 o1 o3 (by grind);have f3:=Sf (S:=((eE x).natAbs:Int)*((eE y).natAbs:Int)*(((eE z).natAbs:Int)*((eE t).natAbs:Int))) i o1 o2 o3 o4 (by grind);have k:=Sf (S:=((eE x).natAbs:Int)*((eE y).natAbs:Int)*(((eE z).natAbs:Int)*((eE t).natAbs:Int))) i o3 o4 o1 o2 (by grind);have n:=yU.dS j f1 f2;have o:=yU.dS j f3 k;unfold Rf.wider rA;simp only;exact yU.cmp j n o
def qN (op:Rf.Op)(hi lo:V):Bool:=
 let u:=hi.1*lo.2
 let l:=lo.1*hi.2
 if op=.sqrt then decide (u<=l+l)
 else decide ((u-l)*4<=(if op=.fK then hi.2*lo.2+l else if op=.atan then hi.2*lo.2+hi.1*lo.1 else hi.2*lo.2))
theorem aPs {op:Rf.Op}(f:op=.sqrt\/op=.exp\/op=.fK\/op=.atan){e:Int}(h:0<e)(hi lo:V):known op (sc e lo) (sc e hi)=qN op hi lo:=by
 have d:0<e*e:=Int.mul_pos h h
 have g:∀{a b x y:Int},a=e*e*x->b=e*e*y->decide (a<=b)=decide (x<=y):=by
  intro a b x y i j;rw[decide_eq_decide,i,j,Xw d]
 rcases f with rfl|rfl|rfl|rfl<;>simp only[known,qN,reduceCtorEq,if_true,if_false]<;>apply g<;>simp only[sc]<;>grind
end Pg
namespace Pg
open Rf Nw
structure HC (n:Nd):Prop where
 len:n.dP.length=n.out.length+1
 fst:n.dP[0]?=some one
 lst:n.dP[n.out.length]?=some n.told
 step:∀(r:Nat) (c:Int) (m:Mt),n.out[r]?=some c->n.dP[r]?=some m->n.dP[r+1]?=some (m.mul (Mt.sym c))
theorem HC.fresh (pos:Bool)(t:List V)(args:List Nat):HC (fresh pos t args):=⟨rfl,rfl,rfl,fun r c m h=>by simp[Rf.fresh]at h⟩
variable {y:Nd}
theorem HC.of {n':Nd}(h:HC y)(b:n'.out=y.out)(a:n'.dP=y.dP)(d:n'.told=y.told):HC n':=⟨by rw[b,a];exact h.len,by rw[a];exact h.fst,by rw[b,a,d];exact h.lst,by rw[b,a];exact h.step⟩
theorem HC.give (h:HC y)(c:Int):HC {y with out:=y.out++[c],told:=y.told.mul (Mt.sym c),dP:=y.dP++[y.told.mul (Mt.sym c)]}:=by
 refine⟨by simp[h.len],?_,?_,?_⟩
 ·simp only;rw[List.getElem?_append_left (by rw[h.len];omega)];exact h.fst
 ·simp only;rw[List.getElem?_append_right (by simp[h.len])];simp[h.len]
 ·intro r d m a b;simp only at a b ⊢
  by_cases f:r<y.out.length
  ·rw[List.getElem?_append_left f]at a;rw[List.getElem?_append_left (by rw[h.len];omega)]at b ⊢;exact h.step r d m a b
  ·have e:r=y.out.length:=by
    have:=(List.getElem?_eq_some_iff.1 a).1;simp at this;omega
   subst e;rw[List.getElem?_append_right (Nat.le_refl _)]at a;simp at a;rw[List.getElem?_append_left (by rw[h.len];omega),h.lst]at b;cases b;subst a;rw[List.getElem?_append_right (by rw[h.len];omega)];simp[h.len]
structure Go (ns ns':List Nd):Prop where
 len:ns.length<=ns'.length
 at':∀(i:Nat) (n:Nd),ns[i]?=some n->∃n',ns'[i]?=some n'/\n'.pos=n.pos/\(∀(r:Nat) (m:Mt),n.dP[r]?=some m->n'.dP[r]?=some m)/\(∀(r:Nat) (c:Int),n.out[r]?=some c->n'.out[r]?=some c)
theorem Go.refl (ns:List Nd):Go ns ns:=⟨Nat.le_refl _,fun i n h=>⟨n,h,rfl,fun _ _ h=>h,fun _ _ h=>h⟩⟩
theorem Go.trans {a b c:List Nd}(h:Go a b)(d:Go b c):Go a c:=⟨Nat.le_trans h.len d.len,fun i n q=>by
 obtain⟨s,f,g,j,k⟩:=h.at' i n q;obtain⟨u,l,o,p,h8⟩:=d.at' i s f
 exact⟨u,l,o.trans g,fun r m e=>p r m (j r m e),fun r m e=>h8 r m (k r m e)⟩⟩
theorem Go.more (ns a:List Nd):Go ns (ns++a):=⟨by simp,fun i n h=>⟨n,by rw[List.getElem?_append_left (List.getElem?_eq_some_iff.1 h).1];exact h,rfl,fun _ _ h=>h,fun _ _ h=>h⟩⟩
theorem Go.set {ns:List Nd}{i:Nat}{y n':Nd}(h:ns[i]?=some y)(f:n'.pos=y.pos)(d:∀(r:Nat) (m:Mt),y.dP[r]?=some m->n'.dP[r]?=some m)(e:∀(r:Nat) (c:Int),y.out[r]?=some c->n'.out[r]?=some c):Go ns (ns.set i n'):=by
 refine⟨by simp,fun k m a=>?_⟩
 by_cases b:i=k
 ·subst b;rw[h]at a;cases a;exact⟨n',by rw[List.getElem?_set_self (List.getElem?_eq_some_iff.1 h).1],f,d,e⟩
 ·exact⟨m,by rw[List.getElem?_set_ne b];exact a,rfl,fun _ _ h=>h,fun _ _ h=>h⟩
theorem Go.ends {ns b:List Nd}(h:Go ns b){y:Nd}{w:Nat}{e:V×V}(q:ends ns y w=some e):ends b y w=some e:=by
 unfold Rf.ends at*;obtain⟨a,g,i⟩:=Option.bind_eq_some_iff.1 q;obtain⟨x,j,k⟩:=Option.bind_eq_some_iff.1 i;obtain⟨r,l,o⟩:=Option.bind_eq_some_iff.1 k;obtain⟨m,p,rfl⟩:=Option.map_eq_some_iff.1 o;obtain⟨s,d,_,f,_⟩:=h.at' a x j;rw[g];simp only[Option.bind_some,d,l,f r m p,Option.map_some]
theorem Go.bare {ns b:List Nd}(h:Go ns b){y:Nd}{L:List V}(a:bare ns y=some L):bare b y=some L:=by
 unfold Rf.bare at*;split at a
 ·exact a
 ·exact a
 ·obtain⟨e,f,rfl⟩:=Option.map_eq_some_iff.1 a;rw[h.ends f];rfl
 ·obtain⟨e,f,i⟩:=Option.bind_eq_some_iff.1 a;rw[h.ends f];simp only[Option.bind_some];obtain⟨r,d,rfl⟩:=Option.map_eq_some_iff.1 i
  by_cases g:y.args.length=2
  ·rw[if_pos g]at d ⊢;rw[h.ends d];rfl
  ·rw[if_neg g]at d ⊢;rw[d];rfl
 ·cases a
theorem Go.corners {ns a:List Nd}(h:Go ns a){y:Nd}{L:List V}(e:corners ns y=some L):corners a y=some L:=by
 unfold Rf.corners at*;obtain⟨b,d,rfl⟩:=Option.map_eq_some_iff.1 e;rw[h.bare d];rfl
theorem Go.waits {ns e:List Nd}(h:Go ns e):∀(d rd:List Nat),(∀a∈d,a<ns.length)->waits e d rd=waits ns d rd
 | [],_,_=>by simp[Rf.waits]
 |_::_,[],_=>by simp[Rf.waits]
 |a::d,r::l,g=>by
  unfold Rf.waits;have f:=g a (by simp);obtain⟨n,i,j,_⟩:=h.at' a ns[a] (List.getElem?_eq_getElem f);rw[i,List.getElem?_eq_getElem f,h.waits d l (fun b k=>g b (by simp[k]))];simp only[j]
variable {ns:List Nd}{L:List V}
theorem aHX (e:corners ns y=some L)(c:Int)(o:List Int)(a:List Mt):corners ns {y with out:=o,told:=y.told.mul (Mt.sym c),dP:=a}=some (L.map (fH (Mt.sym c))):=by
 unfold Rf.corners at*;obtain⟨b,d,rfl⟩:=Option.map_eq_some_iff.1 e;have:bare ns {y with out:=o,told:=y.told.mul (Mt.sym c),dP:=a}=some b:=d;rw[this];simp only[Option.map_some,List.map_map];congr 2;funext v;exact aJU _ _ v
theorem aHT:∀(l:List Nat) (k r:Nat),l[k]?=some r->(bump l k)[k]?=some (r+1)
 | [],_,_,h=>by simp at h
 |x::l,0,r,h=>by simp at h;subst h;simp[bump]
 |x::l,k+1,r,h=>by simp[bump];exact aHT l k r (by simpa using h)
variable {n:Nd}{B Y:V}
theorem Sn (a:n.t=[B,Y]):bare ns n=(ends ns n 0).map fun e=>[eU ⟨B.1,Y.1,B.2,Y.2⟩ e.1,eU ⟨B.1,Y.1,B.2,Y.2⟩ e.2]:=by
 unfold Rf.bare;rw[a]
variable {z:V}
theorem Cv {y:V}(a:n.t=[B,Y,y,z]):bare ns n=(ends ns n 0).bind fun e=>(if n.args.length=2 then ends ns n 1 else some ((1,0),(0,1))).map fun r=>[bM [B,Y,y,z] e.1 r.1,bM [B,Y,y,z] e.1 r.2,bM [B,Y,y,z] e.2 r.1,bM [B,Y,y,z] e.2 r.2]:=by
 unfold Rf.bare;rw[a]
theorem Yt (a:n.t=[]):bare ns n=some [eU n.part (1,0),eU n.part (0,1)]:=by
 unfold Rf.bare;rw[a]
variable {a r:Nat}{x:Nd}
theorem Yc {w:Nat}{c:Int}{e:V×V}(b:ends ns n w=some e)(h:n.args[w]?=some a)(j:ns[a]?=some x)(f:n.read[w]?=some r)(hc:x.out[r]?=some c)(d:HC x):
  ends ns {n with read:=bump n.read w} w=some (iJ e.1 e.2 (Mt.sym c),rd2 e.1 e.2 (Mt.sym c)):=by
 unfold Rf.ends at*;rw[h]at b ⊢;simp only[Option.bind_some,j,f]at b ⊢;obtain⟨m,g,rfl⟩:=Option.map_eq_some_iff.1 b;have i:(bump n.read w)[w]?=some (r+1):=aHT n.read w r f;rw[i];simp only[Option.bind_some,d.step r c m hc g,Option.map_some];rw[Qc,Qd]
theorem aMG:∀(l:List Nat) (k j:Nat),j≠k->(bump l k)[j]?=l[j]?
 | [],_,_,_=>by simp[bump]
 |x::l,0,0,h=>absurd rfl h
 |x::l,0,j+1,_=>by simp[bump]
 |x::l,k+1,0,_=>by simp[bump]
 |x::l,k+1,j+1,h=>by simp[bump];exact aMG l k j (by omega)
theorem aGm {w k:Nat}(h:w≠k):ends ns {n with read:=bump n.read k} w=ends ns n w:=by
 unfold Rf.ends;rw[aMG _ _ _ h]
theorem aJf (g:y.t=[B,Y])(j:corners ns y=some L){c:Int}(i:y.args[0]?=some a)(o:ns[a]?=some x)(k:y.read[0]?=some r)(hc:x.out[r]?=some c)(d:HC x):
  ∃p q,L=[p,q]/\corners ns {y with read:=bump y.read 0}=some [iJ p q (Mt.sym c),rd2 p q (Mt.sym c)]:=by
 unfold Rf.corners at*;obtain⟨b,f,rfl⟩:=Option.map_eq_some_iff.1 j;rw[Sn g]at f;obtain⟨e,h,rfl⟩:=Option.map_eq_some_iff.1 f;refine⟨_,_,rfl,?_⟩;rw[Sn (n:={y with read:=bump y.read 0}) g,Yc h i o k hc d];simp only[Option.map_some,List.map_cons,List.map_nil];rw[Kj,Kk,aSM,aSO]
theorem aHY {d:V}(i:y.t=[B,Y,d,z])(A:corners ns y=some L){c:Int}(w:y.args[0]?=some a)(D:ns[a]?=some x)(C:y.read[0]?=some r)(hc:x.out[r]?=some c)(f:HC x):
  ∃p q s t,L=[p,q,s,t]/\corners ns {y with read:=bump y.read 0}=some [iJ p s (Mt.sym c),iJ q t (Mt.sym c),rd2 p s (Mt.sym c),rd2 q t (Mt.sym c)]:=by
 unfold Rf.corners at*;obtain⟨b,h,rfl⟩:=Option.map_eq_some_iff.1 A;rw[Cv i]at h;obtain⟨e,j,k⟩:=Option.bind_eq_some_iff.1 h;obtain⟨g,o,rfl⟩:=Option.map_eq_some_iff.1 k;refine⟨_,_,_,_,rfl,?_⟩;rw[Cv (n:={y with read:=bump y.read 0}) i,Yc j w D C hc f,aGm (by decide)];simp only[Option.bind_some];rw[o];simp only[Option.map_some,List.map_cons,List.map_nil];rw[aIN,aIN,aIO,aIO,Kj,Kj,Kk,Kk]
theorem aGX {d:V}(j:y.t=[B,Y,d,z])(f:y.args.length=2)(C:corners ns y=some L){c:Int}(A:y.args[1]?=some a)(E:ns[a]?=some x)(D:y.read[1]?=some r)(hc:x.out[r]?=some c)(h:HC x):
  ∃p q s t,L=[p,q,s,t]/\corners ns {y with read:=bump y.read 1}=some [iJ p q (Mt.sym c),rd2 p q (Mt.sym c),iJ s t (Mt.sym c),rd2 s t (Mt.sym c)]:=by
 unfold Rf.corners at*;obtain⟨b,i,rfl⟩:=Option.map_eq_some_iff.1 C;rw[Cv j,if_pos f]at i;obtain⟨e,k,o⟩:=Option.bind_eq_some_iff.1 i;obtain⟨g,w,rfl⟩:=Option.map_eq_some_iff.1 o;refine⟨_,_,_,_,rfl,?_⟩;rw[Cv (n:={y with read:=bump y.read 1}) j,if_pos f,aGm (by decide),k];simp only[Option.bind_some];rw[Yc w A E D hc h];simp only[Option.map_some,List.map_cons,List.map_nil];rw[aIP,aIP,aIQ,aIQ,Kj,Kj,Kk,Kk]
theorem aH2 {d:V}(j:y.t=[B,Y,d,z]){b:Nat}(f:y.args=[a])(i:y.read=[r])(s:corners ns y=some L)(w:ns[b]?=some x)(p:x.dP[0]?=some one):corners ns {y with args:=y.args++[b],read:=y.read++[0]}=some L:=by
 unfold Rf.corners at*;obtain⟨A,g,rfl⟩:=Option.map_eq_some_iff.1 s;rw[Cv j,if_neg (by rw[f];simp)]at g;obtain⟨e,h,q⟩:=Option.bind_eq_some_iff.1 g
 have k:ends ns {y with args:=y.args++[b],read:=y.read++[0]} 0=some e:=by
  unfold Rf.ends at*;simp only[f,i]at h ⊢
  simpa using h
 have o:ends ns {y with args:=y.args++[b],read:=y.read++[0]} 1=some ((1,0),(0,1)):=by
  unfold Rf.ends;simp only[f,i];simp[w,p,Ko]
 rw[Cv (n:={y with args:=y.args++[b],read:=y.read++[0]}) j,if_pos (by simp[f]),k];simp only[Option.bind_some];rw[o,q];rfl
theorem aH1 (b:y.t=[])(a:corners ns y=some L)(m:Mt)(k:Nat):∃p q,L=[p,q]/\corners ns {y with part:=y.part.mul m,k:=k}=some [iJ p q m,rd2 p q m]:=by
 unfold Rf.corners at*;rw[Yt b]at a;simp only[Option.map_some,Option.some.injEq]at a;subst a;refine⟨_,_,rfl,?_⟩;rw[Yt (n:={y with part:=y.part.mul m,k:=k}) b];simp only[Option.map_some,List.map_cons,List.map_nil];rw[Qc,Qd,Kj,Kk]
end Pg
open Go.RowKit
namespace Ab
variable {s:List Int}
theorem Fh {t z:Int}(h:∀y∈s,y=0\/(0<=t/\t<=(Nm.tz y:Int))):∀y∈z::s,y=0\/(0<=cT t z/\cT t z<=(Nm.tz y:Int)):=by
 intro y hy
 have e:cT t z=(if z=0 then t else if t<0\/(Nm.tz z:Int)<t then(Nm.tz z:Int)else t):=by
  unfold cT
  by_cases b:z=0
  ·rw[Nm.jA b,if_pos b];rfl
  ·have:(Nm.cmp z 0==0)=false:=by
    rw[beq_eq_false_iff_ne]
    rcases Int.lt_or_gt_of_ne b with g|g
    ·rw[Nm.jB g];decide
    ·rw[Nm.gV g];decide
   rw[this,if_neg b,cond_false]
   by_cases a:t<0
   ·rw[decide_eq_true a,if_pos (Or.inl a)];rfl
   ·rw[decide_eq_false a,cond_false]
    by_cases d:(Nm.tz z:Int)<t
    ·rw[decide_eq_true d,if_pos (Or.inr d)];rfl
    ·rw[decide_eq_false d,if_neg (by omega)];rfl
 rw[e];simp only[List.mem_cons]at hy
 rcases hy with rfl|hy
 ·by_cases b:y=0
  ·exact Or.inl b
  ·right;rw[if_neg b]
   split<;>omega
 ·rcases h y hy with a|⟨a,d⟩
  ·exact Or.inl a
  ·right;split
   ·exact⟨a,d⟩
   ·split<;>omega
variable {v:Int}
theorem aLB {w:Nat}(h:(2:Int)^w ∣ v):v=2^w*Nm.half v w:=by
 have b:(0:Int)<2^w:=Nm.jZ (by decide) w;have a:(2:Int)^w ∣ (v.natAbs:Int):=Int.dvd_natAbs.2 h;have e:2^w*((v.natAbs:Int)/2^w)=v.natAbs:=Int.mul_ediv_cancel' a;unfold Nm.half;split
 ·rw[Int.mul_neg,e];omega
 ·rw[e];omega
variable {x:Int}
theorem aPq {t:Int}(h:x=0\/(0<=t/\t<=(Nm.tz x:Int))):x=(if t<1 then 1 else 2^t.toNat)*hv t x:=by
 unfold hv
 by_cases a:t<1
 ·rw[if_pos a,decide_eq_true a,cond_true,Int.one_mul]
 ·rw[if_neg a,decide_eq_false a,cond_false];unfold iA;rw[decide_eq_false a,cond_false];refine aLB ?_
  rcases h with rfl|⟨b,d⟩
  ·exact Int.dvd_zero _
  ·refine Int.dvd_trans ⟨2^(Nm.tz x-t.toNat),?_⟩ (Nm.aRq x);rw[<-Int.pow_add];congr 1;omega
theorem aNj (a d p1 e b f p3 g:Int):∃s:Int,0<s/\[(a,d),(p1,e),(b,f),(p3,g)]=[(hv (tw8 a d p1 e b f p3 g) a,hv (tw8 a d p1 e b f p3 g) d),(hv (tw8 a d p1 e b f p3 g) p1,hv (tw8 a d p1 e b f p3 g) e),(hv (tw8 a d p1 e b f p3 g) b,hv (tw8 a d p1 e b f p3 g) f),(hv (tw8 a d p1 e b f p3 g) p3,hv (tw8 a d p1 e b f p3 g) g)].map (Pg.sc s):=by
 have j:∀y∈([]:List Int),y=0\/(0<=(-1:Int)/\(-1:Int)<=(Nm.tz y:Int)):=fun y i=>by cases i
 have h:=Fh (z:=g) (Fh (z:=p3) (Fh (z:=f) (Fh (z:=b) (Fh (z:=e) (Fh (z:=p1) (Fh (z:=d) (Fh (z:=a) j)))))));have l:cT (cT (cT (cT (cT (cT (cT (cT (-1) a) d) p1) e) b) f) p3) g=tw8 a d p1 e b f p3 g:=rfl;rw[l]at h;generalize tw8 a d p1 e b f p3 g=t at*;refine⟨if t<1 then 1 else 2^t.toNat,by split;decide;exact Nm.jZ (by decide) _,?_⟩
 have k:∀y∈[g,p3,f,b,e,p1,d,a],y=(if t<1 then 1 else 2^t.toNat)*hv t y:=fun y i=>aPq (h y i)
 simp only[List.map_cons,List.map_nil,Pg.sc];rw[<-k a (by simp),<-k d (by simp),<-k p1 (by simp),<-k e (by simp),<-k b (by simp),<-k f (by simp),<-k p3 (by simp),<-k g (by simp)]
def code (c:Int):Int:=if c=-1 then 5 else if c=0 then 6 else if c=1 then 7 else if c=43 then 1 else if c=45 then 2 else if c=111 then 3 else 4
theorem Tm (c:Int):iK (code c)=(Mt.sym c).a/\iL (code c)=(Mt.sym c).b/\iM (code c)=(Mt.sym c).c/\iN (code c)=(Mt.sym c).d:=by
 unfold code Mt.sym;split
 ·exact⟨rfl,rfl,rfl,rfl⟩
 ·split
  ·exact⟨rfl,rfl,rfl,rfl⟩
  ·split
   ·exact⟨rfl,rfl,rfl,rfl⟩
   ·split
    ·exact⟨rfl,rfl,rfl,rfl⟩
    ·split
     ·exact⟨rfl,rfl,rfl,rfl⟩
     ·split<;>exact⟨rfl,rfl,rfl,rfl⟩
theorem Yz (c:Int):1<=code c/\code c<=7:=by unfold code;split<;>(try decide);split<;>(try decide);split<;>(try decide);split<;>(try decide);split<;>(try decide);split<;>decide
theorem aM0 (e g p1 i f j p3 k a b c d:Int):mE e g p1 i f j p3 k a b c d=Nw.fits ([(e,g),(p1,i),(f,j),(p3,k)].map (Rf.fH ⟨a,b,c,d⟩)):=by
 have k1:∀x y:Int,decide (Nm.cmp x y<0)=decide (x-y<0):=fun x y=>by
  rcases Int.lt_trichotomy x y with h|h|h
  ·rw[Nm.jB h,decide_eq_true (by decide),decide_eq_true (by omega)]
  ·rw[Nm.jA h,decide_eq_false (by decide),decide_eq_false (by omega)]
  ·rw[Nm.gV h,decide_eq_false (by decide),decide_eq_false (by omega)]
 have n:∀x y:Int,decide (Nm.cmp x y>0)=decide (0<x-y):=fun x y=>by
  rcases Int.lt_trichotomy x y with h|h|h
  ·rw[Nm.jB h,decide_eq_false (by decide),decide_eq_false (by omega)]
  ·rw[Nm.jA h,decide_eq_false (by decide),decide_eq_false (by omega)]
  ·rw[Nm.gV h,decide_eq_true (by decide),decide_eq_true (by omega)]
 have l:∀p q:Int,(Rf.fH ⟨a,b,c,d⟩ (p,q))=(d*p-b*q,a*q-c*p):=fun p q=>by
  unfold Rf.fH Mt.vD Mt.vE;simp only[Int.neg_mul,Int.sub_eq_add_neg]
 unfold mE nA Nw.fits Nw.oT Nw.lJ cl cp;simp only[List.map_cons,List.map_nil,List.any_cons,List.any_nil,Bool.or_false,Bool.false_or,k1,n,l];rw[Bool.beq_comm];rfl
def eJ (p q:Int):Int:=((Rf.near p q 20000 1).getD (0,0)).1
def eK (p q:Int):Int:=((Rf.near p q 20000 1).getD (0,0)).2
def uL:List G->Option RG
 | [.ns [p,q]]=>some (.tup [.ns [eJ p q],.ns [eK p q]])
 |_=>none
def nI:List G->List Prop
 | [.ns [p,q]]=>[0<p/\0<q/\(Rf.near p q 20000 1).isSome=true]
 |_=>[]
theorem aPE:bQ Z 115 (gZ true uL nI (fun _=>2) [1]):=by
 refine aIM aNG ?_;intro d out h a f;unfold uL at h;split at h
 ·rename_i p q;cases h;have a:0<p/\0<q/\(Rf.near p q 20000 1).isSome=true:=a.one;refine⟨?_,gR ⟨a.1,a.2.1⟩ iC⟩;obtain⟨b,e⟩:=Option.isSome_iff_exists.1 a.2.2;show(Rf.near p q 20000 1).map (fun b=>RG.tup [.ns [b.1],.ns [b.2]])=some (.tup [.ns [((Rf.near p q 20000 1).getD (0,0)).1],.ns [((Rf.near p q 20000 1).getD (0,0)).2]]);rw[e];rfl
 ·cases h
noncomputable def tN2:List (FuncId×TE):=(115,gZ true uL nI (fun _=>2) [1])::tC7
theorem aRj:cX Z tN2:=⟨aPE,aVy⟩
def Ii:List G->Option RG
 | [.ns [p,q]]=>some (.one (.ns [eJ p q*q,eK p q*p,eK p q*q,eJ p q*q]))
 |_=>none
theorem aTL:bQ Z 95 (eM true Ii nI 3 [1]):=by
 refine jG (l:=tN2) aRj dT (bI func95 rfl rfl) ?_;intro b out h;unfold Ii at h;split at h
 ·rename_i p q;cases h;exact⟨[0<p/\0<q/\(Rf.near p q 20000 1).isSome=true],3,by kernel_rfl,by decide,fun a _=>gR a.one iC⟩
 ·cases h
noncomputable def tN:List (FuncId×TE):=(95,eM true Ii nI 3 [1])::tN2
theorem jQ:cX Z tN:=⟨aTL,aRj⟩
def Ln (d:Bool)(b mt e g f:Int)(lp rp a nst gv:AC):List AC:=.sbool d::bH true 0 8++[a,.sint .i64 mt,lp,.sint .i64 e,rp,.sint .i64 g,gv,.sint .i64 b,nst,.sint .i64 f]
def mV (i:Nat):Option Bool->List (Nat×bO)
 |none=>[]
 |some s=>[(i,ext (.sbool s::Di 26) 98)]
def Bc (i:Nat):Option Bool->AC
 |none=>.lit (.pointer none)
 |some _=>.ptr i 0
def gvC:Option Nat->AC
 |none=>.lit (.slice none 0 0)
 |some len=>.dsl 3 0 len 1
def Wc:Option Nat->List (Nat×bO)
 |none=>[]
 |some _=>[(3,ext [] 55)]
def xC (i:Nat):Bool->AC
 |false=>.lit (.pointer none)
 |true=>.ptr i 0
def xB (i:Nat)(ty:TypeId):Bool->List (Nat×bO)
 |false=>[]
 |true=>[(i,ext [] ty)]
def Ra (i:List Int)(b:Bool)(l r:Option Bool)(g:Option Nat)(c n:Bool)(a mt d h f:Int)(e:Nat):AS:=
 ⟨.val (.one (.ptr 0 0))::List.replicate e .gC,(0,ext (Ln b a mt d h f (Bc 1 l) (Bc 2 r) (xC 4 c) (xC 5 n) (gvC g)) 98)::(mV 1 l++(mV 2 r++(Wc g++(xB 4 132 c++xB 5 206 n)))),6,i.map fun z=>(z,10),[]⟩
def Dj:Option Bool->Int->Int->Int
 |none,_,k=>k
 |some s,r,k=>bif s then(bif r==0 then 0 else k)else k
def fitS (a d p1 e b f p3 g s:Int):Bool:=mE a d p1 e b f p3 g (iK s) (iL s) (iM s) (iN s)
def Rg (a d p1 e b f p3 g:Int):Int:=bif fitS a d p1 e b f p3 g 1 then 1 else bif fitS a d p1 e b f p3 g 2 then 2 else bif fitS a d p1 e b f p3 g 3 then 3 else bif fitS a d p1 e b f p3 g 4 then 4 else 0
def Pw (a d p1 e b f p3 g:Int):Int:=bif fitS a d p1 e b f p3 g 5 then 5 else bif fitS a d p1 e b f p3 g 7 then 7 else bif fitS a d p1 e b f p3 g 6 then 6 else 0
def uM (a:Bool)(g:Option Nat)(x y:Int):Int:=
 match g with
 |none=>bif a then x else y
 |some len=>bif a then(bif (len:Int)==0 then x else y)else y
def sQ (b e p1 f d h p3 i:Int)(j:Bool)(l r:Option Bool)(g:Option Nat)(a k n:Int):Int:=
 bif a != 0 then 0 else Dj l k (Dj r n (uM j g (Rg b e p1 f d h p3 i) (Pw b e p1 f d h p3 i)))
noncomputable def bN:FuncId->Option Func:=fun f=>bif f==116 then some f116 else bif f==117 then some f117 else none
theorem aUr:bV Z bN:=by
 intro f fn h;unfold bN at h
 cases a:f==116 with
 |true=>
  rw[a]at h;cases h
  have:f=116:=by simpa using a
  subst this;exact⟨(bI func116 rfl rfl).at',(bI func116 rfl rfl).en⟩
 |false=>
  rw[a]at h
  cases b:f==117 with
  |true=>
   rw[b]at h;cases h
   have:f=117:=by simpa using b
   subst this;exact⟨(bI func117 rfl rfl).at',(bI func117 rfl rfl).en⟩
  |false=>rw[b]at h;cases h
noncomputable def wC (h:List Int)(b:Bool)(l r:Option Bool)(g:Option Nat)(c n:Bool)(a mt d f e:Int):Option Tr:=run Z (aE tN) bN (aO Z (aE tN)) (fun _=>false) 2000 [.code (aF f98),.top f98] (Ra h b l r g c n a mt d f e 39)
theorem aNI (e h p1 j f k p3 o:Int)(b:Bool)(l r:Option Bool)(g:Option Nat)(c n:Bool)(a mt d p q:Int):((wC [e,h,p1,j,f,k,p3,o] b l r g c n a mt d p q).bind outcome).bind (jJ true)=some ([],.one (.i .i64 (sQ e h p1 j f k p3 o b l r g a d p)),0):=by
 cases l with
 |none=>
  cases r with
  |none=>cases g<;>kernel_rfl
  |some s=>cases g<;>kernel_rfl
 |some u=>
  cases r with
  |none=>cases g<;>kernel_rfl
  |some s=>cases g<;>kernel_rfl
structure NodeAt (w:World) (k:Nat) (zs:List Int) (hs:Bool) (uns mt lr rr pl:Int) (lp rp gv cv nv:Value):Prop where
 ex:∃xs:List Value,w.heap[k]?=some (.cells (.bool hs::xs++[cv,.int .i64 mt,lp,.int .i64 lr,rp,.int .i64 rr,gv,.int .i64 uns,nv,.int .i64 pl]).toArray 98 (0,0))/\bD true w zs xs
def iG (w:World):Option (Nat×Bool)->Value->Prop
 |none,v=>v=.pointer none
 |some (k,s),v=>v=.pointer (some ⟨k,0,none⟩)/\∃a:List Value,w.heap[k]?=some (.cells (.bool s::a).toArray 98 (0,0))/\a.length=26/\∀y∈a,One y
def GivAt (w:World):Option (Nat×Nat)->Value->Prop
 |none,v=>v=.slice none 0 0
 |some (k,len),v=>∃a,v=.slice (some ⟨k,0,none⟩) len a/\∃cs:List Value,w.heap[k]?=some (.cells cs.toArray 55 (0,0))
def ExtAt (w:World)(ty:TypeId):Option Nat->Value->Prop
 |none,v=>v=.pointer none
 |some k,v=>v=.pointer (some ⟨k,0,none⟩)/\∃cs:List Value,w.heap[k]?=some (.cells cs.toArray ty (0,0))
def Gl (k:Nat)(l r:Option (Nat×Bool))(g:Option (Nat×Nat))(c n:Option Nat):Nat->Option (Nat×Nat)
 |0=>some (k,0)
 |1=>l.map fun x=>(x.1,0)
 |2=>r.map fun x=>(x.1,0)
 |3=>g.map fun x=>(x.1,0)
 |4=>c.map fun x=>(x,0)
 |5=>n.map fun x=>(x,0)
 |_=>none
theorem Tz {φ:Nat->Option (Nat×Nat)}{ν:List (Int×Nat)}{w:World}:∀(n:Nat) (a:List Value),a.length=n->(∀y∈a,One y)->All2 (relC Z φ ν w) (Di n) a
 |0,[],_,_=>trivial
 |n+1,y::a,b,h=>⟨h y (by simp),Tz n a (by simpa using b) fun z d=>h z (by simp[d])⟩
 |0,_::_,h,_=>by simp at h
 |_+1,[],h,_=>by simp at h
variable {φ:Nat->Option (Nat×Nat)}{ν:List (Int×Nat)}{n:World}{i:Nat}{l:Option (Nat×Bool)}{z:Value}
theorem aN8 (a:φ i=l.map fun x=>(x.1,0))(h:iG n l z):relC Z φ ν n (Bc i (l.map (·.2))) z:=by
 cases l with
 |none=>exact⟨h,rfl⟩
 |some x=>exact⟨x.1,0,a,h.1⟩
variable {g:Option (Nat×Nat)}
theorem aR8 (b:φ 3=g.map fun x=>(x.1,0))(h:GivAt n g z):relC Z φ ν n (gvC (g.map (·.2))) z:=by
 cases g with
 |none=>exact⟨h,rfl⟩
 |some x=>obtain⟨a,d,_⟩:=h;exact⟨x.1,a,by rw[b];rfl,d⟩
theorem aMW {ty:TypeId}{c:Option Nat}(a:φ i=c.map fun x=>(x,0))(h:ExtAt n ty c z):relC Z φ ν n (xC i c.isSome) z:=by
 cases c with
 |none=>exact⟨h,rfl⟩
 |some x=>exact⟨x,0,a,h.1⟩
theorem mU {b:Nat}{B:bO}:∀{l:List (Nat×bO)},look l b=some B->(b,B)∈l
 | [],h=>by simp[look]at h
 |(c,D)::l,h=>by
  simp only[look]at h
  cases hc:(c==b)with
  |true=>
   rw[hc]at h;simp only[cond_true,Option.some.injEq]at h
   have:c=b:=by simpa using hc
   rw[<-h,this];simp
  |false=>
   rw[hc]at h;exact List.mem_cons_of_mem _ (mU h)
variable {b:Nat}{B:bO}
theorem aJ1 (h:(b,B)∈mV i (l.map (·.2))):∃x,l=some x/\b=i/\B=ext (.sbool x.2::Di 26) 98:=by
 cases l with
 |none=>simp[mV]at h
 |some x=>simp[mV]at h;exact⟨x,rfl,h⟩
theorem aSb (h:(b,B)∈Wc (g.map (·.2))):∃x,g=some x/\b=3/\B=ext [] 55:=by
 cases g with
 |none=>simp[Wc]at h
 |some x=>simp[Wc]at h;exact⟨x,rfl,h⟩
theorem aRv {ty:TypeId}{c:Option Nat}(h:(b,B)∈xB i ty c.isSome):∃x,c=some x/\b=i/\B=ext [] ty:=by
 cases c with
 |none=>simp[xB]at h
 |some x=>simp[xB]at h;exact⟨x,rfl,h⟩
variable {k:Nat}{a:Bool}{r:Option (Nat×Bool)}{mt j o:Int}{lp rp gv J:Value}
theorem aU9 {f:Option (Nat×Bool)}{c i:Option Nat}{l:Int}{S:Value}(hn:NodeAt n k s a v mt l j o lp rp gv J S)(h8:s.length=8)(hb:∀z∈s,Bits 10 z)(O:iG n f lp)(R:iG n r rp)(M:GivAt n g gv)(hc:ExtAt n 132 c J)(P:ExtAt n 206 i S)(nt:Nat):
  RepW Z n (Gl k f r g c i) (Gl k f r g c i) (Ra s a (f.map (·.2)) (r.map (·.2)) (g.map (·.2)) c.isSome i.isSome v mt l j o nt) n:=by
 obtain⟨F,T,W⟩:=hn.ex
 have L:All2 (relC Z (Gl k f r g c i) (s.map fun z=>(z,10)) n) (Ln a v mt l j o (Bc 1 (f.map (·.2))) (Bc 2 (r.map (·.2))) (xC 4 c.isSome) (xC 5 i.isSome) (gvC (g.map (·.2)))) (.bool a::F++[J,.int .i64 mt,lp,.int .i64 l,rp,.int .i64 j,gv,.int .i64 v,S,.int .i64 o]):=by
  have hx:All2 (relC Z (Gl k f r g c i) (s.map fun z=>(z,10)) n) (bH true 0 8) F:=by
   rw[<-h8]
   exact tU s F 0 _ W hb fun d z hz=>by rw[Nat.zero_add,List.getElem?_map,hz];rfl
  exact All2.append (show All2 (relC Z (Gl k f r g c i) (s.map fun z=>(z,10)) n) (.sbool a::bH true 0 8) (.bool a::F)from⟨rfl,hx⟩) ⟨aMW rfl hc,rfl,aN8 rfl O,rfl,aN8 rfl R,rfl,aR8 rfl M,rfl,aMW rfl P,rfl,trivial⟩
 have q:∀{A:Nat} {cs:List Value} {ty:TypeId} {C:List AC},n.heap[A]?=some (.cells cs.toArray ty (0,0))->All2 (relC Z (Gl k f r g c i) (s.map fun z=>(z,10)) n) C cs->Seg Z (Gl k f r g c i) (s.map fun z=>(z,10)) n A 0 ty C:=fun N Y=>⟨[],_,[],by simpa using N,rfl,Y⟩
 have u:∀{A:Nat} {cs:List Value} {ty:TypeId},n.heap[A]?=some (.cells cs.toArray ty (0,0))->Seg Z (Gl k f r g c i) (s.map fun z=>(z,10)) n A 0 ty []:=fun {A cs ty} N=>⟨[],[],cs,N,rfl,trivial⟩
 refine rI rfl ?_ ?_ ?_
 ·intro b B X;have D:=mU X;simp only[Ra,List.mem_cons,List.mem_append,Prod.mk.injEq]at D
  rcases D with⟨rfl,rfl⟩|h|h|h|h|h
  ·exact⟨rfl,rfl,rfl,k,0,rfl,q T L⟩
  ·obtain⟨x,rfl,rfl,rfl⟩:=aJ1 h;obtain⟨_,E,p,H,I⟩:=O;exact⟨rfl,rfl,rfl,x.1,0,rfl,q p ⟨rfl,Tz 26 E H I⟩⟩
  ·obtain⟨x,rfl,rfl,rfl⟩:=aJ1 h;obtain⟨_,E,p,H,I⟩:=R;exact⟨rfl,rfl,rfl,x.1,0,rfl,q p ⟨rfl,Tz 26 E H I⟩⟩
  ·obtain⟨x,rfl,rfl,rfl⟩:=aSb h;obtain⟨U,_,cs,p⟩:=M;exact⟨rfl,rfl,rfl,x.1,0,rfl,u p⟩
  ·obtain⟨x,rfl,rfl,rfl⟩:=aRv h;obtain⟨_,cs,p⟩:=hc;exact⟨rfl,rfl,rfl,x,0,rfl,u p⟩
  ·obtain⟨x,rfl,rfl,rfl⟩:=aRv h;obtain⟨_,cs,p⟩:=P;exact⟨rfl,rfl,rfl,x,0,rfl,u p⟩
 ·intro b y;have:6<=b:=y
  match b,this with
  |b+6,_=>rfl
 ·intro b A o' y
  match b,y with
  |0,e=>cases e;exact eZ T
  |1,e=>
   cases f with
   |none=>cases e
   |some x=>cases e;obtain⟨_,E,p,_⟩:=O;exact eZ p
  |2,e=>
   cases r with
   |none=>cases e
   |some x=>cases e;obtain⟨_,E,p,_⟩:=R;exact eZ p
  |3,e=>
   cases g with
   |none=>cases e
   |some x=>cases e;obtain⟨_,_,cs,p⟩:=M;exact eZ p
  |4,e=>
   cases c with
   |none=>cases e
   |some x=>cases e;obtain⟨_,cs,p⟩:=hc;exact eZ p
  |5,e=>
   cases i with
   |none=>cases e
   |some x=>cases e;obtain⟨_,cs,p⟩:=P;exact eZ p
  |_+6,e=>cases e
theorem aKv {sp:Spec}{bodies:FuncId->Option Func}{P:FuncId}{fn:Func}(F:Fn P fn)(y:∀Y ψ,SpecOk Z Y ψ sp)(q:bV Z bodies){w:World}{p:List Int}{b:Option (Nat×Bool)}{c A:Option Nat}{l:Int}{B:Value}(S:NodeAt w k p a v mt l j o lp rp gv J B)(h8:p.length=8)(M:∀z∈p,Bits 10 z)(O:iG w b lp)(U:iG w r rp)(N:GivAt w g gv)(hc:ExtAt w 132 c J)(R:ExtAt w 206 A B)
  {n nt:Nat} (x:fn.ntmps-1=nt) {C:List Prop} {out:RG} {m:Nat} (W:((run Z sp bodies (aO Z sp) (fun _=>false) n [.code (aF fn),.top fn] (Ra p a (b.map (·.2)) (r.map (·.2)) (g.map (·.2)) c.isSome A.isSome v mt l j o nt)).bind outcome).bind (jJ true)=some (C,out,m)) (T:Holds C):
  Calls prog P #[.pointer (some ⟨k,0,none⟩)] w fun e i=>∃h,e=.returned h/\RRV Z i (wG true m out) h/\Below w.heap.size w i:=by
 obtain⟨d,D,E⟩:=aU W;obtain⟨tr,H,I⟩:=aU D;refine rY (vs:=[.one (.ptr 0 0)]) (args:=[.pointer (some ⟨k,0,none⟩)]) F (y _ _) q (by subst x;rfl) ⟨⟨k,0,rfl,rfl⟩,trivial⟩ (aU9 S h8 M O U N hc R _) H _ (yD I (Db E T (Nat.le_refl _))) ?_;rintro r0 s φ h i⟨u,r',L,h8⟩ hrel X;exact⟨h,rfl,h8 i h (Ce L hrel),RepF.below X u⟩
theorem aLN {w:World}{p1 C p3 f:Int}{c s:Option Nat}{d p q y:Int}{u:Value}(F:NodeAt w k [v,x,p1,j,o,C,p3,f] a d mt p q y lp rp gv J u)(h:∀z∈[v,x,p1,j,o,C,p3,f],Bits 10 z)(D:iG w l lp)(H:iG w r rp)(B:GivAt w g gv)(hc:ExtAt w 132 c J)(E:ExtAt w 206 s u):
  Calls prog 98 #[.pointer (some ⟨k,0,none⟩)] w fun e A=>e=.returned (.int .i64 (sQ v x p1 j o C p3 f a (l.map (·.2)) (r.map (·.2)) (g.map (·.2)) d p q))/\Below w.heap.size w A:=by
 have W:=aNI v x p1 j o C p3 f a (l.map (·.2)) (r.map (·.2)) (g.map (·.2)) c.isSome s.isSome d mt p q y;unfold wC at W
 have i:f98.ntmps-1=39:=by kernel_rfl
 refine(aKv (sp:=aE tN) (bodies:=bN) (n:=2000) (nt:=39) (fn:=f98) (bI func98 rfl rfl) (fun _ _=>dH jQ) aUr F rfl h D H B hc E i W iC).mono ?_;rintro e A⟨b,rfl,hv,h⟩;have hv:b=_:=hv.2;rw[hv];exact⟨rfl,h⟩
def dA:Option Bool->Int->Bool
 |none,_=>false
 |some s,r=>s&&(r==0)
theorem aMx (l:Option Bool)(r k:Int):Dj l r k=if dA l r then 0 else k:=by
 cases l with
 |none=>rfl
 |some s=>
  unfold Dj dA
  cases s with
  |false=>rfl
  |true=>cases h:(r==0)<;>simp
theorem aR5 (a d p1 e b f p3 g c:Int):fitS a d p1 e b f p3 g (code c)=Nw.fits ([(a,d),(p1,e),(b,f),(p3,g)].map (Rf.fH (Mt.sym c))):=by
 obtain⟨h,i,j,k⟩:=Tm c;unfold fitS;rw[h,i,j,k,aM0]
def eI:Option Int->Int
 |none=>0
 |some c=>code c
variable {M:Option Nat}
theorem aMX {y:Int}{len:Nat}(b:M.getD 0=len):uM a M x y=if a=true/\len=0 then x else y:=by
 unfold uM
 cases M with
 |none=>
  simp at b;subst b
  cases a<;>simp
 |some m=>
  simp at b;subst b
  cases a with
  |false=>simp
  |true=>
   by_cases h:m=0
   ·subst h;simp
   ·have:((m:Int)==0)=false:=by rw[beq_eq_false_iff_ne];omega
    simp[this,h]
theorem aSq {ns:List Rf.Nd}{n:Rf.Nd}{d:List Rf.V}{p1 C p3 f:Int}{l r:Option Bool}{z A:Int}{b:Option Int}(hc:Rf.corners ns n=some d)(J:Pg.eL d [(v,x),(p1,j),(o,C),(p3,f)])(E:n.pos=!a)(L:M.getD 0=n.out.length)(p:(dA l z||dA r A)=Rf.waits ns n.args n.read)(e:Rf.next ns n=some b):
  sQ v x p1 j o C p3 f a l r M 0 z A=eI b:=by
 unfold sQ;rw[show((0:Int) != 0)=false from rfl,cond_false,aMx,aMx];unfold Rf.next at e
 cases B:dA l z with
 |true=>
  rw[B,Bool.true_or]at p;rw[<-p]at e;simp at e;subst e;rfl
 |false=>
  rw[B,Bool.false_or]at p;simp only[Bool.false_eq_true,if_false]
  cases D:dA r A with
  |true=>
   rw[D]at p;rw[<-p]at e;simp at e;subst e;rfl
  |false=>
   rw[D]at p;rw[<-p]at e;simp only[Bool.false_eq_true,if_false,hc,Option.map_some,Option.some.injEq]at e ⊢;rw[aMX L]
   have i:∀c,Rf.can d c=fitS v x p1 j o C p3 f (code c):=fun c=>by rw[J.can,aR5]
   have w:code 43=1:=rfl;have y:code 45=2:=rfl;have q:code 111=3:=rfl;have s:code 119=4:=rfl;have I:code (-1)=5:=rfl;have H:code 1=7:=rfl;have F:code 0=6:=rfl;have k:n.out.length=0↔n.out=[]:=List.length_eq_zero_iff;subst e;unfold Rf.tries
   by_cases u:a=true/\n.out.length=0
   ·rw[if_pos u,if_pos ⟨by rw[E,u.1];rfl,k.1 u.2⟩];simp only[List.find?,i,w,y,q,s];unfold Rg
    cases fitS v x p1 j o C p3 f 1<;>simp only[cond_true,cond_false]<;>try rfl
    cases fitS v x p1 j o C p3 f 2<;>simp only[cond_true,cond_false]<;>try rfl
    cases fitS v x p1 j o C p3 f 3<;>simp only[cond_true,cond_false]<;>try rfl
    cases fitS v x p1 j o C p3 f 4<;>rfl
   ·rw[if_neg u,if_neg (fun h=>u ⟨by have:=h.1;rw[E]at this;simpa using this,k.2 h.2⟩)];simp only[List.find?,i,I,H,F];unfold Pw
    cases fitS v x p1 j o C p3 f 5<;>simp only[cond_true,cond_false]<;>try rfl
    cases fitS v x p1 j o C p3 f 7<;>simp only[cond_true,cond_false]<;>try rfl
    cases fitS v x p1 j o C p3 f 6<;>rfl
end Ab
theorem aQZ (w:World)(k o:Nat)(p:Option Addr)(h:w.cell? ⟨k,o+25,none⟩=some (.pointer p)):Calls prog 150 #[.pointer (some ⟨k,o,none⟩)] w fun e b=>e=.returned (.int .i64 (if p.isSome then 8 else 1))/\b=w:=by
 cases p with
 |none=>
  go_enter func150,ntmps150
  go_wp2_with fail
  go_ret
  exact⟨rfl,rfl⟩
 |some a=>
  go_enter func150,ntmps150
  go_wp2_with fail
  go_ret
  exact⟨rfl,rfl⟩
namespace Ab
def xJ (s:Bool)(r:Int):Int:=bif s then(bif decide (r>0)then Wr (r-1)else r)else r
def sDg (s:Bool)(r:Int):AS:=⟨.val (.agg [.ptr 0 0,.sint .i64 r])::List.replicate 22 .gC,[(0,ext [.sbool s] 98)],1,[],[]⟩
def sDn (r:Int):AS:=⟨.val (.agg [.lit (.pointer none),.sint .i64 r])::List.replicate 22 .gC,[],0,[],[]⟩
theorem aRY (s:Bool)(r:Int):((run Z (aE []) (fun _=>none) (aO Z (aE [])) (fun _=>false) 300 [.code (aF f151),.top f151] (sDg s r)).bind outcome).bind (jJ true)=some ([],.one (.i .i64 (xJ s r)),0):=by kernel_rfl
theorem aR1 (r:Int):((run Z (aE []) (fun _=>none) (aO Z (aE [])) (fun _=>false) 300 [.code (aF f151),.top f151] (sDn r)).bind outcome).bind (jJ true)=some ([],.one (.i .i64 r),0):=by kernel_rfl
theorem aUM {n:World}{k o:Nat}{s:Bool}{pre post:List Value}(r:Int)(f:n.heap[k]?=some (.cells (pre++[Value.bool s]++post).toArray 98 (0,0)))(u:pre.length=o):Calls prog 151 #[.agg #[.pointer (some ⟨k,o,none⟩),.int .i64 r]] n fun e d=>e=.returned (.int .i64 (xJ s r))/\Below n.heap.size n d:=by
 obtain⟨A,g,h⟩:=aU (aRY s r);obtain⟨E,i,j⟩:=aU g;refine rY (vs:=[.agg [.ptr 0 0,.sint .i64 r]]) (args:=[.agg #[.pointer (some ⟨k,o,none⟩),.int .i64 r]]) (φ:=fun b=>bif b==0 then some (k,o)else none) (s:=sDg s r) (bI func151 rfl rfl) (dH (l:=[]) trivial) dT rfl ⟨⟨[.pointer (some ⟨k,o,none⟩),.int .i64 r],rfl,⟨k,o,rfl,rfl⟩,rfl,trivial⟩,trivial⟩ (rI rfl ?_ ?_ ?_) i _ (yD j (Db h iC (Nat.le_refl _))) ?_
 ·intro b B q;have:=mU q;simp[sDg]at this;obtain⟨rfl,rfl⟩:=this;exact⟨rfl,rfl,rfl,k,o,rfl,pre,[.bool s],post,f,u,rfl,trivial⟩
 ·intro b a;have:1<=b:=a
  cases b with
  |zero=>omega
  |succ b=>rfl
 ·intro b y z a
  cases b with
  |zero=>cases a;exact eZ f
  |succ b=>cases a
 ·rintro D st φ v d⟨hc,C,p,h8⟩ hrel x;have hv:v=_:=(h8 d v (Ce p hrel)).2;rw[hv];exact⟨rfl,RepF.below x hc⟩
theorem aUP (w:World)(r:Int):Calls prog 151 #[.agg #[.pointer none,.int .i64 r]] w fun e a=>e=.returned (.int .i64 r)/\Below w.heap.size w a:=by
 obtain⟨p,d,f⟩:=aU (aR1 r);obtain⟨x,g,h⟩:=aU d;refine rY (vs:=[.agg [.lit (.pointer none),.sint .i64 r]]) (args:=[.agg #[.pointer none,.int .i64 r]]) (φ:=fun _=>none) (s:=sDn r) (bI func151 rfl rfl) (dH (l:=[]) trivial) dT rfl ⟨⟨[.pointer none,.int .i64 r],rfl,⟨rfl,rfl⟩,rfl,trivial⟩,trivial⟩ (rI rfl (fun b B j=>by simp[sDn,look]at j) (fun _ _=>rfl) (fun b k o e=>by cases e)) g _ (yD h (Db f iC (Nat.le_refl _))) ?_;rintro u st φ v a⟨hc,q,i,h8⟩ hrel n;have hv:v=_:=(h8 a v (Ce i hrel)).2;rw[hv];exact⟨rfl,RepF.below n hc⟩
def Dr:AC->Option Int
 |.int .i64 n=>some n
 |.sint .i64 n=>some n
 |_=>none
def lwO:Option AC->Option Int
 |some (.lit (.pointer none))=>some 1
 |some (.ptr _ _)=>some 8
 |_=>none
def Ri:Spec:=fun f _ ν _ a d=>
 bif f==151 then (match d with
  | [.agg [.lit (.pointer none),c]]=>(Dr c).map fun r=>([],.val (.one (.sint .i64 r)),[],none)
  | [.agg [.ptr b 0,c]]=>(Dr c).bind fun r=>(a b).bind fun B=>bif B.ty==98 then(match B.cs with|.sbool s::_=>some ([],.val (.one (.sint .i64 (xJ s r))),[],none)|_=>none)else none
  |_=>none)
 else bif f==150 then (match d with
  | [.one (.ptr b 0)]=>(a b).bind fun B=>bif B.ty==98 then(lwO (B.cs[25]?)).map fun n=>([],.val (.one (.int .i64 n)),[],none)else none
  |_=>none)
 else none
theorem aNm {φ:Nat->Option (Nat×Nat)}{ν:List (Int×Nat)}{n:World}{c:AC}{r:Int}{x:Value}(h:Dr c=some r)(a:relC Z φ ν n c x):x=.int .i64 r:=by
 unfold Dr at h;split at h
 ·cases h;exact a
 ·cases h;exact a
 ·cases h
theorem aVv (w0:World)(ψ:Nat->Option (Nat×Nat)):SpecOk Z w0 ψ Ri:=by
 intro f d ν id bx vs au r p ap h;unfold Ri at h
 cases X:f==151 with
 |true=>
  have:f=151:=by simpa using X
  subst this;rw[X]at h;simp only[cond_true]at h;refine⟨(bI func151 rfl rfl).en,?_⟩;split at h
  ·obtain⟨n,R,S⟩:=cA h;cases S;intro _ q C φ w z _ _ _ g a;obtain⟨x,rfl,P,rfl,L⟩:=Pa a
   match P,L with
   | [u,v],⟨J,Y,_⟩=>
    have hu:u=.pointer none:=J.1;have hv:=aNm R Y;subst hu hv;refine(aUP w n).mono ?_;rintro e w'⟨rfl,hb⟩;exact⟨_,rfl,hb,rfl⟩
   | [_],⟨_,h⟩=>exact h.elim
   |_::_::_::_,⟨_,_,h⟩=>exact h.elim
  ·rename_i b c;obtain⟨n,R,S⟩:=aU h;obtain⟨B,T,j⟩:=aU S
   cases H:(B.ty==98)with
   |false=>rw[H]at j;cases j
   |true=>
    rw[H]at j;simp only[cond_true]at j;split at j
    ·rename_i s aj ab;cases j;intro _ q C φ w z _ _ _ g a;obtain⟨k,o,D,E,l,U,F,W,O⟩:=g b B T;rw[ab]at O;obtain⟨x,rfl,P,rfl,L⟩:=Pa a
     match P,L,E,O,F with
     | [u,v],⟨⟨k',o',N,q2⟩,Y,_⟩,y::E,⟨k1,_⟩,F=>
      rw[U]at N;cases N;have hv:=aNm R Y;have L:y=.bool s:=k1;subst hv L q2
      have ad:B.ty=98:=by simpa using H
      rw[ad]at F;refine(aUM (pre:=D) (post:=E++l) n (by simpa using F) W).mono ?_;rintro e w'⟨rfl,hb⟩;exact⟨_,rfl,hb,rfl⟩
     | [_],⟨_,h⟩,_,_,_=>exact h.elim
     |_::_::_::_,⟨_,_,h⟩,_,_,_=>exact h.elim
    ·cases j
  ·cases h
 |false=>
  rw[X]at h;simp only[cond_false]at h
  cases J:f==150 with
  |false=>rw[J]at h;cases h
  |true=>
   have:f=150:=by simpa using J
   subst this;rw[J]at h;simp only[cond_true]at h;refine⟨(bI func150 rfl rfl).en,?_⟩;split at h
   ·rename_i b;obtain⟨B,T,j⟩:=aU h
    cases H:(B.ty==98)with
    |false=>rw[H]at j;cases j
    |true=>
     rw[H]at j;simp only[cond_true]at j
     have M:∀(φ:Nat->Option (Nat×Nat)) (q:List (Int×Nat)) (w:World) (z:List Value) (c:AC),B.cs[25]?=some c->wO Z φ q w bx->All2 (dM Z φ q w) [.one (.ptr b 0)] z->∃k o x,z=[.pointer (some ⟨k,o,none⟩)]/\relC Z φ q w c x/\w.cell? ⟨k,o+25,none⟩=some x:=by
      intro φ q w z c hc g a;obtain⟨k,o,D,P,l,U,F,W,O⟩:=g b B T;obtain⟨x,rfl,k',o',N,q2⟩:=Pa a;rw[U]at N;cases N;obtain⟨y,ae,af⟩:=O.at hc;refine⟨k,o,y,by rw[q2];rfl,af,?_⟩;rw[Kt F,<-W];exact aOm ae
     obtain⟨nn,I,e6⟩:=cA j;cases e6;unfold lwO at I;split at I
     ·rename_i hc;cases I;intro _ q C φ w z _ _ _ g a;obtain⟨k,o,x,rfl,A,i⟩:=M φ q w z _ hc g a;have A:x=.pointer none:=A.1;subst A;refine(aQZ w k o none i).mono ?_;rintro e w'⟨rfl,rfl⟩;exact⟨_,rfl,Below.refl _ _,rfl⟩
     ·rename_i b' ai hc;cases I;intro _ q C φ w z _ _ _ g a;obtain⟨k,o,x,rfl,A,i⟩:=M φ q w z _ hc g a;obtain⟨k2,o2,_,A⟩:=A;subst A;refine(aQZ w k o _ i).mono ?_;rintro e w'⟨rfl,rfl⟩;exact⟨_,rfl,Below.refl _ _,rfl⟩
     ·cases I
   ·cases h
def Ae:List G->Option RG
 | [.ns [a,d,p1,e,b,f,p3,g],.i .i64 t]=>bif decide (t.natAbs<100)then some (.one (.i .i64 (kD a d p1 e b f p3 g t)))else none
 |_=>none
theorem aTn:bQ Z 149 (eM true Ae bJ 0 [15,0]):=by
 refine aIM aQI ?_;intro b out h d e;unfold Ae at h;split at h
 ·rename_i f i p1 j g k p3 l t
  cases a:decide (t.natAbs<100)with
  |false=>rw[a]at h;cases h
  |true=>
   rw[a]at h;cases h
   have:t.natAbs<100:=by simpa using a
   exact⟨rfl,gR (by omega) iC⟩
 ·cases h
noncomputable def tR:List (FuncId×TE):=(149,eM true Ae bJ 0 [15,0])::tN
theorem aWM:cX Z tR:=⟨aTn,jQ⟩
def Rp:Option Bool->Int->Bool->Bool->Bool
 |none,_,_,k=>k
 |some s,r,v,k=>bif s then(bif r==0 then v else k)else k
def dgO:Option Bool->Int->Int
 |none,r=>r
 |some s,r=>xJ s r
def rlK (a d p1 e b f p3 g t:Int)(x:Bool):Bool:=bif mE a d p1 e b f p3 g 1 0 0 1 then(bif kD a d p1 e b f p3 g t==1 then true else bif kD a d p1 e b f p3 g t==-1 then false else x)else x
def wgt:Bool->Int
 |false=>1
 |true=>8
def oH (e g p1 h f i p3 j:Int)(l r:Option Bool)(n:Bool)(a d:Int):Bool:=
 match l with
 |none=>false
 |some b=>Rp (some b) a true (Rp r d false (rlK e g p1 h f i p3 j (wgt n) (decide (dgO (some b) a<=dgO r d))))
noncomputable def tC (h:List Int)(b:Bool)(l r:Option Bool)(g:Option Nat)(c n:Bool)(a mt d f e:Int):Option Tr:=run Z (fJ Ri (aE tR)) bN (aO Z (fJ Ri (aE tR))) (fun _=>false) 2000 [.code (aF f119),.top f119] (Ra h b l r g c n a mt d f e 45)
theorem aLU (e h p1 i f j p3 k:Int)(p:Bool)(l r:Option Bool)(g:Option Nat)(c n:Bool)(a mt d o q:Int):((tC [e,h,p1,i,f,j,p3,k] p l r g c n a mt d o q).bind outcome).bind (jJ true)=some ([],.one (.b (oH e h p1 i f j p3 k l r n d o)),0):=by
 cases l with
 |none=>kernel_rfl
 |some s=>
  cases r with
  |none=>cases n<;>cases g<;>cases c<;>kernel_rfl
  |some u=>cases n<;>cases g<;>cases c<;>kernel_rfl
theorem aJH {w:World}{k:Nat}{v x p1 j o C p3 f:Int}{a:Bool}{l r:Option (Nat×Bool)}{g:Option (Nat×Nat)}{c q:Option Nat}{d mt p s y:Int}{lp rp gv J u:Value}(F:NodeAt w k [v,x,p1,j,o,C,p3,f] a d mt p s y lp rp gv J u)(h:∀z∈[v,x,p1,j,o,C,p3,f],Bits 10 z)(D:iG w l lp)(H:iG w r rp)(B:GivAt w g gv)(hc:ExtAt w 132 c J)(E:ExtAt w 206 q u):
  Calls prog 119 #[.pointer (some ⟨k,0,none⟩)] w fun e A=>e=.returned (.bool (oH v x p1 j o C p3 f (l.map (·.2)) (r.map (·.2)) q.isSome p s))/\Below w.heap.size w A:=by
 have W:=aLU v x p1 j o C p3 f a (l.map (·.2)) (r.map (·.2)) (g.map (·.2)) c.isSome q.isSome d mt p s y;unfold tC at W
 have i:f119.ntmps-1=45:=by kernel_rfl
 refine(aKv (sp:=fJ Ri (aE tR)) (bodies:=bN) (n:=2000) (nt:=45) (fn:=f119) (bI func119 rfl rfl) (fun _ _=>Oa (aVv _ _) (dH aWM)) aUr F rfl h D H B hc E i W iC).mono ?_;rintro e A⟨b,rfl,hv,h⟩;have hv:b=_:=hv.2;rw[hv];exact⟨rfl,h⟩
theorem aKf (p:Int):(Nm.cmp p 0==0)=decide (p=0):=by
 rcases Int.lt_trichotomy p 0 with h|h|h
 ·rw[Nm.jB h,decide_eq_false (by omega)];rfl
 ·rw[Nm.jA h,decide_eq_true h];rfl
 ·rw[Nm.gV h,decide_eq_false (by omega)];rfl
theorem aOv (p q:Int):Bj p q=Pg.eE (p,q):=by
 unfold Bj Pg.eE;rw[aKf,aKf]
 by_cases a:p=0
 ·by_cases b:q=0
  ·simp[a,b]
  ·simp[a,b]
 ·simp[a]
theorem aLZ (up d e f op a rp b:Int):iX up d e f op a rp b=Pg.scaled (up,d) (e,f) (op,a) (rp,b):=by
 unfold iX Pg.scaled;rw[aOv,aOv]
theorem aU0 (a b:Int):Wb a b=Pg.yA a b:=by
 unfold Wb Pg.yA
 rcases Int.lt_trichotomy a b with h|h|h
 ·rw[Nm.jB h,if_pos h];rfl
 ·rw[Nm.jA h,if_neg (by omega)];rfl
 ·rw[Nm.gV h,if_neg (by omega)];rfl
theorem aMi (a d p1 e b f p3 g t:Int):kD a d p1 e b f p3 g t=Pg.rA [(a,d),(p1,e),(b,f),(p3,g)] t:=by
 unfold kD Pg.rA;simp only[aU0,aLZ]
theorem aR4 (a d p1 e b f p3 g:Int):mE a d p1 e b f p3 g 1 0 0 1=Nw.fits [(a,d),(p1,e),(b,f),(p3,g)]:=by
 rw[aM0];have:∀v:Rf.V,Rf.fH ⟨1,0,0,1⟩ v=v:=Pg.Fm;simp only[List.map_cons,List.map_nil,this]
def vH:Option Bool->Nat->Option Nat
 |none,_=>some 0
 |some s,r=>if s then(if r=0 then none else some (r-1))else some r
variable {l:Option Bool}{r:Nat}
theorem aQP {a:Nat}(b:l=none->r=0)(f:r<=1000000)(h:vH l r=some a):dgO l r=(a:Int):=by
 cases l with
 |none=>simp[vH]at h;subst h;rw[b rfl];rfl
 |some s=>
  unfold vH at h;show xJ s r=(a:Int);unfold xJ
  cases s with
  |false=>simp at h;subst h;rfl
  |true=>
   simp at h;obtain⟨d,e⟩:=h;rw[decide_eq_true (by omega:(r:Int)>0),cond_true,cond_true,mI (by omega) (by omega)];omega
theorem aLg {a k:Bool}(h:vH l r=none):Rp l r a k=a:=by
 cases l with
 |none=>simp[vH]at h
 |some s=>
  unfold vH at h
  cases s with
  |false=>simp at h
  |true=>simp at h;subst h;rfl
theorem aLh {a:Nat}{v k:Bool}(h:vH l r=some a):Rp l r v k=k:=by
 cases l with
 |none=>rfl
 |some s=>
  unfold vH at h
  cases s with
  |false=>rfl
  |true=>
   simp at h
   have:((r:Int)==0)=false:=by rw[beq_eq_false_iff_ne];omega
   simp[Rp,this]
theorem aPV {ns:List Rf.Nd}{n:Rf.Nd}{e:List Rf.V}{v x p1 j o C p3 A:Int}{y:Bool}{r:Option Bool}{w k:Nat}{p:Nat}(F:n.t.length=4)(hc:Rf.corners ns n=some e)(s:e.length=4)(z:Pg.eL e [(v,x),(p1,j),(o,C),(p3,A)])(B:w<=1000000)(D:k<=1000000)(u:r=none->k=0)(d0:Rf.digits ns n 0=some (vH (some y) w))(d1:Rf.digits ns n 1=some (vH r k))(d:Rf.side ns n=some p):
  oH v x p1 j o C p3 A (some y) r n.nest w k=decide (p=0):=by
 unfold Rf.side at d;rw[if_neg (by omega),d0]at d;simp only[Option.bind_some]at d;unfold oH;simp only
 cases i:vH (some y) w with
 |none=>
  rw[i]at d;simp at d;subst d;rw[aLg i];rfl
 |some a=>
  rw[i]at d;rw[aLh i];simp only at d;rw[d1]at d;simp only[Option.bind_some]at d
  cases l:vH r k with
  |none=>
   rw[l]at d;simp at d;subst d;rw[aLg l];rfl
  |some b=>
   rw[l]at d;rw[aLh l];simp only[hc,Option.map_some,Option.some.injEq]at d;rw[aQP (by intro h;cases h) B i,aQP u D l];unfold rlK;rw[aR4,aMi,<-z.fits]
   have E:((wgt n.nest):Int)=(if n.nest then 8 else 1):=by cases n.nest<;>rfl
   rw[E]
   have q:decide ((a:Int)<=(b:Int))=decide (a<=b):=by rw[decide_eq_decide];omega
   rw[q]
   cases g:Nw.fits e with
   |false=>
    rw[g]at d;simp at d;rw[cond_false]
    by_cases f:a<=b
    ·simp[f]at d ⊢;exact d.symm
    ·simp[f]at d ⊢;omega
   |true=>
    rw[g]at d;simp only[if_true]at d;rw[cond_true,<-z.wider s g];generalize Rf.wider (if n.nest=true then 8 else 1) e=c at*
    by_cases c1:c=1
    ·subst c1;simp at d;subst d;rfl
    ·by_cases c2:c=-1
     ·subst c2;simp at d;subst d;rfl
     ·have b1:(c==1)=false:=by rw[beq_eq_false_iff_ne];exact c1
      have b2:(c==-1)=false:=by rw[beq_eq_false_iff_ne];exact c2
      rw[b1,b2,cond_false,cond_false];rw[if_neg c1,if_neg c2]at d
      by_cases f:a<=b
      ·rw[if_pos f]at d;subst d;simp[f]
      ·rw[if_neg f]at d;subst d;simp[f]
end Ab
def nR (len k:Nat):Nat:=if k=0 then 0 else 1+(k-1)%(len-1)
theorem aLm (w:World)(g a len k:Nat)(t:Int)(l:2<=len)(b:len<=1000000)(n:k<=1000000)(hc:w.cell? ⟨g,nR len k,none⟩=some (.int .i64 t)):Calls prog 168 #[.slice (some ⟨g,0,none⟩) len a,.int .i64 k] w fun e h=>e=.returned (.int .i64 t)/\h=w:=by
 have s:¬((len:Int)-1<1):=by omega
 have u:¬((k:Int)<0):=by omega
 rcases Nat.eq_zero_or_pos k with rfl|hp
 ·have hc:w.cell? ⟨g,0,none⟩=some (.int .i64 t):=hc
  have v:(0:Int)<len:=by omega
  have x:0<len:=by omega
  go_enter func168,ntmps168
  go_wp2_with fail
  go_ret
  exact⟨rfl,rfl⟩
 ·have f:nR len k=1+(k-1)%(len-1):=by unfold nR;rw[if_neg (by omega)]
  rw[f]at hc;have o:=Nat.mod_lt (k-1) (show 0<len-1 by omega)
  have i:((k:Int)-1).tmod ((len:Int)-1)=(((k-1)%(len-1):Nat):Int):=by
   rw[Int.tmod_eq_emod_of_nonneg (by omega)]
   have a1:(k:Int)-1=((k-1:Nat):Int):=by omega
   have d:(len:Int)-1=((len-1:Nat):Int):=by omega
   rw[a1,d,Int.natCast_emod]
  generalize (k-1)%(len-1)=j at*;have k0:((k:Int)==0)=false:=beq_eq_false_iff_ne.2 (by omega)
  have d0:¬((len:Int)-1=0):=by omega
  have d1:(((len:Int)-1)==0)=false:=beq_eq_false_iff_ne.2 d0
  have p:(1:Int)+(j:Int)<len:=by omega
  have q:((1:Int)+(j:Int)).toNat=1+j:=by omega
  have r:(0:Int)<=1+(j:Int):=by omega
  go_enter func168,ntmps168
  go_wp2_with fail
  go_ret
  exact⟨rfl,rfl⟩
namespace Ab
def Jm (e:Int)(f:List Int)(k:Int):AS:=⟨.val (.one (.ptr 0 0))::.val (.one (.sint .i64 k))::List.replicate 34 .gC,[(0,ext (.int .i64 e::.any::bH true 0 8) 132)],1,f.map fun z=>(z,1),[]⟩
noncomputable def bC:FuncId->Option Func:=fun f=>bif f==169 then some f169 else none
theorem aRI:bV Z bC:=by
 intro f fn h;unfold bC at h
 cases e:f==169 with
 |true=>
  rw[e]at h;cases h
  have:f=169:=by simpa using e
  subst this;exact⟨(bI func169 rfl rfl).at',(bI func169 rfl rfl).en⟩
 |false=>rw[e]at h;cases h
noncomputable def jS (e:Int)(f:List Int)(k:Int):Option (List Prop×RG×Nat):=((run Z (aE tN) bC (aO Z (aE tN)) (fun _=>false) 2000 [.code (aF f146),.top f146] (Jm e f k)).bind outcome).bind (jJ true)
def uS (e p q s r k:Int):List Int:=
 [bif decide (k>0) then (bif (e==13)||(e==11) then 0 else 0) else 0,bif decide (k>0) then (bif (e==13)||(e==11) then s*gE e k else p*gE e k) else p*gE e k,
  bif decide (k>0)then(bif (e==13)||(e==11)then r else q)else q,bif decide (k>0)then(bif (e==13)||(e==11)then r*gG e k else q*gG e k)else q*gG e k]
def xV (e k:Int):List Prop:=
 [decide (k>0)=true->((e==13)||(e==11))=true->(gE e k).natAbs<1000000000000000000,decide (k>0)=true->((e==13)||(e==11))=true->(gG e k).natAbs<1000000000000000000,
  decide (k>0)=true->((e==13)||(e==11))=false->(gE e k).natAbs<1000000000000000000,decide (k>0)=true->((e==13)||(e==11))=false->(gG e k).natAbs<1000000000000000000,
  decide (k>0)=false->(gE e k).natAbs<1000000000000000000,decide (k>0)=false->(gG e k).natAbs<1000000000000000000]
section
variable (p q s r a b c d k:Int)
theorem aXL:jS 2 [p,q,s,r,a,b,c,d] k=some ([0<=k/\k<=100000000],.one (.ns [bif k==0 then 0 else 0,bif k==0 then 4 else Wr (k*k),bif k==0 then 1 else 1,bif k==0 then 1 else Wr (Wr (2*k)+1)]),1):=by kernel_rfl
theorem aXM:jS 3 [p,q,s,r,a,b,c,d] k=some ([(gW k).natAbs<1000000000000000000],.one (.ns [gW k,1,1,0]),1):=by kernel_rfl
theorem Pq:jS 10 [p,q,s,r,a,b,c,d] k=some ([],.one (.ns [a,b,c,d]),1):=by kernel_rfl
theorem Pr:jS 11 [p,q,s,r,a,b,c,d] k=some (xV 11 k,.one (.ns (uS 11 p q s r k)),2):=by kernel_rfl
theorem Ps:jS 12 [p,q,s,r,a,b,c,d] k=some (xV 12 k,.one (.ns (uS 12 p q s r k)),2):=by kernel_rfl
theorem Pt:jS 13 [p,q,s,r,a,b,c,d] k=some (xV 13 k,.one (.ns (uS 13 p q s r k)),2):=by kernel_rfl
end
variable {k:Nat}
theorem aQS {v:Int}{op:Rf.Op}(B:k<=1000000)(h:(v=11/\op=.exp)\/(v=12/\op=.fK)\/(v=13/\op=.atan)):gE v k=(Rf.shape op k).1/\gG v k=(Rf.shape op k).2:=by
 have C:(k:Int)*k<=1000000*1000000:=Int.mul_le_mul (by omega) (by omega) (by omega) (by omega);have j:0<=(k:Int)*k:=Int.mul_nonneg (by omega) (by omega);have l:Wr ((k:Int)*k)=(k:Int)*k:=mI (by omega) (by omega);have n:Wr (4*(k:Int))=4*k:=mI (by omega) (by omega);have o:Wr (4*(k:Int)+2)=4*k+2:=mI (by omega) (by omega);have u:Wr (2*(k:Int))=2*k:=mI (by omega) (by omega);have w:Wr (2*(k:Int)+1)=2*k+1:=mI (by omega) (by omega);have x:Wr ((k:Int)+1)=k+1:=mI (by omega) (by omega)
 have g:((k:Int)+1).tdiv 2=(((k+1)/2:Nat):Int):=by
  rw[Int.tdiv_eq_ediv_of_nonneg (by omega)];omega
 have y:Wr ((((k+1)/2:Nat):Int))=(((k+1)/2:Nat):Int):=mI (by omega) (by omega);have A:(((k+1)/2:Nat):Int)*(((k+1)/2:Nat):Int)<=1000000*1000000:=Int.mul_le_mul (by omega) (by omega) (by omega) (by omega);have i:0<=(((k+1)/2:Nat):Int)*(((k+1)/2:Nat):Int):=Int.mul_nonneg (by omega) (by omega);have z:Wr ((((k+1)/2:Nat):Int)*(((k+1)/2:Nat):Int))=(((k+1)/2:Nat):Int)*(((k+1)/2:Nat):Int):=mI (by omega) (by omega)
 by_cases e:k=0
 ·subst e
  rcases h with⟨rfl,rfl⟩|⟨rfl,rfl⟩|⟨rfl,rfl⟩<;>exact⟨rfl,rfl⟩
 ·have f:((k:Int)==0)=false:=beq_eq_false_iff_ne.2 (by omega)
  rcases h with⟨rfl,rfl⟩|⟨rfl,rfl⟩|⟨rfl,rfl⟩
  ·refine⟨rfl,?_⟩;show Wr (Wr (4*(k:Int))+2)=((4*k+2:Nat):Int);rw[n,o];omega
  ·unfold gE gG Rf.shape;simp only[f,e,if_true,if_false,show((12:Int)==11)=false from rfl,show((12:Int)==13)=false from rfl,cond_false,x,g,y,z]
   refine⟨?_,?_⟩<;>simp
  ·unfold gE gG Rf.shape;simp only[f,e,if_true,if_false,show((13:Int)==11)=false from rfl,show((13:Int)==13)=true from rfl,cond_false,cond_true,l,u,w,reduceCtorEq]
   refine⟨?_,?_⟩<;>simp
variable {n:Rf.Nd}
theorem aVs {kd p q s r g h:Int}(B:k<=1000000)(i:(kd=11/\n.op=.exp)\/(kd=12/\n.op=.fK)\/(kd=13/\n.op=.atan))(z:0<g)(A:0<h)(u:n.p=g*p)(v:n.q=g*q)(w:n.p*n.p=h*s)(x:n.q*n.q=h*r):∃f a b c d,0<f/\uS kd p q s r k=[a,b,c,d]/\Rf.constant n k=some (Pg.wB f ⟨a,b,c,d⟩):=by
 obtain⟨f1,f2⟩:=aQS B i
 have hc:Rf.constant n k=some (if n.op≠.fK/\0<k then⟨0,(Rf.shape n.op k).1*(n.p*n.p),n.q*n.q,(Rf.shape n.op k).2*(n.q*n.q)⟩else⟨0,(Rf.shape n.op k).1*n.p,n.q,(Rf.shape n.op k).2*n.q⟩):=by
  unfold Rf.constant
  rcases i with⟨_,e⟩|⟨_,e⟩|⟨_,e⟩<;>rw[e]
 by_cases j:n.op≠.fK/\0<k
 ·rw[if_pos j]at hc
  have o:((kd==13)||(kd==11))=true:=by
   rcases i with⟨rfl,_⟩|⟨rfl,e⟩|⟨rfl,_⟩
   ·rfl
   ·exact absurd e j.1
   ·rfl
  refine⟨h,0,s*gE kd k,r,r*gG kd k,A,?_,?_⟩
  ·unfold uS;rw[decide_eq_true (by omega:(k:Int)>0),o];rfl
  ·rw[hc,f1,f2,w,x];unfold Pg.wB
   congr 2<;>simp only<;>grind
 ·rw[if_neg j]at hc
  have o:uS kd p q s r k=[0,p*gE kd k,q,q*gG kd k]:=by
   unfold uS
   by_cases y:k=0
   ·subst y;rfl
   ·have:n.op=.fK:=by
     rcases i with⟨_,e⟩|⟨_,e⟩|⟨_,e⟩
     ·exact absurd ⟨by rw[e];decide,by omega⟩ j
     ·exact e
     ·exact absurd ⟨by rw[e];decide,by omega⟩ j
    have l:kd=12:=by
     rcases i with⟨_,e⟩|⟨e,_⟩|⟨_,e⟩
     ·rw[e]at this;cases this
     ·exact e
     ·rw[e]at this;cases this
    subst l
    cases decide ((k:Int)>0)<;>rfl
  refine⟨g,0,p*gE kd k,q,q*gG kd k,z,o,?_⟩;rw[hc,f1,f2,u,v];unfold Pg.wB
  congr 2<;>simp only<;>grind
theorem aWK (i:k<=1000000)(a:n.op=.pi):Rf.constant n k=some ⟨bif (k:Int)==0 then 0 else 0,bif (k:Int)==0 then 4 else Wr ((k:Int)*k),bif (k:Int)==0 then 1 else 1,bif (k:Int)==0 then 1 else Wr (Wr (2*(k:Int))+1)⟩:=by
 have j:(k:Int)*k<=1000000*1000000:=Int.mul_le_mul (by omega) (by omega) (by omega) (by omega);have e:0<=(k:Int)*k:=Int.mul_nonneg (by omega) (by omega);have f:Wr ((k:Int)*k)=(k:Int)*k:=mI (by omega) (by omega);have g:Wr (2*(k:Int))=2*k:=mI (by omega) (by omega);have h:Wr (2*(k:Int)+1)=2*k+1:=mI (by omega) (by omega);unfold Rf.constant;rw[a]
 by_cases b:k=0
 ·subst b;rfl
 ·have d:((k:Int)==0)=false:=beq_eq_false_iff_ne.2 (by omega);simp only[b,if_false,d,cond_false,f,g,h];simp
theorem Qb (p:k<=1000000)(b:n.op=.e):Rf.constant n k=some ⟨gW k,1,1,0⟩:=by
 have j:Wr ((k:Int)+1)=k+1:=mI (by omega) (by omega);have l:Wr (2*((k:Int)+1))=2*(k+1):=mI (by omega) (by omega);have g:(2*((k:Int)+1)).tdiv 3=2*(k+1)/3:=Int.tdiv_eq_ediv_of_nonneg (by omega);have o:Wr (2*((k:Int)+1)/3)=2*(k+1)/3:=mI (by omega) (by omega);have i:(k:Int).tmod 3=(k:Int)%3:=Int.tmod_eq_emod_of_nonneg (by omega);unfold Rf.constant;rw[b];simp only;congr 2;unfold Rf.gW gW
 by_cases d:k=0
 ·subst d;rfl
 ·have h:((k:Int)==0)=false:=beq_eq_false_iff_ne.2 (by omega);rw[if_neg d,h,cond_false,i,j,l,g,o]
  by_cases f:k%3=2
  ·have a:((k:Int)%3==2)=true:=by rw[beq_iff_eq];omega
   rw[if_pos f,a,cond_true];omega
  ·have a:((k:Int)%3==2)=false:=by rw[beq_eq_false_iff_ne];omega
   rw[if_neg f,a,cond_false]
def Em (cs:List AC)(ty:TypeId):bO:=⟨cs,ty,false,false,false⟩
variable {T:fF}{n:World}{φ:Nat->Option (Nat×Nat)}{s:AS}
theorem aOf (I:s.dirty=[])(h:∀b B,look s.boxes b=some B->B.own=false/\B.tip=false/\∃k o,φ b=some (k,o)/\Seg T φ s.nums n k o B.ty B.cs)(hi:∀b f B i k o r,look s.boxes b=some B->look s.boxes f=some i->φ b=some (k,o)->φ f=some (k,r)->b=f\/(B.ro=true/\i.ro=true))(z:∀b,s.next<=b->φ b=none)(y:∀b k o,φ b=some (k,o)->k<n.heap.size):RepW T n φ φ s n:=by
 refine⟨fun b B j=>?_,fun b B k o j A=>?_,fun b f B i k o r g d p q=>?_,fun b B j D=>?_,z,y,fun k _ _=>rfl,On.refl _ _,fun b x e=>e,fun b B k o g d=>(by rw[(h b B g).1]at d;cases d)⟩
 ·obtain⟨_,_,k,o,g,u,H,l,d,p,q⟩:=h b B j;exact⟨k,o,u,H,l,g,d,p,q⟩
 ·have:=(h b B j).1;rw[A]at this;cases this
 ·obtain⟨_,v,_⟩:=h b B g;obtain⟨_,J,_⟩:=h f i d
  rcases hi b f B i k o r g d p q with e|⟨E,F⟩
  ·exact Or.inl e
  ·exact Or.inr ⟨E,F,fun⟨a,_⟩=>(by rw[v]at a;cases a),fun a=>(by rw[v]at a;cases a)⟩
 ·have:=(h b B j).2.1;rw[D]at this;cases this
variable {q:Nat->Option (Nat×Nat)}{d:List Nat}
theorem aSR {w:World}(h:Holds (oI s.nums d))(a:RepW Z n q φ s w):RepW Z n q φ (Ec d s) w:=by
 refine⟨?_,a.own,a.inj,a.tip,a.fresh,a.lt,a.low,a.on,a.base,a.pV⟩;intro b B g;obtain⟨k,o,f,p,e,k1,i,j,l⟩:=a.box b B g;exact⟨k,o,f,p,e,k1,i,j,l.mono (Uo h)⟩
def aG (f:FuncId)(o:Oper):Bool:=
 match o.op with
 |.call { callee:=.value (.func g),..}=>g==f
 |_=>false
def sV (o:Oper):Bool:=
 match o.op with
 |.call { callee:=.builtin .append,..}=>true
 |_=>false
def mX (p:Oper->Bool):List (K (List AT))->Bool
 |.ops all (i::_)::_=>match all[i]? with|some o=>p o|none=>false
 |_=>false
def Ah (p:Oper->Bool):List Oper->Nat->Option Nat
 | [],_=>none
 |o::r,i=>bif p o then some i else Ah p r (i+1)
def mA (p:Oper->Bool):Code->List (K (List AT))->Option (List (K (List AT)))
 |.region _ ops false,d=>(Ah p ops.toList 0).map fun j=>.ops ops ((List.range ops.size).drop (j+1))::d
 |.seq a b,d=>match mA p a (.code b::d)with|some r=>some r|none=>mA p b d
 |.block id b,d=>mA p b (.cD id::d)
 |.cond _ a b,d=>match mA p a d with|some r=>some r|none=>mA p b d
 |_,_=>none
def fQ (p:Oper->Bool)(fn:Func):List (K (List AT)):=(mA p (aF fn) [.top fn]).getD []
def cR (C:fF)(s:AS):List (K (List AT))->Option (FuncId×List AV×Option Tmp×List (K (List AT)))
 |.ops all (i::a)::b=>(all[i]?).bind fun o=>
  match gd all s.tmps o with
  |.yes=>match evalOp C.P (iS s.tmps) (look s.boxes) o.op with
   |some (.call f d)=>some (f,d,o.dst,.ops all a::b)
   |_=>none
  |_=>none
 |_=>none
variable {R:Ending->World->Prop}{a:Act}{vs:List AV}{dst:Option Tmp}
theorem qC {b:World}{ks ks2:List (K (List AT))}{l:List (K Act)}{f:FuncId}(h:cR T s ks=some (f,vs,dst,ks2))(D:Enters T.P f)(r:noFr ks=true){φ1:Nat->Option (Nat×Nat)}{ν1:List (Int×Nat)}{w1:World}(F:SR T φ1 ν1 w1 ks l)(E:Rep T n q φ s a b)
  (H:∀z:List Value,All2 (dM T φ s.nums b) vs z->Calls T.P f z.toArray b fun e M=>∃v,e=.returned v/\∀j,noFr ks2=true->(∀B A y,SR T B A y ks2 j)->fZ T.P R j .normal (a.put dst v) M):fZ T.P R l .normal a b:=by
 unfold cR at h;split at h
 ·rename_i all i k I;obtain⟨o,X,p⟩:=aU h;split at p
  ·rename_i W;split at p
   ·rename_i S J U;cases p
    match l,F with
    |.ops d r'::g,⟨N,O,x⟩=>
     subst N O;show wpOps T.P d (fZ T.P R g) (i::k) a b;rw[wpOps_cons];have L:=Pb (all:=d) (o:=o) E.tmps;rw[W]at L;obtain⟨z,Y,r2⟩:=wR (o:=o) (tQ E.tmps) E.wd.box (fun _=>rfl) (fun S J e=>by cases e;exact D) U;unfold wpOp;simp only[X];rw[if_pos L];refine Or.inl ?_;unfold Oper.wp;rw[Y];show Calls T.P f z.toArray b _;refine(H z r2).mono ?_;rintro e M⟨v,rfl,hv⟩
     have u:noFr I=true:=by simpa[noFr]using r
     exact hv (.ops d k::g) (by simpa[noFr]using r) fun B A y=>⟨rfl,rfl,SR.any u x⟩
   ·cases p
  ·cases p
 ·cases h
def vU (a:List Nat):AC->Bool
 |.int _ _=>true
 |.bool _=>true
 |.sint _ _=>true
 |.sbool _=>true
 |.lit _=>true
 |.ptr b _=>a.contains b
 |_=>false
def kN (a b:List Nat):Nat->List AT->List AT
 |_,[]=>[]
 |i,t::r=>(bif b.contains i then(match t with|.val (.one c)=>bif vU a c then t else .top|.gC=>.gC|_=>.top)else .top)::kN a b (i+1) r
variable {I:Nat->Option (Nat×Nat)}
theorem aNu {ν e:List (Int×Nat)}{i:World}{c:AC}{x:Value}(h:vU d c=true)(a:∀b,d.contains b=true->I b=φ b)(r:relC T φ ν n c x):relC T I e i c x:=by
 cases c<;>simp only[vU]at h<;>try (first|exact r|cases h)
 obtain⟨k,o,f,g⟩:=r;exact⟨k,o,by rw[a _ h];exact f,g⟩
theorem aId {T:fF}{φ I:Nat->Option (Nat×Nat)}{ν f:List (Int×Nat)}{n l:World}{d j:List Nat}(a:∀b,d.contains b=true->I b=φ b):∀(i:Nat) (ts:List AT) (e:List Value),All2 (relT T φ ν n) ts e->All2 (relT T I f l) (kN d j i ts) e
 |_,[],[],_=>trivial
 |_,[],_::_,h=>h.elim
 |_,_::_,[],h=>h.elim
 |i,t::r,x::e,⟨g,k⟩=>by
  refine⟨?_,aId a (i+1) r e k⟩
  cases j.contains i with
  |false=>trivial
  |true=>
   simp only[cond_true];split
   ·rename_i c
    cases hc:vU d c with
    |false=>trivial
    |true=>exact aNu hc a g
   ·exact g
   ·trivial
theorem oZ {e:World}{d:Nat->Option (Nat×Nat)}{f:AS}{D h:World}{v:Value}{r:AT}{kb kt:List Nat}(i:Rep T n q φ s a D)(k:RepW T e I d f h)(j:f.tmps=putT (kN kb kt 0 s.tmps) dst r)(g:∀b,kb.contains b=true->d b=φ b)(hv:relT T d f.nums h r v):Rep T e I d f (a.put dst v) h:=by
 refine⟨k,by rw[rG];exact i.defers,?_⟩;rw[j];exact rH (aId g 0 _ _ i.tmps) dst hv
inductive XT where
 |ret (r:AT) (s:AS)
 |stp (ks:List (K (List AT))) (s:AS)
 |br (t:Bool) (a b:XT)
 |need (p:List Prop) (o:XT)
def XT.ok (G:AT->AS->Prop)(H:List (K (List AT))->AS->Prop):XT->Prop
 |.ret r s=>G r s
 |.stp d s=>H d s
 |.br t a b=>(t=true->a.ok G H)/\(t=false->b.ok G H)
 |.need p o=>Holds p/\o.ok G H
def fG (d e:List Nat)(f:Nat)(a:List Nat)(s:AS):Option (AS×List Prop):=(norm d e f s).map fun b=>(Ec a b,oI b.nums a)
def eD (d ns:AS->Option (AS×List Prop)):Tr->Option XT
 |.ret r s=>(d s).map fun x=>match x.2 with| []=>.ret r x.1|p::e=>.need (p::e) (.ret r x.1)
 |.stop f s=>(ns s).map fun x=>match x.2 with| []=>.stp f x.1|p::e=>.need (p::e) (.stp f x.1)
 |.br t a b=>(eD d ns a).bind fun x=>(eD d ns b).map fun y=>.br t x y
 |.need p t=>(eD d ns t).map (.need p)
theorem Kh {l ns:AS->Option (AS×List Prop)}{G:AT->AS->Prop}{H:List (K (List AT))->AS->Prop}:∀{n:Tr} {j:XT},eD l ns n=some j->j.ok G H->n.ok (fun r s=>∃g p,l s=some (g,p)/\Holds p/\G r g) fun k s=>∃g p,ns s=some (g,p)/\Holds p/\H k g
 |.ret r s,j,h,d=>by
  simp only[eD]at h;obtain⟨⟨g,q⟩,i,f⟩:=cA h
  cases q with
  |nil=>simp only at f;subst f;exact⟨g,[],i,iC,d⟩
  |cons p u=>simp only at f;subst f;exact⟨g,_,i,d.1,d.2⟩
 |.stop k s,j,h,d=>by
  simp only[eD]at h;obtain⟨⟨g,q⟩,i,f⟩:=cA h
  cases q with
  |nil=>simp only at f;subst f;exact⟨g,[],i,iC,d⟩
  |cons p u=>simp only at f;subst f;exact⟨g,_,i,d.1,d.2⟩
 |.br t a b,j,h,d=>by
  simp only[eD]at h;obtain⟨x,i,f⟩:=aU h;obtain⟨y,o,rfl⟩:=cA f;exact⟨fun e=>Kh i (d.1 e),fun e=>Kh o (d.2 e)⟩
 |.need p t,j,h,d=>by
  simp only[eD]at h;obtain⟨x,i,rfl⟩:=cA h;exact⟨d.1,Kh i d.2⟩
variable {o:List Nat}{p:List Prop}
theorem aNN {e:World}{w:Nat}{r:List Nat}{g:AS}(h:fG d o w r s=some (g,p))(k:Holds p)(f:∀b x,q b=some x->d.contains b=true)(l:Rep Z n q φ s a e):Rep Z n q (rst d φ) g a e:=by
 unfold fG at h;obtain⟨t,i,j⟩:=cA h;cases j;exact aOb k (aNM i f l)
theorem Zt {a:World}{l:List Nat}{w:Nat}{f:AS}(h:fG d l w o s=some (f,p))(j:Holds p)(e:∀b x,q b=some x->d.contains b=true)(k:RepW Z n q φ s a):RepW Z n q (rst d φ) f a:=by
 unfold fG at h;obtain⟨t,g,i⟩:=cA h;cases i;exact aSR j (aKA g e k)
theorem pC {f:FuncId}{fn:Func}(F:Fn f fn){args:List Value}(i:s.tmps=vs.map .val++List.replicate (fn.ntmps-vs.length) .gC)(hv:All2 (dM Z φ s.nums n) vs args)(j:RepW Z n φ φ s n)
  (h:∀(b:List (K Act)) (d:Nat->Option (Nat×Nat)) (a:Act) (e:World),SR Z d s.nums e [.code (aF fn),.top fn] b->Rep Z n φ d s a e->fZ Z.P R b .normal a e):Calls prog f args.toArray n R:=by
 refine calls_of_wp (P:=Z.P) F.at' F.body ?_;have g:=hv.len
 exact h [.code (aF fn),.top fn] φ _ n ⟨rfl,rfl,trivial⟩ ⟨j,rfl,by
  rw[i];simp only[Array.toList_append,Array.toList_replicate,List.size_toArray];rw[<-g]
  exact(Ty hv).append (Tx _)⟩
end Ab
end Go.Proofs.YtkmojpfpfoaloaaGreatDoor
