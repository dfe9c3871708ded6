import Derived.Test.YthhffdeihoofiaaGreatDoorCFu08
import Derived.Test.YthhffdeihoofiaaGreatDoorCFu06
set_option linter.all false
set_option maxRecDepth 100000
set_option maxHeartbeats 2000000
namespace Go.Proofs.YthhffdeihoofiaaGreatDoor
open Nat (lt_of_le_of_lt add_zero le_refl)
open Int (mul_pos mul_neg)
open List (mem_cons not_mem_nil append_assoc mem_singleton)
open Pg (wM eO sc gY HC)
open Rf (V turn eR near)
open Go.Proofs.Tryz
open Go.RowKit
namespace Ab
open Rf (Nd Inv aZ)
def tL (a T B:Int):LN:=[B,if a=13 then T else 0,-T,if a=12 then T+B else B,0,0,0,0]
structure LfB (W:Nat) (w2:World) (kd T B T2 B2:Int) (xk m z nst ra far0 far nb pb cb:Nat) (fur:Value) (xs cs:LB):Prop where
 z0:W<=z
 zn:NodeAt w2 z (tL kd T B) false 0 0 0 0 0 aA (ptrB xk) aI aA aA
 n0:W<=nst
 nd:NodeAt w2 nst (lD kd 0) false 0 0 0 0 0 (ptrB z) aA aI aA (ptrB nb)
 b0:W<=nb
 bV:w2.heap[nb]?=some (.cells (.int .i64 kd::ptrB z::fur::xs).toArray 232 (0,0))
 hold:aU true w2 [0,0,0,0,0,0,0,0] xs
 f0:W<=far0
 fn:NodeAt w2 far0 [1,0,0,1,0,0,0,0] false 0 0 0 0 0 aA aA aI (ptrB cb) aA
 c0:W<=cb
 fK:w2.heap[cb]?=some (.cells (.int .i64 kd::aI::cs).toArray 164 (0,0))
 Qw:aU true w2 [T,B,T2,B2,0,0,0,0] cs
 d1:z≠nst
 d2:z≠far0
 d3:nst≠far0
 ln:kd=12->fur=ptrB z
 sq:kd≠12->fur=ptrB pb/\W<=pb/\(pb≠z/\pb≠nst/\pb≠far0)/\(kd=11->pb≠ra/\pb≠far)/\NodeAt w2 pb [1,0,0,0,0,0,0,1] false 0 0 0 0 0 (ptrB z) (ptrB z) aI aA aA
 top:kd≠11->NodeAt w2 m [0,0,1,0,1,0,0,1] false 0 0 0 0 0 (ptrB far0) (ptrB nst) aI aA aA
 ex:kd=11->W<=ra/\W<=far/\(ra≠z/\ra≠nst/\ra≠far0/\ra≠far)/\(far≠z/\far≠nst/\far≠far0)/\NodeAt w2 ra [1,-1,1,1,0,0,0,0] false 0 0 0 0 0 aA (ptrB nst) aI aA aA/\NodeAt w2 far [1,-1,1,1,0,0,0,0] false 0 0 0 0 0 aA (ptrB far0) aI aA aA/\NodeAt w2 m [1,0,0,0,0,0,0,1] false 0 0 0 0 0 (ptrB far) (ptrB ra) aI aA aA
section
variable {w1:World} {xk:Nat} {p q:Int} {xs:LB}
theorem aTD (N:∃I:LB,w1.heap[xk]?=some (.cells (.bool false::I).toArray 190 (0,0)))(M:aU true w1 [p,q] xs)(J:∀z∈[p,q],Bits 1 z)(L:0<aV p q)(O:0<aG p q)(D:0<aV (aG p q*aG p q) (aL p q*aL p q)):Calls prog 193 #[.int .i64 12,ptrB xk,.agg xs.toArray] w1 fun e x=>Told w1 e x fun m=>∃z nst ra i A F pb y C xs cs,LfB w1.heap.size x 12 (aG p q) (aL p q) (aG (aG p q*aG p q) (aL p q*aL p q)) (aL (aG p q*aG p q) (aL p q*aL p q)) xk m z nst ra i A F pb y C xs cs:=by
 refine Ia (kd:=12) N M J (aWo p q) (fun r st=>r=.val (.one (.ptr 42 0))/\cF st 42 [0,0,1,0,1,0,0,1] (.lit aA) (.ptr 16 0) (.ptr 20 0) (.lit aA)/\cF st 20 (lD 12 0) (.lit aA) (.ptr 17 0) (.lit aA) (.ptr 18 0)/\kE st 18 12 (.ptr 17 0) (.ptr 17 0) [0,0,0,0,0,0,0,0]/\cF st 17 [aL p q,0,-aG p q,aG p q+aL p q,0,0,0,0] (.lit aA) (.lit aA) (.ptr 2 0) (.lit aA)/\cF st 16 [1,0,0,1,0,0,0,0] (.ptr 13 0) (.lit aA) (.lit aA) (.lit aA)/\jM st 13 12 [aG p q,aL p q,aG ((aG p q)*aG p q) ((aL p q)*aL p q),aL ((aG p q)*aG p q) ((aL p q)*aL p q),0,0,0,0]/\clean st=true) ⟨bL L,fun e=>absurd (of_decide_eq_true e) (by rw[Nm.gX O];decide),fun _=>⟨bL D,⟨fun e=>(by cases e),fun _=>⟨bL (by decide),bL (by decide),rfl,aU1 p q,aU0 p q,aUZ p q,aUY p q,aUX p q,aUW p q,aU2 p q⟩⟩⟩⟩ ?_;rintro r st φ v x⟨rfl,s,d,l,j,a,k,B⟩ hrel g;obtain⟨m,u⟩:=gW g s.look rfl rfl;obtain⟨nst,f⟩:=gW g d.look rfl rfl;obtain⟨F,o⟩:=gW g l.look rfl rfl;obtain⟨z,h⟩:=gW g j.look rfl rfl;obtain⟨i,b⟩:=gW g a.look rfl rfl;obtain⟨y,n⟩:=gW g k.look rfl rfl;have E:φ 2=some (xk,0):=g.base 2 (xk,0) rfl;have hv:v=ptrB m:=cN (ν:=st.nums) (w:=x) u v hrel;obtain⟨I,k1,W,X,Y,k5⟩:=s.at g u cL (cN b) (cN f) cL;obtain⟨_,P,_,_,_,R⟩:=d.at g f cL (cN h) cL (cN o);obtain⟨H,S,T,U⟩:=l.at g o (cN h) (cN h);obtain⟨_,z1,_,_,_,z5⟩:=j.at g h cL cL (cN E) cL;obtain⟨_,o1,_,_,_,o5⟩:=a.at g b (cN n) cL cL cL;obtain⟨cs,c1,c2,c3⟩:=k.at g n;exact⟨m,I,by rw[hv],Chg.eF (RepF.below g B),k1,W,X,Y,z,nst,0,i,0,F,0,y,_,H,cs,z1,z5,P,R,S,T,U,o1,o5,c1,c2,c3,lG g j.look rfl d.look h f (by decide),lG g j.look rfl a.look h b (by decide),lG g d.look rfl a.look f b (by decide),fun _=>rfl,fun e=>absurd rfl e,fun _=>k5,fun e=>by cases e⟩
theorem aTE (P:∃L:LB,w1.heap[xk]?=some (.cells (.bool false::L).toArray 190 (0,0)))(O:aU true w1 [p,q] xs)(M:∀z∈[p,q],Bits 1 z)(N:0<aV p q)(R:0<aG p q)(F:0<aV (aG p q*aG p q) (aL p q*aL p q)):Calls prog 193 #[.int .i64 13,ptrB xk,.agg xs.toArray] w1 fun e A=>Told w1 e A fun m=>∃z nst ra l C I pb B E xs cs,LfB w1.heap.size A 13 (aG p q) (aL p q) (aG (aG p q*aG p q) (aL p q*aL p q)) (aL (aG p q*aG p q) (aL p q*aL p q)) xk m z nst ra l C I pb B E xs cs:=by
 refine Ia (kd:=13) P O M (aWp p q) (fun r st=>r=.val (.one (.ptr 65 0))/\cF st 65 [0,0,1,0,1,0,0,1] (.lit aA) (.ptr 16 0) (.ptr 43 0) (.lit aA)/\cF st 43 (lD 13 0) (.lit aA) (.ptr 17 0) (.lit aA) (.ptr 18 0)/\cF st 40 [1,0,0,0,0,0,0,1] (.lit aA) (.ptr 17 0) (.ptr 17 0) (.lit aA)/\kE st 18 13 (.ptr 17 0) (.ptr 40 0) [0,0,0,0,0,0,0,0]/\cF st 17 [aL p q,aG p q,-aG p q,aL p q,0,0,0,0] (.lit aA) (.lit aA) (.ptr 2 0) (.lit aA)/\cF st 16 [1,0,0,1,0,0,0,0] (.ptr 13 0) (.lit aA) (.lit aA) (.lit aA)/\jM st 13 13 [aG p q,aL p q,aG ((aG p q)*aG p q) ((aL p q)*aL p q),aL ((aG p q)*aG p q) ((aL p q)*aL p q),0,0,0,0]/\clean st=true) ⟨bL N,fun e=>absurd (of_decide_eq_true e) (by rw[Nm.gX R];decide),fun _=>⟨bL F,⟨fun _=>⟨bL (by decide),bL (by decide),rfl,aU9 p q,aU8 p q,aU7 p q,aU6 p q,aU5 p q,aU4 p q,aU3 p q,aVa p q⟩,fun e=>(by cases e)⟩⟩⟩ ?_;rintro r st φ v A⟨rfl,x,d,h,o,k,a,n,D⟩ hrel g;obtain⟨m,y⟩:=gW g x.look rfl rfl;obtain⟨nst,f⟩:=gW g d.look rfl rfl;obtain⟨pb,i⟩:=gW g h.look rfl rfl;obtain⟨I,u⟩:=gW g o.look rfl rfl;obtain⟨z,j⟩:=gW g k.look rfl rfl;obtain⟨l,b⟩:=gW g a.look rfl rfl;obtain⟨B,s⟩:=gW g n.look rfl rfl;have H:φ 2=some (xk,0):=g.base 2 (xk,0) rfl;have hv:v=ptrB m:=cN (ν:=st.nums) (w:=A) y v hrel;obtain⟨L,k1,Y,k3,k4,k5⟩:=x.at g y cL (cN b) (cN f) cL;obtain⟨_,S,_,_,_,T⟩:=d.at g f cL (cN j) cL (cN u);obtain⟨_,s1,_,_,_,s5⟩:=h.at g i cL (cN j) (cN j) cL;obtain⟨J,U,W,X⟩:=o.at g u (cN j) (cN i);obtain⟨_,z1,_,_,_,z5⟩:=k.at g j cL cL (cN H) cL;obtain⟨_,o1,_,_,_,o5⟩:=a.at g b (cN s) cL cL cL;obtain⟨cs,c1,c2,c3⟩:=n.at g s;exact⟨m,L,by rw[hv],Chg.eF (RepF.below g D),k1,Y,k3,k4,z,nst,0,l,0,I,pb,B,_,J,cs,z1,z5,S,T,U,W,X,o1,o5,c1,c2,c3,lG g k.look rfl d.look j f (by decide),lG g k.look rfl a.look j b (by decide),lG g d.look rfl a.look f b (by decide),fun e=>(by cases e),fun _=>⟨rfl,s1,⟨lG g h.look rfl k.look i j (by decide),lG g h.look rfl d.look i f (by decide),lG g h.look rfl a.look i b (by decide)⟩,fun e=>(by cases e),s5⟩,fun _=>k5,fun e=>by cases e⟩
theorem aTC (U:∃P:LB,w1.heap[xk]?=some (.cells (.bool false::P).toArray 190 (0,0)))(T:aU true w1 [p,q] xs)(R:∀z∈[p,q],Bits 1 z)(S:0<aV p q)(W:0<aG p q)(L:0<aV (aG p q*aG p q) (aL p q*aL p q)):Calls prog 193 #[.int .i64 11,ptrB xk,.agg xs.toArray] w1 fun e F=>Told w1 e F fun m=>∃z nst ra u C N pb H J xs cs,LfB w1.heap.size F 11 (aG p q) (aL p q) (aG (aG p q*aG p q) (aL p q*aL p q)) (aL (aG p q*aG p q) (aL p q*aL p q)) xk m z nst ra u C N pb H J xs cs:=by
 refine Ia (kd:=11) U T R (aWn p q) (fun r st=>r=.val (.one (.ptr 67 0))/\cF st 67 [1,0,0,0,0,0,0,1] (.lit aA) (.ptr 17 0) (.ptr 45 0) (.lit aA)/\cF st 45 [1,-1,1,1,0,0,0,0] (.lit aA) (.lit aA) (.ptr 44 0) (.lit aA)/\cF st 44 (lD 11 0) (.lit aA) (.ptr 18 0) (.lit aA) (.ptr 19 0)/\cF st 41 [1,0,0,0,0,0,0,1] (.lit aA) (.ptr 18 0) (.ptr 18 0) (.lit aA)/\kE st 19 11 (.ptr 18 0) (.ptr 41 0) [0,0,0,0,0,0,0,0]/\cF st 18 [aL p q,0,-aG p q,aL p q,0,0,0,0] (.lit aA) (.lit aA) (.ptr 2 0) (.lit aA)/\cF st 17 [1,-1,1,1,0,0,0,0] (.lit aA) (.lit aA) (.ptr 16 0) (.lit aA)/\cF st 16 [1,0,0,1,0,0,0,0] (.ptr 13 0) (.lit aA) (.lit aA) (.lit aA)/\jM st 13 11 [aG p q,aL p q,aG ((aG p q)*aG p q) ((aL p q)*aL p q),aL ((aG p q)*aG p q) ((aL p q)*aL p q),0,0,0,0]/\clean st=true) ⟨bL S,fun e=>absurd (of_decide_eq_true e) (by rw[Nm.gX W];decide),fun _=>⟨bL L,⟨fun _=>⟨bL (by decide),bL (by decide),rfl,aUU p q,aUT p q,aUS p q,aUR p q,aUQ p q,aUP p q,aUO p q,aUN p q,aUM p q,aUV p q⟩,fun e=>(by cases e)⟩⟩⟩ ?_;rintro r st φ v F⟨rfl,D,k,g,j,y,s,f,a,x,I⟩ hrel d;obtain⟨m,E⟩:=gW d D.look rfl rfl;obtain⟨ra,n⟩:=gW d k.look rfl rfl;obtain⟨nst,i⟩:=gW d g.look rfl rfl;obtain⟨pb,l⟩:=gW d j.look rfl rfl;obtain⟨N,B⟩:=gW d y.look rfl rfl;obtain⟨z,o⟩:=gW d s.look rfl rfl;obtain⟨C,h⟩:=gW d f.look rfl rfl;obtain⟨u,b⟩:=gW d a.look rfl rfl;obtain⟨H,A⟩:=gW d x.look rfl rfl;have M:φ 2=some (xk,0):=d.base 2 (xk,0) rfl;have hv:v=ptrB m:=cN (ν:=st.nums) (w:=F) E v hrel;obtain⟨P,k1,k2,k3,k4,k5⟩:=D.at d E cL (cN h) (cN n) cL;obtain⟨_,X,_,_,_,Y⟩:=g.at d i cL (cN o) cL (cN B);obtain⟨_,s1,_,_,_,s5⟩:=j.at d l cL (cN o) (cN o) cL;obtain⟨O,j1,j2,j3⟩:=y.at d B (cN o) (cN l);obtain⟨_,z1,_,_,_,z5⟩:=s.at d o cL cL (cN M) cL;obtain⟨_,o1,_,_,_,o5⟩:=a.at d b (cN A) cL cL cL;obtain⟨cs,c1,c2,c3⟩:=x.at d A;obtain⟨_,r1,_,_,_,r5⟩:=k.at d n cL cL (cN i) cL;obtain⟨_,u1,_,_,_,u5⟩:=f.at d h cL cL (cN b) cL;exact⟨m,P,by rw[hv],Chg.eF (RepF.below d I),k1,k2,k3,k4,z,nst,ra,u,C,N,pb,H,_,O,cs,z1,z5,X,Y,j1,j2,j3,o1,o5,c1,c2,c3,lG d s.look rfl g.look o i (by decide),lG d s.look rfl a.look o b (by decide),lG d g.look rfl a.look i b (by decide),fun e=>(by cases e),fun _=>⟨rfl,s1,⟨lG d j.look rfl s.look l o (by decide),lG d j.look rfl g.look l i (by decide),lG d j.look rfl a.look l b (by decide)⟩,fun _=>⟨lG d j.look rfl k.look l n (by decide),lG d j.look rfl f.look l h (by decide)⟩,s5⟩,fun e=>absurd rfl e,fun _=>⟨r1,u1,⟨lG d k.look rfl s.look n o (by decide),lG d k.look rfl g.look n i (by decide),lG d k.look rfl a.look n b (by decide),lG d k.look rfl f.look n h (by decide)⟩,⟨lG d f.look rfl s.look h o (by decide),lG d f.look rfl g.look h i (by decide),lG d f.look rfl a.look h b (by decide)⟩,r5,u5,k5⟩⟩
theorem Sz {op:Rf.Op}(j:Rf.fn op)(k:op≠.sqrt)(l:∃u:LB,w1.heap[xk]?=some (.cells (.bool false::u).toArray 190 (0,0)))(i:aU true w1 [p,q] xs)(g:∀z∈[p,q],Bits 1 z)(h:0<aV p q)(n:0<aG p q)(a:0<aV (aG p q*aG p q) (aL p q*aL p q)):Calls prog 193 #[.int .i64 (aH op),ptrB xk,.agg xs.toArray] w1 fun e o=>Told w1 e o fun m=>∃z nst ra b d s pb r f xs cs,LfB w1.heap.size o (aH op) (aG p q) (aL p q) (aG (aG p q*aG p q) (aL p q*aL p q)) (aL (aG p q*aG p q) (aL p q*aL p q)) xk m z nst ra b d s pb r f xs cs:=by
 rcases j with rfl|rfl|rfl|rfl
 ·exact absurd rfl k
 ·exact aTC l i g h n a
 ·exact aTD l i g h n a
 ·exact aTE l i g h n a
end
theorem aIo {x k m:Nat}(a:k<=m)(h:x<2^k):x<2^m:=Nat.lt_of_lt_of_le h (Nat.pow_le_pow_right (by decide) a)
variable {v:Int}
theorem aRJ {w:Nat}(h:v.natAbs<2^w):(v*v).natAbs<2^(w+w):=by
 rw[Int.natAbs_mul,Nat.pow_add];exact Nat.mul_lt_mul'' h h
theorem Nr {a:Int}(b:0<v):a.natAbs<=(v*a).natAbs:=Pg.Iv b a
variable {z:Int}
theorem aVl {n:Nat}(k:n+n<=10000000){T2 B2 u:Int}(bT:v.natAbs<2^n)(e:z.natAbs<2^n)(b:0<u)(g:v*v=u*T2)(i:z*z=u*B2):∀a∈[v,z,T2,B2,0,0,0,0],Bits 1 a:=by
 have b2:T2.natAbs<2^(n+n):=lt_of_le_of_lt (by rw[g];exact Nr b) (aRJ bT);have f:B2.natAbs<2^(n+n):=lt_of_le_of_lt (by rw[i];exact Nr b) (aRJ e)
 have up:∀{a:Int},a.natAbs<2^(n+n)->Bits 1 a:=fun h=>xL (N:=n+n) (by omega) h
 intro a j
 have d:a=v\/a=z\/a=T2\/a=B2\/a=0:=by simp at j;omega
 rcases d with rfl|rfl|rfl|rfl|rfl
 ·exact up (aIo (by omega) bT)
 ·exact up (aIo (by omega) e)
 ·exact up b2
 ·exact up f
 ·exact aY 0 (by simp)
theorem aMP {w:World}{cb:Nat}{op:Rf.Op}(y:Rf.fn op)(H:op≠.sqrt){T B T2 B2 G g2:Int}{cs:LB}(o:0<G)(hT:0<T)(hB:0<B)(C:0<g2)(P:T*T=g2*T2)(R:B*B=g2*B2)(I:Rf.dX 6100 (G*T,G*B))(j:w.heap[cb]?=some (.cells (.int .i64 (aH op)::aI::cs).toArray 164 (0,0)))(hold:aU true w [T,B,T2,B2,0,0,0,0] cs):fT w (Rf.row op (G*T) (G*B)) cb:=by
 refine⟨⟨_,j⟩,fun k hk=>?_⟩;obtain⟨_,D⟩:=aJw y H
 obtain ⟨f,a,b,c,d,U,F,l⟩:=aWe (n:=Rf.row op (G*T) (G*B)) (kd:=aH op) (p:=T) (q:=B) (s:=T2) (r:=B2) (g:=G) (h:=G*G*g2) (k:=k) (by omega) D o (mul_pos (mul_pos o o) C) rfl rfl (by
  show G*T*(G*T)=G*G*g2*T2;rw[Int.mul_assoc (G*G),<-P]
  grind) (by
  show G*B*(G*B)=G*G*g2*B2;rw[Int.mul_assoc (G*G),<-R]
  grind)
 obtain⟨m,E,i⟩:=Rf.Ga (n:=Rf.row op (G*T) (G*B)) (Or.inr (Or.inr (Or.inr ⟨y,mul_pos o hT,mul_pos o hB⟩))) (k:=k) hk I.1 I.2;rw[l]at E;have hm:m=wM f ⟨a,b,c,d⟩:=(Option.some.inj E).symm
 have u:∀z∈[a,b,c,d],Bits 2 z:=by
  have J:∀{z:Int},(f*z).natAbs<2^18400->Bits 2 z:=fun h=>xL (N:=18400) (by decide) (lt_of_le_of_lt (Nr U) h)
  rw[hm]at i;intro z X;simp at X
  rcases X with rfl|rfl|rfl|rfl
  ·exact J i.a
  ·exact J i.b
  ·exact J i.c
  ·exact J i.d
 refine⟨f,a,b,c,d,U,l,u,fun W S=>?_⟩
 have v:W.heap[cb]?=some (.cells (.int .i64 (aH op)::aI::cs).toArray 164 (0,0)):=by
  rcases S.bV cb _ j with e|⟨e,_⟩
  ·exact e
  ·have Y:Ja.contains 164=true:=e;exact absurd Y (by decide)
 have M:∀z∈[T,B,T2,B2,0,0,0,0],Bits 1 z:=aVl (n:=6100) (by decide) (lt_of_le_of_lt (Nr o) I.1) (lt_of_le_of_lt (Nr o) I.2) C P R;obtain⟨_,f1,f2⟩:=Vy y H (k:=k) (by omega)
 have A:Holds (yK (aH op) k):=by
  intro x O;unfold yK at O;simp only[mem_cons,not_mem_nil,or_false]at O
  rcases O with rfl|rfl|rfl|rfl|rfl|rfl
  ·exact fun _ _=>f1
  ·exact fun _ _=>f2
  ·exact fun _ _=>f1
  ·exact fun _ _=>f2
  ·exact fun _=>f1
  ·exact fun _=>f2
 refine Wa v rfl (mC S hold) rfl M (n:=2) (needs:=yK (aH op) k) ?_ A;rw[<-F]
 rcases D with⟨L,_⟩|⟨L,_⟩|⟨L,_⟩<;>rw[L]
 ·exact Ra T B T2 B2 0 0 0 0 k
 ·exact Rb T B T2 B2 0 0 0 0 k
 ·exact Rc T B T2 B2 0 0 0 0 k
theorem aPu {op:Rf.Op}(g:Rf.fn op)(h:op≠.sqrt){G:Int}{lo:V}(f:0<G)(b:lo.1=G*v)(d:lo.2=G*z):∃u a,Rf.jW op lo=[u,a]/\eO [u,a] (cH (tL (aH op) v z)):=by
 refine⟨_,_,rfl,?_⟩
 rcases g with rfl|rfl|rfl|rfl
 ·exact absurd rfl h
 ·refine .El (e:=G) f ?_ ?_ ?_ ?_<;>simp[tL,sc,aH,b,d,mul_neg]
 ·refine .El (e:=G) f ?_ ?_ ?_ ?_<;>simp[tL,sc,aH,b,d,mul_neg,Int.mul_add]
 ·refine .El (e:=G) f ?_ ?_ ?_ ?_<;>simp[tL,sc,aH,b,d,mul_neg]
theorem aSo:eO Rf.Kind.add.cols (cH [0,0,1,0,1,0,0,1]):=.Em (e:=1) (by decide) (gY _).symm (gY _).symm (gY _).symm (gY _).symm
theorem aSp:eO Rf.Kind.mul.cols (cH [1,0,0,0,0,0,0,1]):=.Em (e:=1) (by decide) (gY _).symm (gY _).symm (gY _).symm (gY _).symm
theorem aWs {n w1:World}{b0 fb:Nat}{own:Nat->Option Own}{at1:NU}{s:Rf.St}{bc:NU}{c i:Nat}{d:Nd}{X:List Nd}{a:Nat}{x:Nd}{e1 e2:V}{p1 y u R p3 q3 mt pl:Int}{gv g nv:Value}{dd:Int}{xs:LB}(P:d.op≠.sqrt)(h:Net n b0 own at1 fb s)(dh:b0<=n.heap.size)(hI:Inv s.nodes bc c)(U:s.nodes[i]?=some d)(B:Probe n b0 own at1 s bc i d a x e1 e2 v z p1 y u R p3 q3 mt pl gv g nv dd)(hz:0<e2.1)(o:turn (s.nodes.set i {d with read:=[0],aP:=false}) i {d with read:=[0],aP:=false} e2=some X)(c1:Chg n w1 [])(hh:aU true w1 [p1,y] xs):
  Calls prog 193 #[.int .i64 (aH d.op),ptrB (at1 a),.agg xs.toArray] w1 fun e w2=>∃m,∃ys:LB,e=.returned (ptrB m)/\Chg w1 w2 []/\w1.heap.size<=m/\w2.heap[m]?=some (.cells ys.toArray 190 (0,0))/\ys.length=27/\(∀f∈ys,One f)/\∀w3,Chg w2 w3 [at1 i]->w3.heap[at1 i]?=some (.cells ys.toArray 190 (0,0))->kM n b0 own at1 fb s.nodes.length true ⟨X,s.clock⟩ w3:=by
 have hi:=(List.getElem?_eq_some_iff.1 U).1;have a5:=(List.getElem?_eq_some_iff.1 B.rZ).1;obtain⟨G,hG,E1,E2,b6,t0,aq,cd,dp⟩:=aNI B.lo B.Ye B.d0 B.c2
 have hT:0<aG p1 y:=by
  rcases Int.lt_or_le 0 (aG p1 y)with h1|h1
  ·exact h1
  ·have:aG p1 y=0:=by omega
   have:=cd.1 this;omega
 have N:=B.fn;obtain⟨g2,b4,cy,m1,m2,_,_,_⟩:=Wz (p:=aG p1 y*aG p1 y) (q:=aL p1 y*aL p1 y) (Int.mul_nonneg t0 t0) (mul_pos aq aq);obtain⟨ck,bb⟩:=aJe (h.still hI c1) hI B.rZ B.Fg;refine(Sz N P ⟨ck,bb⟩ hh B.bits b6 hT (by omega)).mono ?_;rintro e w2⟨m,ys,rfl,c2,k1,k2,k3,k4,l,nst,ra,r,D,nb,pb,cb,df,ei,cs,L⟩;refine⟨m,ys,rfl,c2,k1,k2,k3,k4,fun w3 c3 h3=>?_⟩;have dk:n.heap.size<=w1.heap.size:=c1.on.size
 have am:at1 i<n.heap.size:=by obtain⟨cs,bu⟩:=Mf h U;exact gE bu
 have a3:Chg n w3 [at1 i]:=((c1.bO (by simp)).trans (c2.bO (by simp))).trans c3
 have up:∀{k:Nat} {zs:LN} {lp rp g nv:Value},w1.heap.size<=k->NodeAt w2 k zs false 0 0 0 0 0 lp rp aI g nv->NodeAt w3 k zs false 0 0 0 0 0 lp rp aI g nv:=fun hk U=>U.aS c3.on (c3.low _ U.lt (by simp;omega))
 have M:=c3.at L.bV (by have:=L.b0;simp;omega);have ae:=mC c3.on L.hold;have a2:=c3.at L.fK (by have:=L.c0;simp;omega);have a4:=mC c3.on L.Qw;have ab:=aMP N P hG hT aq b4 m1 m2 (by rw[<-E1,<-E2];exact B.b1) a2 a4;rw[<-E1,<-E2]at ab;obtain⟨ru,rv,af,aa⟩:=aPu N P hG E1 E2;have z0:=L.z0;have n0:=L.n0;have f0:=L.f0
 -- the machine
 unfold turn at o;simp only[B.args,List.getElem?_cons_zero,Option.bind_some]at o;rw[if_neg P,if_pos hz]at o;obtain⟨zb,cc,o⟩:=Option.bind_eq_some_iff.1 o;obtain⟨dy,b9,b3⟩:=Option.map_eq_some_iff.1 cc;have a9:=xM b9;subst a9;subst b3;simp only at o;obtain⟨du,S,o⟩:=Option.bind_eq_some_iff.1 o;unfold Rf.nest at S;rw[if_neg (by omega)]at S;obtain⟨Kv,ax,bx⟩:=Option.map_eq_some_iff.1 S;have a8:=xM ax;subst a8;subst bx;simp only at o
 by_cases J:d.op=.exp
 ·rw[if_pos J]at o;obtain⟨rb,ca,o⟩:=Option.bind_eq_some_iff.1 o;obtain⟨dv,b7,bz⟩:=Option.map_eq_some_iff.1 ca;have a6:=xM b7;subst a6;subst bz;rw[if_neg (by omega)]at o;obtain⟨ob,I,o⟩:=Option.bind_eq_some_iff.1 o;unfold Rf.outright at I;obtain⟨cf,av,I⟩:=Option.bind_eq_some_iff.1 I;have ad:=xM av;subst ad;rw[if_pos J]at I;obtain⟨dx,b8,b2⟩:=Option.map_eq_some_iff.1 I;have a7:=xM b8;subst a7;subst b2;have H:=(Cv o).1;simp only[List.length_set,List.length_append,List.length_singleton,if_pos J,af]at H;rw[append_assoc,append_assoc,append_assoc,append_assoc,Wb hi]at H;have aj:aH d.op=11:=(Mr N).2 J;obtain⟨r1,r2,hR,hU,r7,r8,r9⟩:=L.ex aj;have HR:=hid hR;have HU:=hid hU;clear hR hU
  have Y:aH d.op≠12:=fun e=>by rw[J]at e;cases e
  obtain⟨s1,s2,hS,s6,s7⟩:=L.sq Y;have HS:=hid hS;have H6:=hid (s6 aj);clear hS s6
  have E:[l,nst,ra,r,D].Nodup:=by
   obtain⟨r3,r4,r5,r6⟩:=HR.out;obtain⟨u1,u2,u3⟩:=HU.out;simp[L.d1,L.d2,L.d3,Ne.symm r3,Ne.symm r4,r5,r6,Ne.symm u1,Ne.symm u2,Ne.symm u3]
  have F:∀b∈[l,nst,ra,r,D],n.heap.size<=b:=by
   intro b hb;simp at hb
   rcases hb with rfl|rfl|rfl|rfl|rfl<;>omega
  have au:Pg.Go s.nodes X:=by
   rw[H];exact(Pg.Go.more _ _).trans (yW (n:=d) (by rw[List.getElem?_append_left hi];exact U) rfl rfl rfl)
  obtain⟨xa,g1,_,g3,_⟩:=au.at' a x B.rZ;have ay:=g3 0 _ (h.nd a x B.rZ).hc.fst
  have hN:∀(j:Nat) (mm:Nd),([Rf.fresh true [ru,rv] [a]]++([eR d.op 0 s.nodes.length s.nodes.length none]++([Rf.raised (s.nodes.length+1)]++([Rf.row d.op e2.1 e2.2]++[Rf.raised (s.nodes.length+1+1+1)]))))[j]?=some mm->X[s.nodes.length+j]?=some mm:=by
   intro j mm C;rw[H,List.getElem?_set_ne (by omega),List.getElem?_append_right (by omega),show s.nodes.length+j-s.nodes.length=j by omega];exact C
  have A:∀{j b:Nat},[l,nst,ra,r,D][j]?=some b->kB s.nodes.length [l,nst,ra,r,D] at1 (s.nodes.length+j)=b:=fun C=>Cu C
  have O:∀{j b:Nat},[l,nst,ra,r,D][j]?=some b->pb≠b->mP (aH d.op) pb (s.nodes.length+1) s.nodes.length [l,nst,ra,r,D] own b=some (.nd (s.nodes.length+j)):=fun C hb=>Iu E C (fun _=>hb)
  have T:kB s.nodes.length [l,nst,ra,r,D] at1 s.nodes.length=l:=A (j:=0) rfl;have A1:kB s.nodes.length [l,nst,ra,r,D] at1 (s.nodes.length+1)=nst:=A (j:=1) rfl;have A2:kB s.nodes.length [l,nst,ra,r,D] at1 (s.nodes.length+2)=ra:=A (j:=2) rfl;have A3:kB s.nodes.length [l,nst,ra,r,D] at1 (s.nodes.length+3)=r:=A (j:=3) rfl;have A4:kB s.nodes.length [l,nst,ra,r,D] at1 (s.nodes.length+4)=D:=A (j:=4) rfl;have Ai:kB s.nodes.length [l,nst,ra,r,D] at1 i=at1 i:=vR hi;have Aa:kB s.nodes.length [l,nst,ra,r,D] at1 a=at1 a:=vR a5;refine Pd h hI U (own':=mP (aH d.op) pb (s.nodes.length+1) s.nodes.length [l,nst,ra,r,D] own) (at2:=kB s.nodes.length [l,nst,ra,r,D] at1) H rfl rfl rfl a3 (fun a ha=>vR ha) (fun k hk=>Gf hk F (fun _=>by omega)) ?_ ?_
  ·refine aFr (a:=s.nodes.length+4) (b:=s.nodes.length+2) (xa:=Rf.raised (s.nodes.length+1+1+1)) (xb:=Rf.raised (s.nodes.length+1)) ?_ rfl B.pos rfl rfl rfl rfl B.out B.told B.dT B.nest (hN 4 _ rfl) rfl (hN 2 _ rfl) rfl aSp (by rw[Ai,Gf (W:=n.heap.size) am F (fun _=>by omega)];exact(h.nd i d U).own) (by rw[Ai];exact(h.nd i d U).lo);rw[Ai,A4,A2];exact r9.copy k2 h3 c3.on
  ·intro j mm C
   match j,C with
   |0,C=>
    simp at C;subst C;refine Ny (a:=a) ?_ rfl g1 ay aa ?_ ?_
    ·rw[add_zero s.nodes.length,T,Aa];exact up z0 L.zn
    ·rw[add_zero s.nodes.length,T];exact O (j:=0) rfl HS.out.1
    ·rw[add_zero s.nodes.length,T];omega
   |1,C=>
    simp at C;subst C;refine Hz (a:=s.nodes.length) (nb:=nb) ?_ rfl rfl rfl rfl rfl rfl rfl rfl rfl rfl (hN 0 _ rfl) rfl ⟨_,M⟩ (Wl P (by rw[T];exact M) ae (fun e=>by rw[J]at e;cases e) (fun _=>⟨s1,Wn Y,by omega,by rw[T];exact up s2 s7⟩)) (Ur N P _) ?_ ?_
    ·rw[A1,T];exact up n0 L.nd
    ·rw[A1];exact O (j:=1) rfl HS.out.2.1
    ·rw[A1];omega
   |2,C=>
    simp at C;subst C;refine Ny (a:=s.nodes.length+1) ?_ rfl (hN 1 _ rfl) rfl Ui ?_ ?_
    ·rw[A2,A1];exact up r1 r7
    ·rw[A2];exact O (j:=2) rfl H6.out.1
    ·rw[A2];omega
   |3,C=>
    simp at C;subst C;refine Uk (cb:=cb) ?_ ab ?_ ?_
    ·rw[A3];exact up f0 L.fn
    ·rw[A3];exact O (j:=3) rfl HS.out.2.2
    ·rw[A3];omega
   |4,C=>
    simp at C;subst C;refine Ny (a:=s.nodes.length+3) ?_ rfl (hN 3 _ rfl) rfl Ui ?_ ?_
    ·rw[A4,A3];exact up r2 r8
    ·rw[A4];exact O (j:=4) rfl H6.out.2
    ·rw[A4];omega
   |j+5,C=>simp at C
 ·rw[if_neg J]at o;simp only[Option.bind_some]at o;rw[if_neg (by omega)]at o;obtain⟨ob,I,o⟩:=Option.bind_eq_some_iff.1 o;unfold Rf.outright at I;obtain⟨cf,av,I⟩:=Option.bind_eq_some_iff.1 I;have ad:=xM av;subst ad;rw[if_neg J]at I;cases I;have H:=(Cv o).1;simp only[List.length_set,List.length_append,List.length_singleton,if_neg J,af]at H;rw[append_assoc,append_assoc,Wb hi]at H
  have aj:aH d.op≠11:=fun e=>J ((Mr N).1 e)
  have ba:=L.top aj
  have ao:aH d.op≠12->n.heap.size<=pb:=fun h=>by have:=(L.sq h).2.1;omega
  have E:[l,nst,r].Nodup:=by simp[L.d1,L.d2,L.d3]
  have F:∀b∈[l,nst,r],n.heap.size<=b:=by
   intro b hb;simp at hb
   rcases hb with rfl|rfl|rfl<;>omega
  have au:Pg.Go s.nodes X:=by
   rw[H];exact(Pg.Go.more _ _).trans (yW (n:=d) (by rw[List.getElem?_append_left hi];exact U) rfl rfl rfl)
  obtain⟨xa,g1,_,g3,_⟩:=au.at' a x B.rZ;have ay:=g3 0 _ (h.nd a x B.rZ).hc.fst
  have hN:∀(j:Nat) (mm:Nd),([Rf.fresh true [ru,rv] [a]]++([eR d.op 0 s.nodes.length s.nodes.length none]++[Rf.row d.op e2.1 e2.2]))[j]?=some mm->X[s.nodes.length+j]?=some mm:=by
   intro j mm C;rw[H,List.getElem?_set_ne (by omega),List.getElem?_append_right (by omega),show s.nodes.length+j-s.nodes.length=j by omega];exact C
  have T:kB s.nodes.length [l,nst,r] at1 s.nodes.length=l:=Cu (j:=0) rfl;have A1:kB s.nodes.length [l,nst,r] at1 (s.nodes.length+1)=nst:=Cu (j:=1) rfl;have A2:kB s.nodes.length [l,nst,r] at1 (s.nodes.length+2)=r:=Cu (j:=2) rfl;have Ai:kB s.nodes.length [l,nst,r] at1 i=at1 i:=vR hi;have Aa:kB s.nodes.length [l,nst,r] at1 a=at1 a:=vR a5;refine Pd h hI U (own':=mP (aH d.op) pb (s.nodes.length+1) s.nodes.length [l,nst,r] own) (at2:=kB s.nodes.length [l,nst,r] at1) H rfl rfl rfl a3 (fun a ha=>vR ha) (fun k hk=>Gf hk F ao) ?_ ?_
  ·refine aFr (a:=s.nodes.length+2) (b:=s.nodes.length+1) (xa:=Rf.row d.op e2.1 e2.2) (xb:=eR d.op 0 s.nodes.length s.nodes.length none) ?_ rfl B.pos rfl rfl rfl rfl B.out B.told B.dT B.nest (hN 2 _ rfl) rfl (hN 1 _ rfl) rfl aSo (by rw[Ai,Gf (W:=n.heap.size) am F ao];exact(h.nd i d U).own) (by rw[Ai];exact(h.nd i d U).lo);rw[Ai,A2,A1];exact ba.copy k2 h3 c3.on
  ·intro j mm C
   match j,C with
   |0,C=>
    simp at C;subst C;refine Ny (a:=a) ?_ rfl g1 ay aa ?_ ?_
    ·rw[add_zero s.nodes.length,T,Aa];exact up z0 L.zn
    ·rw[add_zero s.nodes.length,T];exact Iu (j:=0) E rfl (fun h=>(L.sq h).2.2.1.1)
    ·rw[add_zero s.nodes.length,T];omega
   |1,C=>
    simp at C;subst C;refine Hz (a:=s.nodes.length) (nb:=nb) ?_ rfl rfl rfl rfl rfl rfl rfl rfl rfl rfl (hN 0 _ rfl) rfl ⟨_,M⟩ (Wl (pb:=pb) P (by rw[T];exact M) ae (fun e=>by rw[T];exact L.ln ((Qm N).2 e)) (fun hl=>?_)) (Ur N P _) ?_ ?_
    ·rw[A1,T];exact up n0 L.nd
    ·have Y:aH d.op≠12:=fun e=>hl ((Qm N).1 e)
     obtain⟨s1,s2,_,_,s7⟩:=L.sq Y;exact⟨s1,Wn Y,by omega,by rw[T];exact up s2 s7⟩
    ·rw[A1];exact Iu (j:=1) E rfl (fun h=>(L.sq h).2.2.1.2.1)
    ·rw[A1];omega
   |2,C=>
    simp at C;subst C;refine Uk (cb:=cb) ?_ ab ?_ ?_
    ·rw[A2];exact up f0 L.fn
    ·rw[A2];exact Iu (j:=2) E rfl (fun h=>(L.sq h).2.2.1.2.2)
    ·rw[A2];omega
   |j+3,C=>simp at C
theorem aOA:hV:=by
 refine aOz ?_;intro w b0 z own at1 s r c i n q a x y f C F p1 H D I p3 J mt E gv u B v h e j g l A d p b L M c1 k
 by_cases o:n.op=.sqrt
 ·exact aOY w b0 z own at1 s r c i n q a x y f C F p1 H D I p3 J mt E gv u B v o h e j g l A d p b L M c1 k
 ·have N:0<=f.1:=by
   rw[d.c2];exact Int.mul_nonneg (by have:=d.d0;omega) d.lo
  rcases Int.lt_or_le 0 f.1 with hz|hz
  ·exact aWs o h e g l d hz b c1 k
  ·exact aWr o h e g l d (by omega) b c1 k
theorem aOK (f:Nat):nU f:=aWj aOA f
end Ab
namespace Rf
open Nw
inductive Wt where
 |fr (p q:Int)
 |fK (op:Op) (ts:LN)
 |neg (t:Wt)
 |two (k:Kind) (a b:Wt)
 |fn (op:Op) (t:Wt)
noncomputable def of:Wt->List Nd->Option (List Nd×Nat)
 |.fr p q,ns=>(more ns (fresh (decide (0<=p)) [(p,q)] [])).map fun d=>(d,ns.length)
 |.fK op ts,ns=>(more ns { fresh true [] []with op:=op,terms:=ts}).map fun d=>(d,ns.length)
 |.neg t,ns=>(of t ns).bind fun x=>(more x.1 (fresh false [(-1,0),(0,1)] [x.2])).map fun d=>(d,x.1.length)
 |.two k a b,ns=>(of a ns).bind fun x=>(of b x.1).bind fun y=>(y.1[x.2]?).bind fun e=>(y.1[y.2]?).bind fun f=>(more y.1 (two k e.pos f.pos x.2 y.2)).map fun d=>(d,y.1.length)
 |.fn op (.fr p q),ns=>outright ns op p q
 |.fn op t,ns=>(of t ns).bind fun x=>(x.1[x.2]?).bind fun e=>
   (if e.pos then some x else(more x.1 (fresh true [(1,0),(0,1)] [x.2])).map fun d=>(d,x.1.length)).bind fun y=>
   (more y.1 { fresh true [(1,0),(0,1)] [y.2]with op:=op,aP:=true}).map fun d=>(d,y.1.length)
def Wt.size:Wt->Nat
 |.fr _ _=>1
 |.fK _ _=>1
 |.neg t=>t.size+1
 |.two _ a b=>a.size+b.size+1
 |.fn _ t=>t.size+1
def Wt.Ok:Wt->Prop
 |.fr p q=>0<q/\Bits 6100 p/\Bits 6100 q
 |.fK op ts=>op=.pi\/op=.e\/(op=.cf/\2<=ts.length/\∀a∈ts,Bits 40 a)
 |.neg t=>t.Ok
 |.two _ a b=>a.Ok/\b.Ok
 |.fn op t=>Rf.fn op/\t.Ok/\(∀p q,t=.fr p q->0<p)
section
variable {ns:List Nd} {rho:NU} {c:Nat}
theorem aMO (k:Kind):∀v∈k.cols,Bits 13000 v.1/\Bits 13000 v.2:=by
 have b0:Bits 13000 0:=aY;have b1:Bits 13000 1:=eK (by decide);intro v hv
 cases k<;>simp[Kind.cols]at hv
 ·rcases hv with rfl|rfl|rfl
  ·exact⟨b0,b0⟩
  ·exact⟨b1,b0⟩
  ·exact⟨b0,b1⟩
 ·rcases hv with rfl|rfl|rfl|rfl
  ·exact⟨b0,b0⟩
  ·exact⟨b1,b0⟩
  ·exact⟨yX b1,b0⟩
  ·exact⟨b0,b1⟩
 ·rcases hv with rfl|rfl|rfl
  ·exact⟨b1,b0⟩
  ·exact⟨b0,b0⟩
  ·exact⟨b0,b1⟩
 ·rcases hv with rfl|rfl|rfl|rfl<;>first|exact⟨b0,b0⟩|exact⟨b1,b0⟩|exact⟨b0,b1⟩
theorem aNw:∀v∈[((1:Int),(0:Int)),(0,1)],Bits 13000 v.1/\Bits 13000 v.2:=by grind [Bits,eK,aY]
theorem Xj {op:Op}{t:Wt}(hc:c<=3000)(s:fn op){j:List Nd}{B:NU}{d k:Nat}(g:Grown ns rho c k j B)(q:d<j.length)(rd:B d<=k)(C:ns.length<=d):
  ∃ l i e,((j[d]?).bind fun A=>
   (if A.pos then some (j,d)else(more j (fresh true [(1,0),(0,1)] [d])).map fun f=>(f,j.length)).bind fun y=>
   (more y.1 { fresh true [(1,0),(0,1)] [y.2]with op:=op,aP:=true}).map fun j=>(j,y.1.length))=some (l,e)/\Grown ns rho c (k+3200) l i/\e<l.length/\i e<=k+3200/\ns.length<=e:=by
 have w:j[d]?=some j[d]:=List.getElem?_eq_getElem q;rw[w,Option.bind_some]
 have Y:∃f h y,(if j[d].pos then some (j,d)else(more j (fresh true [(1,0),(0,1)] [d])).map fun f=>(f,j.length))=some (f,y)/\Grown ns rho c (k+1) f h/\Pos f y/\h y<=k+1:=by
  cases z:j[d].pos with
  |true=>exact⟨j,B,d,by simp,g.bO (by omega),⟨_,w,z⟩,by omega⟩
  |false=>
   obtain ⟨k1,u,v⟩:=uO g.inv (r:=k+1) (n':=fresh true [(1,0),(0,1)] [d]) (by
    refine xG hc rfl rfl rfl rfl rfl (by simpa[fresh]using hc) aNw aY aY ?_ (.kU _ _ d rfl rfl (fun e=>by cases e));intro a b p;have:=lM p;subst this;rw[sM q,uM]
    exact⟨q,by omega⟩)
   simp only[Bool.false_eq_true,if_false];rw[k1];exact⟨_,_,_,rfl,(g.bO (by omega)).trans u,Cp rfl,by rw[v];exact le_refl _⟩
 obtain⟨f,h,y,x,o,n,D⟩:=Y;rw[x,Option.bind_some];simp only
 obtain ⟨k1,u,v⟩:=uO o.inv (r:=k+3200) (n':={ fresh true [(1,0),(0,1)] [y] with op:=op,aP:=true}) (by
  refine xG hc rfl rfl rfl rfl rfl (by simpa[fresh]using hc) aNw aY aY ?_ (.kU _ _ y rfl rfl (fun _=>⟨rfl,s,rfl,n,by rw[sM n.lt,uM];omega,rfl⟩));intro a b p;have:=lM p;subst this;rw[sM n.lt,uM]
  exact⟨n.lt,by omega⟩)
 rw[k1];have:=o.le.len;exact⟨_,_,_,rfl,(o.bO (by omega)).trans u,by simp,by rw[v];exact le_refl _,by omega⟩
theorem qB:∀(t:Wt) (ns:List Nd) (rho:NU),t.Ok->c<=3000->Inv ns rho c->∃E B d,of t ns=some (E,d)/\Grown ns rho c (3200*t.size) E B/\d<E.length/\B d<=3200*t.size/\ns.length<=d
 |.fr p q,ns,rho,i,hc,h=>by
  obtain⟨N,O,P⟩:=i
  obtain ⟨k1,z,A⟩:=uO h (r:=0) (n':=fresh (decide (0<=p)) [(p,q)] []) (by
   refine xG hc rfl rfl rfl rfl rfl (by simpa[fresh]using hc) ?_ aY aY (fun j a J=>by simp[fresh]at J) (.gM (p,q) rfl rfl rfl ?_)
   ·intro v hv;simp[fresh]at hv;subst hv;exact⟨eJ O (by decide),eJ P (by decide)⟩
   ·by_cases W:0<=p
    ·refine Or.inl ?_;show fits [fI one (p,q)]=true;rw[Gg,mV];exact Or.inl ⟨W,by simp only;omega,Or.inr N⟩
    ·refine Or.inr ⟨by simp[fresh];omega,rfl,by simp only;omega,N⟩)
  unfold of;rw[k1];exact⟨_,_,_,rfl,z.bO (by omega),by simp,by rw[A];omega,le_refl _⟩
 |.fK op ts,ns,rho,i,hc,h=>by
  obtain ⟨k1,z,A⟩:=uO h (r:=0) (n':={ fresh true [] [] with op:=op,terms:=ts}) (by
   refine xG hc rfl rfl rfl rfl rfl (by simpa[fresh]using hc) (fun v hv=>by simp[fresh]at hv) aY aY (fun j a J=>by simp[fresh]at J) (.fK rfl rfl rfl ?_)
   rcases i with e|e|e
   ·exact Or.inl e
   ·exact Or.inr (Or.inl e)
   ·exact Or.inr (Or.inr (Or.inl e)))
  unfold of;rw[k1];exact⟨_,_,_,rfl,z.bO (by omega),by simp,by rw[A];omega,le_refl _⟩
 |.neg t,ns,rho,i,hc,h=>by
  obtain⟨s,f,d,w,g,n,rd,y⟩:=qB t ns rho i hc h
  obtain ⟨k1,z,A⟩:=uO g.inv (r:=3200*t.size+1) (n':=fresh false [(-1,0),(0,1)] [d]) (by
   refine xG hc rfl rfl rfl rfl rfl (by simpa[fresh]using hc) ?_ aY aY ?_ (.kU _ _ d rfl rfl (fun e=>by cases e))
   ·intro v hv;simp[fresh]at hv
    rcases hv with rfl|rfl
    ·exact⟨yX (eK (by decide)),aY⟩
    ·exact⟨aY,eK (by decide)⟩
   ·intro j b U;have:=lM U;subst this;rw[sM n,uM]
    exact⟨n,by omega⟩)
  unfold of;rw[w,Option.bind_some,k1];have:=g.le.len;exact⟨_,_,_,rfl,((g.bO (by omega)).trans z).bO (by simp[Wt.size];omega),by simp,by rw[A];simp[Wt.size];omega,by simp only;omega⟩
 |.two k a b,ns,rho,i,hc,h=>by
  obtain⟨s,f,d,w,I,n,rd,y⟩:=qB a ns rho i.1 hc h;obtain⟨u,l,e,R,F,L,re,M⟩:=qB b s f i.2 hc I.inv;have D:d<u.length:=Nat.lt_of_lt_of_le n F.le.len;have rd2:l d=f d:=F.agree d n
  obtain ⟨k1,z,A⟩:=uO F.inv (r:=3200*(a.size+b.size)+1) (n':=two k u[d].pos u[e].pos d e) (by
   refine xG hc rfl rfl rfl rfl rfl (by simpa[two,fresh]using hc) (aMO k) aY aY ?_ ?_
   ·intro j x X
    rcases args2 X with rfl|rfl
    ·rw[sM D,uM];exact⟨D,by omega⟩
    ·rw[sM L,uM];exact⟨L,by omega⟩
   ·cases k
    ·exact .bin d e _ _ _ _ rfl rfl rfl
    ·exact .bin d e _ _ _ _ rfl rfl rfl
    ·exact .bin d e _ _ _ _ rfl rfl rfl
    ·exact .bin d e _ _ _ _ rfl rfl rfl)
  unfold of;rw[w,Option.bind_some];simp only;rw[R,Option.bind_some,List.getElem?_eq_getElem D,Option.bind_some,List.getElem?_eq_getElem L,Option.bind_some,k1];have Y:=I.le.len;have l2:=F.le.len;exact⟨_,_,_,rfl,(((I.bO (by omega)).trans (F.bO (by omega))).trans z).bO (by simp[Wt.size];omega),by simp,by rw[A];simp[Wt.size];omega,by simp only;omega⟩
 |.fn op (.fr p q),ns,rho,i,hc,h=>by
  obtain⟨M,S,T⟩:=i;obtain⟨k1,z,A⟩:=S;obtain⟨s,f,d,w,g,n,pd⟩:=aEV h hc M (T p q rfl) k1 z A;have:=g.jG d n pd.lt;unfold of;exact⟨_,_,_,w,g.bO (by simp[Wt.size]),pd.lt,by simp[Wt.size];omega,n⟩
 |.fn op (.fK o ts),ns,rho,i,hc,h=>by
  obtain⟨s,f,d,w,g,n,rd,y⟩:=qB (.fK o ts) ns rho i.2.1 hc h;obtain⟨u,l,e,f1,f2,f3,H,C⟩:=Xj (t:=.fK o ts) hc i.1 g n rd y;unfold of;rw[w,Option.bind_some];exact⟨_,_,_,f1,f2.bO (by simp[Wt.size]),f3,by simp[Wt.size]at *;omega,C⟩
 |.fn op (.neg t),ns,rho,i,hc,h=>by
  obtain⟨s,f,d,w,g,n,rd,y⟩:=qB (.neg t) ns rho i.2.1 hc h;obtain⟨u,l,e,f1,f2,f3,H,C⟩:=Xj (t:=.neg t) hc i.1 g n rd y;unfold of;rw[w,Option.bind_some];exact⟨_,_,_,f1,f2.bO (by simp[Wt.size];omega),f3,by simp[Wt.size]at *;omega,C⟩
 |.fn op (.two k a b),ns,rho,i,hc,h=>by
  obtain⟨s,f,d,w,g,n,rd,y⟩:=qB (.two k a b) ns rho i.2.1 hc h;obtain⟨u,l,e,f1,f2,f3,H,C⟩:=Xj (t:=.two k a b) hc i.1 g n rd y;unfold of;rw[w,Option.bind_some];exact⟨_,_,_,f1,f2.bO (by simp[Wt.size];omega),f3,by simp[Wt.size]at *;omega,C⟩
 |.fn op (.fn o t),ns,rho,i,hc,h=>by
  obtain⟨s,f,d,w,g,n,rd,y⟩:=qB (.fn o t) ns rho i.2.1 hc h;obtain⟨u,l,e,f1,f2,f3,H,C⟩:=Xj (t:=.fn o t) hc i.1 g n rd y;unfold of;rw[w,Option.bind_some];exact⟨_,_,_,f1,f2.bO (by simp[Wt.size];omega),f3,by simp[Wt.size]at *;omega,C⟩
theorem Vq (rho:NU)(c:Nat):Inv [] rho c:=⟨fun i n h=>by simp at h⟩
end
end Rf
namespace Ab
open Rf (Nd Inv aZ Wt)
def xD (w:World)(b0:Nat)(own:Nat->Option Own)(at':NU)(ns:List Nd):Prop:=∀i n,ns[i]?=some n->cK w b0 own at' ns i n
section
variable {w w':World} {b0:Nat} {own own':Nat->Option Own} {at1 at2:NU} {ns:List Nd} {rho:NU} {c:Nat}
theorem xD.more (h:xD w b0 own at1 ns)(p:Inv ns rho c){new:List Nd}(f:Chg w w' [])(d:∀k,k<w.heap.size->own' k=own k)(e:∀a,a<ns.length->at2 a=at1 a)(b:∀j l,new[j]?=some l->cK w' b0 own' at2 (ns++new) (ns.length+j) l):xD w' b0 own' at2 (ns++new):=by
 intro i n hi
 by_cases g:i<ns.length
 ·rw[List.getElem?_append_left g]at hi;exact(h i n hi).aS (i0:=ns.length+1) f aNz (by omega) g (Pg.Go.more _ _) (fun k o q r _=>by rw[d k q];exact r) e (p.at' i n hi)
 ·rw[List.getElem?_append_right (by omega)]at hi;have:=b _ _ hi;rw[show ns.length+(i-ns.length)=i by omega]at this;exact this
theorem xD.still (h:xD w b0 own at1 ns)(b:Inv ns rho c)(a:Chg w w' []):xD w' b0 own at1 ns:=by
 have:=h.more b (new:=[]) (own':=own) (at2:=at1) a (fun _ _=>rfl) (fun _ _=>rfl) (fun j e d=>by simp at d);rw[List.append_nil]at this;exact this
end
def dA:Rf.Kind->Int
 |.add=>6
 |.sub=>7
 |.mul=>8
 |.div=>9
def PartB (w:World)(k:Nat)(a:Int)(f:LB)(e b d:Value):Prop:=w.heap[k]?=some (.cells (.int .i64 a::f++[e,b,d]).toArray 131 (0,0))
def zL (w:World)(ts:LN)(v:Value):Prop:=∃g b,∃a:LB,v=.slice (some ⟨g,0,none⟩) ts.length b/\ts.length<=1000000/\w.heap[g]?=some (.cells (ts.map (fun t=>Value.int .i64 t)++a).toArray 3 (0,0))
def aJ (w:World):Wt->Value->Prop
 |.fr p q,v=>∃k h d f g,v=ptrB k/\PartB w k 1 h d f g/\aU true w [p,q] h/\One d/\One f/\One g
 |.fK op ts,v=>∃k h e d f g,v=ptrB k/\PartB w k (aH op) h d f g/\aU true w e h/\e.length=2/\(∀z∈e,Bits 1 z)/\One d/\One f/\One g/\(op=.cf->zL w ts d)
 |.neg t,v=>∃k h e d f g,v=ptrB k/\PartB w k 5 h d f g/\aU true w e h/\e.length=2/\(∀z∈e,Bits 1 z)/\One d/\One g/\aJ w t f
 |.two i a b,v=>∃k h e d f g,v=ptrB k/\PartB w k (dA i) h d f g/\aU true w e h/\e.length=2/\(∀z∈e,Bits 1 z)/\One d/\aJ w a f/\aJ w b g
 |.fn op t,v=>∃k h e d f g,v=ptrB k/\PartB w k (aH op) h d f g/\aU true w e h/\e.length=2/\(∀z∈e,Bits 1 z)/\One d/\One g/\aJ w t f
variable {k:Nat}{cs:Array Value}
theorem Fp {w w':World}(a:On Z.bt w w'){ty:TypeId}(h:w.heap[k]?=some (.cells cs ty (0,0)))(d:Ja.contains ty=false):w'.heap[k]?=some (.cells cs ty (0,0)):=by
 rcases a.bV k _ h with e|⟨e,_⟩
 ·exact e
 ·have b:Ja.contains ty=true:=e;rw[d]at b;cases b
theorem aJ.aS {w w':World}(d:On Z.bt w w'):∀(t:Wt) (v:Value),aJ w t v->aJ w' t v
 |.fr p q,v,⟨k,r,o,f,h,i,j,l,n⟩=>⟨k,r,o,f,h,i,Fp d j (by decide),mC d l,n⟩
 | .fK op ts,v,⟨k,r,y,o,f,h,i,j,l,n,s,u,x,h8,E⟩=>⟨k,r,y,o,f,h,i,Fp d j (by decide),mC d l,n,s,u,x,h8,fun e=>by
   obtain⟨g,A,z,C,B,D⟩:=E e
   exact⟨g,A,z,C,B,Fp d D (by decide)⟩⟩
 |.neg t,v,⟨k,r,y,o,f,h,i,j,l,n,s,u,x,h8⟩=>⟨k,r,y,o,f,h,i,Fp d j (by decide),mC d l,n,s,u,x,aJ.aS d t f h8⟩
 |.two F a b,v,⟨k,r,y,o,f,h,i,j,l,n,s,u,x,h8⟩=>⟨k,r,y,o,f,h,i,Fp d j (by decide),mC d l,n,s,u,aJ.aS d a f x,aJ.aS d b h h8⟩
 |.fn op t,v,⟨k,r,y,o,f,h,i,j,l,n,s,u,x,h8⟩=>⟨k,r,y,o,f,h,i,Fp d j (by decide),mC d l,n,s,u,x,aJ.aS d t f h8⟩
theorem aJ.ptr {w:World}:∀(t:Wt) (v:Value),aJ w t v->∃k,v=ptrB k
 |.fr p q,v,⟨k,h,g,e,f,d,_⟩=>⟨k,d⟩
 |.fK op ts,v,⟨k,h,zs,g,e,f,d,_⟩=>⟨k,d⟩
 |.neg t,v,⟨k,h,zs,g,e,f,d,_⟩=>⟨k,d⟩
 |.two kd a b,v,⟨k,h,zs,g,e,f,d,_⟩=>⟨k,d⟩
 |.fn op t,v,⟨k,h,zs,g,e,f,d,_⟩=>⟨k,d⟩
noncomputable def Sv (p q:Int):AS:=⟨.val (.agg (bJ true 0 1))::.val (.agg (bJ true 1 1))::List.replicate (f102.ntmps-2) .fX,[],0,[(p,1),(q,1)],[]⟩
noncomputable def Su (cv:Value):AS:=⟨.val (.one (.lit cv))::List.replicate (f103.ntmps-1) .fX,[],0,[],[]⟩
noncomputable def Lc (b:Bool):AS:=⟨.val (.one (.ptr 1 0))::List.replicate (f105.ntmps-1) .fX,[(1,ext [.bool b] 190)],3,[],[]⟩
noncomputable def Ld (d:Int)(a b:Bool):AS:=⟨.val (.one (.int .i64 d))::.val (.one (.ptr 1 0))::.val (.one (.ptr 2 0))::List.replicate (f106.ntmps-3) .fX,[(1,ext [.bool a] 190),(2,ext [.bool b] 190)],3,[],[]⟩
noncomputable def Rv (fn:Func)(s:AS):Option Tr:=run Z (aD tS) bT (aK Z (aD tS)) (fun _=>false) 1000 [.code (aE fn),.top fn] s
noncomputable def zG (fn:Func)(s:AS):AS:=(((Rv fn s).bind (dD [])).map (·.2)).getD ⟨[],[],0,[],[]⟩
structure fN (s:AS) (b:Nat) (c0:AC) (zs:LN) (cv lp rp:AC) (uns:Int):Prop where
 look:look s.boxes b=some ⟨c0::xW s b++[cv,.int .i64 0,lp,.int .i64 0,rp,.int .i64 0,.lit aI,.int .i64 uns,.lit aA,.int .i64 0],190,true,false,false⟩
 len:(xW s b).length=16
 num:numOf s.nums (xW s b)=some zs
theorem fN.at {n w:World}{q φ:LI}{s:AS}{b:Nat}{c0:AC}{hs:Bool}{f:LN}{cv lp rp:AC}{v:Int}{d g e:Value}(h:fN s b c0 f cv lp rp v)(r:RepW Z n q φ s w){m:Nat}(o:φ b=some (m,0))(i:∀x,relC Z φ s.nums w c0 x->x=.bool hs)(j:∀x,relC Z φ s.nums w cv x->x=d)(k:∀x,relC Z φ s.nums w lp x->x=g)(l:∀x,relC Z φ s.nums w rp x->x=e):
  n.heap.size<=m/\NodeAt w m f hs v 0 0 0 0 g e aI d aA:=by
 obtain⟨A,B,k1,u,y,z⟩:=zA r h.look rfl rfl;rw[o]at k1;cases k1;exact⟨z,aKJ y u h.len h.num i j (fun x a=>a) k (fun x a=>a) l (fun x a=>a) cL (fun x a=>a) cL (fun x a=>a)⟩
section
variable (p q:Int) (cv:Value)
theorem aZv:Rv f102 (Sv p q)=some (.ret (.val (.one (.ptr 10 0))) (zG f102 (Sv p q))):=by kernel_rfl
theorem aZu:fN (zG f102 (Sv p q)) 10 (.sbool (decide (Nm.cmp p 0<0))) [p,q,0,0,0,0,0,0] (.lit aA) (.lit aA) (.lit aA) 0:=⟨by kernel_rfl,by kernel_rfl,by kernel_rfl⟩
theorem aZt:clean (zG f102 (Sv p q))=true:=by kernel_rfl
theorem aZi:Rv f103 (Su cv)=some (.ret (.val (.one (.ptr 1 0))) (zG f103 (Su cv))):=by kernel_rfl
theorem aZh:fN (zG f103 (Su cv)) 1 (.bool false) [1,0,0,1,0,0,0,0] (.lit cv) (.lit aA) (.lit aA) 0:=⟨by kernel_rfl,by kernel_rfl,by kernel_rfl⟩
theorem aZg:clean (zG f103 (Su cv))=true:=by kernel_rfl
theorem aZP (b:Bool):Rv f105 (Lc b)=some (.ret (.val (.one (.ptr 3 0))) (zG f105 (Lc b))):=by kernel_rfl
theorem aZO (b:Bool):fN (zG f105 (Lc b)) 3 (.bool true) [-1,0,0,1,0,0,0,0] (.lit aA) (.lit aA) (.ptr 1 0) 0:=⟨by kernel_rfl,by kernel_rfl,by kernel_rfl⟩
theorem aZN (b:Bool):clean (zG f105 (Lc b))=true:=by kernel_rfl
def Sq:Rf.Kind->List Int
 |.add=>[0,0,1,0,1,0,0,1]
 |.sub=>[0,0,1,0,-1,0,0,1]
 |.mul=>[1,0,0,0,0,0,0,1]
 |.div=>[0,0,1,0,0,1,0,0]
def Na (d:Rf.Kind)(a b:Bool):Bool:=(match d with|.sub=>true|_=>false)||a||b
theorem bAn (d:Rf.Kind)(a b:Bool):Rv f106 (Ld (dA d) a b)=some (.ret (.val (.one (.ptr 24 0))) (zG f106 (Ld (dA d) a b))):=by
 cases d<;>cases a<;>cases b<;>kernel_rfl
theorem bAm (d:Rf.Kind)(a b:Bool):fN (zG f106 (Ld (dA d) a b)) 24 (.bool (Na d a b)) (Sq d) (.lit aA) (.ptr 1 0) (.ptr 2 0) 0:=by
 cases d<;>cases a<;>cases b<;>exact⟨by kernel_rfl,by kernel_rfl,by kernel_rfl⟩
theorem bAl (d:Rf.Kind)(a b:Bool):clean (zG f106 (Ld (dA d) a b))=true:=by
 cases d<;>cases a<;>cases b<;>kernel_rfl
end
theorem aSn (p:Int):decide (Nm.cmp p 0<0)=decide (p<0):=by
 by_cases h:p<0
 ·rw[Nm.iV h];simp[h]
 ·have a:Nm.cmp 0 0=0:=Nm.iU rfl
  rcases Int.lt_or_eq_of_le (Int.not_lt.1 h)with h1|h1
  ·rw[Nm.gX h1];simp[h]
  ·rw[<-h1,a]
def NewNd (w:World)(f:LN)(d:Bool)(a:Int)(lp rp cv:Value)(e:Ending)(b:World):Prop:=∃m,e=.returned (ptrB m)/\Chg w b []/\w.heap.size<=m/\NodeAt b m f d a 0 0 0 0 lp rp aI cv aA
variable {n:World}{w:Nat}
theorem zV {d:List AT}{ν:LV}:RepW Z n (fun _=>none) (fun _=>none) ⟨d,[],w,ν,[]⟩ n:=sN rfl (fun b B a=>(by cases a)) (fun _ _=>rfl) (fun _ _ _ e=>(by cases e))
variable {p:Int}
theorem aLF {q:Int}{i b:LB}(l:aU true n [p] i)(o:aU true n [q] b)(h:Bits 1 p)(k:Bits 1 q):Calls prog 102 #[.agg i.toArray,.agg b.toArray] n (NewNd n [p,q,0,0,0,0,0,0] (decide (p<0)) 0 aA aA aA):=by
 refine uD (φ:=fun _=>none) (s:=Sv p q) (vs:=[.agg (bJ true 0 1),.agg (bJ true 1 1)]) (args:=[.agg i.toArray,.agg b.toArray]) (bF func102 rfl rfl) (cZ nN) nW (by kernel_rfl) ⟨⟨i,rfl,?_⟩,⟨b,rfl,?_⟩,trivial⟩ zV (aZv p q) (fun r s=>r=.val (.one (.ptr 10 0))/\fN s 10 (.sbool (decide (Nm.cmp p 0<0))) [p,q,0,0,0,0,0,0] (.lit aA) (.lit aA) (.lit aA) 0/\clean s=true) ⟨rfl,aZu p q,aZt p q⟩ ?_
 ·exact sL [p] i 0 _ l (by simpa using h) fun j z a=>by
   match j,a with
   |0,a=>cases a;rfl
   |j+1,a=>simp at a
 ·exact sL [q] b 1 _ o (by simpa using k) fun j z a=>by
   match j,a with
   |0,a=>cases a;rfl
   |j+1,a=>simp at a
 ·rintro r s φ v y⟨rfl,f,hc⟩ hrel d;obtain⟨m,e⟩:=gW d f.look rfl rfl;have hv:v=ptrB m:=cN (ν:=s.nums) (w:=y) e v hrel;obtain⟨k1,g⟩:=f.at (hs:=decide (Nm.cmp p 0<0)) d e (fun x u=>u) cL cL cL;refine⟨m,by rw[hv],Chg.eF (RepF.below d hc),k1,?_⟩;rw[aSn]at g;exact g
theorem aJk {cv:Value}(e:One cv):Calls prog 103 #[cv] n (NewNd n [1,0,0,1,0,0,0,0] false 0 aA aA cv):=by
 refine uD (φ:=fun _=>none) (s:=Su cv) (vs:=[.one (.lit cv)]) (args:=[cv]) (bF func103 rfl rfl) (cZ nN) nW (by kernel_rfl) ⟨⟨rfl,e⟩,trivial⟩ zV (aZi cv) (fun r s=>r=.val (.one (.ptr 1 0))/\fN s 1 (.bool false) [1,0,0,1,0,0,0,0] (.lit cv) (.lit aA) (.lit aA) 0/\clean s=true) ⟨rfl,aZh cv,aZg cv⟩ ?_;rintro r s φ v h⟨rfl,d,hc⟩ hrel a;obtain⟨m,b⟩:=gW a d.look rfl rfl;have hv:v=ptrB m:=cN (ν:=s.nums) (w:=h) b v hrel;obtain⟨k1,g⟩:=d.at (hs:=false) a b (fun x f=>f) cL cL cL;exact⟨m,by rw[hv],Chg.eF (RepF.below a hc),k1,g⟩
theorem aJB {b:Bool}(g:∃i:LB,n.heap[w]?=some (.cells (.bool b::i).toArray 190 (0,0))):Calls prog 105 #[ptrB w] n (NewNd n [-1,0,0,1,0,0,0,0] true 0 aA (ptrB w) aA):=by
 obtain⟨i,e⟩:=g
 have d:RepW Z n (ph1 1 w) (ph1 1 w) (Lc b) n:=by
  refine sN rfl ?_ ?_ ?_
  ·intro A B l;have:=nC l;simp[Lc]at this;obtain⟨rfl,rfl⟩:=this;exact⟨rfl,rfl,rfl,w,0,rfl,[],[.bool b],i,e,rfl,rfl,trivial⟩
  ·intro b u;have:3<=b:=u;unfold ph1;rw[if_neg (by omega)]
  ·intro b C o a;unfold ph1 at a;split at a
   ·cases a;exact gE e
   ·cases a
 refine uD (s:=Lc b) (vs:=[.one (.ptr 1 0)]) (args:=[ptrB w]) (bF func105 rfl rfl) (cZ nN) nW (by kernel_rfl) ⟨⟨w,0,rfl,rfl⟩,trivial⟩ d (aZP b) (fun r s=>r=.val (.one (.ptr 3 0))/\fN s 3 (.bool true) [-1,0,0,1,0,0,0,0] (.lit aA) (.lit aA) (.ptr 1 0) 0/\clean s=true) ⟨rfl,aZO b,aZN b⟩ ?_;rintro r s φ v z⟨rfl,k,hc⟩ hrel f;obtain⟨m,j⟩:=gW f k.look rfl rfl;have hv:v=ptrB m:=cN (ν:=s.nums) (w:=z) j v hrel;have h:φ 1=some (w,0):=f.base 1 (w,0) rfl;obtain⟨k1,y⟩:=k.at (hs:=true) f j (fun x g=>g) cL cL (cN h);exact⟨m,by rw[hv],Chg.eF (RepF.below f hc),k1,y⟩
def phQ (x y:Nat):Nat->Option (Nat×Nat)
 |1=>some (x,0)
 |2=>some (y,0)
 |_=>none
theorem aLW {a b:Bool}(e:Rf.Kind)(l:∃j:LB,n.heap[w]?=some (.cells (.bool a::j).toArray 190 (0,0)))(E:∃j:LB,n.heap[k]?=some (.cells (.bool b::j).toArray 190 (0,0))):Calls prog 106 #[.int .i64 (dA e),ptrB w,ptrB k] n (NewNd n (Sq e) (Na e a b) 0 (ptrB w) (ptrB k) aA):=by
 obtain⟨j,h⟩:=l;obtain⟨I,i⟩:=E
 have f:RepW Z n (phQ w k) (phQ w k) (Ld (dA e) a b) n:=by
  refine sN rfl ?_ ?_ ?_
  ·intro J B C;have:=nC C;simp[Ld]at this
   rcases this with⟨rfl,rfl⟩|⟨rfl,rfl⟩
   ·exact⟨rfl,rfl,rfl,w,0,rfl,[],[.bool a],j,h,rfl,rfl,trivial⟩
   ·exact⟨rfl,rfl,rfl,k,0,rfl,[],[.bool b],I,i,rfl,rfl,trivial⟩
  ·intro b D;have:3<=b:=D
   match b,this with
   |b+3,_=>rfl
  ·intro b L o d
   match b,d with
   |0,d=>cases d
   |1,d=>cases d;exact gE h
   |2,d=>cases d;exact gE i
   |b+3,d=>cases d
 refine uD (s:=Ld (dA e) a b) (vs:=[.one (.int .i64 (dA e)),.one (.ptr 1 0),.one (.ptr 2 0)]) (args:=[.int .i64 (dA e),ptrB w,ptrB k]) (bF func106 rfl rfl) (cZ nN) nW (by kernel_rfl) ⟨rfl,⟨w,0,rfl,rfl⟩,⟨k,0,rfl,rfl⟩,trivial⟩ f (bAn e a b) (fun r s=>r=.val (.one (.ptr 24 0))/\fN s 24 (.bool (Na e a b)) (Sq e) (.lit aA) (.ptr 1 0) (.ptr 2 0) 0/\clean s=true) ⟨rfl,bAm e a b,bAl e a b⟩ ?_;rintro r s φ v H⟨rfl,A,hc⟩ hrel g;obtain⟨m,z⟩:=gW g A.look rfl rfl;have hv:v=ptrB m:=cN (ν:=s.nums) (w:=H) z v hrel;have u:φ 1=some (w,0):=g.base 1 (w,0) rfl;have y:φ 2=some (k,0):=g.base 2 (k,0) rfl;obtain⟨k1,F⟩:=A.at (hs:=Na e a b) g z (fun x l=>l) cL (cN u) (cN y);exact⟨m,by rw[hv],Chg.eF (RepF.below g hc),k1,F⟩
def sA (a:Int)(tv lv rv:Value)(b:List AT):AS:=⟨b,[(0,ext (.int .i64 a::Dx 4++[.lit tv,.lit lv,.lit rv]) 131)],1,[],[]⟩
def Hc (p q:Int)(tv lv rv:Value)(a:List AT):AS:=⟨a,[(0,ext (.int .i64 1::bJ true 0 2++[.lit tv,.lit lv,.lit rv]) 131)],1,[(p,1),(q,1)],[]⟩
def sE (d:Nat)(v:Value):AS:=⟨slot [(d,litT v)] 0 83,[],0,[],[]⟩
def pD (d:Nat)(o:Oper):Bool:=o.dst==some d
noncomputable def rN:Nat×Array Oper×List (K (List AT)):=xY (aF 102) f78
noncomputable def rC:Nat×Array Oper×List (K (List AT)):=xY (aF 103) f78
noncomputable def rF:Nat×Array Oper×List (K (List AT)):=xY (aF 104) f78
def stM (a:List (K (List AT))):Bool:=sP (fun o=>aF 102 o||aF 103 o||aF 104 o) a||lN (fun o=>aF 78 o||aF 106 o) a
abbrev Cz:List AT:=P0::List.replicate 82 .fX
noncomputable def vD (b:PH)(a:List (K (List AT)))(s:AS):Option XT:=(run Z (aD tS) bT (aK Z (aD tS)) stM 400 a s).bind (eD (eX [0] [] 1 []) (eX [0] b 1 []))
noncomputable def mK:List (K (List AT)):=[.code (aE f78),.top f78]
noncomputable def oM (a:List (K (List AT)))(s:AS):Option Tr:=run Z (aD tS) bT (aK Z (aD tS)) (fun _=>false) 50 a s
def jA:Tr->Option (AT×Bool)
 |.ret r s=>some (r,clean s)
 |_=>none
section
variable (p q:Int) (tv lv rv v v1 v2:Value)
theorem w_N:vD [0] mK (Hc p q tv lv rv Cz)=some (.stp (.code (.region rN.1 rN.2.1 true)::rN.2.2) (Hc p q tv lv rv (slot [(0,P0)] 0 83))):=by kernel_rfl
theorem w_C {v:Int}(h:v=2\/v=3\/v=4):vD [0] mK (sA v tv lv rv Cz)=some (.stp (.code (.region rC.1 rC.2.1 true)::rC.2.2) (sA v tv lv rv (slot [(0,P0)] 0 83))):=by
 rcases h with rfl|rfl|rfl<;>kernel_rfl
theorem w_F {v:Int}(h:v=10\/v=11\/v=12\/v=13):vD [0] mK (sA v tv lv rv Cz)=some (.stp (.code (.region rF.1 rF.2.1 true)::rF.2.2) (sA v tv lv rv (slot [(0,P0)] 0 83))):=by
 rcases h with rfl|rfl|rfl|rfl<;>kernel_rfl
theorem w_M:vD [0,58] mK (sA 5 tv lv rv Cz)=some (.stp (dY (pD 59) f78) (sA 5 tv lv rv (slot [(0,P0),(58,litT lv)] 0 83))):=by kernel_rfl
theorem w_B (a:Rf.Kind):vD [0,69] mK (sA (dA a) tv lv rv Cz)=some (.stp (dY (pD 70) f78) (sA (dA a) tv lv rv (slot [(0,P0),(69,litT lv)] 0 83))):=by
 cases a<;>kernel_rfl
theorem bAX (a:Rf.Kind):vD [0,3,74] (fJ (pD 70) f78) (sA (dA a) tv lv rv (slot [(0,P0),(70,litT v1)] 0 83))=some (.stp (dY (pD 75) f78) (sA (dA a) tv lv rv (slot [(0,P0),(3,litT v1),(74,litT rv)] 0 83))):=by
 cases a<;>kernel_rfl
theorem bAY (a:Rf.Kind):vD [0,79,80,81] (fJ (pD 75) f78) (sA (dA a) tv lv rv (slot [(0,P0),(3,litT v1),(75,litT v2)] 0 83))=some (.stp (dY (pD 82) f78) (sA (dA a) tv lv rv (slot [(0,P0),(79,.val (.one (.int .i64 (dA a)))),(80,litT v1),(81,litT v2)] 0 83))):=by
 cases a<;>kernel_rfl
theorem t_N:(oM (.ops rN.2.1 [11]::rN.2.2) (sE 23 v)).bind jA=some (litT v,true):=by kernel_rfl
theorem t_C:(oM (.ops rC.2.1 [11]::rC.2.2) (sE 38 v)).bind jA=some (litT v,true):=by kernel_rfl
theorem t_F:(oM (.ops rF.2.1 [9]::rF.2.2) (sE 52 v)).bind jA=some (litT v,true):=by kernel_rfl
theorem t_M:(oM (fJ (pD 60) f78) (sE 60 v)).bind jA=some (litT v,true):=by kernel_rfl
theorem t_B:(oM (fJ (pD 82) f78) (sE 82 v)).bind jA=some (litT v,true):=by kernel_rfl
noncomputable def dN:AS:=((aK Z (aD tS) (rN.2.1.extract 0 10) (Hc p q tv lv rv (slot [(0,P0)] 0 83))).getD (⟨[],[],0,[],[]⟩,[])).1
noncomputable def dC (a:Int):AS:=((aK Z (aD tS) (rC.2.1.extract 0 10) (sA a tv lv rv (slot [(0,P0)] 0 83))).getD (⟨[],[],0,[],[]⟩,[])).1
noncomputable def dF (a:Int):AS:=((aK Z (aD tS) (rF.2.1.extract 0 8) (sA a tv lv rv (slot [(0,P0)] 0 83))).getD (⟨[],[],0,[],[]⟩,[])).1
theorem d_N:aK Z (aD tS) (rN.2.1.extract 0 10) (Hc p q tv lv rv (slot [(0,P0)] 0 83))=some (dN p q tv lv rv,[]):=by kernel_rfl
theorem d_C (a:Int):aK Z (aD tS) (rC.2.1.extract 0 10) (sA a tv lv rv (slot [(0,P0)] 0 83))=some (dC tv lv rv a,[]):=by kernel_rfl
theorem d_F (a:Int):aK Z (aD tS) (rF.2.1.extract 0 8) (sA a tv lv rv (slot [(0,P0)] 0 83))=some (dF tv lv rv a,[]):=by kernel_rfl
theorem aWO:sS rN.2.1 10=true/\10<rN.2.1.size/\(List.range rN.2.1.size).drop 10=[10,11]:=⟨by kernel_rfl,Nat.lt_of_lt_of_eq (by decide:10<12) (by kernel_rfl),by kernel_rfl⟩
theorem aWM:sS rC.2.1 10=true/\10<rC.2.1.size/\(List.range rC.2.1.size).drop 10=[10,11]:=⟨by kernel_rfl,Nat.lt_of_lt_of_eq (by decide:10<12) (by kernel_rfl),by kernel_rfl⟩
theorem aWN:sS rF.2.1 8=true/\8<rF.2.1.size/\(List.range rF.2.1.size).drop 8=[8,9]:=⟨by kernel_rfl,Nat.lt_of_lt_of_eq (by decide:8<10) (by kernel_rfl),by kernel_rfl⟩
theorem c_N:cM Z (dN p q tv lv rv) (.ops rN.2.1 [10,11]::rN.2.2)=some (102,[.agg (bJ true 0 1),.agg (bJ true 1 1)],some 23,.ops rN.2.1 [11]::rN.2.2):=by kernel_rfl
theorem c_C (a:Int):cM Z (dC tv lv rv a) (.ops rC.2.1 [10,11]::rC.2.2)=some (103,[.one (.ptr 10 0)],some 38,.ops rC.2.1 [11]::rC.2.2):=by kernel_rfl
theorem c_F (a:Int):cM Z (dF tv lv rv a) (.ops rF.2.1 [8,9]::rF.2.2)=some (104,[.one (.int .i64 a),.one (.lit lv)],some 52,.ops rF.2.1 [9]::rF.2.2):=by kernel_rfl
theorem c_M:cM Z (sA 5 tv lv rv (slot [(0,P0),(58,litT lv)] 0 83)) (dY (pD 59) f78)=some (78,[.one (.lit lv)],some 59,dY (pD 60) f78):=by kernel_rfl
theorem aZb:cM Z (sE 59 v) (dY (pD 60) f78)=some (105,[.one (.lit v)],some 60,fJ (pD 60) f78):=by kernel_rfl
theorem c_B (a:Int):cM Z (sA a tv lv rv (slot [(0,P0),(69,litT lv)] 0 83)) (dY (pD 70) f78)=some (78,[.one (.lit lv)],some 70,fJ (pD 70) f78):=by kernel_rfl
theorem aY9 (a:Int):cM Z (sA a tv lv rv (slot [(0,P0),(3,litT v1),(74,litT rv)] 0 83)) (dY (pD 75) f78)=some (78,[.one (.lit rv)],some 75,fJ (pD 75) f78):=by kernel_rfl
theorem aZa (a:Int):cM Z (sA a tv lv rv (slot [(0,P0),(79,.val (.one (.int .i64 a))),(80,litT v1),(81,litT v2)] 0 83)) (dY (pD 82) f78)=some (106,[.one (.int .i64 a),.one (.lit v1),.one (.lit v2)],some 82,fJ (pD 82) f78):=by kernel_rfl
theorem Qi:noFr (rN.2.2)=true/\noFr (rC.2.2)=true/\noFr (rF.2.2)=true/\noFr (dY (pD 59) f78)=true/\noFr (dY (pD 60) f78)=true/\noFr (dY (pD 70) f78)=true/\noFr (dY (pD 75) f78)=true/\noFr (dY (pD 82) f78)=true/\noFr (fJ (pD 60) f78)=true/\noFr (fJ (pD 70) f78)=true/\noFr (fJ (pD 75) f78)=true/\noFr (fJ (pD 82) f78)=true:=⟨by kernel_rfl,by kernel_rfl,by kernel_rfl,by kernel_rfl,by kernel_rfl,by kernel_rfl,by kernel_rfl,by kernel_rfl,by kernel_rfl,by kernel_rfl,by kernel_rfl,by kernel_rfl⟩
theorem aSw:(dN p q tv lv rv).nums=[(p,1),(q,1)]:=by kernel_rfl
theorem aVv:(dN p q tv lv rv).tmps.length=83:=by kernel_rfl
theorem aWW:clean (dN p q tv lv rv)=true:=by kernel_rfl
theorem aVs (a:Int):(dC tv lv rv a).tmps.length=83:=by kernel_rfl
theorem aWU (a:Int):clean (dC tv lv rv a)=true:=by kernel_rfl
theorem aVu (a:Int):(dF tv lv rv a).tmps.length=83:=by kernel_rfl
theorem aWV (a:Int):clean (dF tv lv rv a)=true:=by kernel_rfl
theorem aSv (a:Int):look (dC tv lv rv a).boxes 10=some ⟨.int .i64 a::.lit tv::(qR (dC tv lv rv a) 10).drop 2,164,true,false,false⟩:=by kernel_rfl
theorem aVt (a:Int):numOf (dC tv lv rv a).nums ((qR (dC tv lv rv a) 10).drop 2)=some [0,0,0,0,0,0,0,0]:=by kernel_rfl
theorem Zy:∀(ts:List AT) (i:Nat),jE [] [] i ts=List.replicate ts.length .top
 | [],_=>rfl
 |t::r,i=>by show AT.top::jE [] [] (i+1) r=_;rw[Zy r (i+1)];rfl
theorem aWb {d:Nat}{v:Value}{ts:List AT}(h:ts.length=83)(a:putT (List.replicate 83 .top) (some d) (litT v)=slot [(d,litT v)] 0 83):(sE d v).tmps=putT (jE [] [] 0 ts) (some d) (litT v):=by
 rw[Zy,h];exact a.symm
end
theorem NewNd.on {w b J:World}{zs:LN}{hs:Bool}{uns:Int}{lp rp a:Value}{e:Ending}(h:NewNd w zs hs uns lp rp a e b)(hc:Chg b J []):NewNd w zs hs uns lp rp a e J:=by
 obtain⟨m,f,g,i,d⟩:=h;exact⟨m,f,g.trans hc,i,d.aS hc.on (hc.low m d.lt (by simp))⟩
variable {w:World}
theorem NewNd.up {b J:World}{s:LN}{a:Bool}{v:Int}{lp rp d:Value}{e:Ending}(h:NewNd b s a v lp rp d e J)(hc:Chg w b []):NewNd w s a v lp rp d e J:=by
 obtain⟨m,f,g,i,j⟩:=h;exact⟨m,f,hc.trans g,Nat.le_trans hc.on.size i,j⟩
variable {xs:LB}{tv lv rv:Value}
theorem PartB.on {b:World}{kd:Int}(h:PartB w k kd xs tv lv rv)(hc:Chg w b []):PartB b k kd xs tv lv rv:=hc.at h (by simp)
theorem Mo {kd:Int}(h:PartB w k kd xs tv lv rv)(d:xs.length=4)(g:∀x∈xs,One x)(o1:One tv)(o2:One lv)(o3:One rv)(i:List AT):RepW Z w (ph1 0 k) (ph1 0 k) (sA kd tv lv rv i) w:=by
 refine sN rfl ?_ ?_ ?_
 ·intro b B e;have:=nC e;simp only[sA,mem_singleton,Prod.mk.injEq]at this;obtain⟨rfl,rfl⟩:=this;refine⟨rfl,rfl,rfl,k,0,rfl,[],.int .i64 kd::xs++[tv,lv,rv],[],(show w.heap[k]?=some (.cells ([]++(Value.int .i64 kd::xs++[tv,lv,rv])++[]).toArray 131 (0,0)) by simpa[PartB]using h),rfl,rfl,?_⟩;exact(Vu 4 xs d g).append ⟨⟨rfl,o1⟩,⟨rfl,o2⟩,⟨rfl,o3⟩,trivial⟩
 ·intro b f;have:1<=b:=f;unfold ph1;rw[if_neg (by omega)]
 ·intro b j o a;unfold ph1 at a;split at a
  ·cases a;exact gE h
  ·cases a
theorem aSW {q:Int}(h:PartB w k 1 xs tv lv rv)(g:aU true w [p,q] xs)(e:∀z∈[p,q],Bits 1 z)(o1:One tv)(o2:One lv)(o3:One rv)(i:List AT):RepW Z w (ph1 0 k) (ph1 0 k) (Hc p q tv lv rv i) w:=by
 refine sN rfl ?_ ?_ ?_
 ·intro b B f;have:=nC f;simp only[Hc,mem_singleton,Prod.mk.injEq]at this;obtain⟨rfl,rfl⟩:=this;refine⟨rfl,rfl,rfl,k,0,rfl,[],.int .i64 1::xs++[tv,lv,rv],[],(show w.heap[k]?=some (.cells ([]++(Value.int .i64 1::xs++[tv,lv,rv])++[]).toArray 131 (0,0)) by simpa[PartB]using h),rfl,rfl,?_⟩;refine(sL [p,q] xs 0 _ g e fun j z d=>?_).append ⟨⟨rfl,o1⟩,⟨rfl,o2⟩,⟨rfl,o3⟩,trivial⟩
  match j,d with
  |0,d=>cases d;rfl
  |1,d=>cases d;rfl
  |j+2,d=>simp at d
 ·intro b e;have:1<=b:=e;unfold ph1;rw[if_neg (by omega)]
 ·intro b l o a;unfold ph1 at a;split at a
  ·cases a;exact gE h
  ·cases a
theorem lH:∀b x,ph1 0 k b=some x->[0].contains b=true:=by
 intro b x e;unfold ph1 at e;split at e
 ·subst_vars;rfl
 ·cases e
variable {R:NN}
theorem aTI {d:Nat}{v:Value}{o:List (K (List AT))}(y:(oM o (sE d v)).bind jA=some (litT v,true))(q:∀f,Chg n f []->R (.returned v) f){e:List (K Act)}{a:Act}(g:∀l j i,SR Z l j i o e)(u:Rep Z n (fun _=>none) (fun _=>none) (sE d v) a n):gC Z.P R e .normal a n:=by
 obtain⟨B,p,b⟩:=aT y
 match B,b with
 |.ret r s,b=>
  simp only[jA,Option.some.injEq,Prod.mk.injEq]at b;obtain⟨rfl,hc⟩:=b;refine sI (cZ nN) nW (pN mixed (cZ nN)) (fun r s=>r=litT v/\clean s=true) (fun _ _=>False) (fun _ _ h=>h.elim) ?_ _ _ _ _ p ⟨rfl,hc⟩ e _ a n (g _ _ _) u;rintro r s φ x f⟨rfl,hc⟩ hrel z;have A:x=v:=hrel.1;rw[A];exact q f (Chg.eF (RepF.below z hc))
 |.br _ _ _,b=>cases b
 |.need _ _,b=>cases b
 |.stop _ _,b=>cases b
variable {φ:LI}
theorem Pk {d:Nat}{q:LI}{s:AS}{a:Act}{u j:List (K (List AT))}{i:List (K Act)}{M:FuncId}{C:List AV}(h:cM Z s u=some (M,C,some d,j))(l:Enters Z.P M)(o:noFr u=true)(p:∀z y x,SR Z z y x u i)(A:Rep Z n q φ s a w)(L:s.tmps.length=83)(O:∀v,putT (List.replicate 83 .top) (some d) (litT v)=slot [(d,litT v)] 0 83)(S:∀v,(oM j (sE d v)).bind jA=some (litT v,true))
  (H:∀xs:LB,All2 (dW Z φ s.nums w) C xs->Calls Z.P M xs.toArray w fun e D=>∃v,e=.returned v/\One v/\∀E,Chg D E []->R (.returned v) E):gC Z.P R i .normal a w:=by
 refine pP h l o (p φ s.nums w) A fun xs r=>(H xs r).mono ?_
 rintro e D⟨v,rfl,N,F⟩;refine⟨v,rfl,fun B J g=>?_⟩;exact aTI (S v) F g (nM (kb:=[]) (kt:=[]) A zV (aWb L (O v)) (fun b I=>by simp at I) ⟨rfl,N⟩)
section
variable {w:World} {k:Nat} {kd:Int} {xs:LB} {tv lv rv:Value} {R:NN}
theorem Dm (m:Nat):One (ptrB m):=rfl
theorem aVS {q:Int}(W:PartB w k 1 xs tv lv rv)(Y:aU true w [p,q] xs)(o:∀z∈[p,q],Bits 1 z)(o1:One tv)(o2:One lv)(o3:One rv):Calls prog 78 #[ptrB k] w (NewNd w [p,q,0,0,0,0,0,0] (decide (p<0)) 0 aA aA aA):=by
 have F:=bF func78 rfl rfl;refine nV F (φ:=ph1 0 k) (vs:=[.one (.ptr 0 0)]) (args:=[ptrB k]) (s:=Hc p q tv lv rv Cz) (by kernel_rfl) ⟨⟨k,0,rfl,rfl⟩,trivial⟩ (aSW W Y o o1 o2 o3 _) ?_;refine cC (cZ nN) nW lH (jD lH) (w_N p q tv lv rv) (fun _ _=>False) (fun L s=>L=.code (.region rN.1 rN.2.1 true)::rN.2.2/\s=Hc p q tv lv rv (slot [(0,P0)] 0 83)) ⟨rfl,rfl⟩ (fun _ _ _ _ _ h=>h.elim) ?_;rintro L s⟨rfl,rfl⟩;have b:noFr rN.2.2=true:=Qi.1;refine⟨by simpa[noFr]using b,fun E H a1 M f x=>?_⟩;obtain⟨O,S,bd⟩:=aWO
 match E,f H [] M with
 |.code cc::i,⟨u,g⟩=>
 subst u;show(Code.region rN.1 rN.2.1 true).wp Z.P _ a1 M;refine Lr mixed (cZ nN) S O (d_N p q tv lv rv) gG x ?_;intro af N l d;rw[bd];have c2:Chg w l []:=Chg.eF (RepF.below d.wd (aWW p q tv lv rv));show gC Z.P _ (.ops rN.2.1 [10,11]::i) .normal N l;refine Pk (c_N p q tv lv rv) (bF func102 rfl rfl).en (by simpa[noFr]using b) (fun ae ad ab=>⟨rfl,rfl,SR.any b g⟩) d (aVv p q tv lv rv) (fun v=>by kernel_rfl) t_N ?_;intro us B
 match us,B with
 | [u1,u2],⟨⟨x1,y,C⟩,⟨x2,A,D⟩,_⟩=>
 rw[y,A];have J:=aSw p q tv lv rv
 have T:aU true l [p] x1:=Mi [p] 0 x1 C (by
  intro j z a;rw[J]
  match j,a with
  |0,a=>cases a;exact⟨1,rfl⟩
  |j+1,a=>simp at a)
 have U:aU true l [q] x2:=Mi [q] 1 x2 D (by
  intro j z a;rw[J]
  match j,a with
  |0,a=>cases a;exact⟨1,rfl⟩
  |j+1,a=>simp at a)
 refine(aLF T U (o p (by simp)) (o q (by simp))).mono ?_;rintro e w3 n;obtain⟨m,I,X⟩:=id n;rw[I]at n;exact⟨ptrB m,I,Dm m,fun w4 r=>(n.on r).up c2⟩
theorem aVQ (q:kd=2\/kd=3\/kd=4)(W:PartB w k kd xs tv lv rv)(U:xs.length=4)(hx:∀x∈xs,One x)(o1:One tv)(o2:One lv)(o3:One rv):Calls prog 78 #[ptrB k] w fun e A=>∃a,∃cs:LB,NewNd w [1,0,0,1,0,0,0,0] false 0 aA aA (ptrB a) e A/\A.heap[a]?=some (.cells (.int .i64 kd::tv::cs).toArray 164 (0,0))/\aU true A [0,0,0,0,0,0,0,0] cs/\w.heap.size<=a:=by
 have F:=bF func78 rfl rfl;refine nV F (φ:=ph1 0 k) (vs:=[.one (.ptr 0 0)]) (args:=[ptrB k]) (s:=sA kd tv lv rv Cz) (by kernel_rfl) ⟨⟨k,0,rfl,rfl⟩,trivial⟩ (Mo W U hx o1 o2 o3 _) ?_;refine cC (cZ nN) nW lH (jD lH) (w_C tv lv rv q) (fun _ _=>False) (fun I s=>I=.code (.region rC.1 rC.2.1 true)::rC.2.2/\s=sA kd tv lv rv (slot [(0,P0)] 0 83)) ⟨rfl,rfl⟩ (fun _ _ _ _ _ h=>h.elim) ?_;rintro I s⟨rfl,rfl⟩;have b:noFr rC.2.2=true:=Qi.2.1;refine⟨by simpa[noFr]using b,fun z D a1 L g r=>?_⟩;obtain⟨N,O,bd⟩:=aWM
 match z,g D [] L with
 |.code cc::j,⟨p,i⟩=>
 subst p;show(Code.region rC.1 rC.2.1 true).wp Z.P _ a1 L;refine Lr mixed (cZ nN) O N (d_C tv lv rv kd) gG r ?_;intro ai M B d;rw[bd];have c2:Chg w B []:=Chg.eF (RepF.below d.wd (aWU tv lv rv kd));show gC Z.P _ (.ops rC.2.1 [10,11]::j) .normal M B;refine Pk (c_C tv lv rv kd) (bF func103 rfl rfl).en (by simpa[noFr]using b) (fun ah ag af=>⟨rfl,rfl,SR.any b i⟩) d (aVs tv lv rv kd) (fun v=>by kernel_rfl) t_C ?_;intro us y
 match us,y with
 | [J],⟨u,_⟩=>
 obtain⟨a,C,k1,H,k3,k4⟩:=zA d.wd (aSv tv lv rv kd) rfl rfl;have Y:J=ptrB a:=cN (ν:=(dC tv lv rv kd).nums) (w:=B) k1 J u;rw[Y];refine(aJk (Dm a)).mono ?_;rintro e w3 n;obtain⟨m,E,o,X⟩:=id n;rw[E]at n;refine⟨ptrB m,E,Dm m,fun w4 f=>?_⟩
 match C,k3 with
 |y1::y2::C,⟨l,S,T⟩=>
 have l:y1=.int .i64 kd:=l;rw[l,show y2=tv from S.1]at H;have hc:=o.trans f;exact⟨a,C,(n.on f).up c2,hc.at H (by simp),mC hc.on (Il _ _ _ (aVt tv lv rv kd) T),k4⟩
theorem aRv (q:kd=10\/kd=11\/kd=12\/kd=13)(I:PartB w k kd xs tv lv rv)(H:xs.length=4)(J:∀x∈xs,One x)(o1:One tv)(o2:One lv)(o3:One rv)(a:∀n,Chg w n []->Calls prog 104 #[.int .i64 kd,lv] n fun e o=>∃v,e=.returned v/\One v/\∀B,Chg o B []->R (.returned v) B):Calls prog 78 #[ptrB k] w R:=by
 have F:=bF func78 rfl rfl;refine nV F (φ:=ph1 0 k) (vs:=[.one (.ptr 0 0)]) (args:=[ptrB k]) (s:=sA kd tv lv rv Cz) (by kernel_rfl) ⟨⟨k,0,rfl,rfl⟩,trivial⟩ (Mo I H J o1 o2 o3 _) ?_;refine cC (cZ nN) nW lH (jD lH) (w_F tv lv rv q) (fun _ _=>False) (fun A s=>A=.code (.region rF.1 rF.2.1 true)::rF.2.2/\s=sA kd tv lv rv (slot [(0,P0)] 0 83)) ⟨rfl,rfl⟩ (fun _ _ _ _ _ h=>h.elim) ?_;rintro A s⟨rfl,rfl⟩;have b:noFr rF.2.2=true:=Qi.2.2.1;refine⟨by simpa[noFr]using b,fun y z a1 n i r=>?_⟩;obtain⟨D,E,bd⟩:=aWN
 match y,i z [] n with
 |.code W::l,⟨p,j⟩=>
 subst p;show(Code.region rF.1 rF.2.1 true).wp Z.P _ a1 n;refine Lr mixed (cZ nN) E D (d_F tv lv rv kd) gG r ?_;intro U C o g;rw[bd];have c2:Chg w o []:=Chg.eF (RepF.below g.wd (aWV tv lv rv kd));show gC Z.P _ (.ops rF.2.1 [8,9]::l) .normal C o;refine Pk (c_F tv lv rv kd) (bF func104 rfl rfl).en (by simpa[noFr]using b) (fun T S O=>⟨rfl,rfl,SR.any b j⟩) g (aVu tv lv rv kd) (fun v=>by kernel_rfl) t_F ?_;intro N u
 match N,u with
 | [L,M],⟨d,f,_⟩=>
 have d:L=.int .i64 kd:=d;have f:M=lv:=f.1;rw[d,f];exact a o c2
theorem aVR (L:PartB w k 5 xs tv lv rv)(J:xs.length=4)(T:∀x∈xs,One x)(o1:One tv)(o2:One lv)(o3:One rv)(d:∀i,Chg w i []->Calls prog 78 #[lv] i fun e o=>∃m,e=.returned (ptrB m)/\(∃b,∃W:LB,o.heap[m]?=some (.cells (.bool b::W).toArray 190 (0,0)))/\∀C A,NewNd o [-1,0,0,1,0,0,0,0] true 0 aA (ptrB m) aA C A->R C A):Calls prog 78 #[ptrB k] w R:=by
 have F:=bF func78 rfl rfl;refine nV F (φ:=ph1 0 k) (vs:=[.one (.ptr 0 0)]) (args:=[ptrB k]) (s:=sA 5 tv lv rv Cz) (by kernel_rfl) ⟨⟨k,0,rfl,rfl⟩,trivial⟩ (Mo L J T o1 o2 o3 _) ?_;refine cC (cZ nN) nW lH (jD lH) (w_M tv lv rv) (fun _ _=>False) (fun H s=>H=dY (pD 59) f78/\s=sA 5 tv lv rv (slot [(0,P0),(58,litT lv)] 0 83)) ⟨rfl,rfl⟩ (fun _ _ _ _ _ h=>h.elim) ?_;rintro H s⟨rfl,rfl⟩;obtain⟨_,_,_,j,p,_⟩:=Qi;refine⟨j,fun U B a1 i l f=>?_⟩;have c1:Chg w i []:=Chg.eF (RepF.below f.wd rfl)
 refine pP (c_M tv lv rv) F.en j (l B [] i) f fun z g=>?_
 match z,g with
 | [y],⟨a,_⟩=>
 have a:y=lv:=a.1;rw[a];refine(d i c1).mono ?_;rintro e o⟨m,rfl,⟨b,S⟩,N⟩;refine⟨ptrB m,rfl,fun E P n=>?_⟩;have u:Rep Z o (fun _=>none) (fun _=>none) (sE 59 (ptrB m)) (a1.put (some 59) (ptrB m)) o:=nM (kb:=[]) (kt:=[]) f zV (aWb (by rfl) (by kernel_rfl)) (fun b O=>by simp at O) ⟨rfl,Dm m⟩;refine Pk (aZb (ptrB m)) (bF func105 rfl rfl).en p n u (by rfl) (fun v=>by kernel_rfl) t_M ?_;intro z g
 match z,g with
 | [y],⟨a,_⟩=>
 have a:y=ptrB m:=a.1;rw[a];refine(aJB S).mono ?_;rintro e A q;obtain⟨I,D,M⟩:=id q;rw[D]at q;exact⟨ptrB I,D,Dm I,fun X r=>N _ _ (q.on r)⟩
theorem aVP (f:Rf.Kind)(hB:PartB w k (dA f) xs tv lv rv)(h4:xs.length=4)(hx:∀x∈xs,One x)(o1:One tv)(o2:One lv)(o3:One rv)(u:∀A,Chg w A []->Calls prog 78 #[lv] A fun e D=>∃g,e=.returned (ptrB g)/\Chg A D []/\∀B,Chg D B []->Calls prog 78 #[rv] B fun e E=>∃i,e=.returned (ptrB i)/\Chg B E []/\∀C,Chg E C []->∃a b,(∃ys:LB,C.heap[g]?=some (.cells (.bool a::ys).toArray 190 (0,0)))/\(∃ys:LB,C.heap[i]?=some (.cells (.bool b::ys).toArray 190 (0,0)))/\∀e6 w6,NewNd C (Sq f) (Na f a b) 0 (ptrB g) (ptrB i) aA e6 w6->R e6 w6):Calls prog 78 #[ptrB k] w R:=by
 have F:=bF func78 rfl rfl;refine nV F (φ:=ph1 0 k) (vs:=[.one (.ptr 0 0)]) (args:=[ptrB k]) (s:=sA (dA f) tv lv rv Cz) (by kernel_rfl) ⟨⟨k,0,rfl,rfl⟩,trivial⟩ (Mo hB h4 hx o1 o2 o3 _) ?_;refine cC (cZ nN) nW lH (jD lH) (w_B tv lv rv f) (fun _ _=>False) (fun q s=>q=dY (pD 70) f78/\s=sA (dA f) tv lv rv (slot [(0,P0),(69,litT lv)] 0 83)) ⟨rfl,rfl⟩ (fun _ _ _ _ _ h=>h.elim) ?_;rintro q s⟨rfl,rfl⟩;obtain⟨_,_,_,_,_,H,I,J,_⟩:=Qi;refine⟨H,fun U al a1 A N o=>?_⟩;have c1:Chg w A []:=Chg.eF (RepF.below o.wd rfl)
 refine pP (c_B tv lv rv (dA f)) F.en H (N al [] A) o fun us j=>?_
 match us,j with
 | [Y],⟨d,_⟩=>
 have d:Y=lv:=d.1;rw[d];refine(u A c1).mono ?_;rintro e D⟨g,rfl,c2,l⟩;refine⟨ptrB g,rfl,fun W az O=>?_⟩
 have ag:Rep Z D (ph1 0 k) (ph1 0 k) (sA (dA f) tv lv rv (slot [(0,P0),(70,litT (ptrB g))] 0 83)) (a1.put (some 70) (ptrB g)) D:=nM (kb:=[0]) (kt:=[0]) (r:=litT (ptrB g)) o (Mo ((hB.on c1).on c2) h4 hx o1 o2 o3 _) (by kernel_rfl) (fun b L=>by
  have:b=0:=by simpa using L
  subst this
  exact(o.wd.base 0 (k,0) rfl).symm) ⟨rfl,Dm g⟩
 refine cC (cZ nN) nW lH (jD lH) (bAX tv lv rv (ptrB g) f) (fun _ _=>False) (fun q s=>q=dY (pD 75) f78/\s=sA (dA f) tv lv rv (slot [(0,P0),(3,litT (ptrB g)),(74,litT rv)] 0 83)) ⟨rfl,rfl⟩ (fun _ _ _ _ _ h=>h.elim) ?_ W _ _ _ (O _ _ _) ag;rintro q s⟨rfl,rfl⟩;refine⟨I,fun U am a3 B P p=>?_⟩;have c3:Chg D B []:=Chg.eF (RepF.below p.wd rfl)
 refine pP (aY9 tv lv rv (ptrB g) (dA f)) F.en I (P am [] B) p fun us j=>?_
 match us,j with
 | [Y],⟨d,_⟩=>
 have d:Y=rv:=d.1;rw[d];refine(l B c3).mono ?_;rintro e E⟨i,rfl,c4,n⟩;refine⟨ptrB i,rfl,fun X a0 S=>?_⟩
 have ah:Rep Z E (ph1 0 k) (ph1 0 k) (sA (dA f) tv lv rv (slot [(0,P0),(3,litT (ptrB g)),(75,litT (ptrB i))] 0 83)) (a3.put (some 75) (ptrB i)) E:=nM (kb:=[0]) (kt:=[0,3]) (r:=litT (ptrB i)) p (Mo ((((hB.on c1).on c2).on c3).on c4) h4 hx o1 o2 o3 _) (by kernel_rfl) (fun b L=>by
  have:b=0:=by simpa using L
  subst this
  exact(p.wd.base 0 (k,0) rfl).symm) ⟨rfl,Dm i⟩
 refine cC (cZ nN) nW lH (jD lH) (bAY tv lv rv (ptrB g) (ptrB i) f) (fun _ _=>False) (fun q s=>q=dY (pD 82) f78/\s=sA (dA f) tv lv rv (slot [(0,P0),(79,.val (.one (.int .i64 (dA f)))),(80,litT (ptrB g)),(81,litT (ptrB i))] 0 83)) ⟨rfl,rfl⟩ (fun _ _ _ _ _ h=>h.elim) ?_ X _ _ _ (S _ _ _) ah;rintro q s⟨rfl,rfl⟩;refine⟨J,fun U a6 a5 C T M=>?_⟩;have c5:Chg E C []:=Chg.eF (RepF.below M.wd rfl);refine Pk (aZa tv lv rv (ptrB g) (ptrB i) (dA f)) (bF func106 rfl rfl).en J T M (by rfl) (fun v=>by kernel_rfl) t_B ?_;intro us j
 match us,j with
 | [Y,u2,u3],⟨d,y,z,_⟩=>
 have d:Y=.int .i64 (dA f):=d;have y:u2=ptrB g:=y.1;have z:u3=ptrB i:=z.1;rw[d,y,z];obtain⟨a,b,ha,L,hR⟩:=n C c5;refine(aLW f ha L).mono ?_;rintro e w6 hN;obtain⟨m',he,av⟩:=id hN;rw[he]at hN;exact⟨ptrB m',he,Dm m',fun w7 af=>hR _ _ (hN.on af)⟩
end
noncomputable def bG:FF:=fun f=>bif f==73 then some f73 else bT f
theorem Xr:bU Z bG:=by
 intro f fn h;unfold bG at h
 exact vO h (bF func73 rfl rfl) fun h=>nW f fn h
def stG (a:List (K (List AT))):Bool:=lN (aF 78) a
def Yn (p q:Int)(tv lv rv:Value)(a:List AT):AS:=⟨a,[(1,ext (.int .i64 1::bJ true 0 2++[.lit tv,.lit lv,.lit rv]) 131)],2,[(p,1),(q,1)],[]⟩
def Sw (a:Int)(b:List AT):AS:=⟨b,[(1,ext [.int .i64 a] 131)],2,[],[]⟩
def Yo (a:Bool)(b:List AT):AS:=⟨b,[(1,ext [.bool a] 190)],2,[],[]⟩
abbrev Yb (kd:Int):List AT:=.val (.one (.int .i64 kd))::.val (.one (.ptr 1 0))::List.replicate 31 .fX
noncomputable def aZw (b:PH)(a:List (K (List AT)))(s:AS):Option XT:=(run Z (aD tS) bG (aK Z (aD tS)) stG 400 a s).bind (eD (eX [1] [] 2 []) (eX [1] b 2 []))
noncomputable def gK:List (K (List AT)):=[.code (aE f104),.top f104]
noncomputable def gF (kd p q:Int)(tv lv rv:Value):Option Tr:=run Z (aD tS) bG (aK Z (aD tS)) (fun _=>false) 600 gK (Yn p q tv lv rv (Yb kd))
noncomputable def sY (kd p q:Int)(tv lv rv:Value):AS:=(((gF kd p q tv lv rv).bind (dD [])).map (·.2)).getD ⟨[],[],0,[],[]⟩
noncomputable def gA (kd:Int)(a:Bool):Option Tr:=run Z (aD tS) bG (aK Z (aD tS)) (fun _=>false) 400 (fJ (pD 15) f104) (Yo a (slot [(0,.val (.one (.int .i64 kd))),(15,.val (.one (.ptr 1 0)))] 0 33))
noncomputable def Kf (kd:Int)(a:Bool):AS:=(((gA kd a).bind (dD [])).map (·.2)).getD ⟨[],[],0,[],[]⟩
def T2 (p q:Int):Int:=aG (p*p) (q*q)
def B2 (p q:Int):Int:=aL (p*p) (q*q)
section
variable (p q:Int) (tv lv rv:Value)
theorem aZy:gF 10 p q tv lv rv=some (.need [0<p/\0<q/\(near p q 20000 1).isSome=true] (.ret (.val (.one (.ptr 5 0))) (sY 10 p q tv lv rv))):=by kernel_rfl
theorem aW6:fN (sY 10 p q tv lv rv) 5 (.bool false) [1,0,0,1,0,0,0,0] (.ptr 3 0) (.lit aA) (.lit aA) 0:=⟨by kernel_rfl,by kernel_rfl,by kernel_rfl⟩
theorem aW4:jM (sY 10 p q tv lv rv) 3 10 [0,0,0,0,eM p q*q,eN p q*p,eN p q*q,eM p q*q]:=⟨by kernel_rfl,by kernel_rfl⟩
theorem aW5:clean (sY 10 p q tv lv rv)=true:=by kernel_rfl
theorem aZA:gF 12 p q tv lv rv=some (.need [0<aV (p*p) (q*q)] (.ret (.val (.one (.ptr 13 0))) (sY 12 p q tv lv rv))):=by kernel_rfl
theorem aXd:fN (sY 12 p q tv lv rv) 13 (.bool false) [1,0,0,1,0,0,0,0] (.ptr 10 0) (.lit aA) (.lit aA) 0:=⟨by kernel_rfl,by kernel_rfl,by kernel_rfl⟩
theorem aXb:jM (sY 12 p q tv lv rv) 10 12 [p,q,T2 p q,B2 p q,0,0,0,0]:=⟨by kernel_rfl,by kernel_rfl⟩
theorem aXc:clean (sY 12 p q tv lv rv)=true:=by kernel_rfl
theorem aZB:gF 13 p q tv lv rv=some (.need [0<aV (p*p) (q*q)] (.ret (.val (.one (.ptr 13 0))) (sY 13 p q tv lv rv))):=by kernel_rfl
theorem aXg:fN (sY 13 p q tv lv rv) 13 (.bool false) [1,0,0,1,0,0,0,0] (.ptr 10 0) (.lit aA) (.lit aA) 0:=⟨by kernel_rfl,by kernel_rfl,by kernel_rfl⟩
theorem aXe:jM (sY 13 p q tv lv rv) 10 13 [p,q,T2 p q,B2 p q,0,0,0,0]:=⟨by kernel_rfl,by kernel_rfl⟩
theorem aXf:clean (sY 13 p q tv lv rv)=true:=by kernel_rfl
theorem aZz:gF 11 p q tv lv rv=some (.need [0<aV (p*p) (q*q)] (.ret (.val (.one (.ptr 14 0))) (sY 11 p q tv lv rv))):=by kernel_rfl
theorem aXa:fN (sY 11 p q tv lv rv) 14 (.bool false) [1,-1,1,1,0,0,0,0] (.lit aA) (.lit aA) (.ptr 13 0) 0:=⟨by kernel_rfl,by kernel_rfl,by kernel_rfl⟩
theorem aW9:fN (sY 11 p q tv lv rv) 13 (.bool false) [1,0,0,1,0,0,0,0] (.ptr 10 0) (.lit aA) (.lit aA) 0:=⟨by kernel_rfl,by kernel_rfl,by kernel_rfl⟩
theorem aW7:jM (sY 11 p q tv lv rv) 10 11 [p,q,T2 p q,B2 p q,0,0,0,0]:=⟨by kernel_rfl,by kernel_rfl⟩
theorem aW8:clean (sY 11 p q tv lv rv)=true:=by kernel_rfl
theorem g_f (kd:Int):gA kd false=some (.ret (.val (.one (.ptr 3 0))) (Kf kd false)):=by kernel_rfl
theorem aZD (kd:Int):fN (Kf kd false) 3 (.bool false) [1,0,0,1,0,0,0,0] (.lit aA) (.lit aA) (.ptr 1 0) kd:=⟨by kernel_rfl,by kernel_rfl,by kernel_rfl⟩
theorem aZC (kd:Int):clean (Kf kd false)=true:=by kernel_rfl
theorem g_t (kd:Int):gA kd true=some (.ret (.val (.one (.ptr 5 0))) (Kf kd true)):=by kernel_rfl
theorem aZH (kd:Int):fN (Kf kd true) 5 (.bool false) [1,0,0,1,0,0,0,0] (.lit aA) (.lit aA) (.ptr 3 0) kd:=⟨by kernel_rfl,by kernel_rfl,by kernel_rfl⟩
theorem aZG (kd:Int):fN (Kf kd true) 3 (.bool false) [1,0,0,1,0,0,0,0] (.lit aA) (.lit aA) (.ptr 1 0) 0:=⟨by kernel_rfl,by kernel_rfl,by kernel_rfl⟩
theorem aZF (kd:Int):clean (Kf kd true)=true:=by kernel_rfl
def qI:LN:=[2,3,4,5,6,7,8,9,10,11,12,13]
theorem g_s (kd:Int){v:Int}(h:v∈qI):aZw [0,14] gK (Sw v (Yb kd))=some (.stp (dY (pD 15) f104) (Sw v (slot [(0,.val (.one (.int .i64 kd))),(14,.val (.one (.ptr 1 0)))] 0 33))):=by
 simp only[qI,mem_cons,not_mem_nil,or_false]at h
 rcases h with rfl|rfl|rfl|rfl|rfl|rfl|rfl|rfl|rfl|rfl|rfl|rfl<;>kernel_rfl
theorem aZE (kd a:Int):cM Z (Sw a (slot [(0,.val (.one (.int .i64 kd))),(14,.val (.one (.ptr 1 0)))] 0 33)) (dY (pD 15) f104)=some (78,[.one (.ptr 1 0)],some 15,fJ (pD 15) f104):=by kernel_rfl
theorem Rt:noFr (dY (pD 15) f104)=true:=by kernel_rfl
end
section
variable {w:World} {k:Nat} {kd:Int} {xs:LB} {tv lv rv:Value} {R:NN}{q:Int}
theorem aTw {w:World}{k:Nat}{xs:LB}{tv lv rv:Value}(h:PartB w k 1 xs tv lv rv)(g:aU true w [p,q] xs)(e:∀z∈[p,q],Bits 1 z)(o1:One tv)(o2:One lv)(o3:One rv)(i:List AT):RepW Z w (ph1 1 k) (ph1 1 k) (Yn p q tv lv rv i) w:=by
 refine sN rfl ?_ ?_ ?_
 ·intro b B f;have:=nC f;simp only[Yn,mem_singleton,Prod.mk.injEq]at this;obtain⟨rfl,rfl⟩:=this;refine⟨rfl,rfl,rfl,k,0,rfl,[],.int .i64 1::xs++[tv,lv,rv],[],(show w.heap[k]?=some (.cells ([]++(Value.int .i64 1::xs++[tv,lv,rv])++[]).toArray 131 (0,0)) by simpa[PartB]using h),rfl,rfl,?_⟩;refine(sL [p,q] xs 0 _ g e fun j z d=>?_).append ⟨⟨rfl,o1⟩,⟨rfl,o2⟩,⟨rfl,o3⟩,trivial⟩
  match j,d with
  |0,d=>cases d;rfl
  |1,d=>cases d;rfl
  |j+2,d=>simp at d
 ·intro b e;have:2<=b:=e;unfold ph1;rw[if_neg (by omega)]
 ·intro b l o a;unfold ph1 at a;split at a
  ·cases a;exact gE h
  ·cases a
variable {i:LB}
theorem aG4 {w:World}{k:Nat}{c:AC}{x:Value}{ty:TypeId}{g:List AT}(h:w.heap[k]?=some (.cells (x::i).toArray ty (0,0)))(f:relC Z (ph1 1 k) [] w c x):RepW Z w (ph1 1 k) (ph1 1 k) ⟨g,[(1,ext [c] ty)],2,[],[]⟩ w:=by
 refine sN rfl ?_ ?_ ?_
 ·intro b B d;have:=nC d;simp only[mem_singleton,Prod.mk.injEq]at this;obtain⟨rfl,rfl⟩:=this;exact⟨rfl,rfl,rfl,k,0,rfl,[],[x],i,h,rfl,f,trivial⟩
 ·intro b e;have:2<=b:=e;unfold ph1;rw[if_neg (by omega)]
 ·intro b j o a;unfold ph1 at a;split at a
  ·cases a;exact gE h
  ·cases a
theorem aOd {k:Nat}:∀b x,ph1 1 k b=some x->[1].contains b=true:=by
 intro b x e;unfold ph1 at e;split at e
 ·subst_vars;rfl
 ·cases e
def NewC (w:World)(kd:Int)(d:LN)(e:Ending)(a:World):Prop:=∃b,∃cs:LB,NewNd w [1,0,0,1,0,0,0,0] false 0 aA aA (ptrB b) e a/\a.heap[b]?=some (.cells (.int .i64 kd::aI::cs).toArray 164 (0,0))/\aU true a d cs
def Dd (w:World)(f:LN)(e:Ending)(b:World):Prop:=∃a,∃d,∃cs:LB,NewNd w [1,-1,1,1,0,0,0,0] false 0 aA (ptrB a) aA e b/\w.heap.size<=a/\NodeAt b a [1,0,0,1,0,0,0,0] false 0 0 0 0 0 aA aA aI (ptrB d) aA/\b.heap[d]?=some (.cells (.int .i64 11::aI::cs).toArray 164 (0,0))/\aU true b f cs/\e≠.returned (ptrB a)
theorem Xk (d:PartB w k 1 xs tv lv rv)(g:aU true w [p,q] xs)(f:∀z∈[p,q],Bits 1 z)(o1:One tv)(o2:One lv)(o3:One rv){X:Tr}(h:gF kd p q tv lv rv=some X)(G:AT->AS->Prop)(a:X.ok G fun _ _=>False)(e:∀r s φ v b,G r s->relT Z φ s.nums b r v->RepW Z w (ph1 1 k) φ s b->R (.returned v) b):Calls prog 104 #[.int .i64 kd,ptrB k] w R:=
 uD (s:=Yn p q tv lv rv (Yb kd)) (vs:=[.one (.int .i64 kd),.one (.ptr 1 0)]) (args:=[.int .i64 kd,ptrB k]) (bF func104 rfl rfl) (cZ nN) Xr (by kernel_rfl) ⟨rfl,⟨k,0,rfl,rfl⟩,trivial⟩ (aTw d g f o1 o2 o3 _) h G a e
theorem aJF {s:AS}{I:LI}{v:Value}{N k:Nat}{g:LN}(f:fN s N (.bool false) [1,0,0,1,0,0,0,0] (.ptr k 0) (.lit aA) (.lit aA) 0)(b:jM s k kd g)(hc:clean s=true)(hrel:relT Z φ s.nums n (.val (.one (.ptr N 0))) v)(d:RepW Z w I φ s n):NewC w kd g (.returned v) n:=by
 obtain⟨m,e⟩:=gW d f.look rfl rfl;obtain⟨h,a⟩:=gW d b.look rfl rfl;have hv:v=ptrB m:=cN (ν:=s.nums) (w:=n) e v hrel;obtain⟨k1,o⟩:=f.at (hs:=false) d e (fun x i=>i) (cN a) cL cL;obtain⟨cs,r,j,l⟩:=b.at d a;exact⟨h,cs,⟨m,by rw[hv],Chg.eF (RepF.below d hc),k1,o⟩,j,l⟩
theorem aWY (d:PartB w k 1 xs tv lv rv)(f:aU true w [p,q] xs)(e:∀z∈[p,q],Bits 1 z)(o1:One tv)(o2:One lv)(o3:One rv)(h:0<p)(i:0<q)(g:(near p q 20000 1).isSome=true):Calls prog 104 #[.int .i64 10,ptrB k] w (NewC w 10 [0,0,0,0,eM p q*q,eN p q*p,eN p q*q,eM p q*q]):=by
 refine Xk d f e o1 o2 o3 (aZy p q tv lv rv) (fun r s=>r=.val (.one (.ptr 5 0))/\fN s 5 (.bool false) [1,0,0,1,0,0,0,0] (.ptr 3 0) (.lit aA) (.lit aA) 0/\jM s 3 10 [0,0,0,0,eM p q*q,eN p q*p,eN p q*q,eM p q*q]/\clean s=true) ⟨bL ⟨h,i,g⟩,rfl,aW6 p q tv lv rv,aW4 p q tv lv rv,aW5 p q tv lv rv⟩ ?_;rintro r s φ v l⟨rfl,a1,a,b⟩ hrel j;exact aJF a1 a b hrel j
theorem aW0 (d:PartB w k 1 xs tv lv rv)(g:aU true w [p,q] xs)(e:∀z∈[p,q],Bits 1 z)(o1:One tv)(o2:One lv)(o3:One rv)(f:0<aV (p*p) (q*q)):Calls prog 104 #[.int .i64 12,ptrB k] w (NewC w 12 [p,q,T2 p q,B2 p q,0,0,0,0]):=by
 refine Xk d g e o1 o2 o3 (aZA p q tv lv rv) (fun r s=>r=.val (.one (.ptr 13 0))/\fN s 13 (.bool false) [1,0,0,1,0,0,0,0] (.ptr 10 0) (.lit aA) (.lit aA) 0/\jM s 10 12 [p,q,T2 p q,B2 p q,0,0,0,0]/\clean s=true) ⟨bL f,rfl,aXd p q tv lv rv,aXb p q tv lv rv,aXc p q tv lv rv⟩ ?_;rintro r s φ v i⟨rfl,a1,a,b⟩ hrel h;exact aJF a1 a b hrel h
theorem aW1 (d:PartB w k 1 xs tv lv rv)(g:aU true w [p,q] xs)(e:∀z∈[p,q],Bits 1 z)(o1:One tv)(o2:One lv)(o3:One rv)(f:0<aV (p*p) (q*q)):Calls prog 104 #[.int .i64 13,ptrB k] w (NewC w 13 [p,q,T2 p q,B2 p q,0,0,0,0]):=by
 refine Xk d g e o1 o2 o3 (aZB p q tv lv rv) (fun r s=>r=.val (.one (.ptr 13 0))/\fN s 13 (.bool false) [1,0,0,1,0,0,0,0] (.ptr 10 0) (.lit aA) (.lit aA) 0/\jM s 10 13 [p,q,T2 p q,B2 p q,0,0,0,0]/\clean s=true) ⟨bL f,rfl,aXg p q tv lv rv,aXe p q tv lv rv,aXf p q tv lv rv⟩ ?_;rintro r s φ v i⟨rfl,a1,a,b⟩ hrel h;exact aJF a1 a b hrel h
theorem aRE {m k:Nat}(h:m≠k):Ending.returned (ptrB m)≠.returned (ptrB k):=by
 intro e;exact h (by injection e with e;injection e with e;injection e with e;injection e)
theorem aWZ (n:PartB w k 1 xs tv lv rv)(y:aU true w [p,q] xs)(o:∀z∈[p,q],Bits 1 z)(o1:One tv)(o2:One lv)(o3:One rv)(u:0<aV (p*p) (q*q)):Calls prog 104 #[.int .i64 11,ptrB k] w (Dd w [p,q,T2 p q,B2 p q,0,0,0,0]):=by
 refine Xk n y o o1 o2 o3 (aZz p q tv lv rv) (fun r s=>r=.val (.one (.ptr 14 0))/\fN s 14 (.bool false) [1,-1,1,1,0,0,0,0] (.lit aA) (.lit aA) (.ptr 13 0) 0/\fN s 13 (.bool false) [1,0,0,1,0,0,0,0] (.ptr 10 0) (.lit aA) (.lit aA) 0/\jM s 10 11 [p,q,T2 p q,B2 p q,0,0,0,0]/\clean s=true) ⟨bL u,rfl,aXa p q tv lv rv,aW9 p q tv lv rv,aW7 p q tv lv rv,aW8 p q tv lv rv⟩ ?_;rintro r s φ v F⟨rfl,i,d,f,hc⟩ hrel b;obtain⟨m,h⟩:=gW b i.look rfl rfl;obtain⟨g,a⟩:=gW b d.look rfl rfl;obtain⟨l,e⟩:=gW b f.look rfl rfl;have hv:v=ptrB m:=cN (ν:=s.nums) (w:=F) h v hrel;obtain⟨k1,E⟩:=i.at (hs:=false) b h (fun x j=>j) cL cL (cN a);obtain⟨A,B⟩:=d.at (hs:=false) b a (fun x j=>j) (cN e) cL cL;obtain⟨cs,H,C,D⟩:=f.at b e;refine⟨g,l,cs,⟨m,by rw[hv],Chg.eF (RepF.below b hc),k1,E⟩,A,B,C,D,?_⟩;rw[hv];exact aRE (lG b i.look rfl d.look h a (by decide))
theorem aVD {v:Int}(E:v∈qI)(X:w.heap[k]?=some (.cells (.int .i64 v::i).toArray 131 (0,0)))
  (u:∀B,Chg w B []->Calls prog 78 #[ptrB k] B fun e l=>∃m b,e=.returned (ptrB m)/\(∃W:LB,l.heap[m]?=some (.cells (.bool b::W).toArray 190 (0,0)))/\∀D L,(b=false->NewNd l [1,0,0,1,0,0,0,0] false kd aA (ptrB m) aA D L->R D L)/\(b=true->∀x,l.heap.size<=x->NodeAt L x [1,0,0,1,0,0,0,0] false 0 0 0 0 0 aA (ptrB m) aI aA aA->NewNd l [1,0,0,1,0,0,0,0] false kd aA (ptrB x) aA D L->D≠.returned (ptrB x)->R D L)):Calls prog 104 #[.int .i64 kd,ptrB k] w R:=by
 have F:=bF func104 rfl rfl;refine nV F (φ:=ph1 1 k) (vs:=[.one (.int .i64 kd),.one (.ptr 1 0)]) (args:=[.int .i64 kd,ptrB k]) (s:=Sw v (Yb kd)) (by kernel_rfl) ⟨rfl,⟨k,0,rfl,rfl⟩,trivial⟩ (aG4 X rfl) ?_;refine cC (cZ nN) Xr aOd (jD aOd) (g_s kd E) (fun _ _=>False) (fun T s=>T=dY (pD 15) f104/\s=Sw v (slot [(0,.val (.one (.int .i64 kd))),(14,.val (.one (.ptr 1 0)))] 0 33)) ⟨rfl,rfl⟩ (fun _ _ _ _ _ h=>h.elim) ?_;rintro T s⟨rfl,rfl⟩;refine⟨Rt,fun af P a1 B I g=>?_⟩;have c1:Chg w B []:=Chg.eF (RepF.below g.wd rfl)
 refine pP (aZE kd v) (bF func78 rfl rfl).en Rt (I P [] B) g fun us M=>?_
 match us,M with
 | [U],⟨y,_⟩=>
 have y:U=ptrB k:=cN (ν:=[]) (w:=B) (g.wd.base 1 (k,0) rfl) U y;rw[y];refine(u B c1).mono ?_;rintro e l⟨m,b,rfl,⟨W,hm⟩,S⟩;refine⟨ptrB m,rfl,fun o aa n=>?_⟩;have H:Rep Z l (ph1 1 m) (ph1 1 m) (Yo b (slot [(0,.val (.one (.int .i64 kd))),(15,.val (.one (.ptr 1 0)))] 0 33)) (a1.put (some 15) (ptrB m)) l:=nM (kb:=[]) (kt:=[0]) (r:=.val (.one (.ptr 1 0))) g (aG4 hm rfl) (by kernel_rfl) (fun b Y=>by simp at Y) ⟨m,0,rfl,rfl⟩
 cases b with
 |false=>
  refine sI (cZ nN) Xr (pN mixed (cZ nN)) (fun r s=>r=.val (.one (.ptr 3 0))/\fN s 3 (.bool false) [1,0,0,1,0,0,0,0] (.lit aA) (.lit aA) (.ptr 1 0) kd/\clean s=true) (fun _ _=>False) (fun _ _ h=>h.elim) ?_ _ _ _ _ (g_f kd) ⟨rfl,aZD kd,aZC kd⟩ o _ _ l (n _ _ _) H;rintro r s φ a O⟨rfl,C,hc⟩ hrel f;obtain⟨J,d⟩:=gW f C.look rfl rfl;have hv:a=ptrB J:=cN (ν:=s.nums) (w:=O) d a hrel;have z:φ 1=some (m,0):=f.base 1 (m,0) rfl;obtain⟨k1,N⟩:=C.at (hs:=false) f d (fun x j=>j) cL cL (cN z);exact(S _ _).1 rfl ⟨J,by rw[hv],Chg.eF (RepF.below f hc),k1,N⟩
 |true=>
  refine sI (cZ nN) Xr (pN mixed (cZ nN)) (fun r s=>r=.val (.one (.ptr 5 0))/\fN s 5 (.bool false) [1,0,0,1,0,0,0,0] (.lit aA) (.lit aA) (.ptr 3 0) kd/\fN s 3 (.bool false) [1,0,0,1,0,0,0,0] (.lit aA) (.lit aA) (.ptr 1 0) 0/\clean s=true) (fun _ _=>False) (fun _ _ h=>h.elim) ?_ _ _ _ _ (g_t kd) ⟨rfl,aZH kd,aZG kd,aZF kd⟩ o _ _ l (n _ _ _) H;rintro r s φ a O⟨rfl,C,j,hc⟩ hrel f;obtain⟨J,d⟩:=gW f C.look rfl rfl;obtain⟨x,A⟩:=gW f j.look rfl rfl;have hv:a=ptrB J:=cN (ν:=s.nums) (w:=O) d a hrel;have z:φ 1=some (m,0):=f.base 1 (m,0) rfl;obtain⟨k1,N⟩:=C.at (hs:=false) f d (fun x j=>j) cL cL (cN A);obtain⟨i1,i2⟩:=j.at (hs:=false) f A (fun x j=>j) cL cL (cN z);refine(S _ _).2 rfl x i1 i2 ⟨J,by rw[hv],Chg.eF (RepF.below f hc),k1,N⟩ ?_;rw[hv];exact aRE (lG f C.look rfl j.look d A (by decide))
end
section
variable {w w':World} {b0:Nat} {own own':Nat->Option Own} {at1 at2:NU} {ns ns1:List Nd} {rho:NU} {c N:Nat}
theorem aNT (h:xD w b0 own at1 ns)(l:Inv ns rho c)(d:Chg w w' []){blks:PH}{new:List Nd}(e:∀m∈blks,w.heap.size<=m)(b:∀j i,new[j]?=some i->cK w' b0 (oS ns.length blks own) (kB ns.length blks at1) (ns++new) (ns.length+j) i):
  (∀k,k<w.heap.size->oS ns.length blks own k=own k)/\xD w' b0 (oS ns.length blks own) (kB ns.length blks at1) (ns++new)/\∀a,a<ns.length->kB ns.length blks at1 a=at1 a:=by
 have g:∀k,k<w.heap.size->oS ns.length blks own k=own k:=fun k o=>aN6 fun n=>absurd (e k n) (by omega)
 have f:∀a,a<ns.length->kB ns.length blks at1 a=at1 a:=fun a h=>vR h
 exact⟨g,h.more l d g f b,f⟩
theorem Pl {pos:Bool}{q:Int}(a:NodeAt w (at2 N) [p,q,0,0,0,0,0,0] (!pos) 0 0 0 0 0 aA aA aI aA aA)(d:own' (at2 N)=some (.nd N))(b:b0<=at2 N):cK w b0 own' at2 ns1 N (Rf.fresh pos [(p,q)] []):=by
 refine⟨⟨p,q,0,0,0,0,0,0,0,0,aI,aA,aA,⟨a,Or.inl ⟨rfl,rfl⟩,fun e=>(by cases e),fun _=>rfl,fun _=>rfl,fun e=>(by cases e)⟩,[(p,q)],?_,?_⟩,HC.fresh _ _ _,d,b,fun e=>by cases e⟩
 ·show some ([(p,q)].map (Rf.fI Rf.one))=_;simp[Rf.Gg]
 ·exact⟨⟨1,by decide,by simp[Pg.pad,sc]⟩,rfl⟩
variable {s:LN}
theorem Pz {a:Nat}{xa:Nd}{u v:V}{mN:Nd}(b:NodeAt w (at2 N) s (!mN.pos) (fM mN) 0 0 0 0 aA (ptrB (at2 a)) aI aA aA)(h8:s.length=8)(f3:mN.t=[u,v])(n:mN.args=[a])(o:mN.read=[0])(f:mN.out=[])(p:mN.told=Rf.one)(g:mN.dT=[Rf.one])(q:mN.nest=false)(f2:mN.aP=true->mN.t=[(1,0),(0,1)])(l:ns1[a]?=some xa)(k:xa.dT[0]?=some Rf.one)(d:eO [u,v] (cH s))(j:own' (at2 N)=some (.nd N))(i:b0<=at2 N):cK w b0 own' at2 ns1 N mN:=by
 obtain⟨B,F,C,H,D,I,E,J,rfl⟩:=eight h8;refine⟨⟨B,F,C,H,D,I,E,J,0,0,aI,aA,aA,⟨?_,Or.inl ⟨rfl,f⟩,fun e=>?_,fun _=>rfl,fun _=>rfl,fun e=>?_⟩,[u,v],Pg.Zd f3 (by rw[n];rfl) (by rw[o];rfl) l k p,d⟩,⟨by rw[g,f];rfl,by rw[g];rfl,by rw[g,f,p];rfl,fun r L M h=>by rw[f]at h;simp at h⟩,j,i,fun e=>⟨f2 e,q⟩⟩
 ·have x:lArg mN=none:=by unfold lArg;rw[f3];rfl
  have y:rArg mN=some a:=by unfold rArg;rw[f3,n];rfl
  have z:hY mN=0:=by unfold hY;rw[f3];rfl
  have A:gB mN=0:=by unfold gB;rw[f3,o];rfl
  rw[x,y,z,A];exact b
 ·rw[f3]at e;cases e
 ·rw[q]at e;cases e
theorem aVc {a b:Nat}{d A:Nd}{f:Rf.Kind}{j pb:Bool}(i:NodeAt w (at2 N) s (!(Rf.two f j pb a b).pos) 0 0 0 0 0 (ptrB (at2 a)) (ptrB (at2 b)) aI aA aA)(h8:s.length=8)(q:ns1[a]?=some d)(p:d.dT[0]?=some Rf.one)(x:ns1[b]?=some A)(k:A.dT[0]?=some Rf.one)(g:eO f.cols (cH s))(o:own' (at2 N)=some (.nd N))(n:b0<=at2 N):cK w b0 own' at2 ns1 N (Rf.two f j pb a b):=by
 obtain⟨F,L,H,M,I,O,J,P,rfl⟩:=eight h8
 have l:∃u v y z,f.cols=[u,v,y,z]:=by cases f<;>exact⟨_,_,_,_,rfl⟩
 obtain⟨u,v,y,z,l⟩:=l;have f3:(Rf.two f j pb a b).t=[u,v,y,z]:=l;rw[l]at g;refine⟨⟨F,L,H,M,I,O,J,P,0,0,aI,aA,aA,⟨?_,Or.inl ⟨rfl,rfl⟩,fun e=>?_,fun _=>rfl,fun _=>rfl,fun e=>(by cases e)⟩,[u,v,y,z],Pg.Ze f3 rfl rfl q p x k rfl,g⟩,⟨rfl,rfl,rfl,fun r R S h=>by simp[Rf.two,Rf.fresh]at h⟩,o,n,fun e=>by cases e⟩
 ·have B:lArg (Rf.two f j pb a b)=some a:=by unfold lArg;rw[f3];rfl
  have C:rArg (Rf.two f j pb a b)=some b:=by unfold rArg;rw[f3];rfl
  have D:hY (Rf.two f j pb a b)=0:=by unfold hY;rw[f3];rfl
  have E:gB (Rf.two f j pb a b)=0:=by unfold gB;rw[f3];rfl
  rw[B,C,D,E];exact i
 ·rw[f3]at e;cases e
theorem aSr {d:Nat}{op:Rf.Op}{ts:LN}(a:NodeAt w (at2 N) [1,0,0,1,0,0,0,0] false 0 0 0 0 0 aA aA aI (ptrB d) aA)(b:fT w { Rf.fresh true [] []with op:=op,terms:=ts} d)(g:own' (at2 N)=some (.nd N))(f:b0<=at2 N):cK w b0 own' at2 ns1 N { Rf.fresh true [] []with op:=op,terms:=ts}:=by
 refine⟨⟨1,0,0,1,0,0,0,0,0,0,aI,ptrB d,aA,⟨a,Or.inl ⟨rfl,rfl⟩,fun _=>⟨rfl,d,rfl,b⟩,fun e=>absurd rfl e,fun _=>rfl,fun e=>(by cases e)⟩,[(1,0),(0,1)],Pg.aFx rfl rfl rfl,?_⟩,(HC.fresh true [] []).of rfl rfl rfl,g,f,fun e=>by cases e⟩;exact .El (e:=1) (by decide) (gY _).symm (gY _).symm (gY _).symm (gY _).symm
end
theorem aVk (a:Rf.Kind):eO a.cols (cH (Sq a)):=by
 cases a<;>exact .Em (e:=1) (by decide) (gY _).symm (gY _).symm (gY _).symm (gY _).symm
theorem aSq:eO [((-1,0):V),(0,1)] (cH [-1,0,0,1,0,0,0,0]):=.El (e:=1) (by decide) (gY _).symm (gY _).symm (gY _).symm (gY _).symm
theorem Uj {b:World}(g:On Z.bt w b){d:Nat}(a:w.heap[d]?=some (.cells cs 164 (0,0))):b.heap[d]?=some (.cells cs 164 (0,0)):=by
 rcases g.bV d _ a with e|⟨e,_⟩
 ·exact e
 ·have f:Ja.contains 164=true:=e;exact absurd f (by decide)
abbrev RB:=Go.Proofs.YthhffdeihoofiaaGreatDoor.Bits
theorem Nc {w:Nat}:RB w 0:=by
 show(0:Int).natAbs<2^w;simp[Nat.pow_pos]
theorem Vz {l:Nat}{nd:Nd}(cs:LB)(g:w.heap[l]?=some (.cells cs.toArray 164 (0,0)))(r:Rf.pW nd)(pb:RB 6100 nd.p)(qb:RB 6100 nd.q)(A:∀k:Nat,k<=3000->∃a b c d,Rf.constant nd k=some ⟨a,b,c,d⟩/\∀W,On Z.bt w W->Calls prog 172 #[ptrB l,.int .i64 k] W fun e w'=>∃x:LB,e=.returned (.agg x.toArray)/\aU true w' [a,b,c,d] x/\Below W.heap.size W w'):fT w nd l:=by
 refine⟨⟨_,g⟩,fun k u=>?_⟩;obtain⟨a,b,c,d,s,y⟩:=A k u;obtain⟨m,i,f⟩:=Rf.Ga (n:=nd) r (k:=k) u pb qb;rw[s]at i;have o:m=⟨a,b,c,d⟩:=(Option.some.inj i).symm;rw[o]at f;refine⟨1,a,b,c,d,by decide,by rw[s];simp[wM],?_,y⟩
 have j:∀{z:Int},z.natAbs<2^18400->Bits 2 z:=fun h=>xL (N:=18400) (by decide) h
 intro z v;simp at v
 rcases v with rfl|rfl|rfl|rfl
 ·exact j f.a
 ·exact j f.b
 ·exact j f.c
 ·exact j f.d
theorem jX:∀z∈([0,0,0,0,0,0,0,0]:LN),Bits 1 z:=aY
variable {ts:LN}{cs:LB}
theorem aVo {b:Nat}{x:Value}(e:One x)(a:w.heap[b]?=some (.cells (.int .i64 2::x::cs).toArray 164 (0,0)))(hold:aU true w [0,0,0,0,0,0,0,0] cs):fT w { Rf.fresh true [] []with op:=.pi,terms:=ts} b:=by
 refine Vz _ a (Or.inl rfl) Nc Nc fun k f=>⟨_,_,_,_,aXA (by omega) rfl,fun W d=>?_⟩
 exact Wa (Uj d a) e (mC d hold) rfl jX (aZj 0 0 0 0 0 0 0 0 k) (bL ⟨by omega,by omega⟩)
theorem aJq (g:k<=3000):(hX (k:Int)).natAbs<1000000000000000000:=by
 have b:=Rn (n:={ Rf.fresh true [] []with op:=.e}) (k:=k) (by omega) rfl;have d:Rf.constant { Rf.fresh true [] []with op:=.e} k=some ⟨Rf.hX k,1,1,0⟩:=rfl;rw[d]at b;have f:Rf.hX k=hX (k:Int):=congrArg Mt.a (Option.some.inj b);rw[<-f];unfold Rf.hX;split
 ·decide
 ·split<;>omega
theorem aWS {b:Nat}{x:Value}(g:One x)(a:w.heap[b]?=some (.cells (.int .i64 3::x::cs).toArray 164 (0,0)))(hold:aU true w [0,0,0,0,0,0,0,0] cs):fT w { Rf.fresh true [] []with op:=.e,terms:=ts} b:=by
 refine Vz _ a (Or.inr (Or.inl rfl)) Nc Nc fun k f=>⟨_,_,_,_,Rn (by omega) rfl,fun W d=>?_⟩
 exact Wa (Uj d a) g (mC d hold) rfl jX (aZk 0 0 0 0 0 0 0 0 k) (bL (aJq f))
theorem aPv {n:Nat}{q:Int}(r:0<p)(s:0<q)(f:RB 6100 p)(e:RB 6100 q)(d:w.heap[n]?=some (.cells (.int .i64 10::aI::cs).toArray 164 (0,0)))(hold:aU true w [0,0,0,0,eM p q*q,eN p q*p,eN p q*q,eM p q*q] cs):fT w (Rf.row .sqrt p q) n:=by
 obtain⟨a,b,g,_,_,B,l⟩:=Rf.Pn r s f e
 have C:eM p q=a:=by unfold eM;rw[g];rfl
 have D:eN p q=b:=by unfold eN;rw[g];rfl
 rw[C,D]at hold
 refine Vz _ d (Or.inr (Or.inr (Or.inr ⟨Or.inl rfl,r,s⟩))) f e fun k I=>⟨a*q,b*p,b*q,a*q,?_,fun W o=>?_⟩
 ·show(near p q 20000 1).map _=_;rw[g];rfl
 ·have j:∀{x y:Int} {u v:Nat},u+v<=10000000->RB u x->RB v y->Bits 1 (x*y):=by
   intro x y u v E F H;refine xL (N:=u+v) (by omega) ?_;rw[Int.natAbs_mul,Nat.pow_add];exact Nat.mul_lt_mul'' F H
  refine Wa (Uj o d) rfl (mC o hold) rfl ?_ (Qz 0 0 0 0 (a*q) (b*p) (b*q) (a*q) k) gG;intro z A
  have i:z=0\/z=a*q\/z=b*p\/z=b*q:=by
   simp only[mem_cons,not_mem_nil,or_false]at A
   rcases A with h|h|h|h|h|h|h|h<;>simp[h]
  rcases i with rfl|rfl|rfl|rfl
  ·exact jX 0 (by simp)
  ·exact j (by decide) B e
  ·exact j (by decide) l f
  ·exact j (by decide) l e
noncomputable def Ym (tv:Value)(k:Int):AS:=⟨.val (.one (.ptr 0 0))::.val (.one (.sint .i64 k))::List.replicate 34 .fX,[(0,ext [.int .i64 4,.lit tv] 164)],1,[],[]⟩
def stC (a:List (K (List AT))):Bool:=lN (aF 186) a
noncomputable def cfT (tv:Value)(k:Int):Option Tr:=run Z (aD tN) bC (aK Z (aD tN)) stC 400 [.code (aE f172),.top f172] (Ym tv k)
def atS:Option Tr->AS
 |some (.stop a s)=>s
 |_=>⟨[],[],0,[],[]⟩
noncomputable def Xy (tv:Value)(k:Int):AS:=atS (cfT tv k)
def Bp (s:AS)(t:Int):AS:=⟨putT s.tmps (some 25) (cB t),s.boxes,s.next,s.nums,s.dirty⟩
section
variable (tv:Value) (k t:Int)
theorem aZf:cfT tv k=some (.stop (dY (pD 25) f172) (Xy tv k)):=by kernel_rfl
theorem aZc:cM Z (Xy tv k) (dY (pD 25) f172)=some (186,[.one (.lit tv),.one (.sint .i64 k)],some 25,fJ (pD 25) f172):=by kernel_rfl
theorem aZd:noFr (dY (pD 25) f172)=true:=by kernel_rfl
theorem aZe:((run Z (aD tN) bC (aK Z (aD tN)) (fun _=>false) 400 (fJ (pD 25) f172) (Bp (Xy tv k) t)).bind outcome).bind (jL true)=some ([t.natAbs<1000000000000000000],.one (.ns [t,1,1,0]),1):=by kernel_rfl
end
theorem aWR (tv:Value)(k:Int):clean (Xy tv k)=true:=by kernel_rfl
theorem aVh {w g p len:Nat}{t:Int}{i:LB}(C:tv=.slice (some ⟨g,0,none⟩) len p)(j:n.heap[w]?=some (.cells (.int .i64 4::tv::i).toArray 164 (0,0)))(h2:2<=len)(u:len<=1000000)(hk:k<=1000000)(ht:t.natAbs<1000000000000000000)(hc:∀F,Chg n F []->F.cell? ⟨g,oC len k,none⟩=some (.int .i64 t)):
  Calls prog 172 #[ptrB w,.int .i64 k] n fun e F=>∃H:LB,e=.returned (.agg H.toArray)/\aU true F [t,1,1,0] H/\Below n.heap.size n F:=by
 have ot:One tv:=by rw[C];rfl
 have x:RepW Z n (ph1 0 w) (ph1 0 w) (Ym tv k) n:=by
  refine sN rfl ?_ ?_ ?_
  ·intro b B hB;have:=nC hB;simp[Ym]at this;obtain⟨rfl,rfl⟩:=this;exact⟨rfl,rfl,rfl,w,0,rfl,[],[.int .i64 4,tv],i,j,rfl,rfl,⟨rfl,ot⟩,trivial⟩
  ·intro b hb;have:1<=b:=hb;unfold ph1;rw[if_neg (by omega)]
  ·intro b k' o f;unfold ph1 at f;split at f
   ·cases f;exact gE j
   ·cases f
 refine nV (bF func172 rfl rfl) (φ:=ph1 0 w) (vs:=[.one (.ptr 0 0),.one (.sint .i64 k)]) (args:=[ptrB w,.int .i64 k]) (s:=Ym tv k) (by kernel_rfl) ⟨⟨w,0,rfl,rfl⟩,rfl,trivial⟩ x ?_;intro D av a0 R y M;refine sI (cZ kA) aSh (pN mixed (cZ kA)) (fun _ _=>False) (fun U s=>U=dY (pD 25) f172/\cM Z s (dY (pD 25) f172)=some (186,[.one (.lit tv),.one (.sint .i64 k)],some 25,fJ (pD 25) f172)/\clean s=true/\((run Z (aD tN) bC (aK Z (aD tN)) (fun _=>false) 400 (fJ (pD 25) f172) (Bp s t)).bind outcome).bind (jL true)=some ([t.natAbs<1000000000000000000],.one (.ns [t,1,1,0]),1)) ?_ (fun _ _ _ _ _ h=>h.elim) _ _ _ _ (aZf tv k) ⟨rfl,aZc tv k,aWR tv k,aZe tv k t⟩ D _ a0 R y M;rintro U s⟨rfl,J,l,L⟩ aj φ a S O d;have b1:Below n.heap.size n S:=RepF.below d.wd l
 refine pP J (bF func186 rfl rfl).en aZd O d fun us P=>?_
 match us,P with
 | [u1,u2],⟨q,r,_⟩=>
 have q:u1=tv:=q.1;have r:u2=.int .i64 k:=r;rw[q,r,C];refine(aLv S g p len k t h2 u hk (hc S (Chg.eF b1))).mono ?_;rintro e T⟨rfl,rfl⟩;refine⟨_,rfl,fun E af A=>?_⟩
 have N:Rep Z n (ph1 0 w) φ (Bp s t) (a.put (some 25) (.int .i64 t)) T:=⟨⟨d.wd.box,d.wd.own,d.wd.inj,d.wd.tip,d.wd.fresh,d.wd.lt,d.wd.low,d.wd.on,d.wd.base,d.wd.qH⟩,by rw[rR];exact d.defers,rT (dst:=some 25) d.tmps (show relT Z φ s.nums T (cB t) (.int .i64 t)from rfl)⟩
 obtain⟨o,q1,q2⟩:=aT L;obtain⟨tr,q3,q4⟩:=aT q1;refine sI (cZ kA) aSh (pN mixed (cZ kA)) _ _ (fun _ _ h=>h.elim) ?_ _ _ _ _ q3 (yU q4 (Dq q2 (bL ht) (le_refl _))) E _ _ T (A _ _ _) N;rintro r0 st ax v W⟨l,r',h7,I⟩ hrel hw;obtain⟨H,X,Y⟩:=I W v (Ct h7 hrel);refine⟨H,by rw[X],?_,RepF.below hw l⟩;exact(Fw (k:=true) (w:=W) _ [t,1,1,0] _ H (show dV true ([t,1,1,0].map fun z=>.num true z 1)=some ([t,1,1,0],_)from rfl) Y).1
theorem aVm {w:Nat}(v:zL n ts tv)(h:2<=ts.length)(j:∀a∈ts,RB 40 a)(b:n.heap[w]?=some (.cells (.int .i64 4::tv::cs).toArray 164 (0,0))):fT n { Rf.fresh true [] []with op:=.cf,terms:=ts} w:=by
 obtain⟨g,o,l,q,p,r⟩:=v
 refine Vz _ b (Or.inr (Or.inr (Or.inl ⟨rfl,h,j⟩))) Nc Nc fun k y=>?_
 have z:=Nat.mod_lt (k-1) (show 0<ts.length-1 by omega)
 have d:oC ts.length k<ts.length:=by
  unfold oC
  split<;>omega
 have u:ts[oC ts.length k]?=some ts[oC ts.length k]:=List.getElem?_eq_getElem d;refine⟨ts[oC ts.length k],1,1,0,?_,fun W i=>?_⟩
 ·show(ts[if k=0 then 0 else 1+(k-1)%(ts.length-1)]?).map _=_;have:ts[if k=0 then 0 else 1+(k-1)%(ts.length-1)]?=some ts[oC ts.length k]:=u;rw[this];rfl
 ·have f:=j _ (List.getElem_mem d);have e:(ts[oC ts.length k]).natAbs<2^40:=f
  refine aVh q (Uj i b) h p (by omega) (Nat.lt_trans e (by decide)) fun x hc=>?_
  have s:=Fp (i.trans hc.on) r (by decide);show x.cell? _=_;rw[Mh s];simp[List.getElem?_append_left,d]
end Ab
end Go.Proofs.YthhffdeihoofiaaGreatDoor
