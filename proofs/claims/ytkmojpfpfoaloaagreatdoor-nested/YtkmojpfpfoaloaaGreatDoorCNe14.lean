import Derived.Test.YtkmojpfpfoaloaaGreatDoorCNe13
import Derived.Test.YtkmojpfpfoaloaaGreatDoorCNe09
set_option linter.all false
set_option maxRecDepth 100000
set_option maxHeartbeats 2000000
namespace Go.Proofs.YtkmojpfpfoaloaaGreatDoor
open Go.Proofs.Tryz
open Go.RowKit
namespace Ab
open Rf (Nd Inv aZ)
def tD (a T B:Int):List Int:=[B,if a=13 then T else 0,-T,if a=12 then T+B else B,0,0,0,0]
structure LfB (W:Nat) (w2:World) (kd T B T2 B2:Int) (xk m z nst ra far0 far nb pb cb:Nat) (fur:Value) (xs cs:List Value):Prop where
 z0:W<=z
 zn:NodeAt w2 z (tD kd T B) false 0 0 0 0 0 aB (aA xk) aJ aB aB
 n0:W<=nst
 nd:NodeAt w2 nst (kW kd 0) false 0 0 0 0 0 (aA z) aB aJ aB (aA nb)
 b0:W<=nb
 cD:w2.heap[nb]?=some (.cells (.int .i64 kd::aA z::fur::xs).toArray 206 (0,0))
 hold:bD true w2 [0,0,0,0,0,0,0,0] xs
 f0:W<=far0
 fn:NodeAt w2 far0 [1,0,0,1,0,0,0,0] false 0 0 0 0 0 aB aB aJ (aA cb) aB
 c0:W<=cb
 fI:w2.heap[cb]?=some (.cells (.int .i64 kd::aJ::cs).toArray 132 (0,0))
 Pn:bD true w2 [T,B,T2,B2,0,0,0,0] cs
 d1:z≠nst
 d2:z≠far0
 d3:nst≠far0
 ln:kd=12->fur=aA z
 sq:kd≠12->fur=aA pb/\W<=pb/\(pb≠z/\pb≠nst/\pb≠far0)/\(kd=11->pb≠ra/\pb≠far)/\NodeAt w2 pb [1,0,0,0,0,0,0,1] false 0 0 0 0 0 (aA z) (aA z) aJ aB aB
 top:kd≠11->NodeAt w2 m [0,0,1,0,1,0,0,1] false 0 0 0 0 0 (aA far0) (aA nst) aJ aB aB
 ex:kd=11->W<=ra/\W<=far/\(ra≠z/\ra≠nst/\ra≠far0/\ra≠far)/\(far≠z/\far≠nst/\far≠far0)/\NodeAt w2 ra [1,-1,1,1,0,0,0,0] false 0 0 0 0 0 aB (aA nst) aJ aB aB/\NodeAt w2 far [1,-1,1,1,0,0,0,0] false 0 0 0 0 0 aB (aA far0) aJ aB aB/\NodeAt w2 m [1,0,0,0,0,0,0,1] false 0 0 0 0 0 (aA far) (aA ra) aJ aB aB
section
variable {w1:World} {xk:Nat} {p q:Int} {xs:List Value}
theorem aS1 (N:∃I:List Value,w1.heap[xk]?=some (.cells (.bool false::I).toArray 98 (0,0)))(M:bD true w1 [p,q] xs)(J:∀z∈[p,q],Bits 1 z)(L:0<aV p q)(O:0<aH p q)(D:0<aV (aH p q*aH p q) (aK p q*aK p q)):Calls prog 175 #[.int .i64 12,aA xk,.agg xs.toArray] w1 fun e x=>Told w1 e x fun m=>∃z nst ra i A F pb y C xs cs,LfB w1.heap.size x 12 (aH p q) (aK p q) (aH (aH p q*aH p q) (aK p q*aK p q)) (aK (aH p q*aH p q) (aK p q*aK p q)) xk m z nst ra i A F pb y C xs cs:=by
 refine Gx (kd:=12) N M J (aVB p q) (fun r st=>r=.val (.one (.ptr 42 0))/\cF st 42 [0,0,1,0,1,0,0,1] (.lit aB) (.ptr 16 0) (.ptr 20 0) (.lit aB)/\cF st 20 (kW 12 0) (.lit aB) (.ptr 17 0) (.lit aB) (.ptr 18 0)/\kE st 18 12 (.ptr 17 0) (.ptr 17 0) [0,0,0,0,0,0,0,0]/\cF st 17 [aK p q,0,-aH p q,aH p q+aK p q,0,0,0,0] (.lit aB) (.lit aB) (.ptr 2 0) (.lit aB)/\cF st 16 [1,0,0,1,0,0,0,0] (.ptr 13 0) (.lit aB) (.lit aB) (.lit aB)/\jL st 13 12 [aH p q,aK p q,aH ((aH p q)*aH p q) ((aK p q)*aK p q),aK ((aH p q)*aH p q) ((aK p q)*aK p q),0,0,0,0]/\clean st=true) ⟨bL L,fun e=>absurd (of_decide_eq_true e) (by rw[Nm.gV O];decide),fun _=>⟨bL D,⟨fun e=>(by cases e),fun _=>⟨bL (by decide),bL (by decide),rfl,aUh p q,aUg p q,aUf p q,aUe p q,aUd p q,aUc p q,aUi p q⟩⟩⟩⟩ ?_;rintro r st φ v x⟨rfl,s,d,l,j,a,k,B⟩ hrel g;obtain⟨m,u⟩:=gI g s.look rfl rfl;obtain⟨nst,f⟩:=gI g d.look rfl rfl;obtain⟨F,o⟩:=gI g l.look rfl rfl;obtain⟨z,h⟩:=gI g j.look rfl rfl;obtain⟨i,b⟩:=gI g a.look rfl rfl;obtain⟨y,n⟩:=gI g k.look rfl rfl;have E:φ 2=some (xk,0):=g.base 2 (xk,0) rfl;have hv:v=aA m:=cQ (ν:=st.nums) (w:=x) u v hrel;obtain⟨I,k1,W,X,Y,k5⟩:=s.at g u cN (cQ b) (cQ f) cN;obtain⟨_,P,_,_,_,R⟩:=d.at g f cN (cQ h) cN (cQ o);obtain⟨H,S,T,U⟩:=l.at g o (cQ h) (cQ h);obtain⟨_,z1,_,_,_,z5⟩:=j.at g h cN cN (cQ E) cN;obtain⟨_,o1,_,_,_,o5⟩:=a.at g b (cQ n) cN cN cN;obtain⟨cs,c1,c2,c3⟩:=k.at g n;exact⟨m,I,by rw[hv],Chg.eH (RepF.below g B),k1,W,X,Y,z,nst,0,i,0,F,0,y,_,H,cs,z1,z5,P,R,S,T,U,o1,o5,c1,c2,c3,lC g j.look rfl d.look h f (by decide),lC g j.look rfl a.look h b (by decide),lC g d.look rfl a.look f b (by decide),fun _=>rfl,fun e=>absurd rfl e,fun _=>k5,fun e=>by cases e⟩
theorem aS2 (P:∃L:List Value,w1.heap[xk]?=some (.cells (.bool false::L).toArray 98 (0,0)))(O:bD true w1 [p,q] xs)(M:∀z∈[p,q],Bits 1 z)(N:0<aV p q)(R:0<aH p q)(F:0<aV (aH p q*aH p q) (aK p q*aK p q)):Calls prog 175 #[.int .i64 13,aA xk,.agg xs.toArray] w1 fun e A=>Told w1 e A fun m=>∃z nst ra l C I pb B E xs cs,LfB w1.heap.size A 13 (aH p q) (aK p q) (aH (aH p q*aH p q) (aK p q*aK p q)) (aK (aH p q*aH p q) (aK p q*aK p q)) xk m z nst ra l C I pb B E xs cs:=by
 refine Gx (kd:=13) P O M (aVC p q) (fun r st=>r=.val (.one (.ptr 65 0))/\cF st 65 [0,0,1,0,1,0,0,1] (.lit aB) (.ptr 16 0) (.ptr 43 0) (.lit aB)/\cF st 43 (kW 13 0) (.lit aB) (.ptr 17 0) (.lit aB) (.ptr 18 0)/\cF st 40 [1,0,0,0,0,0,0,1] (.lit aB) (.ptr 17 0) (.ptr 17 0) (.lit aB)/\kE st 18 13 (.ptr 17 0) (.ptr 40 0) [0,0,0,0,0,0,0,0]/\cF st 17 [aK p q,aH p q,-aH p q,aK p q,0,0,0,0] (.lit aB) (.lit aB) (.ptr 2 0) (.lit aB)/\cF st 16 [1,0,0,1,0,0,0,0] (.ptr 13 0) (.lit aB) (.lit aB) (.lit aB)/\jL st 13 13 [aH p q,aK p q,aH ((aH p q)*aH p q) ((aK p q)*aK p q),aK ((aH p q)*aH p q) ((aK p q)*aK p q),0,0,0,0]/\clean st=true) ⟨bL N,fun e=>absurd (of_decide_eq_true e) (by rw[Nm.gV R];decide),fun _=>⟨bL F,⟨fun _=>⟨bL (by decide),bL (by decide),rfl,aUp p q,aUo p q,aUn p q,aUm p q,aUl p q,aUk p q,aUj p q,aUq p q⟩,fun e=>(by cases e)⟩⟩⟩ ?_;rintro r st φ v A⟨rfl,x,d,h,o,k,a,n,D⟩ hrel g;obtain⟨m,y⟩:=gI g x.look rfl rfl;obtain⟨nst,f⟩:=gI g d.look rfl rfl;obtain⟨pb,i⟩:=gI g h.look rfl rfl;obtain⟨I,u⟩:=gI g o.look rfl rfl;obtain⟨z,j⟩:=gI g k.look rfl rfl;obtain⟨l,b⟩:=gI g a.look rfl rfl;obtain⟨B,s⟩:=gI g n.look rfl rfl;have H:φ 2=some (xk,0):=g.base 2 (xk,0) rfl;have hv:v=aA m:=cQ (ν:=st.nums) (w:=A) y v hrel;obtain⟨L,k1,Y,k3,k4,k5⟩:=x.at g y cN (cQ b) (cQ f) cN;obtain⟨_,S,_,_,_,T⟩:=d.at g f cN (cQ j) cN (cQ u);obtain⟨_,s1,_,_,_,s5⟩:=h.at g i cN (cQ j) (cQ j) cN;obtain⟨J,U,W,X⟩:=o.at g u (cQ j) (cQ i);obtain⟨_,z1,_,_,_,z5⟩:=k.at g j cN cN (cQ H) cN;obtain⟨_,o1,_,_,_,o5⟩:=a.at g b (cQ s) cN cN cN;obtain⟨cs,c1,c2,c3⟩:=n.at g s;exact⟨m,L,by rw[hv],Chg.eH (RepF.below g D),k1,Y,k3,k4,z,nst,0,l,0,I,pb,B,_,J,cs,z1,z5,S,T,U,W,X,o1,o5,c1,c2,c3,lC g k.look rfl d.look j f (by decide),lC g k.look rfl a.look j b (by decide),lC g d.look rfl a.look f b (by decide),fun e=>(by cases e),fun _=>⟨rfl,s1,⟨lC g h.look rfl k.look i j (by decide),lC g h.look rfl d.look i f (by decide),lC g h.look rfl a.look i b (by decide)⟩,fun e=>(by cases e),s5⟩,fun _=>k5,fun e=>by cases e⟩
theorem aS0 (U:∃P:List Value,w1.heap[xk]?=some (.cells (.bool false::P).toArray 98 (0,0)))(T:bD true w1 [p,q] xs)(R:∀z∈[p,q],Bits 1 z)(S:0<aV p q)(W:0<aH p q)(L:0<aV (aH p q*aH p q) (aK p q*aK p q)):Calls prog 175 #[.int .i64 11,aA xk,.agg xs.toArray] w1 fun e F=>Told w1 e F fun m=>∃z nst ra u C N pb H J xs cs,LfB w1.heap.size F 11 (aH p q) (aK p q) (aH (aH p q*aH p q) (aK p q*aK p q)) (aK (aH p q*aH p q) (aK p q*aK p q)) xk m z nst ra u C N pb H J xs cs:=by
 refine Gx (kd:=11) U T R (aVA p q) (fun r st=>r=.val (.one (.ptr 67 0))/\cF st 67 [1,0,0,0,0,0,0,1] (.lit aB) (.ptr 17 0) (.ptr 45 0) (.lit aB)/\cF st 45 [1,-1,1,1,0,0,0,0] (.lit aB) (.lit aB) (.ptr 44 0) (.lit aB)/\cF st 44 (kW 11 0) (.lit aB) (.ptr 18 0) (.lit aB) (.ptr 19 0)/\cF st 41 [1,0,0,0,0,0,0,1] (.lit aB) (.ptr 18 0) (.ptr 18 0) (.lit aB)/\kE st 19 11 (.ptr 18 0) (.ptr 41 0) [0,0,0,0,0,0,0,0]/\cF st 18 [aK p q,0,-aH p q,aK p q,0,0,0,0] (.lit aB) (.lit aB) (.ptr 2 0) (.lit aB)/\cF st 17 [1,-1,1,1,0,0,0,0] (.lit aB) (.lit aB) (.ptr 16 0) (.lit aB)/\cF st 16 [1,0,0,1,0,0,0,0] (.ptr 13 0) (.lit aB) (.lit aB) (.lit aB)/\jL st 13 11 [aH p q,aK p q,aH ((aH p q)*aH p q) ((aK p q)*aK p q),aK ((aH p q)*aH p q) ((aK p q)*aK p q),0,0,0,0]/\clean st=true) ⟨bL S,fun e=>absurd (of_decide_eq_true e) (by rw[Nm.gV W];decide),fun _=>⟨bL L,⟨fun _=>⟨bL (by decide),bL (by decide),rfl,aUa p q,aT9 p q,aT8 p q,aT7 p q,aT6 p q,aT5 p q,aT4 p q,aT3 p q,aT2 p q,aUb p q⟩,fun e=>(by cases e)⟩⟩⟩ ?_;rintro r st φ v F⟨rfl,D,k,g,j,y,s,f,a,x,I⟩ hrel d;obtain⟨m,E⟩:=gI d D.look rfl rfl;obtain⟨ra,n⟩:=gI d k.look rfl rfl;obtain⟨nst,i⟩:=gI d g.look rfl rfl;obtain⟨pb,l⟩:=gI d j.look rfl rfl;obtain⟨N,B⟩:=gI d y.look rfl rfl;obtain⟨z,o⟩:=gI d s.look rfl rfl;obtain⟨C,h⟩:=gI d f.look rfl rfl;obtain⟨u,b⟩:=gI d a.look rfl rfl;obtain⟨H,A⟩:=gI d x.look rfl rfl;have M:φ 2=some (xk,0):=d.base 2 (xk,0) rfl;have hv:v=aA m:=cQ (ν:=st.nums) (w:=F) E v hrel;obtain⟨P,k1,k2,k3,k4,k5⟩:=D.at d E cN (cQ h) (cQ n) cN;obtain⟨_,X,_,_,_,Y⟩:=g.at d i cN (cQ o) cN (cQ B);obtain⟨_,s1,_,_,_,s5⟩:=j.at d l cN (cQ o) (cQ o) cN;obtain⟨O,j1,j2,j3⟩:=y.at d B (cQ o) (cQ l);obtain⟨_,z1,_,_,_,z5⟩:=s.at d o cN cN (cQ M) cN;obtain⟨_,o1,_,_,_,o5⟩:=a.at d b (cQ A) cN cN cN;obtain⟨cs,c1,c2,c3⟩:=x.at d A;obtain⟨_,r1,_,_,_,r5⟩:=k.at d n cN cN (cQ i) cN;obtain⟨_,u1,_,_,_,u5⟩:=f.at d h cN cN (cQ b) cN;exact⟨m,P,by rw[hv],Chg.eH (RepF.below d I),k1,k2,k3,k4,z,nst,ra,u,C,N,pb,H,_,O,cs,z1,z5,X,Y,j1,j2,j3,o1,o5,c1,c2,c3,lC d s.look rfl g.look o i (by decide),lC d s.look rfl a.look o b (by decide),lC d g.look rfl a.look i b (by decide),fun e=>(by cases e),fun _=>⟨rfl,s1,⟨lC d j.look rfl s.look l o (by decide),lC d j.look rfl g.look l i (by decide),lC d j.look rfl a.look l b (by decide)⟩,fun _=>⟨lC d j.look rfl k.look l n (by decide),lC d j.look rfl f.look l h (by decide)⟩,s5⟩,fun e=>absurd rfl e,fun _=>⟨r1,u1,⟨lC d k.look rfl s.look n o (by decide),lC d k.look rfl g.look n i (by decide),lC d k.look rfl a.look n b (by decide),lC d k.look rfl f.look n h (by decide)⟩,⟨lC d f.look rfl s.look h o (by decide),lC d f.look rfl g.look h i (by decide),lC d f.look rfl a.look h b (by decide)⟩,r5,u5,k5⟩⟩
theorem Re {op:Rf.Op}(j:Rf.fn op)(k:op≠.sqrt)(l:∃u:List Value,w1.heap[xk]?=some (.cells (.bool false::u).toArray 98 (0,0)))(i:bD true w1 [p,q] xs)(g:∀z∈[p,q],Bits 1 z)(h:0<aV p q)(n:0<aH p q)(a:0<aV (aH p q*aH p q) (aK p q*aK p q)):Calls prog 175 #[.int .i64 (aI op),aA xk,.agg xs.toArray] w1 fun e o=>Told w1 e o fun m=>∃z nst ra b d s pb r f xs cs,LfB w1.heap.size o (aI op) (aH p q) (aK p q) (aH (aH p q*aH p q) (aK p q*aK p q)) (aK (aH p q*aH p q) (aK p q*aK p q)) xk m z nst ra b d s pb r f xs cs:=by
 rcases j with rfl|rfl|rfl|rfl
 ·exact absurd rfl k
 ·exact aS0 l i g h n a
 ·exact aS1 l i g h n a
 ·exact aS2 l i g h n a
end
theorem aIg {x k m:Nat}(a:k<=m)(h:x<2^k):x<2^m:=Nat.lt_of_lt_of_le h (Nat.pow_le_pow_right (by decide) a)
variable {v:Int}
theorem aRd {w:Nat}(h:v.natAbs<2^w):(v*v).natAbs<2^(w+w):=by
 rw[Int.natAbs_mul,Nat.pow_add];exact Nat.mul_lt_mul'' h h
theorem Mf {a:Int}(b:0<v):a.natAbs<=(v*a).natAbs:=Pg.Hn b a
theorem aUB {n:Nat}(j:n+n<=10000000){x T2 B2 o:Int}(bT:v.natAbs<2^n)(d:x.natAbs<2^n)(a:0<o)(f:v*v=o*T2)(g:x*x=o*B2):∀z∈[v,x,T2,B2,0,0,0,0],Bits 1 z:=by
 have b2:T2.natAbs<2^(n+n):=Nat.lt_of_le_of_lt (by rw[f];exact Mf a) (aRd bT);have e:B2.natAbs<2^(n+n):=Nat.lt_of_le_of_lt (by rw[g];exact Mf a) (aRd d)
 have up:∀{z:Int},z.natAbs<2^(n+n)->Bits 1 z:=fun h=>wX (N:=n+n) (by omega) h
 intro z i
 have b:z=v\/z=x\/z=T2\/z=B2\/z=0:=by simp at i;omega
 rcases b with rfl|rfl|rfl|rfl|rfl
 ·exact up (aIg (by omega) bT)
 ·exact up (aIg (by omega) d)
 ·exact up b2
 ·exact up e
 ·exact aW 0 (by simp)
theorem aMO {w:World}{cb:Nat}{op:Rf.Op}(y:Rf.fn op)(H:op≠.sqrt){T B T2 B2 G g2:Int}{cs:List Value}(o:0<G)(hT:0<T)(hB:0<B)(C:0<g2)(P:T*T=g2*T2)(R:B*B=g2*B2)(I:Rf.dW 6100 (G*T,G*B))(j:w.heap[cb]?=some (.cells (.int .i64 (aI op)::aJ::cs).toArray 132 (0,0)))(hold:bD true w [T,B,T2,B2,0,0,0,0] cs):fT w (Rf.row op (G*T) (G*B)) cb:=by
 refine⟨⟨_,j⟩,fun k hk=>?_⟩;obtain⟨_,D⟩:=aJp y H
 obtain ⟨f,a,b,c,d,U,F,l⟩:=aVs (n:=Rf.row op (G*T) (G*B)) (kd:=aI op) (p:=T) (q:=B) (s:=T2) (r:=B2) (g:=G) (h:=G*G*g2) (k:=k) (by omega) D o (Int.mul_pos (Int.mul_pos o o) C) rfl rfl (by
  show G*T*(G*T)=G*G*g2*T2;rw[Int.mul_assoc (G*G),<-P]
  grind) (by
  show G*B*(G*B)=G*G*g2*B2;rw[Int.mul_assoc (G*G),<-R]
  grind)
 obtain⟨m,E,i⟩:=Rf.Fe (n:=Rf.row op (G*T) (G*B)) (Or.inr (Or.inr (Or.inr ⟨y,Int.mul_pos o hT,Int.mul_pos o hB⟩))) (k:=k) hk I.1 I.2;rw[l]at E;have hm:m=Pg.wB f ⟨a,b,c,d⟩:=(Option.some.inj E).symm
 have u:∀z∈[a,b,c,d],Bits 2 z:=by
  have J:∀{z:Int},(f*z).natAbs<2^18400->Bits 2 z:=fun h=>wX (N:=18400) (by decide) (Nat.lt_of_le_of_lt (Mf U) h)
  rw[hm]at i;intro z X;simp at X
  rcases X with rfl|rfl|rfl|rfl
  ·exact J i.a
  ·exact J i.b
  ·exact J i.c
  ·exact J i.d
 refine⟨f,a,b,c,d,U,l,u,fun W S=>?_⟩
 have v:W.heap[cb]?=some (.cells (.int .i64 (aI op)::aJ::cs).toArray 132 (0,0)):=by
  rcases S.cD cb _ j with e|⟨e,_⟩
  ·exact e
  ·have Y:Li.contains 132=true:=e;exact absurd Y (by decide)
 have M:∀z∈[T,B,T2,B2,0,0,0,0],Bits 1 z:=aUB (n:=6100) (by decide) (Nat.lt_of_le_of_lt (Mf o) I.1) (Nat.lt_of_le_of_lt (Mf o) I.2) C P R;obtain⟨_,f1,f2⟩:=Uc y H (k:=k) (by omega)
 have A:Holds (xV (aI op) k):=by
  intro x O;unfold xV at O;simp only[List.mem_cons,List.not_mem_nil,or_false]at O
  rcases O with rfl|rfl|rfl|rfl|rfl|rfl
  ·exact fun _ _=>f1
  ·exact fun _ _=>f2
  ·exact fun _ _=>f1
  ·exact fun _ _=>f2
  ·exact fun _=>f1
  ·exact fun _=>f2
 refine Ue v rfl (nM S hold) rfl M (n:=2) (needs:=xV (aI op) k) ?_ A;rw[<-F]
 rcases D with⟨L,_⟩|⟨L,_⟩|⟨L,_⟩<;>rw[L]
 ·exact Pr T B T2 B2 0 0 0 0 k
 ·exact Ps T B T2 B2 0 0 0 0 k
 ·exact Pt T B T2 B2 0 0 0 0 k
theorem aO8 {op:Rf.Op}(g:Rf.fn op)(h:op≠.sqrt){x G:Int}{lo:Rf.V}(f:0<G)(b:lo.1=G*v)(d:lo.2=G*x):∃u a,Rf.jW op lo=[u,a]/\Pg.eL [u,a] (cH (tD (aI op) v x)):=by
 refine⟨_,_,rfl,?_⟩
 rcases g with rfl|rfl|rfl|rfl
 ·exact absurd rfl h
 ·refine .Dt (e:=G) f ?_ ?_ ?_ ?_<;>simp[tD,Pg.sc,aI,b,d,Int.mul_neg]
 ·refine .Dt (e:=G) f ?_ ?_ ?_ ?_<;>simp[tD,Pg.sc,aI,b,d,Int.mul_neg,Int.mul_add]
 ·refine .Dt (e:=G) f ?_ ?_ ?_ ?_<;>simp[tD,Pg.sc,aI,b,d,Int.mul_neg]
theorem aRP:Pg.eL Rf.Kind.add.cols (cH [0,0,1,0,1,0,0,1]):=.Du (e:=1) (by decide) (Pg.gJ _).symm (Pg.gJ _).symm (Pg.gJ _).symm (Pg.gJ _).symm
theorem aRQ:Pg.eL Rf.Kind.mul.cols (cH [1,0,0,0,0,0,0,1]):=.Du (e:=1) (by decide) (Pg.gJ _).symm (Pg.gJ _).symm (Pg.gJ _).symm (Pg.gJ _).symm
theorem aVF {n w1:World}{b0 fb:Nat}{own:Nat->Option Own}{at1:Nat->Nat}{s:Rf.St}{bc:Nat->Nat}{c i:Nat}{y:Nd}{g:List Nd}{a:Nat}{x:Nd}{e1 e2:Rf.V}{q0 p1 q1 o C p3 q3 mt pl:Int}{gv f u:Value}{dd:Int}{xs:List Value}(R:y.op≠.sqrt)(h:Net n b0 own at1 fb s)(df:b0<=n.heap.size)(hI:Inv s.nodes bc c)(U:s.nodes[i]?=some y)(B:Probe n b0 own at1 s bc i y a x e1 e2 v q0 p1 q1 o C p3 q3 mt pl gv f u dd)(hz:0<e2.1)(l:Rf.turn (s.nodes.set i {y with read:=[0],aR:=false}) i {y with read:=[0],aR:=false} e2=some g)(c1:Chg n w1 [])(hh:bD true w1 [p1,q1] xs):
  Calls prog 175 #[.int .i64 (aI y.op),aA (at1 a),.agg xs.toArray] w1 fun e w2=>∃m,∃ys:List Value,e=.returned (aA m)/\Chg w1 w2 []/\w1.heap.size<=m/\w2.heap[m]?=some (.cells ys.toArray 98 (0,0))/\ys.length=27/\(∀d∈ys,One d)/\∀w3,Chg w2 w3 [at1 i]->w3.heap[at1 i]?=some (.cells ys.toArray 98 (0,0))->kK n b0 own at1 fb s.nodes.length true ⟨g,s.clock⟩ w3:=by
 have hi:=(List.getElem?_eq_some_iff.1 U).1;have a5:=(List.getElem?_eq_some_iff.1 B.rM).1;obtain⟨G,hG,E1,E2,b4,t0,aq,cc,dm⟩:=aNA B.lo B.We B.d0 B.c2
 have hT:0<aH p1 q1:=by
  rcases Int.lt_or_le 0 (aH p1 q1)with h1|h1
  ·exact h1
  ·have:aH p1 q1=0:=by omega
   have:=cc.1 this;omega
 have P:=B.fn;obtain⟨g2,b3,cx,m1,m2,_,_,_⟩:=Vk (p:=aH p1 q1*aH p1 q1) (q:=aK p1 q1*aK p1 q1) (Int.mul_nonneg t0 t0) (Int.mul_pos aq aq);obtain⟨cj,bb⟩:=Zr (h.still hI c1) hI B.rM B.En;refine(Re P R ⟨cj,bb⟩ hh B.bits b4 hT (by omega)).mono ?_;rintro e w2⟨m,ys,rfl,c2,k1,k2,k3,k4,z,nst,ra,r,E,nb,pb,cb,de,ei,cs,L⟩;refine⟨m,ys,rfl,c2,k1,k2,k3,k4,fun w3 c3 h3=>?_⟩;have dj:n.heap.size<=w1.heap.size:=c1.on.size
 have am:at1 i<n.heap.size:=by obtain⟨cs,bt⟩:=Kq h U;exact gU bt
 have a3:Chg n w3 [at1 i]:=((c1.bU (by simp)).trans (c2.bU (by simp))).trans c3
 have up:∀{k:Nat} {zs:List Int} {lp rp f u:Value},w1.heap.size<=k->NodeAt w2 k zs false 0 0 0 0 0 lp rp aJ f u->NodeAt w3 k zs false 0 0 0 0 0 lp rp aJ f u:=fun hk U=>U.aT c3.on (c3.low _ U.lt (by simp;omega))
 have N:=c3.at L.cD (by have:=L.b0;simp;omega);have ad:=nM c3.on L.hold;have a2:=c3.at L.fI (by have:=L.c0;simp;omega);have a4:=nM c3.on L.Pn;have aa:=aMO P R hG hT aq b3 m1 m2 (by rw[<-E1,<-E2];exact B.b1) a2 a4;rw[<-E1,<-E2]at aa;obtain⟨ru,rv,ae,Y⟩:=aO8 P R hG E1 E2;have z0:=L.z0;have n0:=L.n0;have f0:=L.f0
 -- the machine
 unfold Rf.turn at l;simp only[B.args,List.getElem?_cons_zero,Option.bind_some]at l;rw[if_neg R,if_pos hz]at l;obtain⟨zb,ca,l⟩:=Option.bind_eq_some_iff.1 l;obtain⟨dx,b8,b2⟩:=Option.map_eq_some_iff.1 ca;have a9:=wY b8;subst a9;subst b2;simp only at l;obtain⟨dt,S,l⟩:=Option.bind_eq_some_iff.1 l;unfold Rf.nest at S;rw[if_neg (by omega)]at S;obtain⟨Jg,ax,bu⟩:=Option.map_eq_some_iff.1 S;have a8:=wY ax;subst a8;subst bu;simp only at l
 by_cases M:y.op=.exp
 ·rw[if_pos M]at l;obtain⟨rb,b9,l⟩:=Option.bind_eq_some_iff.1 l;obtain⟨du,b6,bx⟩:=Option.map_eq_some_iff.1 b9;have a6:=wY b6;subst a6;subst bx;rw[if_neg (by omega)]at l;obtain⟨ob,J,l⟩:=Option.bind_eq_some_iff.1 l;unfold Rf.outright at J;obtain⟨ce,av,J⟩:=Option.bind_eq_some_iff.1 J;have ab:=wY av;subst ab;rw[if_pos M]at J;obtain⟨dv,b7,bz⟩:=Option.map_eq_some_iff.1 J;have a7:=wY b7;subst a7;subst bz;have I:=(Ch l).1;simp only[List.length_set,List.length_append,List.length_singleton,if_pos M,ae]at I;rw[List.append_assoc,List.append_assoc,List.append_assoc,List.append_assoc,Ur hi]at I;have ai:aI y.op=11:=(Ld P).2 M;obtain⟨r1,r2,hR,hU,r7,r8,r9⟩:=L.ex ai;have HR:=hid hR;have HU:=hid hU;clear hR hU
  have X:aI y.op≠12:=fun e=>by rw[M]at e;cases e
  obtain⟨s1,s2,hS,s6,s7⟩:=L.sq X;have HS:=hid hS;have H6:=hid (s6 ai);clear hS s6
  have F:[z,nst,ra,r,E].Nodup:=by
   obtain⟨r3,r4,r5,r6⟩:=HR.out;obtain⟨u1,u2,u3⟩:=HU.out;simp[L.d1,L.d2,L.d3,Ne.symm r3,Ne.symm r4,r5,r6,Ne.symm u1,Ne.symm u2,Ne.symm u3]
  have H:∀b∈[z,nst,ra,r,E],n.heap.size<=b:=by
   intro b hb;simp at hb
   rcases hb with rfl|rfl|rfl|rfl|rfl<;>omega
  have au:Pg.Go s.nodes g:=by
   rw[I];exact(Pg.Go.more _ _).trans (yE (n:=y) (by rw[List.getElem?_append_left hi];exact U) rfl rfl rfl)
  obtain⟨xa,g1,_,g3,_⟩:=au.at' a x B.rM;have ay:=g3 0 _ (h.nd a x B.rM).hc.fst
  have hN:∀(j:Nat) (mm:Nd),([Rf.fresh true [ru,rv] [a]]++([Rf.eP y.op 0 s.nodes.length s.nodes.length none]++([Rf.raised (s.nodes.length+1)]++([Rf.row y.op e2.1 e2.2]++[Rf.raised (s.nodes.length+1+1+1)]))))[j]?=some mm->g[s.nodes.length+j]?=some mm:=by
   intro j mm D;rw[I,List.getElem?_set_ne (by omega),List.getElem?_append_right (by omega),show s.nodes.length+j-s.nodes.length=j by omega];exact D
  have A:∀{j b:Nat},[z,nst,ra,r,E][j]?=some b->kA s.nodes.length [z,nst,ra,r,E] at1 (s.nodes.length+j)=b:=fun D=>Cg D
  have O:∀{j b:Nat},[z,nst,ra,r,E][j]?=some b->pb≠b->mF (aI y.op) pb (s.nodes.length+1) s.nodes.length [z,nst,ra,r,E] own b=some (.nd (s.nodes.length+j)):=fun D hb=>Hl F D (fun _=>hb)
  have T:kA s.nodes.length [z,nst,ra,r,E] at1 s.nodes.length=z:=A (j:=0) rfl;have A1:kA s.nodes.length [z,nst,ra,r,E] at1 (s.nodes.length+1)=nst:=A (j:=1) rfl;have A2:kA s.nodes.length [z,nst,ra,r,E] at1 (s.nodes.length+2)=ra:=A (j:=2) rfl;have A3:kA s.nodes.length [z,nst,ra,r,E] at1 (s.nodes.length+3)=r:=A (j:=3) rfl;have A4:kA s.nodes.length [z,nst,ra,r,E] at1 (s.nodes.length+4)=E:=A (j:=4) rfl;have Ai:kA s.nodes.length [z,nst,ra,r,E] at1 i=at1 i:=uZ hi;have Aa:kA s.nodes.length [z,nst,ra,r,E] at1 a=at1 a:=uZ a5;refine Nn h hI U (own':=mF (aI y.op) pb (s.nodes.length+1) s.nodes.length [z,nst,ra,r,E] own) (at2:=kA s.nodes.length [z,nst,ra,r,E] at1) I rfl rfl rfl a3 (fun a ha=>uZ ha) (fun k hk=>Fj hk H (fun _=>by omega)) ?_ ?_
  ·refine aFu (a:=s.nodes.length+4) (b:=s.nodes.length+2) (xa:=Rf.raised (s.nodes.length+1+1+1)) (xb:=Rf.raised (s.nodes.length+1)) ?_ rfl B.pos rfl rfl rfl rfl B.out B.told B.dP B.nest (hN 4 _ rfl) rfl (hN 2 _ rfl) rfl aRQ (by rw[Ai,Fj (W:=n.heap.size) am H (fun _=>by omega)];exact(h.nd i y U).own) (by rw[Ai];exact(h.nd i y U).lo);rw[Ai,A4,A2];exact r9.copy k2 h3 c3.on
  ·intro j mm D
   match j,D with
   |0,D=>
    simp at D;subst D;refine Mm (a:=a) ?_ rfl g1 ay Y ?_ ?_
    ·rw[Nat.add_zero s.nodes.length,T,Aa];exact up z0 L.zn
    ·rw[Nat.add_zero s.nodes.length,T];exact O (j:=0) rfl HS.out.1
    ·rw[Nat.add_zero s.nodes.length,T];omega
   |1,D=>
    simp at D;subst D;refine Gw (a:=s.nodes.length) (nb:=nb) ?_ rfl rfl rfl rfl rfl rfl rfl rfl rfl rfl (hN 0 _ rfl) rfl ⟨_,N⟩ (Uj R (by rw[T];exact N) ad (fun e=>by rw[M]at e;cases e) (fun _=>⟨s1,Ul X,by omega,by rw[T];exact up s2 s7⟩)) (Sr P R _) ?_ ?_
    ·rw[A1,T];exact up n0 L.nd
    ·rw[A1];exact O (j:=1) rfl HS.out.2.1
    ·rw[A1];omega
   |2,D=>
    simp at D;subst D;refine Mm (a:=s.nodes.length+1) ?_ rfl (hN 1 _ rfl) rfl Sh ?_ ?_
    ·rw[A2,A1];exact up r1 r7
    ·rw[A2];exact O (j:=2) rfl H6.out.1
    ·rw[A2];omega
   |3,D=>
    simp at D;subst D;refine Sj (cb:=cb) ?_ aa ?_ ?_
    ·rw[A3];exact up f0 L.fn
    ·rw[A3];exact O (j:=3) rfl HS.out.2.2
    ·rw[A3];omega
   |4,D=>
    simp at D;subst D;refine Mm (a:=s.nodes.length+3) ?_ rfl (hN 3 _ rfl) rfl Sh ?_ ?_
    ·rw[A4,A3];exact up r2 r8
    ·rw[A4];exact O (j:=4) rfl H6.out.2
    ·rw[A4];omega
   |j+5,D=>simp at D
 ·rw[if_neg M]at l;simp only[Option.bind_some]at l;rw[if_neg (by omega)]at l;obtain⟨ob,J,l⟩:=Option.bind_eq_some_iff.1 l;unfold Rf.outright at J;obtain⟨ce,av,J⟩:=Option.bind_eq_some_iff.1 J;have ab:=wY av;subst ab;rw[if_neg M]at J;cases J;have I:=(Ch l).1;simp only[List.length_set,List.length_append,List.length_singleton,if_neg M,ae]at I;rw[List.append_assoc,List.append_assoc,Ur hi]at I
  have ai:aI y.op≠11:=fun e=>M ((Ld P).1 e)
  have ba:=L.top ai
  have ao:aI y.op≠12->n.heap.size<=pb:=fun h=>by have:=(L.sq h).2.1;omega
  have F:[z,nst,r].Nodup:=by simp[L.d1,L.d2,L.d3]
  have H:∀b∈[z,nst,r],n.heap.size<=b:=by
   intro b hb;simp at hb
   rcases hb with rfl|rfl|rfl<;>omega
  have au:Pg.Go s.nodes g:=by
   rw[I];exact(Pg.Go.more _ _).trans (yE (n:=y) (by rw[List.getElem?_append_left hi];exact U) rfl rfl rfl)
  obtain⟨xa,g1,_,g3,_⟩:=au.at' a x B.rM;have ay:=g3 0 _ (h.nd a x B.rM).hc.fst
  have hN:∀(j:Nat) (mm:Nd),([Rf.fresh true [ru,rv] [a]]++([Rf.eP y.op 0 s.nodes.length s.nodes.length none]++[Rf.row y.op e2.1 e2.2]))[j]?=some mm->g[s.nodes.length+j]?=some mm:=by
   intro j mm D;rw[I,List.getElem?_set_ne (by omega),List.getElem?_append_right (by omega),show s.nodes.length+j-s.nodes.length=j by omega];exact D
  have T:kA s.nodes.length [z,nst,r] at1 s.nodes.length=z:=Cg (j:=0) rfl;have A1:kA s.nodes.length [z,nst,r] at1 (s.nodes.length+1)=nst:=Cg (j:=1) rfl;have A2:kA s.nodes.length [z,nst,r] at1 (s.nodes.length+2)=r:=Cg (j:=2) rfl;have Ai:kA s.nodes.length [z,nst,r] at1 i=at1 i:=uZ hi;have Aa:kA s.nodes.length [z,nst,r] at1 a=at1 a:=uZ a5;refine Nn h hI U (own':=mF (aI y.op) pb (s.nodes.length+1) s.nodes.length [z,nst,r] own) (at2:=kA s.nodes.length [z,nst,r] at1) I rfl rfl rfl a3 (fun a ha=>uZ ha) (fun k hk=>Fj hk H ao) ?_ ?_
  ·refine aFu (a:=s.nodes.length+2) (b:=s.nodes.length+1) (xa:=Rf.row y.op e2.1 e2.2) (xb:=Rf.eP y.op 0 s.nodes.length s.nodes.length none) ?_ rfl B.pos rfl rfl rfl rfl B.out B.told B.dP B.nest (hN 2 _ rfl) rfl (hN 1 _ rfl) rfl aRP (by rw[Ai,Fj (W:=n.heap.size) am H ao];exact(h.nd i y U).own) (by rw[Ai];exact(h.nd i y U).lo);rw[Ai,A2,A1];exact ba.copy k2 h3 c3.on
  ·intro j mm D
   match j,D with
   |0,D=>
    simp at D;subst D;refine Mm (a:=a) ?_ rfl g1 ay Y ?_ ?_
    ·rw[Nat.add_zero s.nodes.length,T,Aa];exact up z0 L.zn
    ·rw[Nat.add_zero s.nodes.length,T];exact Hl (j:=0) F rfl (fun h=>(L.sq h).2.2.1.1)
    ·rw[Nat.add_zero s.nodes.length,T];omega
   |1,D=>
    simp at D;subst D;refine Gw (a:=s.nodes.length) (nb:=nb) ?_ rfl rfl rfl rfl rfl rfl rfl rfl rfl rfl (hN 0 _ rfl) rfl ⟨_,N⟩ (Uj (pb:=pb) R (by rw[T];exact N) ad (fun e=>by rw[T];exact L.ln ((Pc P).2 e)) (fun hl=>?_)) (Sr P R _) ?_ ?_
    ·rw[A1,T];exact up n0 L.nd
    ·have X:aI y.op≠12:=fun e=>hl ((Pc P).1 e)
     obtain⟨s1,s2,_,_,s7⟩:=L.sq X;exact⟨s1,Ul X,by omega,by rw[T];exact up s2 s7⟩
    ·rw[A1];exact Hl (j:=1) F rfl (fun h=>(L.sq h).2.2.1.2.1)
    ·rw[A1];omega
   |2,D=>
    simp at D;subst D;refine Sj (cb:=cb) ?_ aa ?_ ?_
    ·rw[A2];exact up f0 L.fn
    ·rw[A2];exact Hl (j:=2) F rfl (fun h=>(L.sq h).2.2.1.2.2)
    ·rw[A2];omega
   |j+3,D=>simp at D
theorem aOo:gQ:=by
 refine aOn ?_;intro w b0 z own at1 s r c i n q a x y f C F p1 H D I p3 J mt E gv u B v h e j g l A d p b L M c1 k
 by_cases o:n.op=.sqrt
 ·exact aOG w b0 z own at1 s r c i n q a x y f C F p1 H D I p3 J mt E gv u B v o h e j g l A d p b L M c1 k
 ·have N:0<=f.1:=by
   rw[d.c2];exact Int.mul_nonneg (by have:=d.d0;omega) d.lo
  rcases Int.lt_or_le 0 f.1 with hz|hz
  ·exact aVF o h e g l d hz b c1 k
  ·exact aVE o h e g l d (by omega) b c1 k
theorem aOx (f:Nat):nL f:=aVx aOo f
end Ab
namespace Rf
open Nw
inductive Wt where
 |fr (p q:Int)
 |fI (op:Op) (ts:List Int)
 |neg (t:Wt)
 |two (k:Kind) (a b:Wt)
 |fn (op:Op) (t:Wt)
noncomputable def of:Wt->List Nd->Option (List Nd×Nat)
 |.fr p q,ns=>(more ns (fresh (decide (0<=p)) [(p,q)] [])).map fun d=>(d,ns.length)
 |.fI op ts,ns=>(more ns { fresh true [] []with op:=op,terms:=ts}).map fun d=>(d,ns.length)
 |.neg t,ns=>(of t ns).bind fun x=>(more x.1 (fresh false [(-1,0),(0,1)] [x.2])).map fun d=>(d,x.1.length)
 |.two k a b,ns=>(of a ns).bind fun x=>(of b x.1).bind fun y=>(y.1[x.2]?).bind fun e=>(y.1[y.2]?).bind fun f=>(more y.1 (two k e.pos f.pos x.2 y.2)).map fun d=>(d,y.1.length)
 |.fn op (.fr p q),ns=>outright ns op p q
 |.fn op t,ns=>(of t ns).bind fun x=>(x.1[x.2]?).bind fun e=>
   (if e.pos then some x else(more x.1 (fresh true [(1,0),(0,1)] [x.2])).map fun d=>(d,x.1.length)).bind fun y=>
   (more y.1 { fresh true [(1,0),(0,1)] [y.2]with op:=op,aR:=true}).map fun d=>(d,y.1.length)
def Wt.size:Wt->Nat
 |.fr _ _=>1
 |.fI _ _=>1
 |.neg t=>t.size+1
 |.two _ a b=>a.size+b.size+1
 |.fn _ t=>t.size+1
def Wt.Ok:Wt->Prop
 |.fr p q=>0<q/\Bits 6100 p/\Bits 6100 q
 |.fI op ts=>op=.pi\/op=.e\/(op=.cf/\2<=ts.length/\∀a∈ts,Bits 40 a)
 |.neg t=>t.Ok
 |.two _ a b=>a.Ok/\b.Ok
 |.fn op t=>Rf.fn op/\t.Ok/\(∀p q,t=.fr p q->0<p)
section
variable {ns:List Nd} {rho:Nat->Nat} {c:Nat}
theorem aMN (k:Kind):∀v∈k.cols,Bits 13000 v.1/\Bits 13000 v.2:=by
 have b0:Bits 13000 0:=aW;have b1:Bits 13000 1:=eB (by decide);intro v hv
 cases k<;>simp[Kind.cols]at hv
 ·rcases hv with rfl|rfl|rfl
  ·exact⟨b0,b0⟩
  ·exact⟨b1,b0⟩
  ·exact⟨b0,b1⟩
 ·rcases hv with rfl|rfl|rfl|rfl
  ·exact⟨b0,b0⟩
  ·exact⟨b1,b0⟩
  ·exact⟨yI b1,b0⟩
  ·exact⟨b0,b1⟩
 ·rcases hv with rfl|rfl|rfl
  ·exact⟨b1,b0⟩
  ·exact⟨b0,b0⟩
  ·exact⟨b0,b1⟩
 ·rcases hv with rfl|rfl|rfl|rfl<;>first|exact⟨b0,b0⟩|exact⟨b1,b0⟩|exact⟨b0,b1⟩
theorem aNo:∀v∈[((1:Int),(0:Int)),(0,1)],Bits 13000 v.1/\Bits 13000 v.2:=by
 intro v hv;simp at hv
 rcases hv with rfl|rfl
 ·exact⟨eB (by decide),aW⟩
 ·exact⟨aW,eB (by decide)⟩
theorem Vi {op:Op}{t:Wt}(hc:c<=3000)(s:fn op){g:List Nd}{S:Nat->Nat}{d k:Nat}(a:Grown ns rho c k g S)(q:d<g.length)(rd:S d<=k)(B:ns.length<=d):
  ∃ l i e,((g[d]?).bind fun A=>
   (if A.pos then some (g,d)else(more g (fresh true [(1,0),(0,1)] [d])).map fun f=>(f,g.length)).bind fun y=>
   (more y.1 { fresh true [(1,0),(0,1)] [y.2]with op:=op,aR:=true}).map fun g=>(g,y.1.length))=some (l,e)/\Grown ns rho c (k+3200) l i/\e<l.length/\i e<=k+3200/\ns.length<=e:=by
 have w:g[d]?=some g[d]:=List.getElem?_eq_getElem q;rw[w,Option.bind_some]
 have Y:∃f h y,(if g[d].pos then some (g,d)else(more g (fresh true [(1,0),(0,1)] [d])).map fun f=>(f,g.length))=some (f,y)/\Grown ns rho c (k+1) f h/\Pos f y/\h y<=k+1:=by
  cases z:g[d].pos with
  |true=>exact⟨g,S,d,by simp,a.bU (by omega),⟨_,w,z⟩,by omega⟩
  |false=>
   obtain ⟨k1,u,v⟩:=uE a.inv (r:=k+1) (n':=fresh true [(1,0),(0,1)] [d]) (by
    refine wS hc rfl rfl rfl rfl rfl (by simpa[fresh]using hc) aNo aW aW ?_ (.kP _ _ d rfl rfl (fun e=>by cases e));intro j b p;have:=lH p;subst this;rw[rZ q,uB]
    exact⟨q,by omega⟩)
   simp only[Bool.false_eq_true,if_false];rw[k1];exact⟨_,_,_,rfl,(a.bU (by omega)).trans u,Ca rfl,by rw[v];exact Nat.le_refl _⟩
 obtain⟨f,h,y,x,o,n,C⟩:=Y;rw[x,Option.bind_some];simp only
 obtain ⟨k1,u,v⟩:=uE o.inv (r:=k+3200) (n':={ fresh true [(1,0),(0,1)] [y] with op:=op,aR:=true}) (by
  refine wS hc rfl rfl rfl rfl rfl (by simpa[fresh]using hc) aNo aW aW ?_ (.kP _ _ y rfl rfl (fun _=>⟨rfl,s,rfl,n,by rw[rZ n.lt,uB];omega,rfl⟩));intro j b p;have:=lH p;subst this;rw[rZ n.lt,uB]
  exact⟨n.lt,by omega⟩)
 rw[k1];have:=o.le.len;exact⟨_,_,_,rfl,(o.bU (by omega)).trans u,by simp,by rw[v];exact Nat.le_refl _,by omega⟩
theorem qE:∀(t:Wt) (ns:List Nd) (rho:Nat->Nat),t.Ok->c<=3000->Inv ns rho c->∃E B d,of t ns=some (E,d)/\Grown ns rho c (3200*t.size) E B/\d<E.length/\B d<=3200*t.size/\ns.length<=d
 |.fr p q,ns,rho,i,hc,h=>by
  obtain⟨N,O,P⟩:=i
  obtain ⟨k1,z,A⟩:=uE h (r:=0) (n':=fresh (decide (0<=p)) [(p,q)] []) (by
   refine wS hc rfl rfl rfl rfl rfl (by simpa[fresh]using hc) ?_ aW aW (fun j a J=>by simp[fresh]at J) (.gH (p,q) rfl rfl rfl ?_)
   ·intro v hv;simp[fresh]at hv;subst hv;exact⟨eG O (by decide),eG P (by decide)⟩
   ·by_cases W:0<=p
    ·refine Or.inl ?_;show fits [fH one (p,q)]=true;rw[Fm,mL];exact Or.inl ⟨W,by simp only;omega,Or.inr N⟩
    ·refine Or.inr ⟨by simp[fresh];omega,rfl,by simp only;omega,N⟩)
  unfold of;rw[k1];exact⟨_,_,_,rfl,z.bU (by omega),by simp,by rw[A];omega,Nat.le_refl _⟩
 |.fI op ts,ns,rho,i,hc,h=>by
  obtain ⟨k1,z,A⟩:=uE h (r:=0) (n':={ fresh true [] [] with op:=op,terms:=ts}) (by
   refine wS hc rfl rfl rfl rfl rfl (by simpa[fresh]using hc) (fun v hv=>by simp[fresh]at hv) aW aW (fun j a J=>by simp[fresh]at J) (.fI rfl rfl rfl ?_)
   rcases i with e|e|e
   ·exact Or.inl e
   ·exact Or.inr (Or.inl e)
   ·exact Or.inr (Or.inr (Or.inl e)))
  unfold of;rw[k1];exact⟨_,_,_,rfl,z.bU (by omega),by simp,by rw[A];omega,Nat.le_refl _⟩
 |.neg t,ns,rho,i,hc,h=>by
  obtain⟨s,f,d,w,g,n,rd,y⟩:=qE t ns rho i hc h
  obtain ⟨k1,z,A⟩:=uE g.inv (r:=3200*t.size+1) (n':=fresh false [(-1,0),(0,1)] [d]) (by
   refine wS hc rfl rfl rfl rfl rfl (by simpa[fresh]using hc) ?_ aW aW ?_ (.kP _ _ d rfl rfl (fun e=>by cases e))
   ·intro v hv;simp[fresh]at hv
    rcases hv with rfl|rfl
    ·exact⟨yI (eB (by decide)),aW⟩
    ·exact⟨aW,eB (by decide)⟩
   ·intro j b U;have:=lH U;subst this;rw[rZ n,uB]
    exact⟨n,by omega⟩)
  unfold of;rw[w,Option.bind_some,k1];have:=g.le.len;exact⟨_,_,_,rfl,((g.bU (by omega)).trans z).bU (by simp[Wt.size];omega),by simp,by rw[A];simp[Wt.size];omega,by simp only;omega⟩
 |.two k a b,ns,rho,i,hc,h=>by
  obtain⟨s,f,d,w,I,n,rd,y⟩:=qE a ns rho i.1 hc h;obtain⟨u,l,e,R,F,L,re,M⟩:=qE b s f i.2 hc I.inv;have D:d<u.length:=Nat.lt_of_lt_of_le n F.le.len;have rd2:l d=f d:=F.agree d n
  obtain ⟨k1,z,A⟩:=uE F.inv (r:=3200*(a.size+b.size)+1) (n':=two k u[d].pos u[e].pos d e) (by
   refine wS hc rfl rfl rfl rfl rfl (by simpa[two,fresh]using hc) (aMN k) aW aW ?_ ?_
   ·intro j x X
    rcases args2 X with rfl|rfl
    ·rw[rZ D,uB];exact⟨D,by omega⟩
    ·rw[rZ L,uB];exact⟨L,by omega⟩
   ·cases k
    ·exact .bin d e _ _ _ _ rfl rfl rfl
    ·exact .bin d e _ _ _ _ rfl rfl rfl
    ·exact .bin d e _ _ _ _ rfl rfl rfl
    ·exact .bin d e _ _ _ _ rfl rfl rfl)
  unfold of;rw[w,Option.bind_some];simp only;rw[R,Option.bind_some,List.getElem?_eq_getElem D,Option.bind_some,List.getElem?_eq_getElem L,Option.bind_some,k1];have Y:=I.le.len;have l2:=F.le.len;exact⟨_,_,_,rfl,(((I.bU (by omega)).trans (F.bU (by omega))).trans z).bU (by simp[Wt.size];omega),by simp,by rw[A];simp[Wt.size];omega,by simp only;omega⟩
 |.fn op (.fr p q),ns,rho,i,hc,h=>by
  obtain⟨M,S,T⟩:=i;obtain⟨k1,z,A⟩:=S;obtain⟨s,f,d,w,g,n,pd⟩:=aEX h hc M (T p q rfl) k1 z A;have:=g.jD d n pd.lt;unfold of;exact⟨_,_,_,w,g.bU (by simp[Wt.size]),pd.lt,by simp[Wt.size];omega,n⟩
 |.fn op (.fI o ts),ns,rho,i,hc,h=>by
  obtain⟨s,f,d,w,g,n,rd,y⟩:=qE (.fI o ts) ns rho i.2.1 hc h;obtain⟨u,l,e,f1,f2,f3,H,C⟩:=Vi (t:=.fI o ts) hc i.1 g n rd y;unfold of;rw[w,Option.bind_some];exact⟨_,_,_,f1,f2.bU (by simp[Wt.size]),f3,by simp[Wt.size]at *;omega,C⟩
 |.fn op (.neg t),ns,rho,i,hc,h=>by
  obtain⟨s,f,d,w,g,n,rd,y⟩:=qE (.neg t) ns rho i.2.1 hc h;obtain⟨u,l,e,f1,f2,f3,H,C⟩:=Vi (t:=.neg t) hc i.1 g n rd y;unfold of;rw[w,Option.bind_some];exact⟨_,_,_,f1,f2.bU (by simp[Wt.size];omega),f3,by simp[Wt.size]at *;omega,C⟩
 |.fn op (.two k a b),ns,rho,i,hc,h=>by
  obtain⟨s,f,d,w,g,n,rd,y⟩:=qE (.two k a b) ns rho i.2.1 hc h;obtain⟨u,l,e,f1,f2,f3,H,C⟩:=Vi (t:=.two k a b) hc i.1 g n rd y;unfold of;rw[w,Option.bind_some];exact⟨_,_,_,f1,f2.bU (by simp[Wt.size];omega),f3,by simp[Wt.size]at *;omega,C⟩
 |.fn op (.fn o t),ns,rho,i,hc,h=>by
  obtain⟨s,f,d,w,g,n,rd,y⟩:=qE (.fn o t) ns rho i.2.1 hc h;obtain⟨u,l,e,f1,f2,f3,H,C⟩:=Vi (t:=.fn o t) hc i.1 g n rd y;unfold of;rw[w,Option.bind_some];exact⟨_,_,_,f1,f2.bU (by simp[Wt.size];omega),f3,by simp[Wt.size]at *;omega,C⟩
theorem aJo (rho:Nat->Nat)(c:Nat):Inv [] rho c:=⟨fun i n h=>by simp at h⟩
end
end Rf
namespace Ab
open Rf (Nd Inv aZ Wt)
def wQ (w:World)(b0:Nat)(own:Nat->Option Own)(at':Nat->Nat)(ns:List Nd):Prop:=∀i n,ns[i]?=some n->cL w b0 own at' ns i n
section
variable {w w':World} {b0:Nat} {own own':Nat->Option Own} {at1 at2:Nat->Nat} {ns:List Nd} {rho:Nat->Nat} {c:Nat}
theorem wQ.more (h:wQ w b0 own at1 ns)(p:Inv ns rho c){new:List Nd}(f:Chg w w' [])(d:∀k,k<w.heap.size->own' k=own k)(e:∀a,a<ns.length->at2 a=at1 a)(b:∀j l,new[j]?=some l->cL w' b0 own' at2 (ns++new) (ns.length+j) l):wQ w' b0 own' at2 (ns++new):=by
 intro i n hi
 by_cases g:i<ns.length
 ·rw[List.getElem?_append_left g]at hi;exact(h i n hi).aT (i0:=ns.length+1) f aNr (by omega) g (Pg.Go.more _ _) (fun k o q r _=>by rw[d k q];exact r) e (p.at' i n hi)
 ·rw[List.getElem?_append_right (by omega)]at hi;have:=b _ _ hi;rw[show ns.length+(i-ns.length)=i by omega]at this;exact this
theorem wQ.still (h:wQ w b0 own at1 ns)(b:Inv ns rho c)(a:Chg w w' []):wQ w' b0 own at1 ns:=by
 have:=h.more b (new:=[]) (own':=own) (at2:=at1) a (fun _ _=>rfl) (fun _ _=>rfl) (fun j e d=>by simp at d);rw[List.append_nil]at this;exact this
end
def cW:Rf.Kind->Int
 |.add=>6
 |.sub=>7
 |.mul=>8
 |.div=>9
def PartB (w:World)(k:Nat)(a:Int)(f:List Value)(e b d:Value):Prop:=w.heap[k]?=some (.cells (.int .i64 a::f++[e,b,d]).toArray 126 (0,0))
def yW (w:World)(ts:List Int)(v:Value):Prop:=∃g b,∃a:List Value,v=.slice (some ⟨g,0,none⟩) ts.length b/\ts.length<=1000000/\w.heap[g]?=some (.cells (ts.map (fun t=>Value.int .i64 t)++a).toArray 3 (0,0))
def aM (w:World):Wt->Value->Prop
 |.fr p q,v=>∃k h d f g,v=aA k/\PartB w k 1 h d f g/\bD true w [p,q] h/\One d/\One f/\One g
 |.fI op ts,v=>∃k h e d f g,v=aA k/\PartB w k (aI op) h d f g/\bD true w e h/\e.length=2/\(∀z∈e,Bits 1 z)/\One d/\One f/\One g/\(op=.cf->yW w ts d)
 |.neg t,v=>∃k h e d f g,v=aA k/\PartB w k 5 h d f g/\bD true w e h/\e.length=2/\(∀z∈e,Bits 1 z)/\One d/\One g/\aM w t f
 |.two i a b,v=>∃k h e d f g,v=aA k/\PartB w k (cW i) h d f g/\bD true w e h/\e.length=2/\(∀z∈e,Bits 1 z)/\One d/\aM w a f/\aM w b g
 |.fn op t,v=>∃k h e d f g,v=aA k/\PartB w k (aI op) h d f g/\bD true w e h/\e.length=2/\(∀z∈e,Bits 1 z)/\One d/\One g/\aM w t f
variable {k:Nat}
theorem Ev {w w':World}(a:On Z.bt w w'){cs:Array Value}{ty:TypeId}(h:w.heap[k]?=some (.cells cs ty (0,0)))(d:Li.contains ty=false):w'.heap[k]?=some (.cells cs ty (0,0)):=by
 rcases a.cD k _ h with e|⟨e,_⟩
 ·exact e
 ·have b:Li.contains ty=true:=e;rw[d]at b;cases b
theorem aM.aT {w w':World}(d:On Z.bt w w'):∀(t:Wt) (v:Value),aM w t v->aM w' t v
 |.fr p q,v,⟨k,r,o,f,h,i,j,l,n⟩=>⟨k,r,o,f,h,i,Ev d j (by decide),nM d l,n⟩
 | .fI op ts,v,⟨k,r,y,o,f,h,i,j,l,n,s,u,x,h8,E⟩=>⟨k,r,y,o,f,h,i,Ev d j (by decide),nM d l,n,s,u,x,h8,fun e=>by
   obtain⟨g,A,z,C,B,D⟩:=E e
   exact⟨g,A,z,C,B,Ev d D (by decide)⟩⟩
 |.neg t,v,⟨k,r,y,o,f,h,i,j,l,n,s,u,x,h8⟩=>⟨k,r,y,o,f,h,i,Ev d j (by decide),nM d l,n,s,u,x,aM.aT d t f h8⟩
 |.two F a b,v,⟨k,r,y,o,f,h,i,j,l,n,s,u,x,h8⟩=>⟨k,r,y,o,f,h,i,Ev d j (by decide),nM d l,n,s,u,aM.aT d a f x,aM.aT d b h h8⟩
 |.fn op t,v,⟨k,r,y,o,f,h,i,j,l,n,s,u,x,h8⟩=>⟨k,r,y,o,f,h,i,Ev d j (by decide),nM d l,n,s,u,x,aM.aT d t f h8⟩
theorem aM.ptr {w:World}:∀(t:Wt) (v:Value),aM w t v->∃k,v=aA k
 |.fr p q,v,⟨k,h,g,e,f,d,_⟩=>⟨k,d⟩
 |.fI op ts,v,⟨k,h,zs,g,e,f,d,_⟩=>⟨k,d⟩
 |.neg t,v,⟨k,h,zs,g,e,f,d,_⟩=>⟨k,d⟩
 |.two kd a b,v,⟨k,h,zs,g,e,f,d,_⟩=>⟨k,d⟩
 |.fn op t,v,⟨k,h,zs,g,e,f,d,_⟩=>⟨k,d⟩
noncomputable def Qy (p q:Int):AS:=⟨.val (.agg (bH true 0 1))::.val (.agg (bH true 1 1))::List.replicate (f61.ntmps-2) .gC,[],0,[(p,1),(q,1)],[]⟩
noncomputable def Qx (cv:Value):AS:=⟨.val (.one (.lit cv))::List.replicate (f62.ntmps-1) .gC,[],0,[],[]⟩
noncomputable def Jn (b:Bool):AS:=⟨.val (.one (.ptr 1 0))::List.replicate (f64.ntmps-1) .gC,[(1,ext [.bool b] 98)],3,[],[]⟩
noncomputable def Jo (d:Int)(a b:Bool):AS:=⟨.val (.one (.int .i64 d))::.val (.one (.ptr 1 0))::.val (.one (.ptr 2 0))::List.replicate (f65.ntmps-3) .gC,[(1,ext [.bool a] 98),(2,ext [.bool b] 98)],3,[],[]⟩
noncomputable def Qj (fn:Func)(s:AS):Option Tr:=run Z (aE tS) bT (aO Z (aE tS)) (fun _=>false) 1000 [.code (aF fn),.top fn] s
noncomputable def yQ (fn:Func)(s:AS):AS:=(((Qj fn s).bind (dI [])).map (·.2)).getD ⟨[],[],0,[],[]⟩
structure fN (s:AS) (b:Nat) (c0:AC) (zs:List Int) (cv lp rp:AC) (uns:Int):Prop where
 look:look s.boxes b=some ⟨c0::xI s b++[cv,.int .i64 0,lp,.int .i64 0,rp,.int .i64 0,.lit aJ,.int .i64 uns,.lit aB,.int .i64 0],98,true,false,false⟩
 len:(xI s b).length=16
 num:numOf s.nums (xI s b)=some zs
theorem fN.at {n w:World}{q φ:Nat->Option (Nat×Nat)}{s:AS}{b:Nat}{c0:AC}{hs:Bool}{d:List Int}{cv lp rp:AC}{v:Int}{z f u:Value}(h:fN s b c0 d cv lp rp v)(l:RepW Z n q φ s w){m:Nat}(k:φ b=some (m,0))(e:∀x,relC Z φ s.nums w c0 x->x=.bool hs)(g:∀x,relC Z φ s.nums w cv x->x=z)(i:∀x,relC Z φ s.nums w lp x->x=f)(j:∀x,relC Z φ s.nums w rp x->x=u):
  n.heap.size<=m/\NodeAt w m d hs v 0 0 0 0 f u aJ z aB:=by
 obtain⟨A,B,k1,o,r,y⟩:=zF l h.look rfl rfl;rw[k]at k1;cases k1;exact⟨y,aKz r o h.len h.num e g (fun x a=>a) i (fun x a=>a) j (fun x a=>a) cN (fun x a=>a) cN (fun x a=>a)⟩
section
variable (p q:Int) (cv:Value)
theorem aXW:Qj f61 (Qy p q)=some (.ret (.val (.one (.ptr 10 0))) (yQ f61 (Qy p q))):=by kernel_rfl
theorem aXV:fN (yQ f61 (Qy p q)) 10 (.sbool (decide (Nm.cmp p 0<0))) [p,q,0,0,0,0,0,0] (.lit aB) (.lit aB) (.lit aB) 0:=⟨by kernel_rfl,by kernel_rfl,by kernel_rfl⟩
theorem aXU:clean (yQ f61 (Qy p q))=true:=by kernel_rfl
theorem aXK:Qj f62 (Qx cv)=some (.ret (.val (.one (.ptr 1 0))) (yQ f62 (Qx cv))):=by kernel_rfl
theorem aXJ:fN (yQ f62 (Qx cv)) 1 (.bool false) [1,0,0,1,0,0,0,0] (.lit cv) (.lit aB) (.lit aB) 0:=⟨by kernel_rfl,by kernel_rfl,by kernel_rfl⟩
theorem aXI:clean (yQ f62 (Qx cv))=true:=by kernel_rfl
theorem aYh (b:Bool):Qj f64 (Jn b)=some (.ret (.val (.one (.ptr 3 0))) (yQ f64 (Jn b))):=by kernel_rfl
theorem aYg (b:Bool):fN (yQ f64 (Jn b)) 3 (.bool true) [-1,0,0,1,0,0,0,0] (.lit aB) (.lit aB) (.ptr 1 0) 0:=⟨by kernel_rfl,by kernel_rfl,by kernel_rfl⟩
theorem aYf (b:Bool):clean (yQ f64 (Jn b))=true:=by kernel_rfl
def Qv:Rf.Kind->List Int
 |.add=>[0,0,1,0,1,0,0,1]
 |.sub=>[0,0,1,0,-1,0,0,1]
 |.mul=>[1,0,0,0,0,0,0,1]
 |.div=>[0,0,1,0,0,1,0,0]
def Lq (d:Rf.Kind)(a b:Bool):Bool:=(match d with|.sub=>true|_=>false)||a||b
theorem aYC (d:Rf.Kind)(a b:Bool):Qj f65 (Jo (cW d) a b)=some (.ret (.val (.one (.ptr 24 0))) (yQ f65 (Jo (cW d) a b))):=by
 cases d<;>cases a<;>cases b<;>kernel_rfl
theorem aYB (d:Rf.Kind)(a b:Bool):fN (yQ f65 (Jo (cW d) a b)) 24 (.bool (Lq d a b)) (Qv d) (.lit aB) (.ptr 1 0) (.ptr 2 0) 0:=by
 cases d<;>cases a<;>cases b<;>exact⟨by kernel_rfl,by kernel_rfl,by kernel_rfl⟩
theorem aYA (d:Rf.Kind)(a b:Bool):clean (yQ f65 (Jo (cW d) a b))=true:=by
 cases d<;>cases a<;>cases b<;>kernel_rfl
end
theorem aRO (p:Int):decide (Nm.cmp p 0<0)=decide (p<0):=by
 by_cases h:p<0
 ·rw[Nm.jB h];simp[h]
 ·have a:Nm.cmp 0 0=0:=Nm.jA rfl
  rcases Int.lt_or_eq_of_le (Int.not_lt.1 h)with h1|h1
  ·rw[Nm.gV h1];simp[h]
  ·rw[<-h1,a]
def NewNd (w:World)(f:List Int)(d:Bool)(a:Int)(lp rp cv:Value)(e:Ending)(b:World):Prop:=∃m,e=.returned (aA m)/\Chg w b []/\w.heap.size<=m/\NodeAt b m f d a 0 0 0 0 lp rp aJ cv aB
variable {n:World}{w:Nat}
theorem Fl {d:List AT}{ν:List (Int×Nat)}:RepW Z n (fun _=>none) (fun _=>none) ⟨d,[],w,ν,[]⟩ n:=rI rfl (fun b B a=>(by cases a)) (fun _ _=>rfl) (fun _ _ _ e=>(by cases e))
variable {p:Int}
theorem aLx {q:Int}{i b:List Value}(l:bD true n [p] i)(o:bD true n [q] b)(h:Bits 1 p)(k:Bits 1 q):Calls prog 61 #[.agg i.toArray,.agg b.toArray] n (NewNd n [p,q,0,0,0,0,0,0] (decide (p<0)) 0 aB aB aB):=by
 refine rY (φ:=fun _=>none) (s:=Qy p q) (vs:=[.agg (bH true 0 1),.agg (bH true 1 1)]) (args:=[.agg i.toArray,.agg b.toArray]) (bI func61 rfl rfl) (dH nE) qF (by kernel_rfl) ⟨⟨i,rfl,?_⟩,⟨b,rfl,?_⟩,trivial⟩ Fl (aXW p q) (fun r s=>r=.val (.one (.ptr 10 0))/\fN s 10 (.sbool (decide (Nm.cmp p 0<0))) [p,q,0,0,0,0,0,0] (.lit aB) (.lit aB) (.lit aB) 0/\clean s=true) ⟨rfl,aXV p q,aXU p q⟩ ?_
 ·exact tU [p] i 0 _ l (by simpa using h) fun j z a=>by
   match j,a with
   |0,a=>cases a;rfl
   |j+1,a=>simp at a
 ·exact tU [q] b 1 _ o (by simpa using k) fun j z a=>by
   match j,a with
   |0,a=>cases a;rfl
   |j+1,a=>simp at a
 ·rintro r s φ v y⟨rfl,f,hc⟩ hrel d;obtain⟨m,e⟩:=gI d f.look rfl rfl;have hv:v=aA m:=cQ (ν:=s.nums) (w:=y) e v hrel;obtain⟨k1,g⟩:=f.at (hs:=decide (Nm.cmp p 0<0)) d e (fun x u=>u) cN cN cN;refine⟨m,by rw[hv],Chg.eH (RepF.below d hc),k1,?_⟩;rw[aRO]at g;exact g
theorem aJd {cv:Value}(e:One cv):Calls prog 62 #[cv] n (NewNd n [1,0,0,1,0,0,0,0] false 0 aB aB cv):=by
 refine rY (φ:=fun _=>none) (s:=Qx cv) (vs:=[.one (.lit cv)]) (args:=[cv]) (bI func62 rfl rfl) (dH nE) qF (by kernel_rfl) ⟨⟨rfl,e⟩,trivial⟩ Fl (aXK cv) (fun r s=>r=.val (.one (.ptr 1 0))/\fN s 1 (.bool false) [1,0,0,1,0,0,0,0] (.lit cv) (.lit aB) (.lit aB) 0/\clean s=true) ⟨rfl,aXJ cv,aXI cv⟩ ?_;rintro r s φ v h⟨rfl,d,hc⟩ hrel a;obtain⟨m,b⟩:=gI a d.look rfl rfl;have hv:v=aA m:=cQ (ν:=s.nums) (w:=h) b v hrel;obtain⟨k1,g⟩:=d.at (hs:=false) a b (fun x f=>f) cN cN cN;exact⟨m,by rw[hv],Chg.eH (RepF.below a hc),k1,g⟩
theorem aJu {b:Bool}(g:∃i:List Value,n.heap[w]?=some (.cells (.bool b::i).toArray 98 (0,0))):Calls prog 64 #[aA w] n (NewNd n [-1,0,0,1,0,0,0,0] true 0 aB (aA w) aB):=by
 obtain⟨i,e⟩:=g
 have d:RepW Z n (ph1 1 w) (ph1 1 w) (Jn b) n:=by
  refine rI rfl ?_ ?_ ?_
  ·intro A B l;have:=mU l;simp[Jn]at this;obtain⟨rfl,rfl⟩:=this;exact⟨rfl,rfl,rfl,w,0,rfl,[],[.bool b],i,e,rfl,rfl,trivial⟩
  ·intro b u;have:3<=b:=u;unfold ph1;rw[if_neg (by omega)]
  ·intro b C o a;unfold ph1 at a;split at a
   ·cases a;exact gU e
   ·cases a
 refine rY (s:=Jn b) (vs:=[.one (.ptr 1 0)]) (args:=[aA w]) (bI func64 rfl rfl) (dH nE) qF (by kernel_rfl) ⟨⟨w,0,rfl,rfl⟩,trivial⟩ d (aYh b) (fun r s=>r=.val (.one (.ptr 3 0))/\fN s 3 (.bool true) [-1,0,0,1,0,0,0,0] (.lit aB) (.lit aB) (.ptr 1 0) 0/\clean s=true) ⟨rfl,aYg b,aYf b⟩ ?_;rintro r s φ v z⟨rfl,k,hc⟩ hrel f;obtain⟨m,j⟩:=gI f k.look rfl rfl;have hv:v=aA m:=cQ (ν:=s.nums) (w:=z) j v hrel;have h:φ 1=some (w,0):=f.base 1 (w,0) rfl;obtain⟨k1,y⟩:=k.at (hs:=true) f j (fun x g=>g) cN cN (cQ h);exact⟨m,by rw[hv],Chg.eH (RepF.below f hc),k1,y⟩
def phQ (x y:Nat):Nat->Option (Nat×Nat)
 |1=>some (x,0)
 |2=>some (y,0)
 |_=>none
theorem aLR {a b:Bool}(e:Rf.Kind)(l:∃j:List Value,n.heap[w]?=some (.cells (.bool a::j).toArray 98 (0,0)))(E:∃j:List Value,n.heap[k]?=some (.cells (.bool b::j).toArray 98 (0,0))):Calls prog 65 #[.int .i64 (cW e),aA w,aA k] n (NewNd n (Qv e) (Lq e a b) 0 (aA w) (aA k) aB):=by
 obtain⟨j,h⟩:=l;obtain⟨I,i⟩:=E
 have f:RepW Z n (phQ w k) (phQ w k) (Jo (cW e) a b) n:=by
  refine rI rfl ?_ ?_ ?_
  ·intro J B C;have:=mU C;simp[Jo]at this
   rcases this with⟨rfl,rfl⟩|⟨rfl,rfl⟩
   ·exact⟨rfl,rfl,rfl,w,0,rfl,[],[.bool a],j,h,rfl,rfl,trivial⟩
   ·exact⟨rfl,rfl,rfl,k,0,rfl,[],[.bool b],I,i,rfl,rfl,trivial⟩
  ·intro b D;have:3<=b:=D
   match b,this with
   |b+3,_=>rfl
  ·intro b L o d
   match b,d with
   |0,d=>cases d
   |1,d=>cases d;exact gU h
   |2,d=>cases d;exact gU i
   |b+3,d=>cases d
 refine rY (s:=Jo (cW e) a b) (vs:=[.one (.int .i64 (cW e)),.one (.ptr 1 0),.one (.ptr 2 0)]) (args:=[.int .i64 (cW e),aA w,aA k]) (bI func65 rfl rfl) (dH nE) qF (by kernel_rfl) ⟨rfl,⟨w,0,rfl,rfl⟩,⟨k,0,rfl,rfl⟩,trivial⟩ f (aYC e a b) (fun r s=>r=.val (.one (.ptr 24 0))/\fN s 24 (.bool (Lq e a b)) (Qv e) (.lit aB) (.ptr 1 0) (.ptr 2 0) 0/\clean s=true) ⟨rfl,aYB e a b,aYA e a b⟩ ?_;rintro r s φ v H⟨rfl,A,hc⟩ hrel g;obtain⟨m,z⟩:=gI g A.look rfl rfl;have hv:v=aA m:=cQ (ν:=s.nums) (w:=H) z v hrel;have u:φ 1=some (w,0):=g.base 1 (w,0) rfl;have y:φ 2=some (k,0):=g.base 2 (k,0) rfl;obtain⟨k1,F⟩:=A.at (hs:=Lq e a b) g z (fun x l=>l) cN (cQ u) (cQ y);exact⟨m,by rw[hv],Chg.eH (RepF.below g hc),k1,F⟩
def sA (a:Int)(tv lv rv:Value)(b:List AT):AS:=⟨b,[(0,ext (.int .i64 a::Di 4++[.lit tv,.lit lv,.lit rv]) 126)],1,[],[]⟩
def Gg (p q:Int)(tv lv rv:Value)(a:List AT):AS:=⟨a,[(0,ext (.int .i64 1::bH true 0 2++[.lit tv,.lit lv,.lit rv]) 126)],1,[(p,1),(q,1)],[]⟩
def sE (d:Nat)(v:Value):AS:=⟨slot [(d,litT v)] 0 83,[],0,[],[]⟩
def pD (d:Nat)(o:Oper):Bool:=o.dst==some d
noncomputable def rN:Nat×Array Oper×List (K (List AT)):=xK (aG 61) f44
noncomputable def rC:Nat×Array Oper×List (K (List AT)):=xK (aG 62) f44
noncomputable def rF:Nat×Array Oper×List (K (List AT)):=xK (aG 63) f44
def stM (a:List (K (List AT))):Bool:=sB (fun o=>aG 61 o||aG 62 o||aG 63 o) a||mX (fun o=>aG 44 o||aG 65 o) a
abbrev Cm:List AT:=P0::List.replicate 82 .gC
noncomputable def uO (b:List Nat)(a:List (K (List AT)))(s:AS):Option XT:=(run Z (aE tS) bT (aO Z (aE tS)) stM 400 a s).bind (eD (fG [0] [] 1 []) (fG [0] b 1 []))
noncomputable def mK:List (K (List AT)):=[.code (aF f44),.top f44]
noncomputable def nZ (a:List (K (List AT)))(s:AS):Option Tr:=run Z (aE tS) bT (aO Z (aE tS)) (fun _=>false) 50 a s
def iW:Tr->Option (AT×Bool)
 |.ret r s=>some (r,clean s)
 |_=>none
section
variable (p q:Int) (tv lv rv v v1 v2:Value)
theorem w_N:uO [0] mK (Gg p q tv lv rv Cm)=some (.stp (.code (.region rN.1 rN.2.1 true)::rN.2.2) (Gg p q tv lv rv (slot [(0,P0)] 0 83))):=by kernel_rfl
theorem w_C {v:Int}(h:v=2\/v=3\/v=4):uO [0] mK (sA v tv lv rv Cm)=some (.stp (.code (.region rC.1 rC.2.1 true)::rC.2.2) (sA v tv lv rv (slot [(0,P0)] 0 83))):=by
 rcases h with rfl|rfl|rfl<;>kernel_rfl
theorem w_F {v:Int}(h:v=10\/v=11\/v=12\/v=13):uO [0] mK (sA v tv lv rv Cm)=some (.stp (.code (.region rF.1 rF.2.1 true)::rF.2.2) (sA v tv lv rv (slot [(0,P0)] 0 83))):=by
 rcases h with rfl|rfl|rfl|rfl<;>kernel_rfl
theorem w_M:uO [0,58] mK (sA 5 tv lv rv Cm)=some (.stp (eF (pD 59) f44) (sA 5 tv lv rv (slot [(0,P0),(58,litT lv)] 0 83))):=by kernel_rfl
theorem w_B (a:Rf.Kind):uO [0,69] mK (sA (cW a) tv lv rv Cm)=some (.stp (eF (pD 70) f44) (sA (cW a) tv lv rv (slot [(0,P0),(69,litT lv)] 0 83))):=by
 cases a<;>kernel_rfl
theorem aZb (a:Rf.Kind):uO [0,3,74] (fQ (pD 70) f44) (sA (cW a) tv lv rv (slot [(0,P0),(70,litT v1)] 0 83))=some (.stp (eF (pD 75) f44) (sA (cW a) tv lv rv (slot [(0,P0),(3,litT v1),(74,litT rv)] 0 83))):=by
 cases a<;>kernel_rfl
theorem aZc (a:Rf.Kind):uO [0,79,80,81] (fQ (pD 75) f44) (sA (cW a) tv lv rv (slot [(0,P0),(3,litT v1),(75,litT v2)] 0 83))=some (.stp (eF (pD 82) f44) (sA (cW a) tv lv rv (slot [(0,P0),(79,.val (.one (.int .i64 (cW a)))),(80,litT v1),(81,litT v2)] 0 83))):=by
 cases a<;>kernel_rfl
theorem t_N:(nZ (.ops rN.2.1 [11]::rN.2.2) (sE 23 v)).bind iW=some (litT v,true):=by kernel_rfl
theorem t_C:(nZ (.ops rC.2.1 [11]::rC.2.2) (sE 38 v)).bind iW=some (litT v,true):=by kernel_rfl
theorem t_F:(nZ (.ops rF.2.1 [9]::rF.2.2) (sE 52 v)).bind iW=some (litT v,true):=by kernel_rfl
theorem t_M:(nZ (fQ (pD 60) f44) (sE 60 v)).bind iW=some (litT v,true):=by kernel_rfl
theorem t_B:(nZ (fQ (pD 82) f44) (sE 82 v)).bind iW=some (litT v,true):=by kernel_rfl
noncomputable def dN:AS:=((aO Z (aE tS) (rN.2.1.extract 0 10) (Gg p q tv lv rv (slot [(0,P0)] 0 83))).getD (⟨[],[],0,[],[]⟩,[])).1
noncomputable def dC (a:Int):AS:=((aO Z (aE tS) (rC.2.1.extract 0 10) (sA a tv lv rv (slot [(0,P0)] 0 83))).getD (⟨[],[],0,[],[]⟩,[])).1
noncomputable def dF (a:Int):AS:=((aO Z (aE tS) (rF.2.1.extract 0 8) (sA a tv lv rv (slot [(0,P0)] 0 83))).getD (⟨[],[],0,[],[]⟩,[])).1
theorem d_N:aO Z (aE tS) (rN.2.1.extract 0 10) (Gg p q tv lv rv (slot [(0,P0)] 0 83))=some (dN p q tv lv rv,[]):=by kernel_rfl
theorem d_C (a:Int):aO Z (aE tS) (rC.2.1.extract 0 10) (sA a tv lv rv (slot [(0,P0)] 0 83))=some (dC tv lv rv a,[]):=by kernel_rfl
theorem d_F (a:Int):aO Z (aE tS) (rF.2.1.extract 0 8) (sA a tv lv rv (slot [(0,P0)] 0 83))=some (dF tv lv rv a,[]):=by kernel_rfl
theorem aV0:sD rN.2.1 10=true/\10<rN.2.1.size/\(List.range rN.2.1.size).drop 10=[10,11]:=⟨by kernel_rfl,Nat.lt_of_lt_of_eq (by decide:10<12) (by kernel_rfl),by kernel_rfl⟩
theorem aVY:sD rC.2.1 10=true/\10<rC.2.1.size/\(List.range rC.2.1.size).drop 10=[10,11]:=⟨by kernel_rfl,Nat.lt_of_lt_of_eq (by decide:10<12) (by kernel_rfl),by kernel_rfl⟩
theorem aVZ:sD rF.2.1 8=true/\8<rF.2.1.size/\(List.range rF.2.1.size).drop 8=[8,9]:=⟨by kernel_rfl,Nat.lt_of_lt_of_eq (by decide:8<10) (by kernel_rfl),by kernel_rfl⟩
theorem c_N:cR Z (dN p q tv lv rv) (.ops rN.2.1 [10,11]::rN.2.2)=some (61,[.agg (bH true 0 1),.agg (bH true 1 1)],some 23,.ops rN.2.1 [11]::rN.2.2):=by kernel_rfl
theorem c_C (a:Int):cR Z (dC tv lv rv a) (.ops rC.2.1 [10,11]::rC.2.2)=some (62,[.one (.ptr 10 0)],some 38,.ops rC.2.1 [11]::rC.2.2):=by kernel_rfl
theorem c_F (a:Int):cR Z (dF tv lv rv a) (.ops rF.2.1 [8,9]::rF.2.2)=some (63,[.one (.int .i64 a),.one (.lit lv)],some 52,.ops rF.2.1 [9]::rF.2.2):=by kernel_rfl
theorem c_M:cR Z (sA 5 tv lv rv (slot [(0,P0),(58,litT lv)] 0 83)) (eF (pD 59) f44)=some (44,[.one (.lit lv)],some 59,eF (pD 60) f44):=by kernel_rfl
theorem aXD:cR Z (sE 59 v) (eF (pD 60) f44)=some (64,[.one (.lit v)],some 60,fQ (pD 60) f44):=by kernel_rfl
theorem c_B (a:Int):cR Z (sA a tv lv rv (slot [(0,P0),(69,litT lv)] 0 83)) (eF (pD 70) f44)=some (44,[.one (.lit lv)],some 70,fQ (pD 70) f44):=by kernel_rfl
theorem aXB (a:Int):cR Z (sA a tv lv rv (slot [(0,P0),(3,litT v1),(74,litT rv)] 0 83)) (eF (pD 75) f44)=some (44,[.one (.lit rv)],some 75,fQ (pD 75) f44):=by kernel_rfl
theorem aXC (a:Int):cR Z (sA a tv lv rv (slot [(0,P0),(79,.val (.one (.int .i64 a))),(80,litT v1),(81,litT v2)] 0 83)) (eF (pD 82) f44)=some (65,[.one (.int .i64 a),.one (.lit v1),.one (.lit v2)],some 82,fQ (pD 82) f44):=by kernel_rfl
theorem Oh:noFr (rN.2.2)=true/\noFr (rC.2.2)=true/\noFr (rF.2.2)=true/\noFr (eF (pD 59) f44)=true/\noFr (eF (pD 60) f44)=true/\noFr (eF (pD 70) f44)=true/\noFr (eF (pD 75) f44)=true/\noFr (eF (pD 82) f44)=true/\noFr (fQ (pD 60) f44)=true/\noFr (fQ (pD 70) f44)=true/\noFr (fQ (pD 75) f44)=true/\noFr (fQ (pD 82) f44)=true:=⟨by kernel_rfl,by kernel_rfl,by kernel_rfl,by kernel_rfl,by kernel_rfl,by kernel_rfl,by kernel_rfl,by kernel_rfl,by kernel_rfl,by kernel_rfl,by kernel_rfl,by kernel_rfl⟩
theorem aRX:(dN p q tv lv rv).nums=[(p,1),(q,1)]:=by kernel_rfl
theorem aUL:(dN p q tv lv rv).tmps.length=83:=by kernel_rfl
theorem aV8:clean (dN p q tv lv rv)=true:=by kernel_rfl
theorem aUI (a:Int):(dC tv lv rv a).tmps.length=83:=by kernel_rfl
theorem aV6 (a:Int):clean (dC tv lv rv a)=true:=by kernel_rfl
theorem aUK (a:Int):(dF tv lv rv a).tmps.length=83:=by kernel_rfl
theorem aV7 (a:Int):clean (dF tv lv rv a)=true:=by kernel_rfl
theorem aRW (a:Int):look (dC tv lv rv a).boxes 10=some ⟨.int .i64 a::.lit tv::(zM (dC tv lv rv a) 10).drop 2,132,true,false,false⟩:=by kernel_rfl
theorem aUJ (a:Int):numOf (dC tv lv rv a).nums ((zM (dC tv lv rv a) 10).drop 2)=some [0,0,0,0,0,0,0,0]:=by kernel_rfl
theorem Yd:∀(ts:List AT) (i:Nat),kN [] [] i ts=List.replicate ts.length .top
 | [],_=>rfl
 |t::r,i=>by show AT.top::kN [] [] (i+1) r=_;rw[Yd r (i+1)];rfl
theorem aVp {d:Nat}{v:Value}{ts:List AT}(h:ts.length=83)(a:putT (List.replicate 83 .top) (some d) (litT v)=slot [(d,litT v)] 0 83):(sE d v).tmps=putT (kN [] [] 0 ts) (some d) (litT v):=by
 rw[Yd,h];exact a.symm
end
theorem NewNd.on {w b D:World}{zs:List Int}{hs:Bool}{uns:Int}{lp rp u:Value}{e:Ending}(h:NewNd w zs hs uns lp rp u e b)(hc:Chg b D []):NewNd w zs hs uns lp rp u e D:=by
 obtain⟨m,d,f,g,a⟩:=h;exact⟨m,d,f.trans hc,g,a.aT hc.on (hc.low m a.lt (by simp))⟩
variable {w:World}
theorem NewNd.up {b D:World}{s:List Int}{a:Bool}{v:Int}{lp rp u:Value}{e:Ending}(h:NewNd b s a v lp rp u e D)(hc:Chg w b []):NewNd w s a v lp rp u e D:=by
 obtain⟨m,d,f,g,i⟩:=h;exact⟨m,d,hc.trans f,Nat.le_trans hc.on.size g,i⟩
variable {xs:List Value}{tv lv rv:Value}
theorem PartB.on {b:World}{kd:Int}(h:PartB w k kd xs tv lv rv)(hc:Chg w b []):PartB b k kd xs tv lv rv:=hc.at h (by simp)
theorem Lb {kd:Int}(h:PartB w k kd xs tv lv rv)(d:xs.length=4)(g:∀x∈xs,One x)(o1:One tv)(o2:One lv)(o3:One rv)(i:List AT):RepW Z w (ph1 0 k) (ph1 0 k) (sA kd tv lv rv i) w:=by
 refine rI rfl ?_ ?_ ?_
 ·intro b B e;have:=mU e;simp only[sA,List.mem_singleton,Prod.mk.injEq]at this;obtain⟨rfl,rfl⟩:=this;refine⟨rfl,rfl,rfl,k,0,rfl,[],.int .i64 kd::xs++[tv,lv,rv],[],(show w.heap[k]?=some (.cells ([]++(Value.int .i64 kd::xs++[tv,lv,rv])++[]).toArray 126 (0,0)) by simpa[PartB]using h),rfl,rfl,?_⟩;exact(Tz 4 xs d g).append ⟨⟨rfl,o1⟩,⟨rfl,o2⟩,⟨rfl,o3⟩,trivial⟩
 ·intro b f;have:1<=b:=f;unfold ph1;rw[if_neg (by omega)]
 ·intro b j o a;unfold ph1 at a;split at a
  ·cases a;exact gU h
  ·cases a
theorem aSj {q:Int}(h:PartB w k 1 xs tv lv rv)(g:bD true w [p,q] xs)(e:∀z∈[p,q],Bits 1 z)(o1:One tv)(o2:One lv)(o3:One rv)(i:List AT):RepW Z w (ph1 0 k) (ph1 0 k) (Gg p q tv lv rv i) w:=by
 refine rI rfl ?_ ?_ ?_
 ·intro b B f;have:=mU f;simp only[Gg,List.mem_singleton,Prod.mk.injEq]at this;obtain⟨rfl,rfl⟩:=this;refine⟨rfl,rfl,rfl,k,0,rfl,[],.int .i64 1::xs++[tv,lv,rv],[],(show w.heap[k]?=some (.cells ([]++(Value.int .i64 1::xs++[tv,lv,rv])++[]).toArray 126 (0,0)) by simpa[PartB]using h),rfl,rfl,?_⟩;refine(tU [p,q] xs 0 _ g e fun j z d=>?_).append ⟨⟨rfl,o1⟩,⟨rfl,o2⟩,⟨rfl,o3⟩,trivial⟩
  match j,d with
  |0,d=>cases d;rfl
  |1,d=>cases d;rfl
  |j+2,d=>simp at d
 ·intro b e;have:1<=b:=e;unfold ph1;rw[if_neg (by omega)]
 ·intro b l o a;unfold ph1 at a;split at a
  ·cases a;exact gU h
  ·cases a
theorem lD:∀b x,ph1 0 k b=some x->[0].contains b=true:=by
 intro b x e;unfold ph1 at e;split at e
 ·subst_vars;rfl
 ·cases e
variable {R:Ending->World->Prop}
theorem aS7 {d:Nat}{z:Value}{o:List (K (List AT))}(y:(nZ o (sE d z)).bind iW=some (litT z,true))(q:∀f,Chg n f []->R (.returned z) f){e:List (K Act)}{a:Act}(g:∀l j i,SR Z l j i o e)(u:Rep Z n (fun _=>none) (fun _=>none) (sE d z) a n):fZ Z.P R e .normal a n:=by
 obtain⟨C,p,b⟩:=aU y
 match C,b with
 |.ret r s,b=>
  simp only[iW,Option.some.injEq,Prod.mk.injEq]at b;obtain⟨rfl,hc⟩:=b;refine vB (dH nE) qF (rD mixed (dH nE)) (fun r s=>r=litT z/\clean s=true) (fun _ _=>False) (fun _ _ h=>h.elim) ?_ _ _ _ _ p ⟨rfl,hc⟩ e _ a n (g _ _ _) u;rintro r s φ x f⟨rfl,hc⟩ hrel A;have B:x=z:=hrel.1;rw[B];exact q f (Chg.eH (RepF.below A hc))
 |.br _ _ _,b=>cases b
 |.need _ _,b=>cases b
 |.stop _ _,b=>cases b
theorem Nu {d:Nat}{q φ:Nat->Option (Nat×Nat)}{s:AS}{a:Act}{u j:List (K (List AT))}{i:List (K Act)}{f:FuncId}{C:List AV}(h:cR Z s u=some (f,C,some d,j))(l:Enters Z.P f)(o:noFr u=true)(p:∀z y x,SR Z z y x u i)(A:Rep Z n q φ s a w)(L:s.tmps.length=83)(N:∀v,putT (List.replicate 83 .top) (some d) (litT v)=slot [(d,litT v)] 0 83)(O:∀v,(nZ j (sE d v)).bind iW=some (litT v,true))
  (H:∀xs:List Value,All2 (dM Z φ s.nums w) C xs->Calls Z.P f xs.toArray w fun e D=>∃v,e=.returned v/\One v/\∀E,Chg D E []->R (.returned v) E):fZ Z.P R i .normal a w:=by
 refine qC h l o (p φ s.nums w) A fun xs r=>(H xs r).mono ?_
 rintro e D⟨v,rfl,M,F⟩;refine⟨v,rfl,fun B J g=>?_⟩;exact aS7 (O v) F g (oZ (kb:=[]) (kt:=[]) A Fl (aVp L (N v)) (fun b I=>by simp at I) ⟨rfl,M⟩)
section
variable {w:World} {k:Nat} {kd:Int} {xs:List Value} {tv lv rv:Value} {R:Ending->World->Prop}
theorem Fk (m:Nat):One (aA m):=rfl
theorem aU8 {q:Int}(W:PartB w k 1 xs tv lv rv)(Y:bD true w [p,q] xs)(o:∀z∈[p,q],Bits 1 z)(o1:One tv)(o2:One lv)(o3:One rv):Calls prog 44 #[aA k] w (NewNd w [p,q,0,0,0,0,0,0] (decide (p<0)) 0 aB aB aB):=by
 have F:=bI func44 rfl rfl;refine pC F (φ:=ph1 0 k) (vs:=[.one (.ptr 0 0)]) (args:=[aA k]) (s:=Gg p q tv lv rv Cm) (by kernel_rfl) ⟨⟨k,0,rfl,rfl⟩,trivial⟩ (aSj W Y o o1 o2 o3 _) ?_;refine cE (dH nE) qF lD (jK lD) (w_N p q tv lv rv) (fun _ _=>False) (fun L s=>L=.code (.region rN.1 rN.2.1 true)::rN.2.2/\s=Gg p q tv lv rv (slot [(0,P0)] 0 83)) ⟨rfl,rfl⟩ (fun _ _ _ _ _ h=>h.elim) ?_;rintro L s⟨rfl,rfl⟩;have b:noFr rN.2.2=true:=Oh.1;refine⟨by simpa[noFr]using b,fun E H a1 M f x=>?_⟩;obtain⟨O,S,bd⟩:=aV0
 match E,f H [] M with
 |.code cc::i,⟨u,g⟩=>
 subst u;show(Code.region rN.1 rN.2.1 true).wp Z.P _ a1 M;refine Ke mixed (dH nE) S O (d_N p q tv lv rv) iC x ?_;intro af N l d;rw[bd];have c2:Chg w l []:=Chg.eH (RepF.below d.wd (aV8 p q tv lv rv));show fZ Z.P _ (.ops rN.2.1 [10,11]::i) .normal N l;refine Nu (c_N p q tv lv rv) (bI func61 rfl rfl).en (by simpa[noFr]using b) (fun ae ad ab=>⟨rfl,rfl,SR.any b g⟩) d (aUL p q tv lv rv) (fun v=>by kernel_rfl) t_N ?_;intro us B
 match us,B with
 | [u1,u2],⟨⟨x1,y,C⟩,⟨x2,A,D⟩,_⟩=>
 rw[y,A];have J:=aRX p q tv lv rv
 have T:bD true l [p] x1:=Ku [p] 0 x1 C (by
  intro j z a;rw[J]
  match j,a with
  |0,a=>cases a;exact⟨1,rfl⟩
  |j+1,a=>simp at a)
 have U:bD true l [q] x2:=Ku [q] 1 x2 D (by
  intro j z a;rw[J]
  match j,a with
  |0,a=>cases a;exact⟨1,rfl⟩
  |j+1,a=>simp at a)
 refine(aLx T U (o p (by simp)) (o q (by simp))).mono ?_;rintro e w3 n;obtain⟨m,I,X⟩:=id n;rw[I]at n;exact⟨aA m,I,Fk m,fun w4 r=>(n.on r).up c2⟩
theorem aU6 (q:kd=2\/kd=3\/kd=4)(W:PartB w k kd xs tv lv rv)(U:xs.length=4)(hx:∀x∈xs,One x)(o1:One tv)(o2:One lv)(o3:One rv):Calls prog 44 #[aA k] w fun e A=>∃a,∃cs:List Value,NewNd w [1,0,0,1,0,0,0,0] false 0 aB aB (aA a) e A/\A.heap[a]?=some (.cells (.int .i64 kd::tv::cs).toArray 132 (0,0))/\bD true A [0,0,0,0,0,0,0,0] cs/\w.heap.size<=a:=by
 have F:=bI func44 rfl rfl;refine pC F (φ:=ph1 0 k) (vs:=[.one (.ptr 0 0)]) (args:=[aA k]) (s:=sA kd tv lv rv Cm) (by kernel_rfl) ⟨⟨k,0,rfl,rfl⟩,trivial⟩ (Lb W U hx o1 o2 o3 _) ?_;refine cE (dH nE) qF lD (jK lD) (w_C tv lv rv q) (fun _ _=>False) (fun I s=>I=.code (.region rC.1 rC.2.1 true)::rC.2.2/\s=sA kd tv lv rv (slot [(0,P0)] 0 83)) ⟨rfl,rfl⟩ (fun _ _ _ _ _ h=>h.elim) ?_;rintro I s⟨rfl,rfl⟩;have b:noFr rC.2.2=true:=Oh.2.1;refine⟨by simpa[noFr]using b,fun z D a1 L g r=>?_⟩;obtain⟨N,O,bd⟩:=aVY
 match z,g D [] L with
 |.code cc::j,⟨p,i⟩=>
 subst p;show(Code.region rC.1 rC.2.1 true).wp Z.P _ a1 L;refine Ke mixed (dH nE) O N (d_C tv lv rv kd) iC r ?_;intro ai M B d;rw[bd];have c2:Chg w B []:=Chg.eH (RepF.below d.wd (aV6 tv lv rv kd));show fZ Z.P _ (.ops rC.2.1 [10,11]::j) .normal M B;refine Nu (c_C tv lv rv kd) (bI func62 rfl rfl).en (by simpa[noFr]using b) (fun ah ag af=>⟨rfl,rfl,SR.any b i⟩) d (aUI tv lv rv kd) (fun v=>by kernel_rfl) t_C ?_;intro us y
 match us,y with
 | [J],⟨u,_⟩=>
 obtain⟨a,C,k1,H,k3,k4⟩:=zF d.wd (aRW tv lv rv kd) rfl rfl;have Y:J=aA a:=cQ (ν:=(dC tv lv rv kd).nums) (w:=B) k1 J u;rw[Y];refine(aJd (Fk a)).mono ?_;rintro e w3 n;obtain⟨m,E,o,X⟩:=id n;rw[E]at n;refine⟨aA m,E,Fk m,fun w4 f=>?_⟩
 match C,k3 with
 |y1::y2::C,⟨l,S,T⟩=>
 have l:y1=.int .i64 kd:=l;rw[l,show y2=tv from S.1]at H;have hc:=o.trans f;exact⟨a,C,(n.on f).up c2,hc.at H (by simp),nM hc.on (Ms _ _ _ (aUJ tv lv rv kd) T),k4⟩
theorem aQ0 (q:kd=10\/kd=11\/kd=12\/kd=13)(I:PartB w k kd xs tv lv rv)(H:xs.length=4)(J:∀x∈xs,One x)(o1:One tv)(o2:One lv)(o3:One rv)(a:∀n,Chg w n []->Calls prog 63 #[.int .i64 kd,lv] n fun e o=>∃v,e=.returned v/\One v/\∀B,Chg o B []->R (.returned v) B):Calls prog 44 #[aA k] w R:=by
 have F:=bI func44 rfl rfl;refine pC F (φ:=ph1 0 k) (vs:=[.one (.ptr 0 0)]) (args:=[aA k]) (s:=sA kd tv lv rv Cm) (by kernel_rfl) ⟨⟨k,0,rfl,rfl⟩,trivial⟩ (Lb I H J o1 o2 o3 _) ?_;refine cE (dH nE) qF lD (jK lD) (w_F tv lv rv q) (fun _ _=>False) (fun A s=>A=.code (.region rF.1 rF.2.1 true)::rF.2.2/\s=sA kd tv lv rv (slot [(0,P0)] 0 83)) ⟨rfl,rfl⟩ (fun _ _ _ _ _ h=>h.elim) ?_;rintro A s⟨rfl,rfl⟩;have b:noFr rF.2.2=true:=Oh.2.2.1;refine⟨by simpa[noFr]using b,fun y z a1 n i r=>?_⟩;obtain⟨D,E,bd⟩:=aVZ
 match y,i z [] n with
 |.code W::l,⟨p,j⟩=>
 subst p;show(Code.region rF.1 rF.2.1 true).wp Z.P _ a1 n;refine Ke mixed (dH nE) E D (d_F tv lv rv kd) iC r ?_;intro U C o g;rw[bd];have c2:Chg w o []:=Chg.eH (RepF.below g.wd (aV7 tv lv rv kd));show fZ Z.P _ (.ops rF.2.1 [8,9]::l) .normal C o;refine Nu (c_F tv lv rv kd) (bI func63 rfl rfl).en (by simpa[noFr]using b) (fun T S O=>⟨rfl,rfl,SR.any b j⟩) g (aUK tv lv rv kd) (fun v=>by kernel_rfl) t_F ?_;intro N u
 match N,u with
 | [L,M],⟨d,f,_⟩=>
 have d:L=.int .i64 kd:=d;have f:M=lv:=f.1;rw[d,f];exact a o c2
theorem aU7 (L:PartB w k 5 xs tv lv rv)(J:xs.length=4)(T:∀x∈xs,One x)(o1:One tv)(o2:One lv)(o3:One rv)(d:∀i,Chg w i []->Calls prog 44 #[lv] i fun e o=>∃m,e=.returned (aA m)/\(∃b,∃W:List Value,o.heap[m]?=some (.cells (.bool b::W).toArray 98 (0,0)))/\∀C A,NewNd o [-1,0,0,1,0,0,0,0] true 0 aB (aA m) aB C A->R C A):Calls prog 44 #[aA k] w R:=by
 have F:=bI func44 rfl rfl;refine pC F (φ:=ph1 0 k) (vs:=[.one (.ptr 0 0)]) (args:=[aA k]) (s:=sA 5 tv lv rv Cm) (by kernel_rfl) ⟨⟨k,0,rfl,rfl⟩,trivial⟩ (Lb L J T o1 o2 o3 _) ?_;refine cE (dH nE) qF lD (jK lD) (w_M tv lv rv) (fun _ _=>False) (fun H s=>H=eF (pD 59) f44/\s=sA 5 tv lv rv (slot [(0,P0),(58,litT lv)] 0 83)) ⟨rfl,rfl⟩ (fun _ _ _ _ _ h=>h.elim) ?_;rintro H s⟨rfl,rfl⟩;obtain⟨_,_,_,j,p,_⟩:=Oh;refine⟨j,fun U B a1 i l f=>?_⟩;have c1:Chg w i []:=Chg.eH (RepF.below f.wd rfl)
 refine qC (c_M tv lv rv) F.en j (l B [] i) f fun z g=>?_
 match z,g with
 | [y],⟨a,_⟩=>
 have a:y=lv:=a.1;rw[a];refine(d i c1).mono ?_;rintro e o⟨m,rfl,⟨b,S⟩,N⟩;refine⟨aA m,rfl,fun E P n=>?_⟩;have u:Rep Z o (fun _=>none) (fun _=>none) (sE 59 (aA m)) (a1.put (some 59) (aA m)) o:=oZ (kb:=[]) (kt:=[]) f Fl (aVp (by rfl) (by kernel_rfl)) (fun b O=>by simp at O) ⟨rfl,Fk m⟩;refine Nu (aXD (aA m)) (bI func64 rfl rfl).en p n u (by rfl) (fun v=>by kernel_rfl) t_M ?_;intro z g
 match z,g with
 | [y],⟨a,_⟩=>
 have a:y=aA m:=a.1;rw[a];refine(aJu S).mono ?_;rintro e A q;obtain⟨I,D,M⟩:=id q;rw[D]at q;exact⟨aA I,D,Fk I,fun X r=>N _ _ (q.on r)⟩
theorem aU5 (f:Rf.Kind)(hB:PartB w k (cW f) xs tv lv rv)(h4:xs.length=4)(hx:∀x∈xs,One x)(o1:One tv)(o2:One lv)(o3:One rv)(u:∀A,Chg w A []->Calls prog 44 #[lv] A fun e D=>∃g,e=.returned (aA g)/\Chg A D []/\∀B,Chg D B []->Calls prog 44 #[rv] B fun e E=>∃i,e=.returned (aA i)/\Chg B E []/\∀C,Chg E C []->∃a b,(∃ys:List Value,C.heap[g]?=some (.cells (.bool a::ys).toArray 98 (0,0)))/\(∃ys:List Value,C.heap[i]?=some (.cells (.bool b::ys).toArray 98 (0,0)))/\∀e6 w6,NewNd C (Qv f) (Lq f a b) 0 (aA g) (aA i) aB e6 w6->R e6 w6):Calls prog 44 #[aA k] w R:=by
 have F:=bI func44 rfl rfl;refine pC F (φ:=ph1 0 k) (vs:=[.one (.ptr 0 0)]) (args:=[aA k]) (s:=sA (cW f) tv lv rv Cm) (by kernel_rfl) ⟨⟨k,0,rfl,rfl⟩,trivial⟩ (Lb hB h4 hx o1 o2 o3 _) ?_;refine cE (dH nE) qF lD (jK lD) (w_B tv lv rv f) (fun _ _=>False) (fun q s=>q=eF (pD 70) f44/\s=sA (cW f) tv lv rv (slot [(0,P0),(69,litT lv)] 0 83)) ⟨rfl,rfl⟩ (fun _ _ _ _ _ h=>h.elim) ?_;rintro q s⟨rfl,rfl⟩;obtain⟨_,_,_,_,_,H,I,J,_⟩:=Oh;refine⟨H,fun U al a1 A N o=>?_⟩;have c1:Chg w A []:=Chg.eH (RepF.below o.wd rfl)
 refine qC (c_B tv lv rv (cW f)) F.en H (N al [] A) o fun us j=>?_
 match us,j with
 | [Y],⟨d,_⟩=>
 have d:Y=lv:=d.1;rw[d];refine(u A c1).mono ?_;rintro e D⟨g,rfl,c2,l⟩;refine⟨aA g,rfl,fun W az O=>?_⟩
 have ag:Rep Z D (ph1 0 k) (ph1 0 k) (sA (cW f) tv lv rv (slot [(0,P0),(70,litT (aA g))] 0 83)) (a1.put (some 70) (aA g)) D:=oZ (kb:=[0]) (kt:=[0]) (r:=litT (aA g)) o (Lb ((hB.on c1).on c2) h4 hx o1 o2 o3 _) (by kernel_rfl) (fun b L=>by
  have:b=0:=by simpa using L
  subst this
  exact(o.wd.base 0 (k,0) rfl).symm) ⟨rfl,Fk g⟩
 refine cE (dH nE) qF lD (jK lD) (aZb tv lv rv (aA g) f) (fun _ _=>False) (fun q s=>q=eF (pD 75) f44/\s=sA (cW f) tv lv rv (slot [(0,P0),(3,litT (aA g)),(74,litT rv)] 0 83)) ⟨rfl,rfl⟩ (fun _ _ _ _ _ h=>h.elim) ?_ W _ _ _ (O _ _ _) ag;rintro q s⟨rfl,rfl⟩;refine⟨I,fun U am a3 B P p=>?_⟩;have c3:Chg D B []:=Chg.eH (RepF.below p.wd rfl)
 refine qC (aXB tv lv rv (aA g) (cW f)) F.en I (P am [] B) p fun us j=>?_
 match us,j with
 | [Y],⟨d,_⟩=>
 have d:Y=rv:=d.1;rw[d];refine(l B c3).mono ?_;rintro e E⟨i,rfl,c4,n⟩;refine⟨aA i,rfl,fun X a0 S=>?_⟩
 have ah:Rep Z E (ph1 0 k) (ph1 0 k) (sA (cW f) tv lv rv (slot [(0,P0),(3,litT (aA g)),(75,litT (aA i))] 0 83)) (a3.put (some 75) (aA i)) E:=oZ (kb:=[0]) (kt:=[0,3]) (r:=litT (aA i)) p (Lb ((((hB.on c1).on c2).on c3).on c4) h4 hx o1 o2 o3 _) (by kernel_rfl) (fun b L=>by
  have:b=0:=by simpa using L
  subst this
  exact(p.wd.base 0 (k,0) rfl).symm) ⟨rfl,Fk i⟩
 refine cE (dH nE) qF lD (jK lD) (aZc tv lv rv (aA g) (aA i) f) (fun _ _=>False) (fun q s=>q=eF (pD 82) f44/\s=sA (cW f) tv lv rv (slot [(0,P0),(79,.val (.one (.int .i64 (cW f)))),(80,litT (aA g)),(81,litT (aA i))] 0 83)) ⟨rfl,rfl⟩ (fun _ _ _ _ _ h=>h.elim) ?_ X _ _ _ (S _ _ _) ah;rintro q s⟨rfl,rfl⟩;refine⟨J,fun U a6 a5 C T M=>?_⟩;have c5:Chg E C []:=Chg.eH (RepF.below M.wd rfl);refine Nu (aXC tv lv rv (aA g) (aA i) (cW f)) (bI func65 rfl rfl).en J T M (by rfl) (fun v=>by kernel_rfl) t_B ?_;intro us j
 match us,j with
 | [Y,u2,u3],⟨d,y,z,_⟩=>
 have d:Y=.int .i64 (cW f):=d;have y:u2=aA g:=y.1;have z:u3=aA i:=z.1;rw[d,y,z];obtain⟨a,b,ha,L,hR⟩:=n C c5;refine(aLR f ha L).mono ?_;rintro e w6 hN;obtain⟨m',he,av⟩:=id hN;rw[he]at hN;exact⟨aA m',he,Fk m',fun w7 af=>hR _ _ (hN.on af)⟩
end
end Ab
end Go.Proofs.YtkmojpfpfoaloaaGreatDoor
