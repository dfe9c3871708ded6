import Derived.Test.YtpdflaaamaokbaaGreatDoorCCh19
import Derived.Test.YtpdflaaamaokbaaGreatDoorCCh17
import Derived.Test.YtpdflaaamaokbaaGreatDoorCCh18
import Derived.Test.YtpdflaaamaokbaaGreatDoorCCh16
set_option linter.all false
set_option maxRecDepth 100000
set_option maxHeartbeats 2000000
namespace Go.Proofs.YtpdflaaamaokbaaGreatDoor
open List renaming mem_cons_of_mem->j8,length_cons->j9,getElem?_cons_succ->k8,getElem_of_mem->k9,getElem?_eq_getElem->l4,mem_map->l5,length_map->l7,mem_cons->l8,not_mem_nil->l9,take_length->n4,map_cons->n5,take_succ_eq_append_getElem->n6,foldl_append->n7,setIfInBounds_toArray->n8,set_cons_zero->n9,set_cons_succ->o8,mem_append->o9,mem_singleton->p7,drop_zero->p8,takeWhile->p9,cons_append->q7,takeWhile_sublist->q8,take_append_of_le_length->q9,drop_append_of_le_length->s4,drop_eq_getElem_cons->s8,take_succ_cons->s9,drop_eq_nil_iff->u7,foldl_cons->u9,foldl_nil->w9
open Nat renaming mul_le_mul_right->z6,zero_le->z7,le_trans->z8,le_mul_of_pos_left->A0,le_refl->A5,lt_of_lt_of_le->A6,strongRecOn->A7
open Int renaming mul_assoc->A8,natAbs_mul->A9,mul_zero->B0,mul_eq_zero->B6,natAbs_dvd_natAbs->B7,mul_ediv_cancel'->B8,dvd_neg->B9,mul_ne_zero->C0,natAbs->C3
open Option.some renaming injEq->C6
open Prod.mk renaming injEq->C7
open Go.Lib renaming tabBelow_of_tabIs->C8,decDigits->C9,decDigits_one->D0
open Or renaming inr->D1
open Bool renaming or_eq_false_iff->D2,and_self->D3
open Go.Proofs.Tryz
open Go.RowKit
def mA (s:Int):Int:=if s=2 then -1 else if s=6 then 3 else if s=7 then 2 else 1
def mB (s:Int):Int:=if s=3 then -1 else if s=4 then 1 else if s=6 then 1 else if s=7 then 1 else 0
def mC (s:Int):Int:=if s=3 then 1 else if s=4 then -1 else if s=5 then 1 else if s=6 then 1 else 0
def mD (s:Int):Int:=if s=5 then 2 else if s=6 then 3 else 1
def mL (c:Int):UInt8:=if c=1 then 43 else if c=2 then 45 else if c=3 then 111 else if c=4 then 119 else if c=5 then 45 else if c=6 then 48 else 43
structure M4 where
 a:Int
 b:Int
 c:Int
 d:Int
def M4.eE (m:M4)(s:Int):M4:=⟨m.a*mA s+m.b*mC s,m.a*mB s+m.b*mD s,m.c*mA s+m.d*mC s,m.c*mB s+m.d*mD s⟩
def M4.all (m:M4)(cs:LN):M4:=cs.foldl M4.eE m
def Mn (c:Int):Prop:=c=5\/c=6\/c=7
def Is (m:M4)(x y z u:Int):Prop:=∃g:Int,g≠0/\2*m.a=g*x/\2*m.b=g*y/\2*m.c=g*z/\2*m.d=g*u
variable {x z r y:Int}
theorem Is.half {m:M4}(h:Is m (2*x) (2*z) (2*r) (2*y)):Is m x z r y:=by
 obtain⟨g,f,a,b,d,e⟩:=h;exact⟨g*2,by omega,by rw[a,A8],by rw[b,A8],by rw[d,A8],by rw[e,A8]⟩
def Nn (p q r t n k:Int)(m:M4):Prop:=Is m (p*(k+n+1)+q*(k-n-1)) (p*(k+n-1)+q*(k-n+1)) (r*(k+n+1)+t*(k-n-1)) (r*(k+n-1)+t*(k-n+1))
theorem aUZ {m:M4}{c:Int}(h:Is m x z r y):Is (m.eE c) (x*mA c+z*mC c) (x*mB c+z*mD c) (r*mA c+y*mC c) (r*mB c+y*mD c):=by
 obtain⟨g,a,b,d,e,f⟩:=h
 refine⟨g,a,?_,?_,?_,?_⟩<;>simp only[M4.eE]<;>grind
variable {e:Int}
theorem Is.to {m:M4}{A R H:Int}(h:Is m x z r y)(a:x=e)(b:z=A)(d:r=R)(f:y=H):Is m e A R H:=by subst a b d f;exact h
variable {p q:Int}
theorem Nn.step {t k:Int}{m:M4}{c:Int}(h:Nn p q r t e k m)(hc:Mn c):Nn p q r t (xN e (mL c)) (2*k) (m.eE c):=by
 have a:=aUZ (c:=c) h
 rcases hc with rfl|rfl|rfl
 .rw[show xN e (mL 5)=2*e-1 from rfl];rw[show mA 5=1 from rfl,show mB 5=0 from rfl,show mC 5=1 from rfl,show mD 5=2 from rfl]at a;exact a.to (by grind) (by grind) (by grind) (by grind)
 .rw[show xN e (mL 6)=2*e from rfl];rw[show mA 6=3 from rfl,show mB 6=1 from rfl,show mC 6=1 from rfl,show mD 6=3 from rfl]at a
  refine(a.to ?_ ?_ ?_ ?_).half<;>grind
 .rw[show xN e (mL 7)=2*e+1 from rfl];rw[show mA 7=2 from rfl,show mB 7=1 from rfl,show mC 7=0 from rfl,show mD 7=1 from rfl]at a;exact a.to (by grind) (by grind) (by grind) (by grind)
theorem Nn.all {p q r t:Int}:∀{cs:LN} {n k:Int} {m:M4},Nn p q r t n k m->(∀c∈cs,Mn c)->Nn p q r t ((cs.map mL).foldl xN n) (k*2^cs.length) (m.all cs)
 | [],n,k,m,h,_=>by simpa[M4.all]using h
 |c::cs,n,k,m,h,hc=>by
  have a:=Nn.all (cs:=cs) (h.step (hc c (by simp))) (λx b=>hc x (j8 _ b))
  have e:(2*k)*2^cs.length=k*2^(c::cs).length:=by rw[j9,Int.pow_succ];grind
  rw[e]at a;exact a
def M4.one:M4:=⟨1,0,0,1⟩
variable {s:Int}
theorem aT3:Nn (mA s) (mB s) (mC s) (mD s) 0 1 (M4.one.eE s):=by
 refine⟨1,by decide,?_,?_,?_,?_⟩<;>simp[M4.one,M4.eE]<;>omega
variable {cs:LN}
theorem aSV (o:s=1\/s=2\/s=3\/s=4)(hc:∀c∈cs,Mn c):
  (∃g:Int,g≠0/\2*(M4.one.all (s::cs)).b=g*atT (mL s) (chN (cs.map mL)-1) (2^cs.length)/\2*(M4.one.all (s::cs)).d=g*atB (mL s) (chN (cs.map mL)-1) (2^cs.length))/\
  (∃g:Int,g≠0/\2*(M4.one.all (s::cs)).a=g*atT (mL s) (chN (cs.map mL)+1) (2^cs.length)/\2*(M4.one.all (s::cs)).c=g*atB (mL s) (chN (cs.map mL)+1) (2^cs.length)):=by
 have h:Nn (mA s) (mB s) (mC s) (mD s) (chN (cs.map mL)) (1*2^cs.length) (M4.one.all (s::cs)):=(aT3 (s:=s)).all hc;rw[Int.one_mul]at h;generalize M4.one.all (s::cs)=m at*;generalize chN (cs.map mL)=n at*;generalize (2:Int)^cs.length=k at*;obtain⟨g,l,e,f,i,j⟩:=h
 rcases o with rfl|rfl|rfl|rfl
 .rw[show mA 1=1 from rfl,show mB 1=0 from rfl]at e f;rw[show mC 1=0 from rfl,show mD 1=1 from rfl]at i j;exact⟨⟨g,l,by rw[f,show atT (mL 1) (n-1) k=k+(n-1)from rfl];grind,by rw[j,show atB (mL 1) (n-1) k=k-(n-1)from rfl];grind⟩,⟨g,l,by rw[e,show atT (mL 1) (n+1) k=k+(n+1)from rfl];grind,by rw[i,show atB (mL 1) (n+1) k=k-(n+1)from rfl];grind⟩⟩
 .rw[show mA 2=-1 from rfl,show mB 2=0 from rfl]at e f;rw[show mC 2=0 from rfl,show mD 2=1 from rfl]at i j;exact⟨⟨g,l,by rw[f,show atT (mL 2) (n-1) k=-(k+(n-1))from rfl];grind,by rw[j,show atB (mL 2) (n-1) k=k-(n-1)from rfl];grind⟩,⟨g,l,by rw[e,show atT (mL 2) (n+1) k=-(k+(n+1))from rfl];grind,by rw[i,show atB (mL 2) (n+1) k=k-(n+1)from rfl];grind⟩⟩
 .rw[show mA 3=1 from rfl,show mB 3=-1 from rfl]at e f;rw[show mC 3=1 from rfl,show mD 3=1 from rfl]at i j;exact⟨⟨2*g,by omega,by rw[f,show atT (mL 3) (n-1) k=n-1 from rfl];grind,by rw[j,show atB (mL 3) (n-1) k=k from rfl];grind⟩,⟨2*g,by omega,by rw[e,show atT (mL 3) (n+1) k=n+1 from rfl];grind,by rw[i,show atB (mL 3) (n+1) k=k from rfl];grind⟩⟩
 .rw[show mA 4=1 from rfl,show mB 4=1 from rfl]at e f;rw[show mC 4=-1 from rfl,show mD 4=1 from rfl]at i j;exact⟨⟨-2*g,by omega,by rw[f,show atT (mL 4) (n-1) k=-k from rfl];grind,by rw[j,show atB (mL 4) (n-1) k=n-1 from rfl];grind⟩,⟨-2*g,by omega,by rw[e,show atT (mL 4) (n+1) k=-k from rfl];grind,by rw[i,show atB (mL 4) (n+1) k=n+1 from rfl];grind⟩⟩
def M4.Le (m:M4)(X:Nat):Prop:=m.a.natAbs<=X/\m.b.natAbs<=X/\m.c.natAbs<=X/\m.d.natAbs<=X
variable {b:Int}{w:Nat}
theorem Xf {a:Int}(d:a.natAbs<=w)(e:b.natAbs<=w)(h:x.natAbs+y.natAbs<=4):(a*x+b*y).natAbs<=4*w:=by
 have f:(a*x).natAbs<=w*x.natAbs:=by rw[A9];exact z6 _ d
 have g:(b*y).natAbs<=w*y.natAbs:=by rw[A9];exact z6 _ e
 have i:w*x.natAbs+w*y.natAbs<=4*w:=by rw[<-Nat.mul_add,Nat.mul_comm 4 w];exact Nat.mul_le_mul_left _ h
 omega
theorem M4.Le.eE {m:M4}{w:Nat}{c:Int}(h:m.Le w)(e:1<=c)(f:c<=7):(m.eE c).Le (4*w):=by
 obtain⟨a1,a,b,d⟩:=h
 have k:(mA c).natAbs+(mC c).natAbs<=4/\(mB c).natAbs+(mD c).natAbs<=4:=by
  have h:c=1\/c=2\/c=3\/c=4\/c=5\/c=6\/c=7:=by omega
  rcases h with rfl|rfl|rfl|rfl|rfl|rfl|rfl<;>decide
 exact⟨Xf a1 a k.1,Xf a1 a k.2,Xf b d k.1,Xf b d k.2⟩
theorem M4.Le.all:∀{cs:LN} {m:M4} {X:Nat},m.Le X->(∀c∈cs,1<=c/\c<=7)->(m.all cs).Le (4^cs.length*X)
 | [],m,X,h,_=>by simpa[M4.all]using h
 |c::cs,m,X,h,hc=>by
  have a:=M4.Le.all (cs:=cs) (h.eE (hc c (by simp)).1 (hc c (by simp)).2) (λx b=>hc x (j8 _ b));rw[<-Nat.mul_assoc,<-Nat.pow_succ]at a;exact a
theorem aLH {a c d:Int}(f:a≠0)(hc:c≠0)(h:a*b=c*d):b=0↔d=0:=by
 constructor
 .rintro rfl;rw[B0]at h
  rcases B6.1 h.symm with e|e
  .exact absurd e hc
  .exact e
 .rintro rfl;rw[B0]at h
  rcases B6.1 h with e|e
  .exact absurd e f
  .exact e
theorem aKl {t T A R c d:Int}(hc:c≠0)(o:d≠0)(h:R≠0)(s:c*p=d*t)(l:c*q=d*b)(u:2*t=R*T)(n:2*b=R*A):alikeB p q T A=true:=by
 have i:=aLH hc o l;have j:=aLH (show(2:Int)≠0 by decide) h n
 have r:t*A=T*b:=by
  have:R*(t*A-T*b)=0:=by grind
  rcases B6.1 this with e|e
  .exact absurd e h
  .omega
 have k:p*A=T*q:=by
  have:c*(p*A-T*q)=0:=by grind
  rcases B6.1 this with e|e
  .exact absurd e hc
  .omega
 unfold alikeB
 by_cases a:q=0
 .have f:A=0:=j.1 (i.1 a);subst a f;rfl
 .have f:A≠0:=λe=>a (i.2 (j.2 e))
  have f1:(q==0)=false:=beq_eq_false_iff_ne.2 a;have f2:(A==0)=false:=beq_eq_false_iff_ne.2 f;rw[f1,f2];simp only[Bool.or_false,cond_false];exact beq_iff_eq.2 k
open Ab (fP fQ fR fS lowT lowB aK)
theorem aWA {c:Int}(a:1<=c)(b:c<=7):fP c=mA c/\fQ c=mB c/\fR c=mC c/\fS c=mD c:=by
 have h:c=1\/c=2\/c=3\/c=4\/c=5\/c=6\/c=7:=by omega
 rcases h with rfl|rfl|rfl|rfl|rfl|rfl|rfl<;>decide
theorem aS2 (t b:Int):aK t b*(t/aK t b)=t/\aK t b*(b/aK t b)=b/\aK t b*(-t/aK t b)=-t/\aK t b*(-b/aK t b)=-b:=by
 have a:aK t b ∣ t:=by unfold aK;exact B7.1 (by simpa using Nat.gcd_dvd_left _ _)
 have d:aK t b ∣ b:=by unfold aK;exact B7.1 (by simpa using Nat.gcd_dvd_right _ _)
 exact⟨B8 a,B8 d,B8 (B9.2 a),B8 (B9.2 d)⟩
theorem Gl (t b:Int):∃d:Int,d.natAbs=1/\aK t b*lowT t b=d*t/\aK t b*lowB t b=d*b:=by
 obtain⟨a,g2,e,f⟩:=aS2 t b;unfold lowT lowB;cases decide (Nm.cmp b 0<0)
 .cases (Nm.cmp b 0==0)
  .exact⟨1,by decide,by simp only[cond_false];omega,by simp only[cond_false];omega⟩
  .cases decide (Nm.cmp t 0<0)
   .exact⟨1,by decide,by simp only[cond_false,cond_true];omega,by simp only[cond_false,cond_true];omega⟩
   .exact⟨-1,by decide,by simp only[cond_false,cond_true];omega,by simp only[cond_false,cond_true];omega⟩
 .exact⟨-1,by decide,by simp only[cond_true];omega,by simp only[cond_true];omega⟩
theorem aNG {t:Int}(a:r≠0)(f:2*t=r*y)(i:2*b=r*e)(d:y≠0\/e≠0):0<aK t b:=by
 have h:t≠0\/b≠0:=by
  rcases d with h|h
  .left;rintro rfl;have:=C0 a h;omega
  .right;rintro rfl;have:=C0 a h;omega
 have:0<Nat.gcd t.natAbs b.natAbs:=by
  rcases h with h|h
  .exact Nat.gcd_pos_of_pos_left _ (by omega)
  .exact Nat.gcd_pos_of_pos_right _ (by omega)
 unfold aK;omega
variable {v:Int}
theorem Xi {c:UInt8}{k:Int}(a:0<k):atT c v k≠0\/atB c v k≠0:=by
 unfold atT atB;split
 .omega
 .split
  .omega
  .split
   .right;omega
   .left;omega
theorem aLR (o:s=1\/s=2\/s=3\/s=4)(hc:∀c∈cs,Mn c):
  (0<aK (M4.one.all (s::cs)).b (M4.one.all (s::cs)).d/\alikeB (lowT (M4.one.all (s::cs)).b (M4.one.all (s::cs)).d) (lowB (M4.one.all (s::cs)).b (M4.one.all (s::cs)).d) (atT (mL s) (chN (cs.map mL)-1) (2^cs.length)) (atB (mL s) (chN (cs.map mL)-1) (2^cs.length))=true)/\
  (0<aK (M4.one.all (s::cs)).a (M4.one.all (s::cs)).c/\alikeB (lowT (M4.one.all (s::cs)).a (M4.one.all (s::cs)).c) (lowB (M4.one.all (s::cs)).a (M4.one.all (s::cs)).c) (atT (mL s) (chN (cs.map mL)+1) (2^cs.length)) (atB (mL s) (chN (cs.map mL)+1) (2^cs.length))=true):=by
 have k:(0:Int)<2^cs.length:=Int.pow_pos (by decide);obtain⟨⟨g,h,i,j⟩,⟨f,f0,f1,f2⟩⟩:=aSV o hc;have p1:=aNG h i j (Xi k);have p:=aNG f0 f1 f2 (Xi k);obtain⟨d,d0,d1,d2⟩:=Gl (M4.one.all (s::cs)).b (M4.one.all (s::cs)).d;obtain⟨e,q,l,n⟩:=Gl (M4.one.all (s::cs)).a (M4.one.all (s::cs)).c;exact⟨⟨p1,aKl (by omega) (by omega) h d1 d2 i j⟩,⟨p,aKl (by omega) (by omega) f0 l n f1 f2⟩⟩
namespace Rf
theorem aHy {w:Nat}:∀(m:Nat) (s:St) (d r:Nat) (a:NN) (c:Nat) (n:Nd) (l:LN),s.clock=(c:Int)->c<=3000->Inv s.nodes a c->s.nodes[d]?=some n->r<=n.out.length->c+a d+2<=w->readK w m s d r=some l->∀(i:Nat) (z:Int),l[i]?=some z->z∈(if n.pos=false/\r+i=0 then [43,45,111,119]else [-1,1,0]:LN)
 |0,s,d,r,a,c,n,l,v,A,B,j,C,D,h,i,z,b=>by cases h;simp at b
 |m+1,s,d,r,a,c,n,l,v,A,B,j,C,D,h,i,z,b=>by
  unfold readK at h;split at h
  .rename_i P y E;obtain⟨O,M,rfl⟩:=Option.map_eq_some_iff.1 h;obtain⟨x,F,N⟩:=total w s d r a c v A B n j C D;rw[E]at F;cases F;obtain⟨g,I,R,u,o,p,H,e,S⟩:=N.ex y rfl;obtain⟨U,k,J,_⟩:=p.le.at' d n j;simp only at u o p e k;rw[e]at k;cases k;have T:=p.agree d (List.getElem?_eq_some_iff.1 j).1;obtain⟨W,q,L⟩:=Pm _ _ _ _ _ _ E;rw[e]at q;cases q
   cases i with
   |zero=>
    simp at b;subst b;have:=(o.at' d H e).fst.2 r y L;rw[J]at this;exact this
   |succ i=>
    simp only[k8]at b;have:=aHy m P d (r+1) g I H O u (by omega) o e (by omega) (by omega) M i z b;rw[if_neg (by omega)]at this;rw[if_neg (by omega)];exact this
  .cases h
theorem aQR {t:Wt}{k c:Nat}{l:LN}(x:t.Ok)(hc:c<=3000)(h:symsT t k c=some l):∃s cs,l=s::cs/\s∈([43,45,111,119]:LN)/\∀z∈cs,z∈([-1,1,0]:LN):=by
 obtain⟨ns,a,d,r,o,y,w,_⟩:=pX t [] (λ_=>0) x hc (We _ c);unfold symsT at h;rw[r,Option.bind_some]at h;obtain⟨n,f,b⟩:=Option.bind_eq_some_iff.1 h;simp only at f b
 have p:c+a d+2<=eU t:=by unfold eU;omega
 split at b
 .rename_i g;obtain⟨q,u,rfl⟩:=Option.map_eq_some_iff.1 b;refine⟨43,q,rfl,by simp,λz j=>?_⟩;obtain⟨i,hi,e⟩:=k9 j;have:=aHy _ ⟨ns,c⟩ d 0 a c n q rfl hc o.inv f (z7 _) p u i z (by rw[l4 hi,e]);rw[if_neg (by rw[g];simp)]at this;exact this
 .rename_i g;have D:=aHy _ ⟨ns,c⟩ d 0 a c n l rfl hc o.inv f (z7 _) p b;have v:=Uh _ _ _ _ _ b
  match l,v with
  |s::cs,_=>
   refine⟨s,cs,rfl,?_,λz j=>?_⟩
   .have:=D 0 s rfl;rw[if_pos ⟨by simpa using g,rfl⟩]at this;exact this
   .obtain⟨i,hi,e⟩:=k9 j;have:=D (i+1) z (by simp only[k8];rw[l4 hi,e]);rw[if_neg (by omega)]at this;exact this
end Rf
open Ab (fP fQ fR fS lowT lowB aK code Kz)
def Db (m:M4):Prop:=∀z∈[m.a,m.b,m.c,m.d],Ab.Bits 1 z
def Hp (p q:Int):Prop:=0<aK p q/\(lowT p q).natAbs<=67108864/\(lowB p q).natAbs<=67108864
def yT (p q:Int):ON:=Nm.text (lowT p q)++[47]++Nm.text (lowB p q)
theorem Na (h:v.natAbs<=67108864):Ab.Bits 1 v:=Ab.iH (by omega)
theorem aT6 {c:Int}(h:1<=c/\c<=7):∀z∈[fP c,fQ c,fR c,fS c],Ab.Bits 1 z:=by
 obtain⟨a,b,d,e⟩:=aWA h.1 h.2;rw[a,b,d,e];intro z f;refine Na ?_
 have h:c=1\/c=2\/c=3\/c=4\/c=5\/c=6\/c=7:=by omega
 rcases h with rfl|rfl|rfl|rfl|rfl|rfl|rfl<;>revert z<;>decide
theorem aRq {zs:LN}(b:zs.length<=13):(M4.one.all (zs.map code)).Le 67108864:=by
 have h:=M4.Le.all (cs:=zs.map code) (m:=M4.one) (X:=1) ⟨by decide,by decide,by decide,by decide⟩ (λc hc=>by
  obtain⟨z,_,rfl⟩:=l5.1 hc
  exact Kz z)
 have a:4^(zs.map code).length*1<=67108864:=by
  rw[Nat.mul_one,l7];exact Nat.pow_le_pow_right (n:=4) (j:=13) (by decide) b
 exact⟨z8 h.1 a,z8 h.2.1 a,z8 h.2.2.1 a,z8 h.2.2.2 a⟩
theorem aSs {s:LN}(g:s.length<=13):Db (M4.one.all (s.map code)):=by
 obtain⟨b,d,e,f⟩:=aRq g;intro z a;simp only[l8,l9,or_false]at a
 rcases a with rfl|rfl|rfl|rfl
 .exact Na b
 .exact Na d
 .exact Na e
 .exact Na f
theorem aRE {t:Int}(h:0<aK t b):(lowT t b).natAbs<=t.natAbs/\(lowB t b).natAbs<=b.natAbs:=by
 obtain⟨d,d0,d1,d2⟩:=Gl t b;have a:=congrArg C3 d1;have e:=congrArg C3 d2;rw[A9,A9,d0,Nat.one_mul]at a e
 have f:0<(aK t b).natAbs:=by omega
 exact⟨by rw[<-a];exact A0 _ f,by rw[<-e];exact A0 _ f⟩
theorem aU1 (c:UInt8){n k:Int}(a:-5000<=n)(b:n<=5000)(d:0<=k)(e:k<=5000):(-1000000<=atT c n k/\atT c n k<=1000000)/\-1000000<=atB c n k/\atB c n k<=1000000:=by
 unfold atT atB;split
 .omega
 .split
  .omega
  .split<;>omega
theorem aW9 {l:ON}(h:l.length<=12):-4096<=chN l/\chN l<=4096:=by
 have a:=aM9 l l.length (A5 _);rw[n4]at a;have:=Bo h;omega
theorem aLN {m:M4}(h:s∈([43,45,111,119]:LN))(hc:∀z∈cs,z∈([-1,1,0]:LN))(q:cs.length<=12)(g:m=M4.one.all ((s::cs).map code)):
  (Hp m.b m.d/\alikeB (lowT m.b m.d) (lowB m.b m.d) (atT (dS s) (chN (cs.map dS)-1) (2^(cs.map dS).length)) (atB (dS s) (chN (cs.map dS)-1) (2^(cs.map dS).length))=true)/\
  (Hp m.a m.c/\alikeB (lowT m.a m.c) (lowB m.a m.c) (atT (dS s) (chN (cs.map dS)+1) (2^(cs.map dS).length)) (atB (dS s) (chN (cs.map dS)+1) (2^(cs.map dS).length))=true):=by
 have L:=aRq (zs:=s::cs) (by simp;omega)
 have E:=aLR (s:=code s) (cs:=cs.map code) (by simp only [l8,l9,or_false] at h;rcases h with rfl | rfl | rfl | rfl<;>decide) (λc j=>by
  obtain⟨z,k,rfl⟩:=l5.1 j;have:=hc z k;simp only[l8,l9,or_false]at this;unfold Mn
  rcases this with rfl|rfl|rfl<;>decide)
 rw[<-n5,<-g]at E;rw[<-g]at L;rw[List.map_map,l7]at E;rw[l7];obtain⟨⟨e,a1⟩,f,i⟩:=E;have b1:=aRE e;have b2:=aRE f;obtain⟨l,n,o,p⟩:=L;exact⟨⟨⟨e,z8 b1.1 n,z8 b1.2 p⟩,a1⟩,⟨f,z8 b2.1 l,z8 b2.2 o⟩,i⟩
open Ab
open Rf (Wt symsT)
def Af (w:World)(g:LN)(e:Nat)(i:Value)(wr:World):Prop:=
 ∃n f m,n<=g.length/\i=.int .i64 (n:Int)/\m=M4.one.all ((g.take n).map code)/\Hold true wr [m.a,m.b,m.c,m.d] f/\wr.heap[e]?=some (.cells f.toArray 68 (0,0))/\Below e w wr
theorem aPD {s:LN}(h:w<s.length):M4.one.all ((s.take (w+1)).map code)=(M4.one.all ((s.take w).map code)).eE (code s[w]):=by
 rw[n6 h,List.map_append];unfold M4.all;rw[n7];rfl
variable {n:World}
theorem aW1 {m:M4}{c:Int}{e f:LB}(o:Hold true n [m.a,m.b,m.c,m.d] e)(g:Db m)(hc:1<=c/\c<=7)(p:Hold true n [fP c,fQ c,fR c,fS c] f):
  Calls prog 23 #[.agg e.toArray,.agg f.toArray] n (mT n [(m.eE c).a,(m.eE c).b,(m.eE c).c,(m.eE c).d]):=by
 have h:=aMR o g p (aT6 hc);obtain⟨i,j,k,l⟩:=aWA hc.1 hc.2;rw[i,j,k,l]at h;exact h
variable {a:LB}
theorem Ab.fZ.put {b:World}{k:Nat}{ty:TypeId}(h:fZ n b k a ty)(o:Nat)(v:Value):fZ n (b.setCell ⟨k,o,none⟩ v) k (a.set o v) ty:=by
 have g:=Zn h.bS o v;exact⟨g.bS,λj d=>(g.others j d).trans (h.others j d),g.size.trans h.size,g.os.trans h.os,g.tape.trans h.tape,g.output.trans h.output⟩
theorem aTh {V:World}{b:Nat}{g:LB}(h:n.heap[b]?=some (.cells a.toArray 68 (0,0)))(S:fZ n V b g 68)(i:g.length=a.length):
  On Z.bt n V/\∀B u,Below B u n->B<=b->Below B u V:=by
 refine⟨⟨S.os,S.tape,S.output,by rw[S.size];exact A5 _,λk o f=>?_⟩,λB u d j=>⟨S.os.trans d.os,S.tape.trans d.tape,S.output.trans d.output,by rw[S.size];exact d.size,λk f=>(S.others k (by omega)).trans (d.block k f)⟩⟩
 by_cases e:k=b
 .subst e;rw[h]at f;cases f;refine D1 ⟨show List.contains Z.bt 68=true by decide,?_⟩;unfold World.shape?;rw[h,S.bS];simp[i]
 .exact Or.inl ((S.others k e).trans f)
theorem aNk (w:World)(xb:Nat)(T:Rd.Tr)(u:Wt)(k c:Nat)(q:LN)(hx:ExAt w xb T)(hu:planT T=some u)(hk:k<=60)(hc:c<=3000)(X:symsT u k c=some q)(hM:∀n,n<=q.length->Db (M4.one.all ((q.take n).map code)))(R:Hp (M4.one.all (q.map code)).b (M4.one.all (q.map code)).d)(ad:Hp (M4.one.all (q.map code)).a (M4.one.all (q.map code)).c)(ht:∀W,Chg w W []->mE W):Calls prog 9 #[.pointer (some ⟨xb,0,none⟩),.int .i64 (k:Int),.int .i64 (c:Int)] w λe x=>∃s t,e=.returned (.tuple #[.string s,.string t,.int .i64 0])/\dH s (yT (M4.one.all (q.map code)).b (M4.one.all (q.map code)).d)/\dH t (yT (M4.one.all (q.map code)).a (M4.one.all (q.map code)).c)/\Chg w x []:=by
 have SY:=hid (Zb w xb T u k c hx hu hk hc);have bg:=Rf.Uk X;rw[X]at SY;clear hx hu X
 go_enter func9,ntmps9
 go_wp2_with fail
 refine(SY.out).mono ?_;rintro e w1⟨ah,h⟩;have C1:=hid ah;clear ah;simp only at h;obtain⟨l,g,rfl,H⟩:=h;obtain⟨ao,cp,rfl⟩:=Pv H;have ax:=hid (λn (X:n<q.length)=>aLc H X);clear H
 go_wp2_with fail
 refine(aOn _).mono ?_;rintro e y⟨ys,rfl,hy,af⟩;obtain⟨a0,l0,c0,a1,l1,c1,a2,l2,c2,a3,l3,c3,rfl⟩:=Ab.Ax hy
 go_wp2_with fail
 have E:=hid af;clear af
 go_loopw [12] (λi wr=>Af y q y.heap.size i wr) (λi _=>q.length-(intOf i).toNat)
 case atStart=>
  exact⟨0,_,_,z7 _,rfl,rfl,Va hy ((Below.refl _ _).alloc (A5 _) _),jN _ _,(Below.refl _ _).alloc (A5 _) _⟩
 case round=>
  obtain⟨n,I,m,X,rfl,U,hh,r,D⟩:=hrel;have HM:=hid U;clear U;have S:=D.size;obtain⟨a0,l0,c0,a1,l1,c1,a2,l2,c2,a3,l3,c3,rfl⟩:=Ab.Ax hh
  by_cases aj:n<q.length
  .have b7:(n:Int)<q.length:=by omega
   have AF:=hid (λW I ys (h:Hold true W [m.a,m.b,m.c,m.d] I) (h':Hold true W [fP (code q[n]),fQ (code q[n]),fR (code q[n]),fS (code q[n])] ys)=>aW1 h (HM.out▸hM n X) (Kz _) h');obtain⟨b,bu,hl,J,F⟩:=ax.out n aj;cases hl;have dt:=(D.cell (A6 J E.out.size)).trans ((E.out.cell J).trans F);clear F
   go_wp2_with fail
   refine Za (λx:World=>x.cell? ⟨y.heap.size,0,none⟩=some (.bool (decide (m.a<0)))/\x.cell? ⟨y.heap.size,1,none⟩=some (.slice a0 l0 c0)/\x.cell? ⟨y.heap.size,2,none⟩=some (.bool (decide (m.b<0)))/\x.cell? ⟨y.heap.size,3,none⟩=some (.slice a1 l1 c1)/\x.cell? ⟨y.heap.size,4,none⟩=some (.bool (decide (m.c<0)))/\x.cell? ⟨y.heap.size,5,none⟩=some (.slice a2 l2 c2)/\x.cell? ⟨y.heap.size,6,none⟩=some (.bool (decide (m.d<0)))/\x.cell? ⟨y.heap.size,7,none⟩=some (.slice a3 l3 c3)/\x.cell? ⟨b,n,none⟩=some (.int .i64 (code q[n]))) (λi=>!(i==7)) (by kernel_rfl) ?_
   have B:Shut ((λx:World=>x.cell? ⟨y.heap.size,0,none⟩=some (.bool (decide (m.a<0)))/\x.cell? ⟨y.heap.size,1,none⟩=some (.slice a0 l0 c0)/\x.cell? ⟨y.heap.size,2,none⟩=some (.bool (decide (m.b<0)))/\x.cell? ⟨y.heap.size,3,none⟩=some (.slice a1 l1 c1)/\x.cell? ⟨y.heap.size,4,none⟩=some (.bool (decide (m.c<0)))/\x.cell? ⟨y.heap.size,5,none⟩=some (.slice a2 l2 c2)/\x.cell? ⟨y.heap.size,6,none⟩=some (.bool (decide (m.d<0)))/\x.cell? ⟨y.heap.size,7,none⟩=some (.slice a3 l3 c3)/\x.cell? ⟨b,n,none⟩=some (.int .i64 (code q[n]))) wr.drew):=⟨aX (o:=0) r rfl,aX (o:=1) r rfl,aX (o:=2) r rfl,aX (o:=3) r rfl,aX (o:=4) r rfl,aX (o:=5) r rfl,aX (o:=6) r rfl,aX (o:=7) r rfl,dt⟩
   refine uF (i:=0) (v:=?va0) rfl (by kernel_rfl) (by kernel_rfl) (by kernel_rfl) (by kernel_rfl) (λ_ _ _ h=>h) (Or.inl ⟨by rfl,?ya0⟩) B.out ?ra0
   case ya0=>
    intro w hSw
    try dsimp only at hSw
    go_simp
    try with_reducible rfl
   try simp only[Act.put,n8,n9,o8]
   refine uF (i:=1) (v:=?va1) rfl (by kernel_rfl) (by kernel_rfl) (by kernel_rfl) (by kernel_rfl) (λ_ _ _ h=>h) (Or.inl ⟨by rfl,?ya1⟩) B.out ?ra1
   case ya1=>
    intro w hSw
    try dsimp only at hSw
    go_simp
    try with_reducible rfl
   try simp only[Act.put,n8,n9,o8]
   refine uF (i:=2) (v:=?va2) rfl (by kernel_rfl) (by kernel_rfl) (by kernel_rfl) (by kernel_rfl) (λ_ _ _ h=>h) (Or.inl ⟨by rfl,?ya2⟩) B.out ?ra2
   case ya2=>
    intro w hSw
    try dsimp only at hSw
    go_simp
    try with_reducible rfl
   try simp only[Act.put,n8,n9,o8]
   refine uF (i:=3) (v:=?va3) rfl (by kernel_rfl) (by kernel_rfl) (by kernel_rfl) (by kernel_rfl) (λ_ _ _ h=>h) (Or.inl ⟨by rfl,?ya3⟩) B.out ?ra3
   case ya3=>
    intro w hSw
    try dsimp only at hSw
    go_simp
    try with_reducible rfl
   try simp only[Act.put,n8,n9,o8]
   refine uF (i:=4) (v:=?va4) rfl (by kernel_rfl) (by kernel_rfl) (by kernel_rfl) (by kernel_rfl) (λ_ _ _ h=>h) (Or.inl ⟨by rfl,?ya4⟩) B.out ?ra4
   case ya4=>
    intro w hSw
    try dsimp only at hSw
    go_simp
    try with_reducible rfl
   try simp only[Act.put,n8,n9,o8]
   have hE:=B.out;clear B;refine zK (i:=5) (by kernel_rfl) rfl (λK M=>?_)
   go_simp
   refine(aO9 _ _).mono ?_;rintro e v1⟨us,rfl,hu,aq⟩;have C:=nV aq;have j:=(C.block _ (fJ r)).trans r;have P:=(C.cell (p:=⟨b,n,none⟩) (A6 (A6 J E.out.size) S)).trans dt
   go_wp2_with fail
   refine M.out _ _ (λ_=>⟨aX (o:=0) j rfl,aX (o:=1) j rfl,aX (o:=2) j rfl,aX (o:=3) j rfl,aX (o:=4) j rfl,aX (o:=5) j rfl,aX (o:=6) j rfl,aX (o:=7) j rfl,P⟩) ?_;clear M K
   try simp only[Act.put,n8,n9,o8]
   refine zK (i:=6) (by kernel_rfl) rfl (λK M=>?_)
   go_simp
   refine(AF.out _ _ _ (Va hh C) hu).mono ?_;rintro e v2⟨ts,rfl,Y,L⟩;have f:=(L.block _ (fJ j)).trans j;have ab:=(L.cell (p:=⟨b,n,none⟩) (A6 (A6 (A6 J E.out.size) S) C.size)).trans P;obtain⟨d0,e0,f0,d1,e1,f1,d2,e2,f2,d3,e3,f3,rfl⟩:=Ab.Ax Y
   go_wp2_with fail
   refine M.out _ _ (λ_=>⟨aX (o:=0) f rfl,aX (o:=1) f rfl,aX (o:=2) f rfl,aX (o:=3) f rfl,aX (o:=4) f rfl,aX (o:=5) f rfl,aX (o:=6) f rfl,aX (o:=7) f rfl,ab⟩) ?_;clear M K
   try simp only[Act.put,n8,n9,o8]
   have k0:=aX (o:=0) f rfl;have j0:=jY (o:=0) f;have k1:=aX (o:=1) f rfl;have j1:=jY (o:=1) f;have k2:=aX (o:=2) f rfl;have j2:=jY (o:=2) f;have k3:=aX (o:=3) f rfl;have j3:=jY (o:=3) f;have k4:=aX (o:=4) f rfl;have j4:=jY (o:=4) f;have k5:=aX (o:=5) f rfl;have j5:=jY (o:=5) f;have k6:=aX (o:=6) f rfl;have j6:=jY (o:=6) f;have k7:=aX (o:=7) f rfl;have j7:=jY (o:=7) f;refine zK (i:=7) (by kernel_rfl) rfl (λK M=>?_)
   go_simp
   refine M.out _ _ (λh=>absurd h (by decide)) ?_;clear M K;refine Yz (by kernel_rfl) ?_ _
   have S8:=((((((((Zn f 0 (.bool (decide ((m.eE (code q[n])).a<0)))).put 1 (.slice d0 e0 f0)).put 2 (.bool (decide ((m.eE (code q[n])).b<0)))).put 3 (.slice d1 e1 f1)).put 4 (.bool (decide ((m.eE (code q[n])).c<0)))).put 5 (.slice d2 e2 f2)).put 6 (.bool (decide ((m.eE (code q[n])).d<0)))).put 7 (.slice d3 e3 f3))
   simp only[n9,o8]at S8;obtain⟨ak,ag⟩:=aTh f S8 rfl;generalize World.setCell (World.setCell _ _ _) _ _=V4 at*;have HR:=hid (show Af y q y.heap.size (.int .i64 ((n+1:Nat):Int)) V4 from⟨n+1,_,_,by omega,rfl,by rw[aPD aj,<-HM.out],nD ak Y,S8.bS,ag _ _ (D.trans ((C.trans (L.mono C.size)).mono S)) (A5 _)⟩);clear k0 k1 k2 k3 k4 k5 k6 k7 j0 j1 j2 j3 j4 j5 j6 j7;clear S8 ak ag Y f ab j P L C aq hu hh r dt
   go_wp2_with fail
   go_roundw
   case rel=>exact HR.out
   case measure=>simp only[intOf];omega
  .obtain rfl:n=q.length:=by omega
   go_wp2_with fail
   have U:=HM.out;rw[n4]at U;have HC:=hid (C1.out.trans ((Chg.eC E.out).trans (Chg.eC D)));have HT:=ht wr HC.out;have aa:=hid (hM _ (A5 _));rw[n4,<-U]at aa;rw[<-U]at R ad
   have O:∀z∈[m.a,m.b,m.c,m.d],Ab.Bits 1 z:=by
    have h:=aa.out;unfold Db at h;exact h
   have CN:=hid (λw I (h:Hold true w [m.a,m.b,m.c,m.d] I) (g:0<aK m.b m.d)=>aOp h O g);have CI:=hid (λw I (h:Hold true w [m.a,m.b,m.c,m.d] I) (g:0<aK m.a m.c)=>aOo h O g);clear O;obtain⟨g1,f1,f2⟩:=R;obtain⟨g2,f3,f4⟩:=ad
   have ff:∀n:Nat,n<=67108864->n<2^64:=λn h=>by omega
   refine aON (w0:=wr) [PH [m.a,m.b,m.c,m.d],PH [lowT m.b m.d,lowB m.b m.d],PT (yT m.b m.d),PH [m.a,m.b,m.c,m.d],PH [lowT m.a m.c,lowB m.a m.c],PT (yT m.a m.c),PT (yT m.b m.d),PT (yT m.a m.c),λ_ v=>v=.int .i64 0] (Below.refl _ _) (by kernel_rfl) (by kernel_rfl) ?_ ?_
   .intro i hi a w K A N
    match i,hi with
    |1,_=>exact aRS A N 0 rfl rfl rfl (by kernel_rfl) rfl aZJ λI h=>CN.out _ I h g1
    |2,_=>exact aRU A N 1 rfl rfl rfl (by kernel_rfl) rfl (ff _ f1) (ff _ f2) HT
    |4,_=>exact aRS A N 3 rfl rfl rfl (by kernel_rfl) rfl aZI λI h=>CI.out _ I h g2
    |5,_=>exact aRU A N 4 rfl rfl rfl (by kernel_rfl) rfl (ff _ f3) (ff _ f4) HT
    |6,_=>exact aRT A N 2 rfl rfl rfl (by kernel_rfl) rfl
    |7,_=>exact aRT A N 5 rfl rfl rfl (by kernel_rfl) rfl
    |8,_=>exact aXQ N rfl rfl rfl
    |n+9,hi=>exact absurd hi (by simp)
    |0,_=>exact aWr A N rfl rfl (by kernel_rfl) rfl rfl hh r
    |3,_=>exact aWr A N rfl rfl (by kernel_rfl) rfl rfl hh r
   .intro vs w6 ae R;obtain⟨s,hs,al⟩:=R 6 _ _ rfl rfl w6 (Below.refl _ _);obtain⟨t,ht,am⟩:=R 7 _ _ rfl rfl w6 (Below.refl _ _);have h8:vs 8=.int .i64 0:=R 8 _ _ rfl rfl w6 (Below.refl _ _);simp only[cA,dl,n8,n9,o8,Nat.zero_add,Nat.reduceAdd,hs,ht,h8];have HZ:=hid al;have HY:=hid am;have H6:=hid ae;clear R al am ae
    go_wp2_with fail
    refine bodyPost_ret (v:=.tuple #[.string s,.string t,.int .i64 0]) (by simp[results,results9,go_sem]) rfl ?_;rw[<-U];exact⟨s,t,rfl,HZ.out,HY.out,HC.out.trans (Chg.eC H6.out)⟩
theorem Fw {b:World}(h:Chg n b []):Below n.heap.size n b:=h.below (A5 _) (λk a=>by simp at a)
theorem aPK {b J:World}(h:Below n.heap.size n b)(a:Below b.heap.size b J):Below n.heap.size n J:=h.trans (a.mono h.size)
theorem aSU (w:World)(f:Nat)(T:Rd.Tr)(u:Wt)(k c:Nat)(g:LN)(r:ExAt w f T)(q:planT T=some u)(x:k<=12)(hc:c<=3000)(l:symsT u k c=some g)(o:mE w){m:M4}(p:m=M4.one.all (g.map code))(i:Hp m.b m.d)(j:Hp m.a m.c):
  Calls prog 9 #[.pointer (some ⟨f,0,none⟩),.int .i64 (k:Int),.int .i64 (c:Int)] w λe v=>∃s t,e=.returned (.tuple #[.string s,.string t,.int .i64 0])/\dH s (yT m.b m.d)/\dH t (yT m.a m.c)/\Chg w v []:=by
 have y:=Rf.Uk l;rw[p]at i j ⊢;exact aNk w f T u k c g r q (by omega) hc l (λn _=>aSs (by simp;omega)) i j (λW h=>C8 o W (Fw h))
theorem aOJ (h:Hp p q){t:ByteArray}(g:dH t (yT p q))(w:World):
  Calls prog 10 #[.string t] w λe i=>e=.returned (.tuple #[.int .i64 (lowT p q),.int .i64 (lowB p q),.bool true])/\Below w.heap.size w i:=by
 obtain⟨a1,a,b,d⟩:=aLq (z:=lowT p q) (by have:=h.2.1;omega);obtain⟨b1,b2,f,b4⟩:=aLq (z:=lowB p q) (by have:=h.2.2;omega);have:=aII t (Nm.text (lowT p q)) (Nm.text (lowB p q)) w (g.to (by unfold yT;simp)) a1 a b b1 b2 f;rw[d,b4]at this;exact this
theorem aHX (h:alikeB p q r s=true)(f:p.natAbs<=67108864)(g:q.natAbs<=67108864)(a:-1000000<=r/\r<=1000000)(b:-1000000<=s/\s<=1000000)(w:World):
  Calls prog 12 #[.int .i64 p,.int .i64 q,.int .i64 r,.int .i64 s] w λe d=>e=.returned (.bool true)/\d=w:=by
 have:=aMS p q r s w (by omega) (by omega) a b;rw[h]at this;exact this
theorem aH8 (w:World)(o:Nat)(T:Rd.Tr)(t:ByteArray)(a b k:Int)(Y:Bool)(r:ExAt w o T)(O:mE w)(h0:-9223372036854775808<=k)(h1:k<=9223372036854775807):
  Calls prog 5 #[.agg #[.pointer (some ⟨o,0,none⟩),.string t,.int .i64 a,.int .i64 b,.bool Y],.int .i64 k] w λe w'=>e=.returned (.bool true)/\Below w.heap.size w w':=by
 have R:=hid (λw=>xG k 13 w h0 h1 (by decide) (by decide));have au:=yP k 13 (by decide);have c1:Chg w (w.alloc (.cells #[.pointer (some ⟨o,0,none⟩),.string t,.int .i64 a,.int .i64 b,.bool Y] 31)) []:=Chg.alloc _ _;have j:=hid c1;have q0:(w.alloc (.cells #[.pointer (some ⟨o,0,none⟩),.string t,.int .i64 a,.int .i64 b,.bool Y] 31)).cell? ⟨w.heap.size,0,none⟩=some (.pointer (some ⟨o,0,none⟩)):=aX (jN _ _) rfl;generalize pickI k 13=i at*;clear c1
 cases q:planT T with
 |none=>
  have z:=hid (λW (p:Chg w W [])=>aJA W o T i 1000 (r.aT p) q (by omega) (by decide));have A:=hid (λW (p:Chg w W [])=>aNj W o T i 1000 (r.aT p) q (by omega) (by decide));clear r O q
  go_enter func5,ntmps5
  go_wp2_with fail
  refine(R.out _).mono ?_;rintro e w1⟨rfl,rfl⟩
  go_wp2_with fail
  refine(z.out _ j.out).mono ?_;rintro e N⟨rfl,f⟩;have q2:N.cell? ⟨w.heap.size,0,none⟩=some (.pointer (some ⟨o,0,none⟩)):=((Fw f).cell (by simp)).trans q0;have v:=hid (j.out.trans f);clear f
  go_wp2_with fail
  refine(A.out _ v.out).mono ?_;rintro e w3⟨rfl,g⟩;have y:=hid (Fw (v.out.trans g));clear g
  go_wp2_with fail
  go_ret
  exact⟨rfl,y.out⟩
 |some u=>
  have dn:=λW (p:Chg w W [])=>Tp W o T u i 1000 (r.aT p) q (by omega) (by decide)
  cases x:symsT u i 1000 with
  |none=>
   have A:=hid (λW (p:Chg w W [])=>aLQ W o T u i 1000 (r.aT p) q (by omega) (by decide) x);rw[x]at dn;have z:=hid dn;clear r O q x dn
   go_enter func5,ntmps5
   go_wp2_with fail
   refine(R.out _).mono ?_;rintro e w1⟨rfl,rfl⟩
   go_wp2_with fail
   refine(z.out _ j.out).mono ?_;rintro e N⟨f,H⟩;simp only at H;subst H;have q2:N.cell? ⟨w.heap.size,0,none⟩=some (.pointer (some ⟨o,0,none⟩)):=((Fw f).cell (by simp)).trans q0;have v:=hid (j.out.trans f);clear f
   go_wp2_with fail
   refine(A.out _ v.out).mono ?_;rintro e w3⟨rfl,g⟩;have y:=hid (Fw (v.out.trans g));clear g
   go_wp2_with fail
   go_ret
   exact⟨rfl,y.out⟩
  |some zs=>
   obtain⟨s,cs,rfl,I,J⟩:=Rf.aQR (r.ok q) (by decide) x
   have ag:cs.length=i:=by have:=Rf.Uk x;simpa using this
   obtain⟨m,U⟩:∃m,m=M4.one.all ((s::cs).map code):=⟨_,rfl⟩
   obtain⟨⟨B,A1⟩,C,A2⟩:=aLN I J (by omega) U;have A:=hid (λW (p:Chg w W [])=>aSU W o T u i 1000 (s::cs) (r.aT p) q (by omega) (by decide) x (C8 O W (Fw p)) U B C);rw[x]at dn;have S:=aW9 (l:=cs.map dS) (by rw[l7];omega);have X:=Bo (k:=(cs.map dS).length) (by rw[l7];omega);have P:=aU1 (dS s) (n:=chN (cs.map dS)-1) (k:=2^(cs.map dS).length) (by omega) (by omega) (by omega) (by omega);have B2:=aU1 (dS s) (n:=chN (cs.map dS)+1) (k:=2^(cs.map dS).length) (by omega) (by omega) (by omega) (by omega);have Y1:=hid (aHX A1 B.2.1 B.2.2 P.1 P.2);have Y2:=hid (aHX A2 C.2.1 C.2.2 B2.1 B2.2);have Q1:=hid (λt (h:dH t (yT m.b m.d)) w=>aOJ B h w);have Q2:=hid (λt (h:dH t (yT m.a m.c)) w=>aOJ C h w);have CT:=hid (λw=>aNa _ (dS s) (cs.map dS) w (dH.mk' ((s::cs).map dS)) (by rw[l7];omega))
   have av:(ByteArray.mk ((s::cs).map dS).toArray).size=i+1:=by simp[ByteArray.size];omega
   have z:=hid dn;generalize lowT m.b m.d=p1 at*;generalize lowB m.b m.d=q1 at*;generalize lowT m.a m.c=p2 at*;generalize lowB m.a m.c=q2 at*;generalize atT (dS s) (chN (cs.map dS)-1) (2^(cs.map dS).length)=r1 at*;generalize atB (dS s) (chN (cs.map dS)-1) (2^(cs.map dS).length)=s1 at*;generalize atT (dS s) (chN (cs.map dS)+1) (2^(cs.map dS).length)=r2 at*;generalize atB (dS s) (chN (cs.map dS)+1) (2^(cs.map dS).length)=s2 at*;clear r O q x dn I J U A1 A2 B C S X P B2
   go_enter func5,ntmps5
   go_wp2_with fail
   refine(R.out _).mono ?_;rintro e w1⟨rfl,rfl⟩
   go_wp2_with fail
   refine(z.out _ j.out).mono ?_;rintro e N⟨f,H⟩;simp only at H;subst H;generalize ByteArray.mk ((s::cs).map dS).toArray=D at*;have q2:N.cell? ⟨w.heap.size,0,none⟩=some (.pointer (some ⟨o,0,none⟩)):=((Fw f).cell (by simp)).trans q0;have v:=hid (j.out.trans f);clear f
   go_wp2_with fail
   refine(A.out _ v.out).mono ?_;rintro e w3⟨t1,t2,rfl,L,M,g⟩;have T1:=hid L;have T2:=hid M;have y:=hid (Fw (v.out.trans g));clear g L M
   go_wp2_with fail
   refine(Q1.out _ T1.out _).mono ?_;rintro e w4⟨rfl,E⟩;have C4:=hid (y.out.trans (E.mono y.out.size));clear E
   go_wp2_with fail
   refine(Q2.out _ T2.out _).mono ?_;rintro e w5⟨rfl,F⟩;have C5:=hid (C4.out.trans (F.mono C4.out.size));clear F
   go_wp2_with fail
   refine(CT.out _).mono ?_;rintro e w6⟨rfl,rfl⟩
   go_wp2_with fail
   refine(Y1.out _).mono ?_;rintro e w7⟨rfl,rfl⟩
   go_wp2_with fail
   refine(Y2.out _).mono ?_;rintro e w8⟨rfl,rfl⟩
   go_wp2_with fail
   go_ret
   exact⟨rfl,C5.out⟩
namespace Rd
variable {ws:List Wd}
def Made (t:Tr)(st a:St):Prop:=Wf t/\mH t+st.nodes<=a.nodes
def rW (l t:Tr)(st a:St):Prop:=Wf t/\mH t+st.nodes<=a.nodes+mH l
theorem aPs {x:Wd}(h:x.text.size<=9):cL (valTo x.text x.text.size):=⟨aHQ _ _,aLx _ _ h⟩
theorem aPA:cL 0:=⟨by decide,by decide⟩
theorem aT9 (a:kU ws)(st:St):cL (term ws st).1/\(term ws st).2.nodes=st.nodes:=by
 unfold term
 cases b:((aD ws st.next).kind==1)with
 |false=>exact⟨aPA,rfl⟩
 |true=>
  have:=aPs (a st.next (beq_iff_eq.1 b))
  cases valTo (aD ws st.next).text (aD ws st.next).text.size==0 with
  |true=>exact⟨aPA,rfl⟩
  |false=>exact⟨this,rfl⟩
theorem aQW (g:kU ws):∀f c ts st a b,terms ws f c ts st=some (some a,b)->(∀x∈ts,cL x)->ts.length=c->c+f=9->(∀x∈a,cL x)/\c+1<=a.length/\a.length<=9/\b.nodes=st.nodes:=by
 intro f
 induction f with
 |zero=>intro c ts st a b h;cases h
 |succ f r=>
  intro c ts st a b h e hc v;obtain⟨s,o⟩:=aT9 g st;rw[terms]at h
  have d:∀x∈ts++[(term ws st).1],cL x:=by
   intro x hx
   rcases o9.1 hx with hx|hx
   .exact e x hx
   .rw[p7.1 hx];exact s
  cases i:(st.okB&&(term ws st).2.okB)with
  |false=>rw[i]at h;cases h
  |true=>
   rw[i]at h;simp only[cond_true]at h
   cases j:((term ws st).1==0)with
   |true=>rw[j]at h;simp at h
   |false=>
    rw[j]at h;simp only[cond_false]at h
    cases k:tk ws (term ws st).2 ⟨#[93]⟩with
    |true=>
     rw[k]at h;simp only[cond_true,C6,C7]at h;obtain⟨rfl,rfl⟩:=h;exact⟨d,by simp;omega,by simp;omega,o⟩
    |false=>
     rw[k]at h;simp only[cond_false]at h
     cases l:(c==8)with
     |true=>rw[l]at h;simp at h
     |false=>
      rw[l]at h;simp only[cond_false]at h
      cases n:tk ws (term ws st).2 ⟨#[44]⟩with
      |false=>rw[n]at h;simp at h
      |true=>
       rw[n]at h;simp only[cond_true]at h;obtain⟨a1,u,p,q⟩:=r _ _ _ _ _ h d (by simp;omega) (by omega);exact⟨a1,by omega,p,q.trans o⟩
variable {st:St}
theorem aIa (a:kU ws){b:St}{t:Tr}(h:continued ws st=some (some t,b)):Made t st b:=by
 unfold continued at h
 cases g:(decide (st.next<900)&&st.okB)with
 |false=>rw[g]at h;cases h
 |true=>
  rw[g]at h;simp only[cond_true]at h
  cases i:tk ws st ⟨#[91]⟩with
  |false=>rw[i]at h;simp at h
  |true=>
   rw[i]at h;simp only[cond_true]at h
   cases d:((aD ws st.aN.next).kind==1)with
   |false=>rw[d]at h;simp at h
   |true=>
    rw[d]at h;simp only[cond_true]at h
    cases j:tk ws st.aN.aN ⟨#[59]⟩with
    |false=>rw[j]at h;simp at h
    |true=>
     rw[j]at h;simp only[cond_true]at h
     cases f:terms ws 8 1 [valTo (aD ws st.aN.next).text (aD ws st.aN.next).text.size] st.aN.aN.aN with
     |none=>rw[f]at h;cases h
     |some y=>
      obtain⟨r,l⟩:=y;rw[f]at h
      cases r with
      |none=>simp[lN]at h
      |some ts=>
       simp only[lN]at h
       cases k:l.okB with
       |false=>rw[k]at h;cases h
       |true=>
        rw[k]at h;simp only[cond_true,C6,C7]at h;obtain⟨rfl,rfl⟩:=h;obtain⟨a1,p,n,q⟩:=aQW a _ _ _ _ _ _ f (by intro x o;rw[p7.1 o];exact aPs (a _ (beq_iff_eq.1 d))) rfl rfl;have e:st.aN.aN.aN.nodes=st.nodes:=rfl;refine⟨D1 (D1 (Or.inl ⟨rfl,a1,by simp only;omega,n,rfl,rfl,rfl⟩)),?_⟩;show 0+0+1+st.nodes<=l.nodes+1;omega
variable {k:Int}{x:Option Tr}
theorem aLw (f:k=5\/k=10\/k=11\/k=12\/k=13){st0 d:St}{t:Tr}(h:dX k x st=some (some t,d))(g:∀y,x=some y->Made y st0 st):Made t st0 d:=by
 cases x with
 |none=>simp[dX]at h
 |some y=>
  obtain⟨a,b⟩:=g y rfl;simp only[dX]at h
  cases e:st.okB with
  |false=>rw[e]at h;cases h
  |true=>
   rw[e]at h;simp only[cond_true,C6,C7]at h;obtain⟨rfl,rfl⟩:=h;refine⟨D1 (D1 (D1 (Or.inl ⟨f,a,rfl,rfl⟩))),?_⟩;show mH y+0+1+st0.nodes<=st.nodes+1;omega
theorem aTw (f:k=6\/k=7\/k=8\/k=9){X:Tr}(g:Wf X){st0 d:St}{t:Tr}(h:operOf k X x st=some (some t,d))(i:∀y,x=some y->Made y st0 st):rW X t st0 d:=by
 cases x with
 |none=>simp[operOf]at h
 |some y=>
  obtain⟨a,b⟩:=i y rfl;simp only[operOf]at h
  cases e:st.okB with
  |false=>rw[e]at h;cases h
  |true=>
   rw[e]at h;simp only[cond_true,C6,C7]at h;obtain⟨rfl,rfl⟩:=h;refine⟨D1 (D1 (D1 (D1 ⟨f,g,a,rfl⟩))),?_⟩;show mH X+mH y+1+st0.nodes<=st.nodes+1+mH X;omega
structure W1 (ws:List Wd) (f:Nat):Prop where
 sum:∀l st t st',parse ws f 0 l st=some (some t,st')->Made t st st'
 sumL:∀l st t st',Wf l->parse ws f 1 (some l) st=some (some t,st')->rW l t st st'
 prod:∀l st t st',parse ws f 2 l st=some (some t,st')->Made t st st'
 prodL:∀l st t st',Wf l->parse ws f 3 (some l) st=some (some t,st')->rW l t st st'
 signed:∀l st t st',parse ws f 4 l st=some (some t,st')->Made t st st'
 atom:∀l st t st',parse ws f 5 l st=some (some t,st')->Made t st st'
 br:∀l st t st',parse ws f 6 l st=some (some t,st')->Made t st st'
theorem Vh {d b:Nat}(v:k=6\/k=7\/k=8\/k=9){X t:Tr}{a:St}(x:Wf X)(o:∀t g a,parse ws w b none g=some (some t,a)->Made t g a)(s:∀X st t a,Wf X->parse ws w d (some X) st=some (some t,a)->rW X t st a)
  (u:∀st t a,parse ws w d none st≠some (some t,a))
  (h:((parse ws w b none st.aN).next λr i=>(operOf k X r i).next λn j=>parse ws w d n j)=some (some t,a)):rW X t st a:=by
 obtain⟨r,i,p,h⟩:=sC h;obtain⟨n,j,q,h⟩:=sC h
 cases n with
 |none=>exact absurd h (u _ _ _)
 |some n=>
  obtain⟨a1,A⟩:=aTw v x (st0:=st.aN) q (λy z=>o y _ _ (by rw[<-z];exact p));obtain⟨b1,b2⟩:=s _ _ _ _ a1 h;have e:st.aN.nodes=st.nodes:=rfl;exact⟨b1,by omega⟩
theorem Bj (f:Nat)(st:St)(t:Tr)(a:St):parse ws f 1 none st≠some (some t,a):=by
 cases f<;>simp[parse]
theorem Bk (f:Nat)(st:St)(t:Tr)(a:St):parse ws f 3 none st≠some (some t,a):=by
 cases f<;>simp[parse]
theorem aSr (s:kU ws)(f:Nat)(g:W1 ws f):W1 ws (f+1):=by
 constructor
 case sum=>
  intro l st t d h;rw[parse]at h;obtain⟨r,n,p,h⟩:=sC h
  cases r with
  |none=>exact absurd h (Bj _ _ _ _)
  |some r=>
   obtain⟨a1,B⟩:=g.prod _ _ _ _ p;obtain⟨b1,b2⟩:=g.sumL _ _ _ _ a1 h;exact⟨b1,by omega⟩
 case sumL=>
  intro l st t d q h;rw[parse]at h
  cases o:st.okB with
  |false=>rw[o]at h;cases h
  |true=>
   rw[o]at h;simp only[cond_true]at h
   cases i:tk ws st ⟨#[43]⟩with
   |true=>
    rw[i]at h;exact Vh (Or.inl rfl) q (λt j d=>g.prod none j t d) g.sumL (Bj f) h
   |false=>
    rw[i]at h;simp only[cond_false]at h
    cases e:tk ws st ⟨#[45]⟩with
    |true=>
     rw[e]at h;exact Vh (D1 (Or.inl rfl)) q (λt j d=>g.prod none j t d) g.sumL (Bj f) h
    |false=>
     rw[e]at h;simp only[cond_false,C6,C7]at h;obtain⟨rfl,rfl⟩:=h;exact⟨q,by omega⟩
 case prod=>
  intro l st t d h;rw[parse]at h;obtain⟨r,n,p,h⟩:=sC h
  cases r with
  |none=>exact absurd h (Bk _ _ _ _)
  |some r=>
   obtain⟨a1,B⟩:=g.signed _ _ _ _ p;obtain⟨b1,b2⟩:=g.prodL _ _ _ _ a1 h;exact⟨b1,by omega⟩
 case prodL=>
  intro l st t d q h;rw[parse]at h
  cases o:st.okB with
  |false=>rw[o]at h;cases h
  |true=>
   rw[o]at h;simp only[cond_true]at h
   cases i:tk ws st ⟨#[42]⟩with
   |true=>
    rw[i]at h;exact Vh (D1 (D1 (Or.inl rfl))) q (λt j d=>g.signed none j t d) g.prodL (Bk f) h
   |false=>
    rw[i]at h;simp only[cond_false]at h
    cases e:tk ws st ⟨#[47]⟩with
    |true=>
     rw[e]at h;exact Vh (D1 (D1 (D1 rfl))) q (λt j d=>g.signed none j t d) g.prodL (Bk f) h
    |false=>
     rw[e]at h;simp only[cond_false,C6,C7]at h;obtain⟨rfl,rfl⟩:=h;exact⟨q,by omega⟩
 case signed=>
  intro l st t d h;rw[parse]at h
  cases o:st.okB with
  |false=>rw[o]at h;cases h
  |true=>
   rw[o]at h;simp only[cond_true]at h
   cases i:tk ws st ⟨#[45]⟩with
   |false=>
    rw[i]at h;exact g.atom _ _ _ _ h
   |true=>
    rw[i]at h;simp only[cond_true]at h;obtain⟨x,n,p,h⟩:=sC h
    cases e:n.fW with
    |false=>rw[e]at h;cases h
    |true=>
     rw[e]at h;simp only[cond_true]at h
     exact aLw (Or.inl rfl) (st0:=st) h (λy w=>by
      obtain⟨a,b⟩:=g.signed _ _ _ _ (by rw[<-w];exact p)
      exact⟨a,b⟩)
 case atom=>
  intro l st t d h;rw[parse]at h
  cases o:st.okB with
  |false=>rw[o]at h;cases h
  |true=>
   rw[o]at h;simp only[cond_true]at h
   cases i:((aD ws st.next).kind==1)with
   |true=>
    rw[i]at h;simp only[cond_true]at h
    cases e:st.aN.okB with
    |false=>rw[e]at h;cases h
    |true=>
     rw[e]at h;simp only[cond_true,C6,C7]at h;obtain⟨rfl,rfl⟩:=h;refine⟨Or.inl ⟨rfl,aPs (s _ (beq_iff_eq.1 i)),rfl,rfl,rfl⟩,?_⟩;show 0+0+1+st.nodes<=st.nodes+1;omega
   |false=>
    rw[i]at h;simp only[cond_false]at h
    cases e:((aD ws st.next).kind==2)with
    |false=>rw[e]at h;exact g.br _ _ _ _ h
    |true=>
     rw[e]at h;simp only[cond_true,nameOf]at h
     have v:named (aD ws st.next).text=0\/named (aD ws st.next).text=2\/named (aD ws st.next).text=3\/named (aD ws st.next).text=4\/named (aD ws st.next).text=10\/named (aD ws st.next).text=11\/named (aD ws st.next).text=12\/named (aD ws st.next).text=13:=by
      unfold named;generalize (aD ws st.next).text=x
      cases isT x [112,105]<;>cases isT x [101]<;>cases isT x [99,102]<;>cases isT x [115,113,114,116]<;>cases isT x [101,120,112]<;>cases isT x [108,110,49,112]<;>cases isT x [97,116,97,110]<;>simp
     generalize named (aD ws st.next).text=k at h v
     cases k0:(k==0)with
     |true=>rw[k0]at h;simp at h
     |false=>
      rw[k0]at h;simp only[cond_false]at h
      cases u:(k==2||k==3)with
      |true=>
       rw[u]at h;simp only[cond_true]at h
       cases e:st.aN.okB with
       |false=>rw[e]at h;cases h
       |true=>
        rw[e]at h;simp only[cond_true,C6,C7]at h;obtain⟨rfl,rfl⟩:=h;refine⟨D1 (Or.inl ⟨by simpa using u,rfl,rfl,rfl,rfl⟩),?_⟩;show 0+0+1+st.nodes<=st.nodes+1;omega
      |false=>
       rw[u]at h;simp only[cond_false]at h
       cases z:(k==4)with
       |true=>
        rw[z]at h;have:=aIa s h;exact this
       |false=>
        rw[z]at h;simp only[cond_false]at h;obtain⟨x,n,p,h⟩:=sC h;simp at k0 u z
        exact aLw (by omega) (st0:=st) h (λy w=>by
         obtain⟨a,b⟩:=g.br _ _ _ _ (by rw[<-w];exact p)
         exact⟨a,b⟩)
 case br=>
  intro l st t d h;rw[parse]at h
  .cases o:st.okB with
   |false=>rw[o]at h;cases h
   |true=>
    rw[o]at h;simp only[cond_true]at h
    cases i:tk ws st ⟨#[40]⟩with
    |false=>rw[i]at h;simp at h
    |true=>
     rw[i]at h;simp only[cond_true]at h;obtain⟨x,n,p,h⟩:=sC h;unfold iC at h
     cases e:n.fW with
     |false=>rw[e]at h;cases h
     |true=>
      rw[e]at h;simp only[cond_true]at h
      cases x with
      |none=>simp at h
      |some x=>
       simp only at h
       cases A:tk ws n.out ⟨#[41]⟩with
       |false=>rw[A]at h;simp at h
       |true=>
        rw[A]at h;simp only[cond_true,C6,C7]at h;obtain⟨rfl,rfl⟩:=h;obtain⟨a,b⟩:=g.sum _ _ _ _ p;exact⟨a,b⟩
  all_goals omega
theorem aUO (a:kU ws):∀f,W1 ws f:=by
 intro f
 induction f with
 |zero=>constructor<;>(intros;rename_i h;cases h)
 |succ f b=>exact aSr a f b
variable {s:ByteArray}
theorem aHC {t:Tr}(d:kU (split s (s.size+1) 0))(h:read w s=some (some t,e,p)):Wf t/\(text t).length<=1000000/\mH t<=40:=by
 unfold read at h
 cases g:decide (120<s.size)with
 |true=>rw[g]at h;simp at h
 |false=>
  rw[g]at h;simp only[cond_false]at h;split at h
  .cases h
  .simp at h
  .rename_i j st i;obtain⟨a,b⟩:=(aUO d w).sum _ _ _ _ i
   cases c1:((aD (split s (s.size+1) 0) st.next).kind==0)with
   |false=>rw[c1]at h;simp at h
   |true=>
    rw[c1]at h;simp only[cond_true]at h
    cases c2:(decide (12<st.deepest)||decide (40<st.nodes))with
    |true=>rw[c2]at h;simp at h
    |false=>
     rw[c2]at h;simp only[cond_false,C6,C7]at h;obtain⟨rfl,_⟩:=h;simp only[D2,decide_eq_false_iff_not]at c2;have:=Um _ a;simp only at b;exact⟨a,by omega,by omega⟩
theorem aTP {t:Tr}(a:kU (split s (s.size+1) 0))(h:read w s=some (some t,e,p)):Wf t/\(text t).length<=1000000:=⟨(aHC a h).1,(aHC a h).2.1⟩
end Rd
namespace Rd
abbrev Tok:=Int×List UInt8
def dg (c:UInt8):Bool:=cK (c.toNat:Int)
def lt (c:UInt8):Bool:=isLet (c.toNat:Int)
def an (c:UInt8):Bool:=lt c||dg c
def lW (r:ON):Nat:=((r.take 8).takeWhile dg).length
def jR (r:ON):Nat:=(r.takeWhile an).length
def toksF:Nat->List UInt8->List Tok
 |0,_=>[]
 |_+1,[]=>[]
 |f+1,c::r=>
  bif c==32 then toksF f r
  else bif dg c then(1,c::r.take (lW r))::toksF f (r.drop (lW r))
  else bif lt c then(2,c::r.take (jR r))::toksF f (r.drop (jR r))
  else(3,[c])::toksF f r
def toks (l:ON):List Tok:=toksF (l.length+1) l
theorem aQY:∀(f g:Nat) (l:ON),l.length<f->l.length<g->toksF f l=toksF g l:=by
 intro f
 induction f with
 |zero=>intro g l h;omega
 |succ f e=>
  intro g l b d
  cases g with
  |zero=>omega
  |succ g=>
   cases l with
   |nil=>rfl
   |cons c r=>
    simp only[j9]at b d
    have a:∀n,toksF f (r.drop n)=toksF g (r.drop n):=λn=>e g _ (by simp;omega) (by simp;omega)
    have k0:=a 0;simp only[p8]at k0;simp only[toksF,k0,a]
variable {S:ON}
theorem aGM (h:S.length<w):toksF w S=toks S:=aQY _ _ _ h (by omega)
theorem Kv:toks []=[]:=rfl
theorem Ol (c:UInt8)(r:ON):toks (c::r)=
  bif c==32 then toks r
  else bif dg c then(1,c::r.take (lW r))::toks (r.drop (lW r))
  else bif lt c then(2,c::r.take (jR r))::toks (r.drop (jR r))
  else(3,[c])::toks r:=by
 have a:∀n,toksF (r.length+1) (r.drop n)=toks (r.drop n):=λn=>aGM (by simp;omega)
 have k0:=a 0;simp only[p8]at k0;simp only[toks,j9];show toksF (r.length+1+1) (c::r)=_;simp only[toksF];rw[a,a];simp only[k0];rfl
theorem wW {c:UInt8}(h:an c=false)(a:(c==32)=false)(r:ON):toks (c::r)=(3,[c])::toks r:=by
 rw[Ol];simp only[an,D2]at h;simp[a,h.1,h.2]
theorem Ks (r:ON):toks (32::r)=toks r:=by rw[Ol];simp
variable {p:UInt8->Bool}{a b:ON}
theorem aEo (d:∀c,b.head?=some c->p c=false):(a++b).takeWhile p=a.takeWhile p:=by
 induction a with
 |nil=>
  cases b with
  |nil=>rfl
  |cons x r=>simp[p9,d x rfl]
 |cons x r e=>
  simp only[q7,p9]
  cases p x with
  |true=>simp[e]
  |false=>rfl
theorem aQp (d:∀c,b.head?=some c->dg c=false):lW (a++b)=lW a:=by
 unfold lW;rw[List.take_append];rw[aEo];intro c hc
 cases b with
 |nil=>simp at hc
 |cons x r=>
  cases h:8-a.length with
  |zero=>rw[h]at hc;simp at hc
  |succ n=>rw[h]at hc;simp at hc;exact d c (by simp[hc])
theorem aTq (a:ON):lW a<=a.length:=by
 unfold lW;exact z8 ((q8 _).length_le) (by simp;omega)
theorem aQm (a:ON):jR a<=a.length:=(q8 _).length_le
theorem aQZ:∀(n:Nat) (a b:ON),a.length<=n->(∀c,b.head?=some c->an c=false)->toks (a++b)=toks a++toks b:=by
 intro n
 induction n with
 |zero=>intro a b h _;cases a with
  |nil=>simp[Kv]
  |cons x r=>simp at h
 |succ n e=>
  intro a b h d
  cases a with
  |nil=>simp[Kv]
  |cons c r=>
   simp only[j9]at h
   have k:∀c,b.head?=some c->dg c=false:=λc hc=>by have:=d c hc;simp[an]at this;exact this.2
   have i:=aQp (a:=r) k
   have j:jR (r++b)=jR r:=by unfold jR;rw[aEo d]
   have f:=aTq r;have g:=aQm r;rw[q7,Ol,Ol c r,i,j];rw[q9 f,q9 g,s4 f,s4 g];rw[e r b (by omega) d,e (r.drop (lW r)) b (by simp;omega) d,e (r.drop (jR r)) b (by simp;omega) d]
   cases c==32<;>cases dg c<;>cases lt c<;>simp
theorem uZ {c:UInt8}(h:an c=false)(b:ON):toks (a++c::b)=toks a++toks (c::b):=
 aQZ _ a (c::b) (A5 _) (λd e=>by simp at e;subst e;exact h)
def dG (w:Wd):Tok:=(w.kind,w.text.data.toList)
theorem Ub (s:ByteArray)(e:Nat)(a:e<s.data.toList.length):aQ s e=((s.data.toList[e]).toNat:Int):=by grind [aQ]
theorem Ko (s:ByteArray):s.data.toList.length=s.size:=Array.length_toList
theorem aJU (s:ByteArray)(a:Nat):∀f e,a<e->e<=a+9->a+9-e<=f->cF s a f e=e+(((s.data.toList.drop e).take (a+9-e)).takeWhile dg).length:=by
 intro f
 induction f with
 |zero=>
  intro e i j k
  have h:a+9-e=0:=by omega
  simp[cF,h]
 |succ f n=>
  intro e i j k;unfold cF
  by_cases b:e<s.size
  .by_cases d:e-a<9
   .have g:e<s.data.toList.length:=by simpa using b
    rw[s8 g,show a+9-e=(a+9-(e+1))+1 by omega,s9,p9];have l:aQ s e=((s.data.toList[e]).toNat:Int):=Ub s _ g;rw[show dg s.data.toList[e]=cK (aQ s e) by rw[l];rfl]
    cases o:cK (aQ s e)with
    |false=>simp
    |true=>
     simp only[b,d,and_self,decide_true,D3,cond_true];rw[n (e+1) (by omega) (by omega) (by omega)];simp;omega
   .have:a+9-e=0:=by omega
    simp[d,this]
  .have:s.data.toList.drop e=[]:=by rw[u7];simpa using b
   simp[b,this]
theorem aIA (s:ByteArray):∀f e,s.size-e<=f->bM s f e=e+((s.data.toList.drop e).takeWhile an).length:=by
 intro f
 induction f with
 |zero=>
  intro e h;have g:=Ko s
  have:s.data.toList.drop e=[]:=by rw[u7];omega
  simp[bM,this]
 |succ f i=>
  intro e h;unfold bM
  by_cases a:e<s.size
  .have b:e<s.data.toList.length:=by simpa using a
   rw[s8 b,p9];have d:aQ s e=((s.data.toList[e]).toNat:Int):=Ub s _ b;rw[show an s.data.toList[e]=(isLet (aQ s e)||cK (aQ s e)) by rw[d];rfl]
   cases j:(isLet (aQ s e)||cK (aQ s e))with
   |false=>simp
   |true=>
    simp only[a,decide_true,D3,cond_true];rw[i (e+1) (by omega)];simp;omega
  .have:s.data.toList.drop e=[]:=by rw[u7];simpa using a
   simp[a,this]
theorem aPZ (s:ByteArray)(a e:Nat):(s.extract a e).data.toList=(s.data.toList.drop a).take (e-a):=by
 rw[ByteArray.data_extract,Array.toList_extract]
theorem aMu (s:ByteArray):∀f a,s.size-a<f->(split s f a).map dG=toksF f (s.data.toList.drop a)++[(0,[])]:=by
 intro f
 induction f with
 |zero=>intro a h;omega
 |succ f A=>
  intro a h;have w:=Ko s
  by_cases x:a<s.size
  .have p:a<s.data.toList.length:=by omega
   have z:=Hu s a;have u:=A (wordEnd s a) (by omega);have o:aQ s a=((s.data.toList[a]).toNat:Int):=Ub s _ p
   have j:cK (aQ s a)=dg s.data.toList[a]:=by rw[o];rfl
   have q:isLet (aQ s a)=lt s.data.toList[a]:=by rw[o];rfl
   have v:=aJU s a 9 (a+1) (by omega) (by omega) (by omega);have y:=aIA s s.size (a+1) (by omega);rw[show a+9-(a+1)=8 by omega]at v
   have l:(aQ s a != 32)=!(s.data.toList[a]==32):=by
    rw[o]
    by_cases g:s.data.toList[a]=32
    .rw[g];rfl
    .have:((s.data.toList[a]).toNat:Int)≠32:=by
      intro B;apply g;apply UInt8.toNat_inj.1;show(s.data.toList[a]).toNat=32;omega
     simp only[bne,beq_eq_false_iff_ne.2 this,beq_eq_false_iff_ne.2 g]
   unfold split toksF;rw[s8 p];simp only[x,decide_true,cond_true,l];generalize hc:s.data.toList[a]=c at*
   have d:wordEnd s a=bif dg c then a+1+lW (s.data.toList.drop (a+1))else bif lt c then a+1+jR (s.data.toList.drop (a+1))else a+1:=by
    unfold wordEnd;rw[j,q,v,y];rfl
   have r:∀n,wordEnd s a=a+1+n->(s.extract a (wordEnd s a)).data.toList=c::(s.data.toList.drop (a+1)).take n:=by
    intro n i;rw[aPZ,i,s8 p,hc,show a+1+n-a=n+1 by omega,s9]
   have k:∀n,wordEnd s a=a+1+n->s.data.toList.drop (wordEnd s a)=(s.data.toList.drop (a+1)).drop n:=by
    intro n i;rw[i,List.drop_drop]
   cases g:c==32 with
   |true=>
    have:c=32:=by simpa using g
    subst this
    have i:wordEnd s a=a+1+0:=by rw[d];rfl
    simp only[Bool.not_true,cond_false,cond_true];rw[u,k 0 i];rfl
   |false=>
    simp only[Bool.not_false,cond_true,cond_false,n5,u]
    cases b:dg c with
    |true=>
     rw[b]at d;simp only[cond_true]at d ⊢;rw[k _ d];simp only[dG,r _ d,kindOf,j,b,cond_true,q7]
    |false=>
     cases e:lt c with
     |true=>
      rw[b,e]at d;simp only[cond_true,cond_false]at d ⊢;rw[k _ d];simp only[dG,r _ d,kindOf,j,b,q,e,cond_true,cond_false,q7]
     |false=>
      rw[b,e]at d;simp only[cond_false]at d ⊢;rw[k 0 d];simp only[dG,r 0 d,kindOf,j,b,q,e,cond_false,q7,List.take_zero,p8]
  .have:s.data.toList.drop a=[]:=by rw[u7];omega
   unfold split;simp[x,this,toksF,dG]
theorem aMH (s:ByteArray):(split s (s.size+1) 0).map dG=toks s.data.toList++[(0,[])]:=by grind [split,dG,toks,aMu,Ko,aGM]
open Go.Deep (BT)
def rG (n:Int)(c:UInt8):Int:=bif dg c then n*10+((c.toNat:Int)-48)else n
def tK (l:ON):Int:=l.foldl rG 0
theorem aMD (t:ByteArray):∀k,k<=t.size->valTo t k=tK (t.data.toList.take k):=by
 intro k
 induction k with
 |zero=>intro _;rfl
 |succ k b=>
  intro h
  have a:k<t.data.toList.length:=by rw[Ko];omega
  rw[n6 a,tK,n7];unfold valTo;rw[b (by omega),Ub t k a];rfl
theorem aMC {t:ByteArray}(h:t.data.toList=S):valTo t t.size=tK S:=by grind [valTo,tK,aMD,Ko]
theorem Uw (u:Nat)(h:u<10):dg (UInt8.ofNat (48+u))=true/\((UInt8.ofNat (48+u)).toNat:Int)-48=u:=by
 have a:(UInt8.ofNat (48+u)).toNat=48+u:=by
  rw[UInt8.toNat_ofNat'];omega
 refine⟨?_,by rw[a];omega⟩;unfold dg cK;rw[a];simp;omega
theorem aRb (u:Nat):tK (C9 u)=u:=by
 induction u using A7 with
 |_ u d=>
  by_cases h:u<10
  .obtain⟨a,b⟩:=Uw u h;rw[D0 h];simp only[tK,u9,w9,rG,a,cond_true,b];omega
  .obtain⟨a,b⟩:=Uw (u%10) (by omega);rw[C9,dif_neg h,tK,n7];have:=d (u/10) (by omega);unfold tK at this;rw[this];simp only[u9,w9,rG,a,cond_true,b];omega
theorem aKe {t:ByteArray}(h:t.data.toList=dec v)(hv:0<=v):valTo t t.size=v:=by
 rw[aMC h,dec,aRb];omega
theorem aE4 (u:Nat):∀c∈C9 u,dg c=true:=by
 induction u using A7 with
 |_ u a=>
  intro c hc
  by_cases h:u<10
  .rw[D0 h]at hc;rw[p7.1 hc];exact(Uw u h).1
  .rw[C9,dif_neg h]at hc
   rcases o9.1 hc with hc|hc
   .exact a (u/10) (by omega) c hc
   .rw[p7.1 hc];exact(Uw (u%10) (by omega)).1
theorem aHM (h:∀c∈S,p c=true):S.takeWhile p=S:=by
 induction S with
 |nil=>rfl
 |cons x r a=>
  rw[p9,h x (by simp)];rw[a (λc hc=>h c (by simp[hc]))]
theorem Hy (hv:cL v):toks (dec v)=[(1,dec v)]:=by
 have f:=xA hv;have i:=aE4 v.toNat
 have g:1<=(dec v).length:=by rw[dec,Lib.decDigits_length];exact Lib.nDigits_pos _
 cases e:dec v with
 |nil=>rw[e]at g;simp at g
 |cons c r=>
  have a:∀x∈c::r,dg x=true:=by rw[<-e];exact i
  have d:r.length<=8:=by rw[e]at f;simpa using f
  have hc:=a c (by simp)
  have j:lW r=r.length:=by
   unfold lW;rw[List.take_of_length_le d,aHM (λx k=>a x (by simp[k]))]
  have b:(c==32)=false:=by
   cases h:c==32 with
   |false=>rfl
   |true=>
    have:c=32:=by simpa using h
    subst this;exact absurd hc (by decide)
  rw[Ol,b,hc,j];simp[Kv]
def dE:List Int->List Tok
 | []=>[(3,[93])]
 | [x]=>[(1,dec x),(3,[93])]
 |x::r=>(1,dec x)::(3,[44])::dE r
def uK:List Int->List Tok
 | []=>[]
 |x::r=>(2,[99,102])::(3,[91])::(1,dec x)::(3,[59])::dE r
def bAZ (a:Int×Int×List Int)(x y:List Tok):List Tok:=
 bif a.1==1 then [(1,dec a.2.1)]
 else bif a.1==4 then uK a.2.2
 else bif a.1==5 then(3,[45])::x
 else bif a.1==14 then(3,[40])::(x++[(3,[41])])
 else bif decide (10<=a.1/\a.1<=13)then(2,sym a.1)::x
 else bif decide (6<=a.1/\a.1<=9)then x++(3,sym a.1)::y
 else [(2,sym a.1)]
def tw:Tr->List Tok
 |.nil=>[]
 |.node _ _ a l r=>bAZ a (tw l) (tw r)
def dep:Tr->Nat
 |.nil=>0
 |.node _ _ a l r=>bif a.1==5||a.1==14 then dep l+1 else max (dep l) (dep r)
def ndc:Tr->Nat
 |.nil=>0
 |.node _ _ a l r=>bif a.1==14 then ndc l else ndc l+ndc r+1
def strip:Tr->Tr
 |.nil=>.nil
 |.node p q a l r=>bif a.1==14 then strip l else .node p q a (strip l) (strip r)
def Dc (ts:LN):Prop:=∃x r,ts=x::r/\cL x/\(∀y∈r,cL y/\y≠0)/\1<=r.length/\r.length<=8
def Good:Tr->Prop
 |.nil=>False
 | .node p q a l r=>p=0/\q=0/\(
  (a.1=1/\cL a.2.1/\a.2.2=[]/\l=.nil/\r=.nil)\/
  ((a.1=2\/a.1=3)/\a.2=(0,[])/\l=.nil/\r=.nil)\/
  (a.1=4/\a.2.1=0/\Dc a.2.2/\l=.nil/\r=.nil)\/
  (a.1=5/\a.2=(0,[])/\Good l/\3<=aM (aR l)/\r=.nil)\/
  ((a.1=10\/a.1=11\/a.1=12\/a.1=13)/\a.2=(0,[])/\Good l/\aR l=14/\r=.nil)\/
  (a.1=14/\a.2=(0,[])/\Good l/\r=.nil)\/
  ((a.1=6\/a.1=7\/a.1=8\/a.1=9)/\a.2=(0,[])/\Good l/\Good r/\aM a.1<=aM (aR l)/\aM a.1+1<=aM (aR r)))
def Seg (a:List Wd):Nat->List Tok->Prop
 |_,[]=>True
 |i,t::r=>dG (aD a i)=t/\Seg a (i+1) r
theorem aJk {d:List Wd}:∀(a b:List Tok) (i:Nat),Seg d i (a++b)↔Seg d i a/\Seg d (i+a.length) b:=by
 intro a
 induction a with
 |nil=>intro b i;simp[Seg]
 |cons t r e=>
  intro b i;simp only[q7,Seg,e,j9,and_assoc];rw[show i+1+r.length=i+(r.length+1) by omega]
variable {k:Int}
theorem rT {a:List Wd}{st:St}(h:dG (aD a st.next)=(k,b))(c:ByteArray):tk a st c=(!(k==0)&&b==c.data.toList):=by
 simp only[dG,C7]at h;unfold tk isT;rw[h.1,h.2]
theorem Dp {a:List Wd}(h:dG (aD a w)=(k,b)):(aD a w).kind=k:=by grind [dG,aD]
theorem Lm {ws:List Wd}(h:dG (aD ws w)=(k,b)):(aD ws w).text.data.toList=b:=by grind [dG,aD]
def NO {d:Type}(a b:Option d):Prop:=a=none\/a=b
theorem NO.refl {b:Type}(a:Option b):NO a a:=D1 rfl
theorem NO.no {a:Type}(b:Option a):NO none b:=Or.inl rfl
theorem NO.trans {d:Type}{a b c:Option d}(h:NO a b)(k:NO b c):NO a c:=by
 rcases h with h|h
 .exact Or.inl h
 .rw[h];exact k
theorem NO.next {a b:pS}(h:NO a b)(F:Option Tr->St->pS):NO (a.next F) (b.next F):=by
 rcases h with h|h
 .rw[h];exact Or.inl rfl
 .rw[h];exact D1 rfl
def bE (c:Tr)(st:St):St:=⟨st.next+(tw c).length,st.around,max st.deepest (st.around+dep c),st.nodes+ndc c⟩
def oJ (a:List Wd)(n:Nat):Prop:=∀st:St,st.next=n->tk a st ⟨#[42]⟩=false/\tk a st ⟨#[47]⟩=false
variable {a:List Wd}
theorem aHp (h:dG (aD a w)=(k,b))(d:b≠[42])(e:b≠[47]):oJ a w:=by grind [dG,aD,oJ,rT]
theorem p1 (d:List Wd)(f:Nat)(l:Tr)(st:St):parse d (f+1) 1 (some l) st=
  bif st.okB then
   bif tk d st ⟨#[43]⟩then(parse d f 2 none st.aN).next λr a=>(operOf 6 l r a).next λe b=>parse d f 1 e b
   else bif tk d st ⟨#[45]⟩then(parse d f 2 none st.aN).next λr a=>(operOf 7 l r a).next λe b=>parse d f 1 e b
   else some (some l,st)
  else none:=rfl
theorem p3 (d:List Wd)(f:Nat)(l:Tr)(st:St):parse d (f+1) 3 (some l) st=
  bif st.okB then
   bif tk d st ⟨#[42]⟩then(parse d f 4 none st.aN).next λr a=>(operOf 8 l r a).next λe b=>parse d f 3 e b
   else bif tk d st ⟨#[47]⟩then(parse d f 4 none st.aN).next λr a=>(operOf 9 l r a).next λe b=>parse d f 3 e b
   else some (some l,st)
  else none:=rfl
theorem p4 (b:List Wd)(f:Nat)(st:St):parse b (f+1) 4 none st=
  bif st.okB then
   bif tk b st ⟨#[45]⟩then(parse b f 4 none st.aN.lI).next λx a=>bif a.fW then dX 5 x a.out else none
   else parse b f 5 none st
  else none:=rfl
theorem p5 (a:List Wd)(f:Nat)(st:St):parse a (f+1) 5 none st=
  bif st.okB then
   bif (aD a st.next).kind==1 then
    (bif st.aN.okB then some (some (dM 1 (valTo (aD a st.next).text (aD a st.next).text.size) []),st.aN.leaf)else none)
   else bif (aD a st.next).kind==2 then nameOf a (named (aD a st.next).text) st (λb=>parse a f 6 none b)
   else parse a f 6 none st
  else none:=rfl
theorem p6 (a:List Wd)(f:Nat)(st:St):parse a (f+1) 6 none st=
  bif st.okB then
   bif tk a st ⟨#[40]⟩then(parse a f 0 none st.aN.lI).next λx b=>iC a x b
   else some (none,st)
  else none:=rfl
structure BB (ws:List Wd) (c:Tr):Prop where
 b6:aR c=14->∀f st,Seg ws st.next (tw c)->NO (parse ws f 6 none st) (some (some (strip c),bE c st))
 b5:aM (aR c)=4->∀f st,Seg ws st.next (tw c)->NO (parse ws f 5 none st) (some (some (strip c),bE c st))
 b4:3<=aM (aR c)->∀f st,Seg ws st.next (tw c)->NO (parse ws f 4 none st) (some (some (strip c),bE c st))
 b2:2<=aM (aR c)->∀f st,Seg ws st.next (tw c)->∃f',NO (parse ws f 2 none st) (parse ws f' 3 (some (strip c)) (bE c st))
 b0:∀f st,Seg ws st.next (tw c)->oJ ws (bE c st).next->∃f',NO (parse ws f 0 none st) (parse ws f' 1 (some (strip c)) (bE c st))
theorem Xj {c:Tr}(h:∀f st,Seg a st.next (tw c)->NO (parse a f 4 none st) (some (some (strip c),bE c st))):
  ∀f st,Seg a st.next (tw c)->∃b,NO (parse a f 2 none st) (parse a b 3 (some (strip c)) (bE c st)):=by
 intro f st d
 cases f with
 |zero=>exact⟨0,NO.no _⟩
 |succ f=>exact⟨f,(h f st d).next _⟩
theorem Hj {t:Tr}{st:St}(h:oJ a st.next)(f:Nat):NO (parse a f 3 (some t) st) (some (some t,st)):=by
 cases f with
 |zero=>exact NO.no _
 |succ f=>
  obtain⟨b,d⟩:=h st rfl;rw[p3]
  cases st.okB with
  |false=>exact NO.no _
  |true=>simp only[b,d,cond_true,cond_false];exact NO.refl _
theorem aSu {c:Tr}(h:∀f st,Seg a st.next (tw c)->∃b,NO (parse a f 2 none st) (parse a b 3 (some (strip c)) (bE c st))):
  ∀f st,Seg a st.next (tw c)->oJ a (bE c st).next->∃b,NO (parse a f 0 none st) (parse a b 1 (some (strip c)) (bE c st)):=by
 intro f st g e
 cases f with
 |zero=>exact⟨0,NO.no _⟩
 |succ f=>
  obtain⟨b,d⟩:=h f st g;exact⟨f,(d.trans (Hj e b)).next _⟩
variable {r:List Tok}
theorem aSv {c:Tr}(g:tw c=(k,b)::r)(i:b≠[45])(h:∀f st,Seg a st.next (tw c)->NO (parse a f 5 none st) (some (some (strip c),bE c st))):
  ∀f st,Seg a st.next (tw c)->NO (parse a f 4 none st) (some (some (strip c),bE c st)):=by
 intro f st d
 cases f with
 |zero=>exact NO.no _
 |succ f=>
  have e:=h f st d;rw[g]at d
  have j:tk a st ⟨#[45]⟩=false:=by rw[rT d.1];simp[i]
  rw[p4]
  cases st.okB with
  |false=>exact NO.no _
  |true=>simp only[j,cond_true,cond_false];exact e
theorem Pc {c:Tr}(g:aR c=14->∀f st,Seg a st.next (tw c)->NO (parse a f 6 none st) (some (some (strip c),bE c st)))(d:tw c=(k,b)::r)(e:b≠[45])(h:∀f st,Seg a st.next (tw c)->NO (parse a f 5 none st) (some (some (strip c),bE c st))):BB a c:=
 ⟨g,λ_=>h,λ_=>aSv d e h,λ_=>Xj (aSv d e h),aSu (Xj (aSv d e h))⟩
theorem aKK (a b:Nat):(bif decide (a<b)then b else a)=max a b:=by
 by_cases h:a<b
 .simp[h];omega
 .simp[h];omega
theorem aKk (st:St):st.aN.leaf=⟨st.next+1,st.around,max st.deepest st.around,st.nodes+1⟩:=by
 unfold St.leaf St.aN;simp only[aKK]
theorem aTa (st:St):st.leaf=⟨st.next,st.around,max st.deepest st.around,st.nodes+1⟩:=by
 unfold St.leaf;simp only[aKK]
theorem aUv (d:List Wd)(hv:cL v):BB d (dM 1 v []):=by
 refine Pc (k:=1) (b:=dec v) (r:=[]) (λe=>absurd (show(1:Int)=14 from e) (by decide)) rfl ?_ ?_
 .intro e;have:=aE4 v.toNat 45 (by rw[show C9 v.toNat=dec v from rfl,e];simp);exact absurd this (by decide)
 .intro f st g;have a:dG (aD d st.next)=(1,dec v):=g.1
  cases f with
  |zero=>exact NO.no _
  |succ f=>
   rw[p5,Dp a,aKe (Lm a) hv.1]
   cases st.okB with
   |false=>exact NO.no _
   |true=>
    cases st.aN.okB with
    |false=>exact NO.no _
    |true=>
     right;simp only[cond_true,beq_self_eq_true,aKk];rfl
theorem aPC (d:List Wd)(a:k=2\/k=3):BB d (dM k 0 []):=by
 refine Pc (k:=2) (b:=sym k) (r:=[]) (λe=>absurd (show k=14 from e) (by omega)) (by rcases a with rfl|rfl<;>rfl) (by rcases a with rfl|rfl<;>decide) ?_;intro f st i
 have g:dG (aD d st.next)=(2,sym k):=by rcases a with rfl|rfl<;>exact i.1
 have h:named (aD d st.next).text=k:=by
  unfold named isT;rw[Lm g]
  rcases a with rfl|rfl<;>rfl
 cases f with
 |zero=>exact NO.no _
 |succ f=>
  rw[p5,Dp g,h];unfold nameOf
  cases st.okB with
  |false=>exact NO.no _
  |true=>
   cases st.aN.okB with
   |false=>rcases a with rfl|rfl<;>exact NO.no _
   |true=>
    right;rw[aKk]
    rcases a with rfl|rfl<;>rfl
end Rd
end Go.Proofs.YtpdflaaamaokbaaGreatDoor
