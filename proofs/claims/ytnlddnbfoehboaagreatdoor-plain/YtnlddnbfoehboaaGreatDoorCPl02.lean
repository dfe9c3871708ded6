import Derived.Test.YtnlddnbfoehboaaGreatDoorCPl01
import Derived.Test.YtnlddnbfoehboaaGreatDoorCPl00
import Derived.Deep.RegionHeld3
import Derived.Tactics2
import Derived.Below
import Derived.Orders
import Derived.LoopN
import Derived.Laws.Sem
set_option linter.all false
set_option maxRecDepth 100000
set_option maxHeartbeats 2000000
namespace Go.Proofs.YtnlddnbfoehboaaGreatDoor
open Option renaming some->Y,none->X
open Bool renaming true->I,false->J
open List renaming eq_nil_of_length_eq_zero->j8,getElem?_eq_getElem->j9,take_of_length_le->o9,replicate->p5,range->p6,append_assoc->p8,drop_append->q8,drop_eq_nil_of_le->q9,nil_append->r5,drop_append_of_le_length->r7,take_append_of_le_length->r8
open Nat renaming le_refl->r9,le_trans->s7,lt_or_ge->s8,zero_le->u5,add_assoc->u6,ble->u7
open Go.World renaming size_alloc->u9,shape?->x8,setCell->y8
open Go.Value renaming int->z8,oneCell'->A0
open Int renaming lt_trichotomy->A4,lt_or_le->A5,mul_nonneg->A6
open Go.Sem renaming run_bind->A7,run_pure->A8
open Go.Op renaming equal->A9,maxDepth->B7,equalIn->B8,stringOp->B9
open Or renaming inr->C0
open _root_.Array renaming length_toList->C3,range->C4
open Nm (iQ jQ gW bZ Top)
open Go.Proofs.Tryz
open Go.RowKit
variable {v:World}
theorem NumAt.open {n:Int}{z:Value}(h:NumAt v n z):∃b c a,z=.agg #[.bool (decide (n<0)),.slice c b.length a]/\Ints v b (.slice c b.length a)/\Nm.Good 10000 b/\Nm.val 10000 b=n.natAbs:=by
 obtain⟨b,i,e,d,f,g⟩:=h;obtain⟨c,a,rfl,_⟩:=d.shape;exact⟨b,c,a,e,d,f,g⟩
variable {x:LB}
theorem Fw {z:Int}{w:Nat}(a:Nm.Good 10000 x)(hv:Nm.val 10000 x=z.natAbs)(b:Bits w z):x.length<=w:=by
 refine Nm.aK6 E3 a ?_;rw[hv];have:((z.natAbs:Nat):Int)<((2^w:Nat):Int):=Int.ofNat_lt.2 b
 simpa using this
variable {z:Value}{k:Nat}
theorem IntsB.other {b:Nat}(h:IntsB b v x z){o:Nat}{q:Array Value}{d:TypeId}{m:Nat×Nat}(i:v.heap[k]?=Y (.cells q d m))(n:d≠3)(u:Value):IntsB b (v.setCell ⟨k,o,X⟩ u) x z:=by
 obtain⟨l,f⟩:=h;refine⟨l,?_⟩
 rcases f with f|⟨g,a,c,hv,p,j,r⟩
 .exact Or.inl f
 .refine C0 ⟨g,a,c,hv,p,?_,r⟩;rw[Below.heap_setCell _ _ _ _ ?_]
  .exact j
  .intro e;simp only at e;rw[e]at j;rw[j]at i;simp at i;exact n i.2.1.symm
theorem NumAt.other {v:World}{n:Int}{z:Value}(h:NumAt v n z){w o:Nat}{j:Array Value}{d:TypeId}{m:Nat×Nat}(g:v.heap[w]?=Y (.cells j d m))(i:d≠3)(u:Value):NumAt (v.setCell ⟨w,o,X⟩ u) n z:=by
 obtain⟨a,b,c,e,f⟩:=h;exact⟨a,b,c,e.other g i u,f⟩
structure aYV (w w2:World) (B:Nat) (z:Int) (p q:Value):Prop where
 c0:((w2.setCell ⟨B,0,X⟩ p).setCell ⟨B,1,X⟩ q).cell? ⟨B,0,X⟩=Y p
 c1:((w2.setCell ⟨B,0,X⟩ p).setCell ⟨B,1,X⟩ q).cell? ⟨B,1,X⟩=Y q
 num:NumAt ((w2.setCell ⟨B,0,X⟩ p).setCell ⟨B,1,X⟩ q) z (.agg #[p,q])
 below:Below w.heap.size w ((w2.setCell ⟨B,0,X⟩ p).setCell ⟨B,1,X⟩ q)
variable {s:World}
theorem rI {w:World}{B:Nat}{x c p q:Value}{n:Int}(h:s.heap[B]?=Y (.cells #[x,c] 46 (0,0)))(f:NumAt s n (.agg #[p,q]))(e:Below w.heap.size w s)(d:w.heap.size<=B):aYV w s B n p q:=by
 have a:=nQ h (o:=0) p;have b:=nQ a (o:=1) q;exact⟨aB b rfl,aB b rfl,(f.other h E3 p).other a E3 q,(e.setCell d _).setCell d _⟩
variable {o:Obj}
theorem gN (b:k<v.heap.size)(h:v.heap[k]?=Y o)(a:Below v.heap.size v s):s.heap[k]?=Y o:=by rw[a.block k b];exact h
theorem iJ (w:World)(o:Obj):(w.alloc o).heap[w.heap.size]?=Y o:=by show(w.heap.push o)[w.heap.size]?=Y o;simp
theorem iW (a:Obj)(h:v.heap[k]?=Y o):(v.alloc a).heap[k]?=Y o:=by rw[Below.heap_alloc _ _ _ (cZ h)];exact h
theorem nR {w:Nat}{a:World}(h:Below w a s)(b:w<=s.heap.size)(o:Obj):Below w a (s.alloc o):=h.alloc b o
theorem aFX (w:World)(z:Int)(v:Value)(n:Nat)(h:NumAt w z v)(s:Bits n z)(D:n<=10000000000):Calls prog 82 #[v] w (dB w (-z)):=by
 obtain⟨o,x,g,rfl,p,k,hv⟩:=h.open;have C:=Fw k hv s;have b:Below w.heap.size w ((w.alloc (.cells #[.bool (decide (z<0)),.slice x o.length g] 46)).alloc (.cells #[.bool J,.slice X 0 0] 46)):=nR (nR (Below.refl _ _) (r9 _) _) E4 _;have m:=hid (Xz _ (!(decide (z<0))) (-z) o _ (p.below b) O k.cP (by simp[hv]) (by simp;try omega) (by simp;try omega));clear p k hv s h;generalize decide (z<0)=L at*
 go_in
 go_wp2_with fail
 refine(m.out).mono ?_;rintro e S⟨r,rfl,j,c⟩;have q:=b.trans (c.mono b.size);have a:=gN E4 (iJ _ _) c;have l:=c.size;simp at l;obtain⟨i,f,d,rfl,_⟩:=j.open;have F:=rI a j q E4;simp only[u9]at F a;obtain⟨M,N⟩:=qF a;obtain⟨P,R⟩:=fD a rfl rfl;have A:=F.c0;have B:=F.c1;have u:=hid F.num;have t:=hid F.below;clear F j c b q a m;generalize decide (-z<0)=y at*
 go_wp2_with fail
 refine bodyPost_ret (v:=.agg #[.bool y,.slice f i.length d]) (by simp[results,results82,go_sem,A,B]) rfl ⟨_,rfl,u.out,t.out⟩
theorem aJw (w:World)(z:Int)(v:Value)(h:NumAt w z v):Calls prog 142 #[v] w (dB w (z.natAbs:Int)):=by
 obtain⟨b,c,a,rfl,d,e,hv⟩:=h.open;have g:=hid d;have f:=hid e;have i:=hid hv;clear d e hv h;generalize decide (z<0)=j at*
 go_in
 go_wp2_with fail
 refine bodyPost_ret (v:=.agg #[.bool J,.slice c b.length a]) (by simp[results,results142,go_sem]) rfl ⟨_,rfl,⟨b,.slice c b.length a,?_,(g.out.alloc _).alloc _,f.out,by rw[i.out];simp⟩,nR (nR (Below.refl _ _) (r9 _) _) E4 _⟩;rw[decide_eq_false O]
theorem Kg (w:World)(z:Int)(v:Value)(h:NumAt w z v):Calls prog 79 #[v] w λe i=>e=.returned (.int .i64 (Nm.cmp z 0))/\Below w.heap.size w i:=by
 obtain⟨b,j,d,rfl,f,c,hv⟩:=h.open;have a:=Nm.yQ E3 c;rw[hv]at a;clear f c hv h
 rcases A4 z 0 with h0|h0|h0
 .have g:((b.length:Int)==0)=J:=by
   simp only[beq_eq_false_iff_ne,ne_eq];intro h;have:=a.2 (j8 O);omega
  rw[iQ h0,decide_eq_true h0];clear a
  go_in
  go_wp2_with fail
  go_ret
  exact⟨rfl,nR (Below.refl _ _) (r9 _) _⟩
 .subst h0;have:=a.1 rfl;subst this;rw[jQ rfl];clear a
  go_in
  go_wp2_with fail
  go_ret
  exact⟨rfl,nR (Below.refl _ _) (r9 _) _⟩
 .have g:((b.length:Int)==0)=J:=by
   simp only[beq_eq_false_iff_ne,ne_eq];intro h;have:=a.2 (j8 O);omega
  rw[gW h0,decide_eq_false O];clear a
  go_in
  go_wp2_with fail
  go_ret
  exact⟨rfl,nR (Below.refl _ _) (r9 _) _⟩
def kN (w:World)(a b c d:Value):World:=((w.alloc (.cells #[a,b] 46)).alloc (.cells #[c,d] 46)).alloc (.cells #[.bool J,.slice X 0 0] 46)
theorem Ic (w:World)(a b c d:Value):Below w.heap.size w (kN w a b c d).drew:=(nR (nR (nR (Below.refl _ _) (r9 _) _) E4 _) (by simp;omega) _).trans ((bB _).mono (by simp[kN];omega))
theorem Bd (w:World)(a b c d:Value):(kN w a b c d).drew.heap.size=w.heap.size+3:=by simp[kN]
theorem Qp (w:World)(a b c d:Value):(kN w a b c d).drew.heap[w.heap.size]?=Y (.cells #[a,b] 46 (0,0)):=iW _ (iW _ (iJ _ _))
theorem Wk (w:World)(a b c d:Value):(kN w a b c d).drew.heap[w.heap.size+1]?=Y (.cells #[c,d] 46 (0,0)):=by
 have:=iW (.cells #[.bool J,.slice X 0 0] 46) (iJ (w.alloc (.cells #[a,b] 46)) (.cells #[c,d] 46));rw[u9]at this;exact this
theorem aGX (w:World)(a b c d:Value):(kN w a b c d).drew.heap[w.heap.size+2]?=Y (.cells #[.bool J,.slice X 0 0] 46 (0,0)):=by
 have:=iJ ((w.alloc (.cells #[a,b] 46)).alloc (.cells #[c,d] 46)) (.cells #[.bool J,.slice X 0 0] 46);rw[u9,u9]at this;exact this
theorem aQY (w:World)(i N:Bool)(l n:Option Addr)(la u f d:Nat)(z:Int)(P:List Int->Prop)(hs:i=N)
  (C:∀W,Below w.heap.size w W->Calls prog 110 #[.slice l la f,.slice n u d] W (jP W P))
  (D:∀W j v B,P j->IntsB B W j v->Calls prog 109 #[.bool i,v] W (gE B W z)):
  Calls prog 70 #[.agg #[.bool i,.slice l la f],.agg #[.bool N,.slice n u d]] w (lC w z):=by
 subst hs;have U:=hid C;have HT:=hid D;clear C D
 have ag:¬(w.heap.size=w.heap.size+1+1):=O
 have ah:¬(w.heap.size+1+1=w.heap.size):=O
 go_in
 go_wp2_with fail
 go_region_held3 (λx=>x.cell? ⟨w.heap.size,0,X⟩=Y (.bool i)/\x.cell? ⟨w.heap.size,1,X⟩=Y (.slice l la f)/\x.cell? ⟨w.heap.size+1,1,X⟩=Y (.slice n u d)) (go_keep) (first
  | (go_at_call 110
     refine(U.out _ (Ic w _ _ _ _)).mono ?_;rintro e w1⟨v1,j,rfl,L,h,a⟩;have t:=a.size;rw[Bd]at t;have y:=gN (by rw[Bd];omega) (aGX _ _ _ _ _) a;have x0:=aB (o:=0) (gN (by rw[Bd];omega) (Qp _ _ _ _ _) a) rfl;have x1:=aB (o:=1) (gN (by rw[Bd];omega) (Qp _ _ _ _ _) a) rfl;have x2:=aB (o:=1) (gN (by rw[Bd];omega) (Wk _ _ _ _ _) a) rfl
     have ab:w.heap.size+1<w1.heap.size:=O
     have k:=hid ((Ic w _ _ _ _).trans (a.mono (Ic w _ _ _ _).size))
     clear a)
  | (go_at_call 109
     refine(HT.out _ j _ w.heap.size L (h.cJ (by first|exact(Ic w _ _ _ _).size|exact s7 B0.out.size (bB _).size))).mono ?_;rintro e w2⟨r,rfl,s,b,A⟩;have T:=hid A;clear A;have M:=k.out.trans (b.mono k.out.size);have c:=gN O y b;have ae:=b.size;have y0:=(b.cell (p:=⟨w.heap.size,0,X⟩) (by simp only;omega)).trans x0;have y1:=(b.cell (p:=⟨w.heap.size,1,X⟩) (by simp only;omega)).trans x1;have y2:=(b.cell (p:=⟨w.heap.size+1,1,X⟩) (by simp only;omega)).trans x2;obtain⟨q,m,g,rfl,_⟩:=s.open;have F:=rI c s M O;obtain⟨r0,r1⟩:=qF c;obtain⟨s0,s1⟩:=fD c rfl rfl;have q0:=F.c0;have q1:=F.c1;have S:=hid F.num;have R:=hid F.below;clear F s b M c y k h L
     generalize decide (z<0)=nc at *))
 all_goals
  go_wp2_with fail
  refine bodyPost_ret (v:=.agg #[.bool nc,.slice m q.length g]) (by simp[results,results70,go_sem,q0,q1]) rfl ⟨_,rfl,S.out,R.out,T.out⟩
theorem Nt (w:World)(a b c d:Value):Below w.heap.size w (kN w a b c d):=nR (nR (nR (Below.refl _ _) (r9 _) _) E4 _) (by simp;omega) _
theorem En (w:World)(a b c d:Value):(kN w a b c d).heap.size=w.heap.size+3:=by simp[kN]
theorem Qu (w:World)(a b c d:Value):(kN w a b c d).heap[w.heap.size]?=Y (.cells #[a,b] 46 (0,0)):=Qp w a b c d
theorem Qv (w:World)(a b c d:Value):(kN w a b c d).heap[w.heap.size+1]?=Y (.cells #[c,d] 46 (0,0)):=Wk w a b c d
theorem Vx (w:World)(a b c d:Value):(kN w a b c d).heap[w.heap.size+2]?=Y (.cells #[.bool J,.slice X 0 0] 46 (0,0)):=aGX w a b c d
theorem aNF (w:World)(u x:Bool)(n o:Option Addr)(la t i g:Nat)(z c:Int)(P:List Int->Prop)(hs:(u==x)=J)
  (U:∀W,Below w.heap.size w W->Calls prog 111 #[.slice n la i,.slice o t g] W λe l=>e=.returned (.int .i64 c)/\Below W.heap.size W l)
  (h:c<0/\(∀ W,Below w.heap.size w W->Calls prog 112 #[.slice o t g,.slice n la i] W (jP W P))/\(∀ W k v B,P k->IntsB B W k v->Calls prog 109 #[.bool x,v] W (gE B W z))\/
   ¬c<0/\(∀W,Below w.heap.size w W->Calls prog 112 #[.slice n la i,.slice o t g] W (jP W P))/\∀W k v B,P k->IntsB B W k v->Calls prog 109 #[.bool u,v] W (gE B W z)):
  Calls prog 70 #[.agg #[.bool u,.slice n la i],.agg #[.bool x,.slice o t g]] w (lC w z):=by
 have HS:=hid U;clear U
 have am:¬(w.heap.size=w.heap.size+1+1):=O
 have an:¬(w.heap.size+1+1=w.heap.size):=O
 rcases h with⟨hc,L,M⟩|⟨hc,L,M⟩
 all_goals
  have HP:=hid L;have HT:=hid M;clear L M
  go_in
  go_wp2_with fail
  refine(HS.out _ (Nt w _ _ _ _)).mono ?_;rintro e w0⟨rfl,f⟩;have N:=f.size;rw[En]at N;have R:=gN (by rw[En];omega) (Vx _ _ _ _ _) f;have b1:=gN (by rw[En];omega) (Qv _ _ _ _ _) f;have b0:=gN (by rw[En];omega) (Qu _ _ _ _ _) f;obtain⟨z0,z2⟩:=fD b1 rfl rfl;obtain⟨z3,z1⟩:=fD b0 rfl rfl;have m:=hid ((Nt w _ _ _ _).trans (f.mono (Nt w _ _ _ _).size));clear f b0 b1
  go_wp2_with fail
  go_region_held3 (λl=>l.cell? ⟨w.heap.size,0,X⟩=Y (.bool u)/\l.cell? ⟨w.heap.size+1,0,X⟩=Y (.bool x)/\l.cell? ⟨w.heap.size,1,X⟩=Y (.slice n la i)/\l.cell? ⟨w.heap.size+1,1,X⟩=Y (.slice o t g)) (go_keep) (first
   | (go_at_call 112
      refine(HP.out _ (m.out.trans ((bB _).mono m.out.size))).mono ?_;rintro e w1⟨v1,k,rfl,hp,s,j⟩;have a:=aX j;clear j;have aj:=a.size;have S:=gN O R a;have x0:=(a.cell (p:=⟨w.heap.size+1,0,X⟩) (by simp only;omega)).trans z0;have x1:=(a.cell (p:=⟨w.heap.size,1,X⟩) (by simp only;omega)).trans z1;have x2:=(a.cell (p:=⟨w.heap.size+1,1,X⟩) (by simp only;omega)).trans z2;have x3:=(a.cell (p:=⟨w.heap.size,0,X⟩) (by simp only;omega)).trans z3;have y:=hid (m.out.trans (a.mono m.out.size))
      clear a)
   | (go_at_call 109
      refine(HT.out _ k _ w.heap.size hp (s.cJ (by first|exact(Ic w _ _ _ _).size|exact s7 m.out.size (bB _).size))).mono ?_;rintro e w2⟨r,rfl,D,b,T⟩;have FR:=hid T;clear T;have hr:=y.out.trans (b.mono y.out.size);have d:=gN O S b;have ak:=b.size;have y0:=(b.cell (p:=⟨w.heap.size+1,0,X⟩) (by simp only;omega)).trans x0;have y1:=(b.cell (p:=⟨w.heap.size,1,X⟩) (by simp only;omega)).trans x1;have y2:=(b.cell (p:=⟨w.heap.size+1,1,X⟩) (by simp only;omega)).trans x2;have y3:=(b.cell (p:=⟨w.heap.size,0,X⟩) (by simp only;omega)).trans x3;obtain⟨C,A,q,rfl,_⟩:=D.open;have F:=rI d D hr O;obtain⟨r0,r1⟩:=qF d;obtain⟨s0,s1⟩:=fD d rfl rfl;have q0:=F.c0;have q1:=F.c1;have FN:=hid F.num;have FB:=hid F.below;clear F D b hr d R S y s hp
      generalize decide (z<0)=nc at *))
  all_goals
   go_wp2_with fail
   refine bodyPost_ret (v:=.agg #[.bool nc,.slice A C.length q]) (by simp[results,results70,go_sem,q0,q1]) rfl ⟨_,rfl,FN.out,FB.out,FR.out⟩
theorem aT1 {x b:Int}(h:Nm.cmp x b<0):x<b:=by
 rcases A4 x b with h1|h1|h1
 .exact h1
 .rw[jQ h1]at h;omega
 .rw[gW h1]at h;omega
theorem aMn {x b:Int}(h:¬Nm.cmp x b<0):b<=x:=by
 rcases A4 x b with h1|h1|h1
 .rw[iQ h1]at h;omega
 .omega
 .omega
theorem aO3 {a b:LB}(c:Nm.Good 10000 a)(d:Nm.Good 10000 b)(h:Nm.val 10000 a<=Nm.val 10000 b):a.length<=b.length:=by
 rcases s8 b.length a.length with h1|h1
 .have:=Nm.Kb E3 d.cP c h1;omega
 .exact h1
theorem aNG (w:World)(x y:Int)(u v:Value)(n:Nat)(S:NumAt w x u)(T:NumAt w y v)(R:Bits n x)(N:Bits n y)(hn:n<=1000000000):Calls prog 70 #[u,v] w (lC w (x+y)):=by
 obtain⟨a,M,C,rfl,s,i,hv⟩:=S.open;obtain⟨b,P,A,rfl,t,j,z⟩:=T.open;have hl:=Fw i hv R;have hk:=Fw j z N
 by_cases f:decide (x<0)=decide (y<0)
 .refine aQY w _ _ _ _ _ _ _ _ (x+y) _ f (λW d=>aRU W a b _ _ (s.below d) (t.below d) O O i.cP j.cP) ?_;rintro W q r B⟨l,g,F⟩ o;refine Xb W _ (x+y) q r B o O l ?_ ?_ ?_
  .rw[g,hv,z]
   have e:(x<0)=(y<0):=by simpa using f
   by_cases c:x<0
   .have:y<0:=by rw[<-e];exact c
    omega
   .have:¬y<0:=by rw[<-e];exact c
    omega
  .intro h
   have m:x<0:=by simpa using h
   have:y<0:=by rw[h]at f;simpa using f.symm
   omega
  .intro h
   have m:¬x<0:=by simpa using h
   have:¬y<0:=by rw[h]at f;simpa using f.symm
   omega
 .have p:(decide (x<0)==decide (y<0))=J:=by simpa using f
  have D:∀W,Below w.heap.size w W->Calls prog 111 #[.slice M a.length C,.slice P b.length A] W λe U=>e=.returned (.int .i64 (Nm.cmp (Nm.val 10000 a) (Nm.val 10000 b)))/\Below W.heap.size W U:=λW d=>aLP W a b _ _ (s.below d) (t.below d) O i j
  have L:(x<0/\0<=y)\/(0<=x/\y<0):=by
   by_cases c:x<0
   .refine Or.inl ⟨c,?_⟩
    rcases A5 y 0 with h|h
    .exact absurd (by rw[decide_eq_true c,decide_eq_true h]) f
    .exact h
   .refine C0 ⟨O,?_⟩
    rcases A5 y 0 with h|h
    .exact h
    .exact absurd (by rw[decide_eq_false c,decide_eq_false O]) f
  by_cases hc:Nm.cmp (Nm.val 10000 a) (Nm.val 10000 b)<0
  .have k:=aT1 hc;refine aNF w _ _ _ _ _ _ _ _ (x+y) _ _ p D (.inl ⟨hc,λW d=>aHi W b a _ _ (t.below d) (s.below d) O (aO3 i j O) j.cP i.cP O,?_⟩);rintro W q r B⟨l,g,F⟩ o;rw[hv,z]at k g;refine Xb W _ (x+y) q r B o O l (by rw[g];omega) ?_ ?_
   .intro h
    have m:y<0:=by simpa using h
    omega
   .intro h
    have m:¬y<0:=by simpa using h
    omega
  .have k:=aMn hc;refine aNF w _ _ _ _ _ _ _ _ (x+y) _ _ p D (.inr ⟨hc,λW d=>aHi W a b _ _ (s.below d) (t.below d) O (aO3 j i O) i.cP j.cP O,?_⟩);rintro W q r B⟨l,g,F⟩ o;rw[hv,z]at k g;refine Xb W _ (x+y) q r B o O l (by rw[g];omega) ?_ ?_
   .intro h
    have m:x<0:=by simpa using h
    omega
   .intro h
    have m:¬x<0:=by simpa using h
    omega
theorem aNE (w:World)(x y:Int)(u v:Value)(n:Nat)(d:NumAt w x u)(e:NumAt w y v)(b:Bits n x)(a:Bits n y)(c:n<=1000000000):Calls prog 70 #[u,v] w (dB w (x+y)):=(aNG w x y u v n d e b a c).mono λ_ _ h=>h.any
theorem aSk (w:World)(u x:Bool)(k m:Option Addr)(la t f d:Nat)(y z:Int)
  (B:∀W,Below w.heap.size w W->Calls prog 82 #[.agg #[.bool x,.slice m t d]] W (dB W y))
  (C:∀W v,Below w.heap.size w W->NumAt W y v->Calls prog 70 #[.agg #[.bool u,.slice k la f],v] W (dB W z)):
  Calls prog 73 #[.agg #[.bool u,.slice k la f],.agg #[.bool x,.slice m t d]] w (dB w z):=by
 have N:=hid B;have P:=hid C;clear B C
 have U:¬(w.heap.size=w.heap.size+1+1):=O
 have aa:¬(w.heap.size+1+1=w.heap.size):=O
 go_in
 go_wp2_with fail
 go_region_held3 (λj=>j.cell? ⟨w.heap.size,0,X⟩=Y (.bool u)/\j.cell? ⟨w.heap.size,1,X⟩=Y (.slice k la f)/\j.cell? ⟨w.heap.size+1,0,X⟩=Y (.bool x)/\j.cell? ⟨w.heap.size+1,1,X⟩=Y (.slice m t d)) (go_keep) (first
  | (go_at_call 82
     refine(N.out _ (Ic w _ _ _ _)).mono ?_;rintro e w1⟨v1,rfl,h,a⟩;have s:=a.size;rw[Bd]at s;have A:=gN (by rw[Bd];omega) (aGX _ _ _ _ _) a;have x0:=aB (o:=0) (gN (by rw[Bd];omega) (Qp _ _ _ _ _) a) rfl;have x1:=aB (o:=1) (gN (by rw[Bd];omega) (Qp _ _ _ _ _) a) rfl;have x2:=aB (o:=0) (gN (by rw[Bd];omega) (Wk _ _ _ _ _) a) rfl;have x3:=aB (o:=1) (gN (by rw[Bd];omega) (Wk _ _ _ _ _) a) rfl
     have R:w.heap.size+1<w1.heap.size:=O
     have i:=hid ((Ic w _ _ _ _).trans (a.mono (Ic w _ _ _ _).size))
     clear a)
  | (go_at_call 70
     refine(P.out _ _ i.out h).mono ?_;rintro e w2⟨r,rfl,q,b⟩;have D:=i.out.trans (b.mono i.out.size);have c:=gN O A b;have S:=b.size;have y0:=(b.cell (p:=⟨w.heap.size,0,X⟩) (by simp only;omega)).trans x0;have y1:=(b.cell (p:=⟨w.heap.size,1,X⟩) (by simp only;omega)).trans x1;have y2:=(b.cell (p:=⟨w.heap.size+1,0,X⟩) (by simp only;omega)).trans x2;have y3:=(b.cell (p:=⟨w.heap.size+1,1,X⟩) (by simp only;omega)).trans x3;obtain⟨n,l,g,rfl,_⟩:=q.open;have F:=rI c q D O;obtain⟨r0,r1⟩:=qF c;obtain⟨s0,s1⟩:=fD c rfl rfl;have q0:=F.c0;have q1:=F.c1;have M:=hid F.num;have L:=hid F.below;clear F q b D c A i h
     generalize decide (z<0)=T at *))
 all_goals
  go_wp2_with fail
  refine bodyPost_ret (v:=.agg #[.bool T,.slice l n.length g]) (by simp[results,results73,go_sem,q0,q1]) rfl ⟨_,rfl,M.out,L.out⟩
theorem Ys (w:World)(x y:Int)(u v:Value)(n:Nat)(e:NumAt w x u)(f:NumAt w y v)(h:Bits n x)(d:Bits n y)(j:n<=1000000000):Calls prog 73 #[u,v] w (dB w (x-y)):=by
 obtain⟨a,l,i,rfl,_⟩:=e.open;obtain⟨b,m,g,rfl,_⟩:=f.open;exact aSk w _ _ _ _ _ _ _ _ (-y) (x-y) (λW c=>aFX W y _ n (f.below c) d O) (λW r c k=>aNE W x (-y) _ _ n (e.below c) k h (yU d) j)
theorem aTZ (w:World)(x y:Int)(u v:Value)(n:Nat)(i:NumAt w x u)(j:NumAt w y v)(q:Bits n x)(p:Bits n y)(A:n<=1000000000):Calls prog 80 #[u,v] w λe B=>e=.returned (.int .i64 (Nm.cmp x y))/\Below w.heap.size w B:=by
 obtain⟨a,C,t,rfl,_⟩:=i.open;obtain⟨b,D,s,rfl,_⟩:=j.open
 have f:∀o c,Below w.heap.size w ((w.alloc o).alloc c):=λo c=>nR (nR (Below.refl _ _) (r9 _) _) E4 _
 have SB:=hid (λo c=>Ys ((w.alloc o).alloc c) x y _ _ n (i.below (f o c)) (j.below (f o c)) q p A);have m:=hid (λW v h=>Kg W (x-y) v h);rw[Nm.aT2 x y]at m;have l:=hid f;clear i j q p f;generalize decide (x<0)=F at*;generalize decide (y<0)=L at*
 go_in
 go_wp2_with fail
 refine(SB.out _ _).mono ?_;rintro e M⟨r,rfl,z,d⟩;have k:=hid ((l.out _ _).trans (d.mono (l.out _ _).size));clear d
 go_wp2_with fail
 refine(m.out _ _ z).mono ?_;rintro e N⟨rfl,g⟩
 go_wp2_with fail
 go_ret
 exact⟨rfl,k.out.trans (g.mono k.out.size)⟩
def Blk (w:World)(G:Nat)(b:LB):Prop:=∃a,w.heap[G]?=Y (.cells a 3 (0,0))/\a.toList=b.map (z8 .i64)
theorem Blk.cell {v:World}{G:Nat}{x:LB}(h:Blk v G x)(j:Nat)(a:j<x.length):v.cell? ⟨G,j,X⟩=Y (.int .i64 (Nm.at' x j)):=by
 have⟨cur,h1,h2⟩:=h;refine aB h1 ?_
 have:(x.map (z8 .i64))[j]?=Y (.int .i64 (Nm.at' x j)):=by
  simp[Nm.at',j9 a]
 grind
theorem Blk.frozen {v:World}{G:Nat}{x:LB}(h:Blk v G x)(j:Nat):v.frozen? ⟨G,j,X⟩=J:=by
 have⟨cur,h1,h2⟩:=h;exact dP h1
theorem Blk.set {v:World}{G:Nat}{a:LB}(h:Blk v G a)(j:Nat)(x:Int):Blk (v.setCell ⟨G,j,X⟩ (.int .i64 x)) G (a.set j x):=by
 have⟨cur,h1,h2⟩:=h;refine⟨_,nQ h1 _,?_⟩
 simp_all
theorem Blk.lt {w:World}{G:Nat}(h:Blk w G x):G<w.heap.size:=by
 have⟨cur,h1,h2⟩:=h;exact cZ h1
theorem Blk.drew {w:World}{G:Nat}{x:LB}(h:Blk w G x):Blk w.drew G x:=h
theorem Blk.ints {G:Nat}(h:Blk v G x)(a:x.length<=100000000000):Ints v x (.slice (Y ⟨G,0,X⟩) x.length x.length):=by
 have⟨cur,h1,h2⟩:=h;refine⟨E4,C0 ⟨G,x.length,cur,rfl,u5 _,h1,r9 _,by unfold maxLen;omega,?_,?_⟩⟩
 .rw[<-C3,h2];simp
 .rw[h2];exact o9 E4
variable {r:Nat}
theorem IntsB.jJ {w:Nat}{p:Nat}(h:IntsB w v x (.slice (Y ⟨k,0,X⟩) p r))(j:Nat)(a:j<x.length):v.cell? ⟨k,j,X⟩=Y (.int .i64 (Nm.at' x j)):=by
 have⟨g',hg,hc⟩:=h.place O
 simp_all
theorem Blk.made (w:World)(n:Nat):Blk (w.alloc (.cells (madeCells #[.int .i64 0] n) 3)) w.heap.size (p5 n 0):=⟨_,iJ _ _,by rw[toList_madeCells_one];simp⟩
def Mi (w c:World)(a b:LB)(i:Value)(wr:World):Prop:=
 ∃(k:Nat) (out:LB),i=.int .i64 k/\k<=a.length/\Blk wr (w.heap.size+3) out/\out.length=a.length+b.length+1/\bZ 10000 out/\Below (w.heap.size+3) c wr/\Nm.val 10000 out=Nm.val 10000 (a.take k)*Nm.val 10000 b
def Jn (w e:World)(a b:LB)(i:Nat)(c f:Value)(wr:World):Prop:=
 ∃(j:Nat) (d:Int) (out:LB),f=.int .i64 j/\c=.int .i64 d/\0<=d/\d<10000/\j<=b.length+1/\(j=b.length+1->d=0)/\Blk wr (w.heap.size+3) out/\out.length=a.length+b.length+1/\bZ 10000 out/\Below (w.heap.size+3) e wr/\
  Nm.val 10000 out+d*10000^(i+j)=Nm.val 10000 (a.take i)*Nm.val 10000 b+Nm.at' a i*Nm.val 10000 (b.take j)*10000^i
theorem aRK (w:World)(na nb:Bool)(a b:LB)(ao M:Option Addr)(s q:Nat)(z:Int)(hI:Ints w a (.slice ao a.length s))(hJ:Ints w b (.slice M b.length q))(bt:a.length<=10000000000)(bu:b.length<=10000000000)(ga:bZ 10000 a)(gb:bZ 10000 b)
  (hT:∀W xs v,bZ 10000 xs->Nm.val 10000 xs=Nm.val 10000 a*Nm.val 10000 b->xs.length=a.length+b.length+1->Ints W xs v->Calls prog 109 #[.bool (na != nb),v] W (dB W z)):
  Calls prog 69 #[.agg #[.bool na,.slice ao a.length s],.agg #[.bool nb,.slice M b.length q]] w (dB w z):=by
 have HI:=hid hI;have HJ:=hid hJ;have GA:=hid ga;have GB:=hid gb;have HT:=hid hT;have a4:=run_make_row' 32 3 (.int .i64 0) 8 underlying32 mQ rfl .i64 .i64 (a.length+b.length+1) O O;rw[show((a.length+b.length+1:Nat):Int)=(a.length:Int)+b.length+1 by omega]at a4
 obtain⟨L,P⟩:∃L,L=kN w (.bool na) (.slice ao a.length s) (.bool nb) (.slice M b.length q):=⟨_,rfl⟩
 have B:=hid P
 have an:L.heap.size=w.heap.size+3:=by rw[P,En]
 have B0:=hid (show Below w.heap.size w L by rw[P];exact Nt w _ _ _ _);clear hI hJ ga gb hT P
 go_in
 go_wp2_with fail
 rw[show((w.alloc (.cells #[.bool na,.slice ao a.length s] 46)).alloc (.cells #[.bool nb,.slice M b.length q] 46)).alloc (.cells #[.bool J,.slice X 0 0] 46)=L from B.out.symm]
 go_loopw [21] (λi wr=>Mi w L a b i wr) (λi _=>a.length-(intOf i).toNat)
 case atStart=>
  refine⟨0,p5 (a.length+b.length+1) 0,rfl,u5 _,?_,E4,bZ.jO E3 _,nR (Below.refl _ _) O _,by rw[Nm.Xc];simp[Nm.val]⟩;have:=Blk.made L (a.length+b.length+1);rw[an]at this;exact this
 case round=>
  obtain⟨k,out,rfl,hk,d,n,m,f,p⟩:=hrel;have HV:=hid p;have u:=hid n;have U:=hid m;have S:=hid f;have T:=hid d;have hs:=d.lt
  have b0:wr.heap[w.heap.size]?=Y (.cells #[.bool na,.slice ao a.length s] 46 (0,0)):=by
   rw[f.block _ O,B.out];exact Qu _ _ _ _ _
  have b1:wr.heap[w.heap.size+1]?=Y (.cells #[.bool nb,.slice M b.length q] 46 (0,0)):=by
   rw[f.block _ O,B.out];exact Qv _ _ _ _ _
  have b2:wr.heap[w.heap.size+2]?=Y (.cells #[.bool J,.slice X 0 0] 46 (0,0)):=by
   rw[f.block _ O,B.out];exact Vx _ _ _ _ _
  have⟨z0,z1⟩:=fD b0 rfl rfl;have⟨z2,z3⟩:=fD b1 rfl rfl;have aq:=hid b2;clear p n m f d b0 b1 b2
  by_cases bx:(k:Int)<a.length
  .obtain⟨g,rfl,_⟩:=HI.out.place O
   obtain⟨wo,a5⟩:∃wo:World,wo=wr:=⟨_,rfl⟩
   subst a5
   go_wp2_with fail
   go_loopw [7,8] (λc j wr=>Jn w L a b k c j wr) (λ_ j _=>b.length+2-(intOf j).toNat)
   case atStart=>
    refine⟨0,0,out,rfl,rfl,O,O,O,λh=>by omega,T.out,u.out,U.out,S.out,?_⟩;rw[HV.out];simp[Nm.val]
   case round=>
    obtain⟨j,N,l,rfl,rfl,c0,c1,hj,D,d,n,m,f,p⟩:=hrel;have br:=hid p;have C:=hid n;have ad:=hid m;have aa:=hid f;have ab:=hid d;have bp:=hid D;have bz:=d.lt
    have c3:wr.cell? ⟨w.heap.size+1,1,X⟩=Y (.slice M b.length q):=by
     refine aB (xs:=#[.bool nb,.slice M b.length q]) (t:=46) ?_ rfl;rw[f.block _ O,B.out];exact Qv _ _ _ _ _
    have c2:wr.cell? ⟨w.heap.size,1,X⟩=Y (.slice (Y ⟨g,0,X⟩) a.length s):=by
     refine aB (xs:=#[.bool na,.slice (Y ⟨g,0,X⟩) a.length s]) (t:=46) ?_ rfl;rw[f.block _ O,B.out];exact Qu _ _ _ _ _
    have BW:Hid (Below w.heap.size w wr):=B0.out.trans (f.mono O)
    by_cases gg:(j:Int)<b.length\/(¬(j:Int)<b.length/\0<N)
    .have am:k+j<l.length:=by rw[n];have:=D;omega
     have x1:=(HI.out.below BW.out).jJ k O;have x2:=d.cell (k+j) am;have x3:=d.frozen (k+j);have RB:=hid (Zb wr.drew b M q j ((HJ.out.below BW.out).below (bB _)) O O);have a0:=GA.out.at' E3 k;have b0:=GB.out.at' E3 j;have o0:=m.at' E3 (k+j);have A:=Nm.aFY (x:=N+Nm.at' l (k+j)+Nm.at' a k*Nm.at' b j) E3 c0 c1 o0.1 o0.2 a0.1 a0.2 b0.1 b0.2 rfl;have ST:=hid (Nm.aHo (x:=N+Nm.at' l (k+j)+Nm.at' a k*Nm.at' b j) am p rfl);have bm:=hid gg
     have ar:Hid (Jn w L a b k (.int .i64 ((N+Nm.at' l (k+j)+Nm.at' a k*Nm.at' b j)/10000)) (.int .i64 ((j:Int)+1)) (wr.drew.setCell ⟨w.heap.size+3,k+j,X⟩ (.int .i64 ((N+Nm.at' l (k+j)+Nm.at' a k*Nm.at' b j)%10000)))):=by
      have al:bZ 10000 (l.set (k+j) ((N+Nm.at' l (k+j)+Nm.at' a k*Nm.at' b j)%10000)):=m.set _ O O;refine⟨j+1,_,l.set (k+j) ((N+Nm.at' l (k+j)+Nm.at' a k*Nm.at' b j)%10000),E4,rfl,A.2.1,A.2.2.1,?_,?_,d.drew.set _ _,by simpa using n,al,(f.trans ((bB _).mono O)).setCell E4 _,ST.out⟩
      .rcases gg with g1|⟨g1,g2⟩
       .omega
       .have:j≠b.length+1:=λh=>by have:=D h;omega
        omega
      .intro he;exact Nm.aUQ E3 al GA.out GB.out rfl O A.2.1 rfl ST.out
     clear p n m f d D ST;generalize Nm.at' a k=x at*;generalize Nm.at' b j=y at*;generalize Nm.at' l (k+j)=o at*;have⟨a1,a2⟩:=a0;have⟨b1,b2⟩:=b0;have⟨o1,o2⟩:=o0;have⟨k0,k1,k2,k3⟩:=A;have p0:0<=x*y:=A6 a1 b1;have p1:x*y<=9999*9999:=Int.mul_le_mul O O b1 O
     have i0:(0:Int)<=(k:Int)+j:=O
     have i1:(k:Int)+j<(a.length:Int)+b.length+1:=by have:=C.out;omega
     have i2:((k:Int)+j).toNat=k+j:=O
     have i3:IntKind.i64.wrap ((k:Int)+j)=(k:Int)+j:=by rw[IntKind.wrap_i64];omega
     rcases gg with g1|⟨g1,g2⟩
     all_goals
      go_wp2_with fail
      go_region_held3 (λw'=>w'.cell? ⟨w.heap.size+1,1,X⟩=Y (.slice M b.length q)/\w'.cell? ⟨w.heap.size,1,X⟩=Y (.slice (Y ⟨g,0,X⟩) a.length s)/\w'.cell? ⟨g,k,X⟩=Y (.int .i64 x)/\w'.cell? ⟨w.heap.size+3,k+j,X⟩=Y (.int .i64 o)) (go_keep)
       ((go_at_call 108;refine(RB.out).mono ?_;rintro e w1⟨rfl,rfl⟩))
      all_goals
       go_wp2_with fail
       go_roundw
       case rel=>exact ar.out
       case measure=>simp[intOf];omega
    .have n1:¬(j:Int)<b.length:=λh=>gg (Or.inl h)
     have n2:N=0:=by
      have:¬0<N:=λh=>gg (C0 ⟨n1,h⟩)
      omega
     have au:=hid (Nm.aUR rfl O n2 rfl p);subst n2;clear gg p n m f d D
     go_wp2_with fail
     go_roundw
     case rel=>exact⟨k+1,l,E4,O,ab.out,C.out,ad.out,aa.out,au.out⟩
     case measure=>simp[intOf];omega
  .obtain rfl:k=a.length:=O
   have CT:=hid (HT.out wr out _ U.out (by rw[HV.out,List.take_length]) u.out (T.out.ints (by rw[u.out];omega)));rw[u.out]at CT;have BW:=hid (B0.out.trans (S.out.mono (show w.heap.size<=w.heap.size+3 by omega)))
   go_wp2_with fail
   refine(CT.out).mono ?_;rintro e w2⟨r,rfl,hN,R⟩;have hr:=BW.out.trans (R.mono BW.out.size);have d:=gN O aq.out R;have b3:=R.size;obtain⟨ay,av,ak,rfl,_⟩:=hN.open;have F:=rI d hN hr O;have⟨r0,r1⟩:=qF d;have⟨s0,s1⟩:=fD d rfl rfl;have q0:=F.c0;have q1:=F.c1;have FN:=hid F.num;have FB:=hid F.below;clear F hN R hr d;generalize decide (z<0)=nc at*
   go_wp2_with fail
   refine bodyPost_ret (v:=.agg #[.bool nc,.slice av ay.length ak]) (by simp[results,results69,go_sem,q0,q1]) rfl ⟨_,rfl,FN.out,FB.out⟩
theorem Om (w:World)(x y:Int)(u v:Value)(n:Nat)(t:NumAt w x u)(z:NumAt w y v)(k:Bits n x)(i:Bits n y)(M:n<=1000000000):Calls prog 69 #[u,v] w (dB w (x*y)):=by
 obtain⟨a,B,l,rfl,p,e,hv⟩:=t.open;obtain⟨b,C,j,rfl,q,f,g⟩:=z.open;have L:=Fw e hv k;have F:=Fw f g i;refine aRK w _ _ a b _ _ _ _ (x*y) p q O O e.cP f.cP ?_;intro W A r m o D s;refine Xz W _ (x*y) A r s O m (by rw[o,hv,g,Int.natAbs_mul];simp) ?_ ?_
 .intro h
  by_cases d:x<0
  .by_cases c:y<0
   .simp_all
   .exact Int.mul_nonpos_of_nonpos_of_nonneg O O
  .by_cases c:y<0
   .exact Int.mul_nonpos_of_nonneg_of_nonpos O O
   .simp_all
 .intro h
  by_cases d:x<0
  .by_cases c:y<0
   .exact Int.mul_nonneg_of_nonpos_of_nonpos O O
   .simp_all
  .by_cases c:y<0
   .simp_all
   .exact A6 O O
def Ml (W:World)(n:Int)(m d:Value)(wr:World):Prop:=
 ∃(k:Nat) (done:LB),m=.int .i64 k/\k<=n.natAbs/\done.length<=64/\wr.ownsRow W.heap.size 3 1 d done.length (done.map (z8 .i64))/\Below W.heap.size W wr/\bZ 10000 done/\(k=0->Top done)/\Nm.val 10000 done+k*10000^done.length=n.natAbs/\k<2^(64-done.length)
theorem aRV {l:Nat}(h:k<2^(64-l))(b:0<k):l<64/\k/10000<2^(64-(l+1)):=by
 have a:l<64:=by
  rcases s8 l 64 with h1|h1
  .exact h1
  .rw[show 64-l=0 by omega]at h;simp at h;omega
 refine⟨a,?_⟩;rw[show 64-l=(64-(l+1))+1 by omega,Nat.pow_succ]at h;omega
variable {a:PH}
theorem Io {w:World}{B e size:Nat}(h:w.ownsRow B e size z r a):∃b f cp,z=.slice b f cp:=by
 rcases h.2 with⟨h,_⟩|⟨g,c,d,h,_⟩
 .exact⟨_,_,_,h⟩
 .exact⟨_,_,_,h⟩
theorem Zd (n:Int)(w:World)(hn:n.natAbs<1000000000000000000):Calls prog 18 #[.int .i64 n] w (lC w n):=by
 obtain⟨i,hi,hz,x,A⟩:=info_parts mQ
 have ag:-1000000000000000000<n:=O
 have ab:n<1000000000000000000:=O
 by_cases j:n<0
 case' pos=>have s:=decide_eq_true j
 case' neg=>have s:=decide_eq_false j
 all_goals
  go_in
  go_wp2_with fail
  go_loopw [3,4] (λm d wr=>Ml (w.alloc (.cells #[.bool J,.slice X 0 0] 46)) n m d wr) (λm _ _=>(intOf m).toNat)
  case atStart=>exact⟨n.natAbs,[],by congr 1;omega,r9 _,E4,⟨rfl,Or.inl ⟨rfl,rfl⟩⟩,Below.refl _ _,bZ.nil _,λ_=>Top.nil,by simp[Nm.val],by simp;omega⟩
  case round=>
   obtain⟨k,done,rfl,ae,hl,a,f,y,o,p,l⟩:=hrel;have N:=hid p;have M:=hid l;have HT:=hid o;have L:=hid y;have b:=hid f;have C:=f.size;simp only[u9]at C;clear p l o y f
   by_cases ad:(0:Int)<k
   .obtain⟨af,g⟩:=aRV M.out O;have z:=hid g;clear g M
    go_wp2_with (at_builtin;refine wpList_append_own _ rfl _ _ 32 rfl _ 3 i (.int .i64 0) 1 8 underlying32 hi hz x A rfl E3 _ _ _ rfl (a.alloc _) ⟨wr.heap.size,0,X⟩ 1 1 [.int .i64 ((k:Int)%10000)] rfl rfl (cell_one_new _ _ _) (λu S=>by simp at S;subst S;rfl) (by unfold maxLen;omega) O (by simp;omega) ?_;intro v' w3 t h B)
    go_roundw
    case rel=>
     refine⟨k/10000,done++[((k%10000:Nat):Int)],E4,O,by simp;omega,by simpa using t,qT a b.out b.out.size _ h,L.out.snoc O O,?_,?_,by simpa using z.out⟩
     .intro h0;exact Nm.aL6 O
     .rw[Nm.Ev,<-N.out,List.length_append,List.length_singleton,Int.pow_succ]
      have e:(k:Int)=((k%10000:Nat):Int)+10000*((k/10000:Nat):Int):=O
      generalize ((k%10000:Nat):Int)=r at*;generalize ((k/10000:Nat):Int)=q at*;rw[e];grind
    case measure=>simp[intOf];omega
   .obtain rfl:k=0:=O
    have c:wr.heap[w.heap.size]?=Y (.cells #[.bool J,.slice X 0 0] 46 (0,0)):=by
     rw[b.out.block _ E4];exact iJ _ _
    have R:NumAt wr n (.agg #[.bool (decide (n<0)),_]):=⟨done,_,rfl,aHB a (u5 _),⟨L.out,HT.out rfl⟩,by have:=N.out;simpa using this⟩
    obtain⟨P,T,cp,rfl⟩:=Io a;have F:=rI (w:=w) c R (((Below.refl _ _).alloc (r9 _) _).trans (b.out.mono E4)) (r9 _);rw[s]at F;obtain⟨r0,r1⟩:=qF c;obtain⟨s0,s1⟩:=fD c rfl rfl;have q0:=F.c0;have q1:=F.c1;have W:=hid F.num;have D:=hid (show Au w.heap.size (.agg #[.bool (decide (n<0)),.slice P T cp])from Tj trivial ((IntsB.frs (xs:=done) (by first|exact a|simpa using a)).cJ (by first|exact Nat.le_succ _|simp|(simp;omega))));rw[s]at D;have U:=hid F.below;clear F R c
    go_wp2_with fail
    refine bodyPost_ret (v:=.agg #[.bool _,.slice P T cp]) (by simp[results,results18,go_sem,q0,q1]) rfl ⟨_,rfl,W.out,U.out,D.out⟩
theorem Zc (n:Int)(w:World)(a:n.natAbs<1000000000000000000):Calls prog 18 #[.int .i64 n] w (dB w n):=(Zd n w a).mono λ_ _ h=>h.any
variable {w:Nat}
theorem Ra {e size:Nat}(h:v.ownsRow w e size z r a):∃b f cp,z=.slice b f cp:=by
 rcases h.2 with⟨h,_⟩|⟨g,c,d,h,_⟩
 .grind
 .grind
theorem aNm {p:Nat}(a:v.ownsRow k 3 1 z p (x.map (z8 .i64)))(m:w<k)(l:p=x.length):cI w v x z:=by
 rcases a.2 with⟨d,h⟩|⟨g,b,c,h,j,e,f,_,_,i⟩
 .exact Or.inl ⟨j8 O,d⟩
 .subst l;exact C0 ⟨g,b,c,h,O,e,f,by simpa using i⟩
def gV (b:Nat)(w:World)(n:Nat)(a:Value):Prop:=NumAt w n (.agg #[.bool J,a])/\∀g,a.ownBlock=Y g->g≠b
theorem gV.open (h:gV w v k z):∃a,Ints v a z/\Nm.Good 10000 a/\Nm.val 10000 a=(k:Int).natAbs:=by
 have⟨a,dv',h1,h2⟩:=h.1;grind
theorem gV.up {n:Nat}(h:gV w v n z)(i:∀(g:Nat) (cs:Array Value),z.ownBlock=Y g->v.heap[g]?=Y (.cells cs 3 (0,0))->s.heap[g]?=v.heap[g]?):gV w s n z:=by
 have⟨ds,h1,h2⟩:=h.open;refine⟨⟨ds,z,by rw[decide_eq_false O],⟨h1.1,?_⟩,h2⟩,h.2⟩
 rcases h1.2 with h|⟨g,b,a,e,d,c,f⟩
 .simp_all
 .exact C0 ⟨g,b,a,e,d,(i g a (by rw[e];rfl) c).trans c,f⟩
theorem gV.keep {a:Nat}{w:World}(h:gV a w k z)(d:Keep a w s):gV a s k z:=h.up λg _ c b=>d.block g (cZ b) (h.2 g c)
theorem gV.form (h:gV w v k z):∃a b cp,z=.slice a b cp:=by
 have⟨ds,h1,_⟩:=h.open;exact Ra h1
theorem Zu (n:Nat)(w:World)(m:n<1000000000)(c:Nat)(l:c<w.heap.size):
  Calls prog 18 #[.int .i64 n] w λe b=>∃a,e=.returned (.agg #[.bool J,a])/\gV c b n a/\Below w.heap.size w b:=by
 refine(Zd n w O).mono ?_;rintro e b⟨v,rfl,h,i,j⟩;obtain⟨d,a,rfl,f⟩:=h;have e:decide ((n:Int)<0)=J:=decide_eq_false O;refine⟨a,rfl,⟨⟨d,a,by rw[e],f⟩,λg k=>?_⟩,i⟩;have:=j a E4;unfold iU at this;unfold Value.ownBlock at k;grind
namespace Ab
abbrev One (v:Value):Prop:=v.oneCell'=I
def Su (bt:List TypeId):Obj->Bool
 |.cells _ ty _=>bt.contains ty
 |_=>J
structure On (bt:List TypeId) (w W:World):Prop where
 os:W.os=w.os
 tape:W.tape=w.tape
 output:W.output=w.output
 size:w.heap.size<=W.heap.size
 blk:∀(k:Nat) (o:Obj),w.heap[k]?=Y o->W.heap[k]?=Y o\/(Su bt o=I/\W.shape? k=w.shape? k)
theorem On.refl (bt:List TypeId)(w:World):On bt w w:=⟨rfl,rfl,rfl,r9 _,λ_ _ h=>Or.inl h⟩
theorem On.trans {bt:List TypeId}{a b c:World}(h:On bt a b)(g:On bt b c):On bt a c:=
 ⟨g.os.trans h.os,g.tape.trans h.tape,g.output.trans h.output,s7 h.size g.size,λk o f=>by
  rcases h.blk k o f with e|⟨e,d⟩
  .rcases g.blk k o e with j|⟨j,n⟩
   .simp_all
   .exact C0 ⟨j,by rw[n];unfold x8;rw[e,f]⟩
  .refine C0 ⟨e,?_⟩
   cases o with
   |cells cs ty m=>
    have e1:a.shape? k=Y (ty,cs.size):=by unfold x8;rw[f]
    rw[e1]at d;unfold x8 at d;split at d
    .rename_i p r q l
     rcases g.blk k _ l with i|⟨_,i⟩
     .unfold x8;rw[i,f];exact d
     .rw[i,e1];unfold x8;rw[l];exact d
    .cases d
   |_=>cases e⟩
theorem On.shape {bt:List TypeId}{w s:World}(h:On bt w s){k:Nat}{x:TypeId×Nat}(a:w.shape? k=Y x):s.shape? k=Y x:=by
 unfold x8 at a;split at a
 .rename_i c t m d
  rcases h.blk k _ d with b|⟨_,b⟩
  .unfold x8;rw[b];exact a
  .rw[b];unfold x8;rw[d];exact a
 .cases a
variable {w:World}
theorem bL (h:w.heap[k]?=Y o):k<w.heap.size:=(Array.getElem?_eq_some_iff.1 h).1
theorem On.below {bt:List TypeId}(h:Below w.heap.size w s):On bt w s:=
 ⟨h.os,h.tape,h.output,h.size,λk o a=>Or.inl (by rw[h.block k (bL a)];exact a)⟩
def aD {α β:Type}(R:α->β->Prop):List α->List β->Prop
 | [],[]=>True
 |a::c,b::bs=>R a b/\aD R c bs
 |_,_=>False
section aD
variable {α β:Type} {R S:α->β->Prop}
theorem aD.mono (h:∀a b,R a b->S a b):∀{c:List α} {bs:List β},aD R c bs->aD S c bs
 | [],[],_=>trivial
 |_::_,_::_,⟨d,e⟩=>⟨h _ _ d,aD.mono h e⟩
 | [],_::_,h=>h.elim
 |_::_,[],h=>h.elim
theorem aD.len:∀{a:List α} {bs:List β},aD R a bs->a.length=bs.length
 | [],[],_=>rfl
 |_::_,_::_,⟨_,b⟩=>by simp[aD.len b]
 | [],_::_,h=>h.elim
 |_::_,[],h=>h.elim
theorem aD.at:∀{c:List α} {bs:List β},aD R c bs->∀{i:Nat} {a:α},c[i]?=Y a->∃b,bs[i]?=Y b/\R a b
 | [],[],_,_,_,h=>by simp at h
 |_::_,_::_,⟨d,_⟩,0,_,h=>⟨_,rfl,by simp at h;subst h;exact d⟩
 |_::_,_::_,⟨_,e⟩,i+1,_,h=>by simpa using aD.at e (by simpa using h)
 | [],_::_,h,_,_,_=>h.elim
 |_::_,[],h,_,_,_=>h.elim
theorem aD.set:∀{d:List α} {bs:List β},aD R d bs->∀(i:Nat) {a:α} {b:β},R a b->aD R (d.set i a) (bs.set i b)
 | [],[],_,_,_,_,_=>trivial
 |_::_,_::_,⟨_,c⟩,0,_,_,h=>⟨h,c⟩
 |_::_,_::_,⟨e,c⟩,i+1,_,_,h=>⟨e,aD.set c i h⟩
 | [],_::_,h,_,_,_,_=>h.elim
 |_::_,[],h,_,_,_,_=>h.elim
theorem aD.append:∀{c a:List α} {bs b:List β},aD R c bs->aD R a b->aD R (c++a) (bs++b)
 | [],_,[],_,_,h=>h
 |_::_,_,_::_,_,⟨d,e⟩,h=>⟨d,aD.append e h⟩
 | [],_,_::_,_,h,_=>h.elim
 |_::_,_,[],_,h,_=>h.elim
theorem aD.take:∀{a:List α} {bs:List β} (n:Nat),aD R a bs->aD R (a.take n) (bs.take n)
 | [],[],_,_=>by simp[aD]
 |_::_,_::_,0,_=>by simp[aD]
 |_::_,_::_,n+1,⟨b,c⟩=>⟨b,aD.take n c⟩
 | [],_::_,_,h=>h.elim
 |_::_,[],_,h=>h.elim
theorem aD.drop:∀{a:List α} {bs:List β} (n:Nat),aD R a bs->aD R (a.drop n) (bs.drop n)
 | [],[],_,_=>by simp[aD]
 |_::_,_::_,0,h=>h
 |_::_,_::_,n+1,⟨_,b⟩=>aD.drop n b
 | [],_::_,_,h=>h.elim
 |_::_,[],_,h=>h.elim
theorem aD.map {a:Type}{f:a->α}{g:a->β}:∀(l:List a),(∀x∈l,R (f x) (g x))->aD R (l.map f) (l.map g)
 | [],_=>trivial
 |x::l,h=>⟨h x E4,aD.map l λy b=>h y (by simp[b])⟩
end aD
inductive AC where
 |int (k:IntKind) (n:Int)
 |bool (b:Bool)
 |sint (k:IntKind) (n:Int)
 |sbool (t:Bool)
 |lit (v:Value)
 |ptr (b off:Nat)
 |slc (b off len size:Nat)
 |dsl (b r len size:Nat)
 |sg (i:Nat)
 |dg (k:Bool) (i:Nat)
 |gJ (R:World->Value->Prop)
 |any
inductive AV where
 |one (c:AC)
 |agg (cs:List AC)
inductive AT where
 |top
 |fB
 |val (v:AV)
 |tup (vs:List AV)
 |lU (c:Bool) (v:AV)
structure eQ where
 P:Program
 bt:List TypeId
 cP:Bool->World->Int->Value->Prop
 bits:Nat->Int->Prop
 qD:∀{k w W z x},On bt w W->cP k w z x->cP k W z x
 rB:∀{k w z x},cP k w z x->One x
section
variable (C:eQ)
def relC (φ:LI)(ν:LV)(w:World):AC->Value->Prop
 |.int k n,x=>x=.int k n
 |.bool b,x=>x=.bool b
 |.sint k n,x=>x=.int k n
 |.sbool t,x=>x=.bool t
 |.lit v,x=>x=v/\One v
 |.ptr b c,x=>∃k o,φ b=Y (k,o)/\x=.pointer (Y ⟨k,o+c,X⟩)
 |.slc b c len size,x=>∃k o a e m,φ b=Y (k,o)/\x=.slice (Y ⟨k,o+c,X⟩) len a/\len<=a/\w.shape? k=Y (e,m)/\o+c+a*size<=m
 |.dsl b r len size,x=>∃k a,φ b=Y (k,r*size)/\x=.slice (Y ⟨k,0,X⟩) len a
 |.sg i,x=>∃z n,ν[i]?=Y (z,n)/\x=.bool (decide (z<0))
 |.dg k i,x=>∃z n,ν[i]?=Y (z,n)/\C.cP k w z x/\C.bits n z
 |.gJ R,x=>One x/\∀W,On C.bt w W->R W x
 |.any,x=>One x
def dJ (φ:LI)(ν:LV)(w:World):AV->Value->Prop
 |.one c,x=>relC C φ ν w c x
 |.agg cs,x=>∃a:PH,x=.agg a.toArray/\aD (relC C φ ν w) cs a
def relT (φ:LI)(ν:LV)(w:World):AT->Value->Prop
 |.top,_=>True
 |.fB,x=>x=undef
 |.val v,x=>dJ C φ ν w v x
 |.tup b,x=>∃a:PH,x=.tuple a.toArray/\aD (dJ C φ ν w) b a
 |.lU c v,x=>if c=I then dJ C φ ν w v x else x=undef
structure Ext (φ φ':LI) (ν ν':LV) (w w':World):Prop where
 φ:∀b k,φ b=Y k->φ' b=Y k
 ν:∀(i:Nat) (x:Int×Nat),ν[i]?=Y x->ν'[i]?=Y x
 on:On C.bt w w'
variable {C}
theorem Ext.refl (φ:LI)(ν:LV)(w:World):Ext C φ φ ν ν w w:=⟨λ_ _ h=>h,λ_ _ h=>h,On.refl _ _⟩
theorem Ext.trans {φ φ' c:LI}{ν ν' a:LV}{w w' L:World}(h:Ext C φ φ' ν ν' w w')(g:Ext C φ' c ν' a w' L):Ext C φ c ν a w L:=
 ⟨λb k e=>g.φ b k (h.φ b k e),λi x e=>g.ν i x (h.ν i x e),h.on.trans g.on⟩
section
variable {φ φ':LI} {ν ν':LV} {w w':World}
theorem yO (h:Ext C φ φ' ν ν' w w')(c:AC)(x:Value)(r:relC C φ ν w c x):relC C φ' ν' w' c x:=by
 cases c<;>try exact r
 .have⟨k,o,h1,h2⟩:=r;exact⟨k,o,h.φ _ _ h1,h2⟩
 .have⟨k,o,cap,e,m,h1,h2,h3,h4,h5⟩:=r;exact⟨k,o,cap,e,m,h.φ _ _ h1,h2,h3,h.on.shape h4,h5⟩
 .have⟨k,cap,h1,h2⟩:=r;exact⟨k,cap,h.φ _ _ h1,h2⟩
 .have⟨z,n,h1,h2⟩:=r;exact⟨z,n,h.ν _ _ h1,h2⟩
 .have⟨z,n,h1,h2,h3⟩:=r;exact⟨z,n,h.ν _ _ h1,C.qD h.on h2,h3⟩
 .exact⟨r.1,λW a=>r.2 W (h.on.trans a)⟩
theorem Xr (h:Ext C φ φ' ν ν' w w')(v:AV)(x:Value)(r:dJ C φ ν w v x):dJ C φ' ν' w' v x:=by
 cases v with
 |one c=>exact yO h c x r
 |agg cs=>have⟨xs,h1,h2⟩:=r;exact⟨xs,h1,h2.mono (yO h)⟩
theorem yP (h:Ext C φ φ' ν ν' w w')(v:AT)(x:Value)(r:relT C φ ν w v x):relT C φ' ν' w' v x:=by
 cases v with
 |top=>trivial
 |fB=>exact r
 |val v=>exact Xr h v x r
 |tup a=>have⟨xs,h1,h2⟩:=r;exact⟨xs,h1,h2.mono (Xr h)⟩
 |lU c v=>
  simp only[relT]at r ⊢
  cases c with
  |true=>simp at r ⊢;exact Xr h v x r
  |false=>simpa using r
variable {x:Value}
theorem aHN {c:AC}(r:relC C φ ν w c x):One x:=by
 cases c
 .subst r;rfl
 .subst r;rfl
 .subst r;rfl
 .subst r;rfl
 .obtain⟨rfl,h⟩:=r;exact h
 .obtain⟨k,o,_,rfl⟩:=r;rfl
 .obtain⟨k,o,a,e,m,_,rfl,_⟩:=r;rfl
 .obtain⟨k,a,_,rfl⟩:=r;rfl
 .obtain⟨z,n,_,rfl⟩:=r;rfl
 .have⟨z,n,_,h,_⟩:=r;exact C.rB h
 .exact r.1
 .exact r
theorem aPx (h:One x):x.cells=#[x]:=by cases x<;>first|rfl|(simp[One,A0]at h)
def cellsOf:AV->List AC
 |.one c=>[c]
 |.agg cs=>cs
theorem aFF {v:AV}(r:dJ C φ ν w v x):aD (relC C φ ν w) (cellsOf v) x.cells.toList:=by
 cases v with
 |one c=>
  rw[aPx (aHN r)];exact⟨r,trivial⟩
 |agg cs=>obtain⟨a,rfl,h⟩:=r;exact h
end
end
def iP (P:Program)(t:TypeId):XW:=(P.info? t).map (·.size)
def wY (P:Program)(t:TypeId):Option Bool:=
 match P.underlying t with
 |some (.struct _)=>Y I
 |some (.array _ _)=>Y I
 |some _=>Y J
 |none=>X
theorem uW {P:Program}{t:Nat}(h:iP P t=Y k)(w:World):(sizeOf t).run P w=.ok k w:=by
 unfold iP at h
 cases hi:P.info? t with
 |none=>simp[hi]at h
 |some i=>simp[hi]at h;subst h;simp[sizeOf,typeInfo,hi]
theorem Oa {P:Program}{t:TypeId}{m:Bool}(h:wY P t=Y m)(w:World):(isAgg t).run P w=.ok m w:=by
 unfold wY at h;unfold isAgg;simp only[underlying]
 cases hi:P.underlying t with
 |none=>simp[hi]at h
 |some d=>
  simp only[hi]at h;simp[hi]
  cases d<;>simp at h ⊢<;>exact h
theorem Fu (k a i:Nat):(⟨k,a,X⟩:Addr).add i=⟨k,a+i,X⟩:=by
 unfold Addr.add;grind
theorem Oj {ty:TypeId}{m:Nat×Nat}(h:w.heap[k]?=Y (.cells a.toArray ty m))(b:Nat):w.cell? ⟨k,b,X⟩=a[b]?:=by
 unfold World.cell?;simp[h]
theorem Vu {P:Program}{w:World}{k:Nat}{a:PH}{ty:TypeId}{m:Nat×Nat}(h:w.heap[k]?=Y (.cells a.toArray ty m))(b:Nat):
  ∀(n i:Nat) (c:Array Value),b+i+n<=a.length->(loadCellsFrom ⟨k,b,X⟩ i n c).run P w=.ok (c++((a.drop (b+i)).take n).toArray) w
 |0,i,c,_=>by simp[loadCellsFrom]
 |n+1,i,c,d=>by
  have hc:a[b+i]?=Y a[b+i]:=j9 O;unfold loadCellsFrom;rw[A7,run_load,Fu,Oj h,hc];simp;rw[Vu h b n (i+1) _ O,List.drop_eq_getElem_cons (show b+i<a.length by omega),List.take_succ_cons];simp[u6]
structure dW (w w':World) (k:Nat) (ys:PH) (ty:TypeId):Prop where
 blk:w'.heap[k]?=Y (.cells ys.toArray ty (0,0))
 others:∀j,j≠k->w'.heap[j]?=w.heap[j]?
 size:w'.heap.size=w.heap.size
 os:w'.os=w.os
 tape:w'.tape=w.tape
 output:w'.output=w.output
theorem zX {ty:TypeId}(h:w.heap[k]?=Y (.cells a.toArray ty (0,0)))(b:Nat)(v:Value):dW w (w.setCell ⟨k,b,X⟩ v) k (a.set b v) ty:=by
 refine⟨?_,λj c=>?_,by simp[y8],rfl,rfl,rfl⟩
 .simp[y8,Array.getElem?_modify,h]
 .exact Below.heap_setCell _ _ _ _ c
def gM (b:PH)(a:Nat):List Value->List Value
 | []=>b
 |v::c=>gM (b.set a v) (a+1) c
theorem Re:∀(c b:PH) (a:Nat),a+c.length<=b.length->gM b a c=b.take a++c++b.drop (a+c.length)
 | [],b,a,h=>by simp[gM]
 |v::c,b,a,h=>by
  simp at h;unfold gM;rw[Re c (b.set a v) (a+1) (by simp;omega)]
  have e1:(b.set a v).take (a+1)=b.take a++[v]:=by
   rw[List.take_succ_eq_append_getElem (by simp;omega),List.take_set_of_le O];simp
  have e2:(b.set a v).drop (a+1+c.length)=b.drop (a+(c.length+1)):=by
   rw[List.drop_set_of_lt O];congr 1;omega
  simp_all
theorem Vl {P:Program}{k:Nat}{ty:TypeId}(a:Nat):∀(e:PH) (i:Nat) (w:World) (b:PH),w.heap[k]?=Y (.cells b.toArray ty (0,0))->a+i+e.length<=b.length->(∀v∈e,One v)->
  ∃w',(storeCells ⟨k,a,X⟩ e i).run P w=.ok () w'/\dW w w' k (gM b (a+i) e) ty
 | [],i,w,b,h,l,f=>⟨w,by simp[storeCells],⟨by simpa[gM]using h,λ_ _=>rfl,rfl,rfl,rfl,rfl⟩⟩
 |v::e,i,w,b,h,l,f=>by
  simp at l;have d:=zX h (a+i) v;obtain⟨w',m,c⟩:=Vl a e (i+1) (w.setCell ⟨k,a+i,X⟩ v) (b.set (a+i) v) d.blk (by simp;omega) (λx o=>f x (by simp[o]));have hc:b[a+i]?=Y b[a+i]:=j9 O
  have n:w.frozen? ⟨k,a+i,X⟩=J:=by simp[World.frozen?,h]
  refine⟨w',?_,⟨by rw[c.blk];simp[gM,u6],λj g=>(c.others j g).trans (d.others j g),c.size.trans d.size,c.os.trans d.os,c.tape.trans d.tape,c.output.trans d.output⟩⟩;unfold storeCells;rw[A7,run_store _ _ _ _ _ (f v E4),Fu,Oj h,hc];simp only[n,if_false];exact m
structure bH where
 cs:List AC
 ty:TypeId
 own:Bool
 ro:Bool
 tip:Bool
def Hc:Value->Bool
 |.slice X 0 _=>I
 |_=>J
theorem aUT (h:Hc z=I):∃c,z=.slice X 0 c:=by
 unfold Hc at h;grind
def xK:Value->AC
 |.int k n=>.int k n
 |.bool b=>.bool b
 |v=>.lit v
def xL:Value->AT
 |.agg cs=>bif cs.toList.all A0 then .val (.agg (cs.toList.map xK))else .top
 |.tuple _=>.top
 |v=>.val (.one (xK v))
variable {φ:LI}{ν:LV}
theorem aIG {R:eQ}(h:One z):relC R φ ν v (xK z) z:=by
 cases z<;>first|rfl|exact⟨rfl,h⟩
theorem aO4 {C:eQ}(a:Value):relT C φ ν v (xL a) a:=by
 cases a with
 |agg cs=>
  cases h:cs.toList.all A0 with
  |false=>simp only[xL,h];trivial
  |true=>
   simp only[xL,h];refine⟨cs.toList,E4,?_⟩;rw[List.all_eq_true]at h;have:=aD.map (R:=relC C φ ν v) cs.toList (λx b=>aIG (h x b))
   simp_all
 |tuple c=>trivial
 |_=>first|rfl|exact⟨rfl,rfl⟩
def Holds (a:List Prop):Prop:=∀q∈a,q
theorem fX:Holds []:=λ_ h=>by cases h
theorem Holds.one {p:Prop}(h:Holds [p]):p:=h p E4
inductive fK where
 |val (r:AT) (p:List Prop)
 |new (cs:List AC) (ty:TypeId) (slice:Option (Nat×Nat))
 |mU (b:Nat) (cs:List AC)
 |app (old:XW) (cs:List AC) (ty:TypeId) (len size:Nat)
 |call (f:FuncId) (args:List AV)
def eL:AT->Option AC
 |.val (.one c)=>Y c
 |_=>X
def Lb:AT->Option AV
 |.val v=>Y v
 |_=>X
def sZ:List AT->Option (List AV)
 | []=>Y []
 |.val v::r=>(sZ r).map (v::·)
 |_::_=>X
def Sw (op:BinOp)(x y:Int):Option Bool:=
 match op with
 |.eql=>Y (x==y)
 |.neq=>Y (x != y)
 |.lss=>Y (decide (x<y))
 |.leq=>Y (decide (x<=y))
 |.gtr=>Y (decide (x>y))
 |.geq=>Y (decide (x≥y))
 |_=>X
def arI (op:BinOp)(k:IntKind)(x y:Int):Option Int:=
 match op with
 |.add=>Y (k.wrap (x+y))
 |.sub=>Y (k.wrap (x-y))
 |.mul=>Y (k.wrap (x*y))
 |_=>X
def Cm:AC->Option (Bool×IntKind×Int)
 |.int k n=>Y (I,k,n)
 |.sint k n=>Y (J,k,n)
 |_=>X
def Pm (s:Bool)(k:IntKind)(n:Int):AC:=bif s then .int k n else .sint k n
def mkB (s:Bool)(b:Bool):AC:=bif s then .bool b else .sbool b
def Lc (op:BinOp)(s:Bool)(k:IntKind)(x y:Int):Option AC:=
 match Sw op x y with
 |some t=>Y (mkB s t)
 |none=>match arI op k x y with
  |some n=>Y (Pm s k n)
  |none=>X
def oB (P:Program)(t:TypeId):Bool:=match P.underlying t with|some (.pointer _)=>I|_=>J
def Lk (op:BinOp)(s:Bool)(k:IntKind)(x y:Int):Option AC:=
 match op with
 |.quo=>Y (Pm s k (k.wrap (x.tdiv y)))
 |.rem=>Y (Pm s k (x.tmod y))
 |_=>X
def Hb (op:BinOp)(t:Bool):Option AC:=
 match op with
 |.eql=>Y (.bool t)
 |.neq=>Y (.bool !t)
 |_=>X
def Ni (op:BinOp)(a b:ByteArray):Option AC:=
 match op with
 |.eql=>Y (.sbool (a.toList==b.toList))
 |.neq=>Y (.sbool !(a.toList==b.toList))
 |_=>X
def nK (P:Program)(t:TypeId):Bool:=match P.underlying t with|some .bool=>I|_=>J
def wZ:AC->Option (Bool×Bool)
 |.bool b=>Y (I,b)
 |.sbool b=>Y (J,b)
 |_=>X
def Bn (op:BinOp)(s:Bool)(x y:Bool):Option AC:=
 match op with
 |.eql=>Y (mkB s (x==y))
 |.neq=>Y (mkB s !(x==y))
 |_=>X
def Ss (P:Program)(op:BinOp)(t:TypeId)(a b:AC):Option AC:=
 match a,b with
 |.ptr _ _,.lit (.pointer X)=>bif oB P t then Hb op J else X
 |.lit (.pointer X),.lit (.pointer X)=>bif oB P t then Hb op I else X
 |.lit (.string x),.lit (.string y)=>Ni op x y
 |a,b=>match wZ a with
  |some (s,x)=>(wZ b).bind λ(d,y)=>bif nK P t then Bn op (s&&d) x y else X
  |none=>(Cm a).bind λ(s,k,x)=>(Cm b).bind λ(d,e,y)=>if k=e then(match Lc op (s&&d) k x y with|some c=>Y c|none=>bif d&&!(y==0)then Lk op (s&&d) k x y else X)else X
def De (P:Program)(t:TypeId)(cs:List AC)(a:Nat):Option AV:=
 (wY P t).bind λg=>bif g then(iP P t).map λn=>.agg ((cs.drop a).take n)else(cs[a]?).map .one
def Ct (P:Program)(t:TypeId)(cs:List AC)(a:Nat):Option AV:=
 (wY P t).bind λg=>bif g then(iP P t).bind λn=>bif u7 (a+n) cs.length then Y (.agg ((cs.drop a).take n))else X else(cs[a]?).map .one
def wG (P:Program)(t:TypeId)(cs:List AC)(a:Nat)(v:AV):Option (List AC):=
 (iP P t).bind λn=>bif (cellsOf v).length==n&&u7 (a+n) cs.length then Y (cs.take a++cellsOf v++cs.drop (a+n))else X
def fieldsOf (P:Program)(t:TypeId):Option (Array Field):=match P.underlying t with|some (.struct a)=>Y a|_=>X
def nI (P:Program)(t:TypeId):Option (Nat×TypeId):=match P.underlying t with|some (.array n e)=>Y (n,e)|_=>X
def cT (P:Program)(t:TypeId):Option TypeId:=match P.underlying t with|some (.slice e)=>Y e|_=>X
def mO (place:LI)(cells:List AC):List (Nat×AV)->Option (List AC)
 | []=>Y cells
 |(i,v)::rest=>(place i).bind λ(a,size)=>
  bif (cellsOf v).length==size&&u7 (a+size) cells.length then mO place (cells.take a++cellsOf v++cells.drop (a+size)) rest else X
def jR:List (Nat×AT)->Option (List (Nat×AV))
 | []=>Y []
 |(i,.val v)::r=>(jR r).map ((i,v)::·)
 |_::_=>X
def Dm (a:List AC)(n:Nat):List AC:=(p6 n).map λi=>a.getD (i%a.length) .any
def gB {c d:Type}(f:c->Option d):List c->Option (List d)
 | []=>Y []
 |a::e=>(f a).bind λb=>(gB f e).map (b::·)
def mF (P:Program)(t:TypeId):Option (List AC):=
 ((P.info? t).bind (·.zero)).bind λv=>bif v.cells.toList.all A0 then Y (v.cells.toList.map xK)else X
def rowOf (c:Nat->Option bH)(e:TypeId)(size:Nat):AT->Option (Option Nat×List AC×Nat)
 |.val (.one (.lit (.slice X 0 0)))=>Y (X,[],0)
 |.val (.one (.slc b a len d))=>(c b).bind λB=>bif a==0&&d==size&&B.ty==e&&B.cs.length==len*size then Y (Y b,B.cs,len)else X
 |_=>X
def kG (a:Nat->Option bH):Option Nat->Bool
 |none=>I
 |some b=>match a b with|some B=>B.tip|none=>J
def evalOp (P:Program)(d:Operand->AT)(m:Nat->Option bH):Op->Option fK
 |.move x=>Y (.val (d x) [])
 |.assign x=>Y (.val (d x) [])
 |.pick c a b=>(eL (d c)).bind fun
   |.bool t=>Y (.val (bif t then d a else d b) [])
   |.sbool t=>match d a,d b with
    |.val (.one (.bool x)),.val (.one (.bool y))=>Y (.val (.val (.one (.sbool (bif t then x else y)))) [])
    |.val (.one (.bool x)),.val (.one (.sbool y))=>Y (.val (.val (.one (.sbool (bif t then x else y)))) [])
    |.val (.one (.sbool x)),.val (.one (.bool y))=>Y (.val (.val (.one (.sbool (bif t then x else y)))) [])
    |.val (.one (.sbool x)),.val (.one (.sbool y))=>Y (.val (.val (.one (.sbool (bif t then x else y)))) [])
    |.lU c (.one (.sbool x)),.val (.one (.bool y))=>Y (.val (.val (.one (.sbool (bif t then x else y)))) [t=I->c=I])
    |.val (.one (.bool x)),.lU c (.one (.sbool y))=>Y (.val (.val (.one (.sbool (bif t then x else y)))) [t=J->c=I])
    |.lU c (.one (.sbool x)),.val (.one (.sbool y))=>Y (.val (.val (.one (.sbool (bif t then x else y)))) [t=I->c=I])
    |.val (.one (.sbool x)),.lU c (.one (.sbool y))=>Y (.val (.val (.one (.sbool (bif t then x else y)))) [t=J->c=I])
    |_,_=>X
   |_=>X
 |.alloc t=>(mF P t).map λcs=>.new cs t X
 |.box t x=>(Lb (d x)).map λv=>.new (cellsOf v) t X
 |.build t h=>(mF P t).bind λzero=>(jR (h.toList.map λ(i,x)=>(i,d x))).bind λq=>
   (match P.underlying t with
    |some (.struct p)=>(gB (λ(f:Field)=>(iP P f.type).map λn=>(f.offset,n)) p.toList).bind λj=>mO (λi=>j[i]?) zero q
    |some (.array _ e)=>(iP P e).bind λn=>mO (λi=>Y (i*n,n)) zero q
    |_=>X).map λcs=>.val (.val (.agg cs)) []
 |.buildSlice t len h=>(cT P t).bind λe=>(iP P e).bind λsize=>(mF P e).bind λzero=>
   bif u7 (len*size) 16777216&&!(zero.length==0)then(jR (h.toList.map λ(i,x)=>(i,d x))).bind λq=>(mO (λi=>Y (i*size,size)) (Dm zero (len*size)) q).map λcs=>.new cs e (Y (len,size))else X
 |.convert w u x=>(eL (d x)).bind λc=>(Cm c).bind λ(s,_,n)=>(P.underlying w).bind λ_=>match P.underlying u with
   |some (.int k)=>Y (.val (.val (.one (Pm s k (k.wrap n)))) [])
   |_=>X
 |.load t a=>(eL (d a)).bind fun
   |.ptr b g=>(m b).bind λB=>(Ct P t B.cs g).map λv=>.val (.val v) []
   |_=>X
 |.store t a x=>(eL (d a)).bind fun
   |.ptr b g=>(Lb (d x)).bind λv=>(m b).bind λB=>bif B.ro then X else(wG P t B.cs g v).map λcs=>.mU b cs
   |_=>X
 |.nilCheck x=>(eL (d x)).bind fun
   |.ptr b g=>Y (.val (.val (.one (.ptr b g))) [])
   |_=>X
 |.binOp op t x y _=>(eL (d x)).bind λa=>(eL (d y)).bind λb=>(Ss P op t a b).map λc=>.val (.val (.one c)) []
 |.unOp .not _ x=>(eL (d x)).bind fun
   |.bool b=>Y (.val (.val (.one (.bool !b))) [])
   |.sbool b=>Y (.val (.val (.one (.sbool !b))) [])
   |_=>X
 |.unOp .neg _ x=>(eL (d x)).bind λc=>(Cm c).map λ(s,k,n)=>.val (.val (.one (Pm s k (k.wrap (0-n))))) []
 |.fieldAddr t x f=>(eL (d x)).bind fun
   |.ptr b g=>(fieldsOf P t).bind λp=>(p[f]?).bind λo=>(iP P o.type).bind λn=>bif n==0 then X else Y (.val (.val (.one (.ptr b (g+o.offset)))) [])
   |_=>X
 |.field t x f=>(Lb (d x)).bind fun
   |.agg cs=>(fieldsOf P t).bind λp=>(p[f]?).bind λo=>(De P o.type cs o.offset).map λv=>.val (.val v) []
   |_=>X
 |.indexAddr t x i=>(eL (d i)).bind fun
   |.int _ n=>(eL (d x)).bind fun
    |.ptr b g=>(nI P t).bind λ(len,e)=>(iP P e).bind λl=>bif decide (0<=n)&&decide (n<len)then Y (.val (.val (.one (.ptr b (g+n.toNat*l)))) [])else X
    |.slc b g len _=>(cT P t).bind λe=>(iP P e).bind λl=>bif decide (0<=n)&&decide (n<len)then Y (.val (.val (.one (.ptr b (g+n.toNat*l)))) [])else X
    |.dsl b r len size=>(cT P t).bind λe=>(iP P e).bind λl=>bif l==size then Y (.val (.val (.one (.ptr b 0))) [n=(r:Int)/\r<len])else X
    |_=>X
   |.sint _ n=>(eL (d x)).bind fun
    |.dsl b r len size=>(cT P t).bind λe=>(iP P e).bind λl=>bif l==size then Y (.val (.val (.one (.ptr b 0))) [n=(r:Int)/\r<len])else X
    |_=>X
   |_=>X
 |.index t x i=>(eL (d i)).bind fun
   |.int _ n=>(Lb (d x)).bind fun
    |.agg cs=>(nI P t).bind λ(len,e)=>(iP P e).bind λl=>bif decide (0<=n)&&decide (n<len)then(De P e cs (n.toNat*l)).map λv=>.val (.val v) []else X
    |_=>X
   |_=>X
 |.extract x i=>match d x with
   |.tup z=>(z[i]?).map λv=>.val (.val v) []
   |_=>X
 |.call { callee:=.builtin .len,args:=args,argTypes:=ts}=>match ts.toList,args.toList with
   | [t],[x]=>(eL (d x)).bind fun
    |.slc _ _ len _=>(cT P t).map λ_=>.val (.val (.one (.int .i64 len))) []
    |.dsl _ _ len _=>(cT P t).map λ_=>.val (.val (.one (.sint .i64 len))) []
    |.lit v=>bif Hc v then(cT P t).map λ_=>.val (.val (.one (.int .i64 0))) []else X
    |_=>X
   |_,_=>X
 |.call { callee:=.builtin .append,args:=args,argTypes:=ts}=>match ts.toList,args.toList with
   | [t,C],[s,x]=>(cT P t).bind λe=>(cT P C).bind λ_=>(iP P e).bind λsize=>(P.info? e).bind λi=>(mF P e).bind λzero=>(rowOf m e size (d s)).bind λ(old,cs,len)=>(rowOf m e size (d x)).bind λ(_,A,n)=>
     bif u7 (len+n) 100&&u7 i.bytes 1000000&&!(n==0)&&!(size==0)&&zero.length==size&&kG m old then Y (.app old (cs++A) e (len+n) size)else X
   |_,_=>X
 |.call { callee:=.value (.func f),args:=args,..}=>(sZ (args.toList.map d)).map λz=>.call f z
 |_=>X
def Mj (id:Nat):Option (Nat×Nat)->AC
 |none=>.ptr id 0
 |some (n,size)=>.slc id 0 n size
def zL (k:Nat):Option (Nat×Nat)->Value
 |none=>.pointer (Y ⟨k,0,X⟩)
 |some (n,_)=>.slice (Y ⟨k,0,X⟩) n n
def wL (C:eQ)(φ:LI)(ν:LV)(w:World)(l:Nat->Option bH)(r:Result Next):fK->Prop
 |.val t p=>Holds p->∃v,r=.ok (.value v) w/\relT C φ ν w t v
 |.new cs ty sl=>∃j:PH,r=.ok (.value (zL w.heap.size sl)) {w with heap:=w.heap.push (.cells j.toArray ty)}/\aD (relC C φ ν w) cs j/\(∀n size,sl=Y (n,size)->j.length=n*size)
 |.mU b cs=>∃B k o i c g a h,l b=Y B/\B.ro=J/\φ b=Y (k,o)/\r=.ok .skip i/\dW w i k (c++h++a) B.ty/\w.heap[k]?=Y (.cells (c++g++a).toArray B.ty (0,0))/\c.length=o/\g.length=h.length/\aD (relC C φ ν w) cs h/\cs.length=B.cs.length
 |.call f m=>∃j:PH,r=.ok (.enter f j.toArray) w/\aD (dJ C φ ν w) m j
 |.app old cs ty len size=>∃v i e,r=.ok (.value v) i/\len<=e/\kG l old=I/\
   ((∃ h a:PH,i={w with heap:=w.heap.push (.cells (h++a).toArray ty),drawn:=w.drawn+1}/\v=.slice (Y ⟨w.heap.size,0,X⟩) len e/\aD (relC C φ ν w) cs h/\e*size<=h.length+a.length)\/
    (∃ b B k o,∃ c g a new d:PH,old=Y b/\l b=Y B/\B.ty=ty/\φ b=Y (k,o)/\v=.slice (Y ⟨k,o,X⟩) len e/\w.heap[k]?=Y (.cells (c++g++a).toArray ty (0,0))/\c.length=o/\aD (relC C φ ν w) B.cs g/\
     dW w i k (c++(g++new)++d) ty/\new.length+d.length=a.length/\aD (relC C φ ν w) cs (g++new)/\o+e*size<=(c++(g++new)++d).length))
section
variable {C:eQ} {φ:LI} {ν:LV} {w:World} {ρ:Operand->Value} {ev:Operand->AT} {bx:Nat->Option bH}
theorem aK {c d:Type}{x:Option c}{f:c->Option d}{b:d}(h:x.bind f=Y b):∃a,x=Y a/\f a=Y b:=Option.bind_eq_some_iff.1 h
theorem bI {c d:Type}{x:Option c}{f:c->d}{b:d}(h:x.map f=Y b):∃a,x=Y a/\f a=b:=Option.map_eq_some_iff.1 h
variable {c:AC}
theorem pY {t:AT}(h:eL t=Y c):t=.val (.one c):=by
 unfold eL at h;grind
theorem Ef {t:AT}{v:AV}(h:Lb t=Y v):t=.val v:=by
 unfold Lb at h;grind
def yE (C:eQ)(φ:LI)(ν:LV)(w:World)(bx:Nat->Option bH):Prop:=
 ∀b B,bx b=Y B->∃k o,∃c d a:PH,φ b=Y (k,o)/\w.heap[k]?=Y (.cells (c++d++a).toArray B.ty (0,0))/\c.length=o/\aD (relC C φ ν w) B.cs d
variable {s:Bool}{k:IntKind}
theorem Yx {n:Int}{x:Value}(h:Cm c=Y (s,k,n))(r:relC C φ ν w c x):x=.int k n:=by
 cases c<;>obtain⟨rfl,rfl,rfl⟩:=h<;>exact r
theorem Za (s:Bool)(k:IntKind)(n:Int):relC C φ ν w (Pm s k n) (.int k n):=by cases s<;>rfl
theorem aJ3 (s:Bool)(b:Bool):relC C φ ν w (mkB s b) (.bool b):=by cases s<;>rfl
variable {op:BinOp}{t:TypeId}
theorem aTS {x b:Int}(h:Lc op s k x b=Y c):∃v,(binOp op t (.int k x) (.int k b)).run C.P w=.ok v w/\relC C φ ν w c v:=by
 unfold Lc at h
 cases op<;>simp[Sw,arI]at h<;>subst h<;>first
  |(refine⟨_,?_,aJ3 _ _⟩;simp[binOp,Op.intCmp])
  |(refine⟨_,?_,Za _ _ _⟩;simp[binOp,Op.intArith])
theorem aUg {x b:Int}(a:b≠0)(h:Lk op s k x b=Y c):∃v,(binOp op t (.int k x) (.int k b)).run C.P w=.ok v w/\relC C φ ν w c v:=by
 unfold Lk at h
 cases op<;>simp at h<;>subst h<;>(refine⟨_,?_,Za _ _ _⟩;simp[binOp,Op.intDiv,a])
theorem aRB (h:oB C.P t=I):∃e,C.P.underlying t=Y (.pointer e):=by
 unfold oB at h;grind
theorem aTb {e:TypeId}(h:C.P.underlying t=Y (.pointer e))(a:Option Addr):(A9 t (.pointer a) (.pointer X)).run C.P w=.ok a.isNone w:=by
 unfold A9;rw[show B7=9999+1 from rfl];unfold B8;simp only[underlying,A7,run_program,Result.andThen_ok,h,A8]
 cases a<;>simp
variable {y:Operand}
theorem aPh {a:Option Addr}{x:Operand}(b:oB C.P t=I)(h:Hb op a.isNone=Y c):∃v,(do eqGuard op t x y (.pointer a) (.pointer X);binOp op t (.pointer a) (.pointer X):Sem Value).run C.P w=.ok v w/\relC C φ ν w c v:=by
 have⟨e,he⟩:=aRB b;unfold Hb at h
 cases op<;>simp at h<;>subst h
 .exact⟨.bool a.isNone,by simp[eqGuard,binOp,aTb he],rfl⟩
 .exact⟨.bool !a.isNone,by simp[eqGuard,binOp,aTb he],by cases a<;>rfl⟩
theorem aKO {b:Bool}{x:Value}(h:wZ c=Y (s,b))(r:relC C φ ν w c x):x=.bool b:=by
 cases c<;>obtain⟨rfl,rfl⟩:=h<;>exact r
variable {x:Operand}
theorem aQ4 {a b:Bool}(f:nK C.P t=I)(h:Bn op s a b=Y c):∃v,(do eqGuard op t x y (.bool a) (.bool b);binOp op t (.bool a) (.bool b):Sem Value).run C.P w=.ok v w/\relC C φ ν w c v:=by
 have e:C.P.underlying t=Y .bool:=by
  unfold nK at f;grind
 have d:(A9 t (.bool a) (.bool b)).run C.P w=.ok (a==b) w:=by
  unfold A9;rw[show B7=9999+1 from rfl];unfold B8;simp only[underlying,A7,run_program,Result.andThen_ok,e,A8]
 unfold Bn at h
 cases op<;>simp at h<;>subst h
 .exact⟨.bool (a==b),by simp[eqGuard,binOp,d],aJ3 _ _⟩
 .exact⟨.bool !(a==b),by simp[eqGuard,binOp,d],aJ3 _ _⟩
theorem aVv {a b:ByteArray}(h:Ni op a b=Y c):∃v,(do eqGuard op t x y (.string a) (.string b);binOp op t (.string a) (.string b):Sem Value).run C.P w=.ok v w/\relC C φ ν w c v:=by
 unfold Ni at h
 cases op<;>simp at h<;>subst h
 .exact⟨.bool (a.toList==b.toList),by simp[eqGuard,binOp,B9],rfl⟩
 .exact⟨.bool !(a.toList==b.toList),by simp[eqGuard,binOp,B9],rfl⟩
theorem eqG {l:IntKind}{a b:Int}:(eqGuard op t x y (.int k a) (.int l b)).run C.P w=.ok () w:=by
 unfold eqGuard;simp
theorem Xd {place:LI}:∀{m:List (Nat×AV)} {o:List (Nat×Value)} {cs g:List AC} {cells:PH},mO place cs m=Y g->aD (relC C φ ν w) cs cells->aD (λp x=>p.1=x.1/\dJ C φ ν w p.2 x.2) m o->
  ∃out:PH,Instr.fill place cells.toArray o=Y out.toArray/\aD (relC C φ ν w) g out
 | [],[],cs,g,cells,h,hc,_=>by
  simp[mO]at h;subst h;exact⟨cells,by simp[Instr.fill],hc⟩
 |(i,v)::m,(j,x)::o,cs,g,cells,h,hc,⟨⟨e,hv⟩,q⟩=>by
  subst e;have⟨⟨off,size⟩,h1,b⟩:=aK h;simp only at b
  cases f:((cellsOf v).length==size&&u7 (off+size) cs.length)with
  |false=>rw[f]at b;cases b
  |true=>
   rw[f]at b;simp at f;have⟨hb1,hb2⟩:=f;have s:=hc.len;have c:=aFF hv;have d:=c.len;simp at d;have⟨out,k1,k2⟩:=Xd b ((aD.append (aD.append (hc.take off) c) (hc.drop _))) q;refine⟨out,?_,k2⟩;unfold Instr.fill;simp only[h1];rw[if_neg (by simp;omega)];rw[<-k1]
   have k:∀(l:PH) (n:Nat) (a:Array Value),((l.zipIdx n).foldl (λcs (p:Value×Nat)=>cs.setIfInBounds (off+p.2) p.1) a).toList=gM a.toList (off+n) l:=by
    intro l
    induction l with
    |nil=>intro n a;simp[gM]
    |cons y l r=>intro n a;simp only[List.zipIdx_cons,List.foldl_cons,gM];rw[r];simp[u6]
   have:=k x.cells.toList 0 cells.toArray;simp at this;rw[Re _ _ _ (by simp;omega)]at this;simp only[C3]at this;rw[<-d,hb1]at this;rw[<-this,<-Array.toList_zipIdx,Array.foldl_toList]
 | [],_::_,_,_,_,_,_,h=>h.elim
 |_::_,[],_,_,_,_,_,h=>h.elim
theorem aR6 {a:List AC}{b:Array Value}(h:aD (relC C φ ν w) a b.toList)(d:a.length≠0)(n:Nat):aD (relC C φ ν w) (Dm a n) ((C4 n).map (b[·%b.size]!)).toList:=by
 have c:=h.len;simp at c
 have e:((C4 n).map (b[·%b.size]!)).toList=(p6 n).map (b[·%b.size]!):=E4
 rw[e]
 refine aD.map _ λi _=>?_
 have hi:i%a.length<a.length:=Nat.mod_lt _ O;have⟨x,h1,h2⟩:=h.at (j9 hi);grind
variable {c b:PH}
theorem aLM {w k:Nat}(h:w+k<=c.length):((a++c++b).drop (a.length+w)).take k=(c.drop w).take k:=by
 rw[p8,q8,q9 (by omega:a.length<=a.length+w),r5,show a.length+w-a.length=w by omega,r7 O,r8 (by rw[List.length_drop];omega)]
theorem aP7 {pre post:PH}{w:Nat}{x:Value}(h:a[w]?=Y x):(pre++a++post)[pre.length+w]?=Y x:=by
 grind
theorem aM9 {d:PH}{w:Nat}(h:w+c.length<=d.length):gM (a++d++b) (a.length+w) c=a++(d.take w++c++d.drop (w+c.length))++b:=by
 rw[Re _ _ _ (by simp;omega)]
 have e1:(a++d++b).take (a.length+w)=a++d.take w:=by
  rw[p8,List.take_append,o9 O,show a.length+w-a.length=w by omega,r8 O]
 have e2:(a++d++b).drop (a.length+w+c.length)=d.drop (w+c.length)++b:=by
  rw[p8,q8,q9 O,r5,show a.length+w+c.length-a.length=w+c.length by omega,r7 O]
 simp_all
theorem Ql {cs:List AC}(h:aD (relC C φ ν w) cs a):∀y∈a,One y:=by
 intro y c;have⟨i,hi,e⟩:=List.getElem_of_mem c
 have b:i<cs.length:=by rw[h.len];exact hi
 have⟨y',e1,e2⟩:=h.at (j9 b);rw[j9 hi,e]at e1;cases e1;exact aHN e2
end
end Ab
end Go.Proofs.YtnlddnbfoehboaaGreatDoor
