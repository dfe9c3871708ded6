import Derived.Test.YteghhlfmcjmnoaaGreatDoorCKn07
import Derived.Test.YteghhlfmcjmnoaaGreatDoorCKn05
import Derived.Test.YteghhlfmcjmnoaaGreatDoorCKn04
set_option linter.unusedSimpArgs false
set_option linter.unusedVariables false
set_option maxRecDepth 100000
set_option maxHeartbeats 2000000
namespace Go.Proofs.YteghhlfmcjmnoaaGreatDoor
open Go.RowKit
structure SetW (W U:World) (s:Nat) (p q:Value):Prop where
 blk:U.heap[s]?=some (.cells #[p,q] 80 (0,0))
 oth:∀ k,k≠s->U.heap[k]?=W.heap[k]?
 size:U.heap.size=W.heap.size
 num:∀ z v,WhoAt W z v->WhoAt U z v
 below:∀ B w0,Below B w0 W->B<=s->Below B w0 U
theorem setw {W U:World}{s:Nat}{x y p q:Value}(b:U=(W.setCell ⟨s,0,none⟩ p).setCell ⟨s,1,none⟩ q)(k:W.heap[s]?=some (.cells #[x,y] 80 (0,0))):SetW W U s p q:=by
 subst b;refine ⟨?_,?_,by simp,fun z v h=>(h.other k (by decide) _).other (aAS k (o:=0) _) (by decide) _,fun B w0 h hB=>(h.setCell hB _).setCell hB _⟩
 ·rw [aAS (aAS k (o:=0) p) (o:=1) q];rfl
 ·intro j a;rw [Below.heap_setCell _ _ _ _ a,Below.heap_setCell _ _ _ _ a]
def box4 (w:World)(a b c d:Value):World:=(boxw w a b c d).alloc (.cells #[.bool false,.slice none 0 0] 80)
theorem aB9 (w:World)(a b c d:Value):Below w.heap.size w (box4 w a b c d):=belowW (aAn w a b c d) (aAn w a b c d).size _
theorem aBq (w:World)(a b c d:Value):(box4 w a b c d).heap.size=w.heap.size+4:=by rw [box4,World.size_alloc,aAD]
theorem aI6 (w:World)(a b c d:Value):(box4 w a b c d).heap[w.heap.size]?=some (.cells #[a,b] 80 (0,0)):=aBK _ (aCx w a b c d)
theorem aI7 (w:World)(a b c d:Value):(box4 w a b c d).heap[w.heap.size+1]?=some (.cells #[c,d] 80 (0,0)):=aBK _ (aCe w a b c d)
theorem aI8 (w:World)(a b c d:Value):(box4 w a b c d).heap[w.heap.size+2]?=some (.cells #[.bool false,.slice none 0 0] 80 (0,0)):=aBK _ (aBc w a b c d)
theorem aI9 (w:World)(a b c d:Value):(box4 w a b c d).heap[w.heap.size+3]?=some (.cells #[.bool false,.slice none 0 0] 80 (0,0)):=by
 have:=aBE (boxw w a b c d) (.cells #[.bool false,.slice none 0 0] 80);rw [aAD] at this;exact this
structure Fin4 (w U:World) (s:Nat) (x y:Int) (p q r t:Value):Prop where
 c0:((((U.setCell ⟨s,0,none⟩ p).setCell ⟨s,1,none⟩ q).setCell ⟨s+1,0,none⟩ r).setCell ⟨s+1,1,none⟩ t).cell? ⟨s,0,none⟩=some p
 c1:((((U.setCell ⟨s,0,none⟩ p).setCell ⟨s,1,none⟩ q).setCell ⟨s+1,0,none⟩ r).setCell ⟨s+1,1,none⟩ t).cell? ⟨s,1,none⟩=some q
 c2:((((U.setCell ⟨s,0,none⟩ p).setCell ⟨s,1,none⟩ q).setCell ⟨s+1,0,none⟩ r).setCell ⟨s+1,1,none⟩ t).cell? ⟨s+1,0,none⟩=some r
 c3:((((U.setCell ⟨s,0,none⟩ p).setCell ⟨s,1,none⟩ q).setCell ⟨s+1,0,none⟩ r).setCell ⟨s+1,1,none⟩ t).cell? ⟨s+1,1,none⟩=some t
 f0:U.frozen? ⟨s,0,none⟩=false
 f1:U.frozen? ⟨s,1,none⟩=false
 f2:U.frozen? ⟨s+1,0,none⟩=false
 f3:U.frozen? ⟨s+1,1,none⟩=false
 d0:∃ v,U.cell? ⟨s,0,none⟩=some v
 a:WhoAt ((((U.setCell ⟨s,0,none⟩ p).setCell ⟨s,1,none⟩ q).setCell ⟨s+1,0,none⟩ r).setCell ⟨s+1,1,none⟩ t) x (.agg #[p,q])
 b:WhoAt ((((U.setCell ⟨s,0,none⟩ p).setCell ⟨s,1,none⟩ q).setCell ⟨s+1,0,none⟩ r).setCell ⟨s+1,1,none⟩ t) y (.agg #[r,t])
 below:Below w.heap.size w ((((U.setCell ⟨s,0,none⟩ p).setCell ⟨s,1,none⟩ q).setCell ⟨s+1,0,none⟩ r).setCell ⟨s+1,1,none⟩ t)
theorem fin4 {w U:World}{s:Nat}{x y:Int}{p q r t m n d n':Value}(a:U.heap[s]?=some (.cells #[m,n] 80 (0,0)))(b:U.heap[s+1]?=some (.cells #[d,n'] 80 (0,0)))(e:WhoAt U x (.agg #[p,q]))(f:WhoAt U y (.agg #[r,t]))(g:Below w.heap.size w U)(hs:w.heap.size<=s):Fin4 w U s x y p q r t:=by
 have S:=setw (U:=(U.setCell ⟨s,0,none⟩ p).setCell ⟨s,1,none⟩ q) rfl a;have T:=setw (p:=r) (q:=t) rfl ((S.oth (s+1) (by omega)).trans b);have c:=(T.oth s (by omega)).trans S.blk;exact ⟨aAa c rfl,aAa c rfl,aAa T.blk rfl,aAa T.blk rfl,aAb a,aAb a,aAb b,aAb b,⟨_,aAa a rfl⟩,T.num _ _ (S.num _ _ e),T.num _ _ (S.num _ _ f),T.below _ _ (S.below _ _ g hs) (by omega)⟩
def QuoPost (w:World)(x y:Int):Ending->World->Prop:=fun e w'=>∃ qv rv,e=.returned (.tuple #[qv,rv])/\WhoAt w' (x/y) qv/\WhoAt w' (x%y) rv/\Below w.heap.size w w'
theorem aDw (w:World)(x y:Int)(u v:Value)(n:Nat)(hx:WhoAt w x u)(hy:WhoAt w y v)(bx:x.natAbs<2^n)(bY:y.natAbs<2^n)(hn:n<=1000000000)(ae:0<y):Calls Tryz.prog 73 #[u,v] w (QuoPost w x y):=by
 obtain ⟨a,ao,dm,rfl,hI,hg,hv⟩:=hx.open;obtain ⟨b,bo,dp,rfl,hJ,hh,hu⟩:=hy.open;have hl:=aBk hg hv bx;have hk:=aBk hh hu bY
 have a8:0<b.length:=by
  have:=aDY hh hu
  rcases Nat.eq_zero_or_pos b.length with h | h
  ·have:=this.1 (List.eq_nil_of_length_eq_zero h);omega
  ·exact h
 have SG:=hid (fun W hW=>aDZ W y _ (hy.below hW));rw [Nm.aAt ae] at SG
 have P:Nm.val 4294967296 b=y:=by omega
 have DL:=hid (fun W hW=>aE2 W a b _ _ (hI.below hW) (hJ.below hW) (by omega) (by omega) hg hh a8);rw [hv,P] at DL;have HJ:=hid hJ;have HH:=hid hh;have HU:=hid P;rw [decide_eq_false (show ¬y<0 by omega)] at*;have BX:=hid bx;clear hI hJ hg hh hu P hx hy bx bY
 by_cases a2:x<0
 ·rw [decide_eq_true a2]
  go_enter Tryz.func73,Tryz.ntmps73
  go_wp2_with fail
  refine (SG.out _ (aB9 w _ _ _ _)).mono ?_;rintro e w1 ⟨rfl,f⟩;have S:=f.size;rw [aBq] at S;have B1:=(aB9 w _ _ _ _).trans (f.mono (aB9 w _ _ _ _).size);have k0:=newW (by rw [aBq];omega) (aI6 _ _ _ _ _) f;have k1:=newW (by rw [aBq];omega) (aI7 _ _ _ _ _) f;have K2:=hid (newW (by rw [aBq];omega) (aI8 _ _ _ _ _) f);have K3:=hid (newW (by rw [aBq];omega) (aI9 _ _ _ _ _) f);have y0:=aAa (o:=0) k0 rfl;have y1:=aAa (o:=1) k0 rfl;have y2:=aAa (o:=0) k1 rfl;have y3:=aAa (o:=1) k1 rfl;have DD:=hid (DL.out w1 B1);have j:=hid B1;clear f SG
  go_wp2_with fail
  refine (DD.out).mono ?_;rintro e J ⟨qv,rv,Q,R,rfl,A,M,N,O,B,C,g⟩;have bc:=g.size;obtain ⟨qo,qc,rfl,_⟩:=A.shape;obtain ⟨ro,rc,rfl,_⟩:=M.shape;have z0:=(g.cell (p:=⟨w.heap.size,0,none⟩) (by simp only;omega)).trans y0;have z3:=(g.cell (p:=⟨w.heap.size+1,1,none⟩) (by simp only;omega)).trans y3;have B2:=j.out.trans (g.mono j.out.size);have T:=Nm.aCs (by decide) O;have U:=Nm.aBJ (by decide) O.dig;have q:=Int.emod_lt_of_pos ((x.natAbs:Nat):Int) ae;have r:=Int.emod_add_mul_ediv ((x.natAbs:Nat):Int) y;have X:0<=((x.natAbs:Nat):Int)/y:=Int.ediv_nonneg (by omega) (by omega);have i:=Nm.aLU ae (show ((x.natAbs:Nat):Int)=((x.natAbs:Nat):Int)/y*y+((x.natAbs:Nat):Int)%y by rw [Int.mul_comm];omega) (by omega) q;rw [show -((x.natAbs:Nat):Int)=x by omega] at i;have s:=Int.emod_add_mul_ediv x y
  by_cases ad:R=[]
  ·subst ad
   have e0:((x.natAbs:Nat):Int)%y=0:=by rw [<-C];rfl
   rw [if_pos e0] at i
   have bd:((x.natAbs:Nat):Int)/y≠0:=by intro e;rw [e] at r;omega
   have E:WhoAt J (x/y) (.agg #[.bool true,.slice qo Q.length qc]):=aBZ A N (by rw [B,i];omega) (by rw [i];symm;simp;omega)
   have H:WhoAt J (x%y) (.agg #[.bool false,.slice none 0 0]):=by
    have:x%y=0:=by rw [i,Int.mul_neg] at s;omega
    rw [this];exact aGU J
   have I:=B2;have k:=g;have c:=newW (by omega) K2.out k;have d:=newW (by omega) K3.out k;have s0:=aAa (o:=0) c rfl;have s1:=aAa (o:=1) c rfl;have s2:=aAa (o:=0) d rfl;have s3:=aAa (o:=1) d rfl;have F:=fin4 c d E H I (by omega);have r0:=F.f0;have r1:=F.f1;have r2:=F.f2;have r3:=F.f3;have q0:=F.c0;have q1:=F.c1;have q2:=F.c2;have q3:=F.c3;have FA:=hid F.a;have FY:=hid F.b;have FB:=hid F.below;clear F E H I c d k;clear bd i s r q X U T N O B C A M B2 g e0
   go_wp2_with fail
   refine bodyPost_ret (v:=.tuple #[.agg #[.bool true,.slice qo Q.length qc],.agg #[.bool false,.slice none 0 0]]) (by simp [results,Tryz.results73,go_sem,q0,q1,q2,q3]) rfl ⟨_,_,rfl,FA.out,FY.out,FB.out⟩
  ·have c8:((R.length:Int)==0)=false:=by
    have:=List.length_pos_iff.2 ad;exact beq_eq_false_iff_ne.2 (by omega)
   have e0:((x.natAbs:Nat):Int)%y≠0:=by rw [<-C];exact fun h=>ad (T.1 h)
   rw [if_neg e0] at i;have LO:=hid (aCg 1 J (by decide) (by decide));have HQ:=hid A;have HR:=hid M;have GQ:=hid N;have GR:=hid O;have VQ:=hid B;have VR:=hid C;have Y:=hid i;have bf:=hid s;have bg:=hid r;have ar:=hid q;have H2:=hid g;have au:=hid B2
   have de:Q.length<=n:=by
    have h1:=Int.ediv_le_self y (show 0<=((x.natAbs:Nat):Int) by omega);have h2:=BX.out;exact aBk (z:=((x.natAbs:Nat):Int)/y) N (by rw [B];omega) (by omega)
   clear A M N O B C i s r q g B2 T
   go_wp2_with fail
   refine (LO.out).mono ?_;rintro e w3 ⟨lv,L,rfl,⟨gL,vL,lL⟩,a1,l⟩;have dg:=l.size;have AD:=hid (aEq w3 Q L _ _ (HQ.out.below l) (a1.weak (Nat.zero_le _)) (by omega) (by omega) GQ.out.dig gL.dig);rw [vL,VQ.out] at AD;have bh:=(l.cell (p:=⟨w.heap.size+1,1,none⟩) (by simp only;omega)).trans z3;have H3:=hid l;clear l a1 gL vL
   go_wp2_with fail
   refine (AD.out).mono ?_;rintro e w4 ⟨fv,FL,rfl,⟨gF,vF⟩,aa,D⟩;have dh:=D.size;obtain ⟨fo,fc,rfl,_⟩:=aa.shape;have z4:=(D.cell (p:=⟨w.heap.size+1,1,none⟩) (by simp only;omega)).trans bh;have t:=hid (H3.out.trans (D.mono H3.out.size))
   have av:Nm.val 4294967296 R<=Nm.val 4294967296 b:=by rw [VR.out,HU.out];have:=ar.out;omega
   have SB:=hid (aAO w4 b R _ _ ((HJ.out.below au.out).below t.out) (HR.out.below t.out) (by omega) (aC8 GR.out HH.out av) HH.out.dig GR.out.dig av);rw [VR.out,HU.out] at SB;have bi:=hid aa;have GF:=hid gF;have VF:=hid vF;clear aa gF vF D
   go_wp2_with fail
   refine (SB.out).mono ?_;rintro e w5 ⟨tv,TL,rfl,⟨gT,vT⟩,ab,m⟩;have dk:=m.size;obtain ⟨a0,tc,rfl,_⟩:=ab.shape;have E:WhoAt w5 (x/y) (.agg #[.bool true,.slice fo FL.length fc]):=aBZ ((bi.out.weak (Nat.zero_le _)).below m) GF.out (by rw [VF.out,Y.out];omega) (by rw [Y.out];symm;simp;omega)
   have H:WhoAt w5 (x%y) (.agg #[.bool false,.slice a0 TL.length tc]):=by
    have h1:=bf.out;have h2:=bg.out;have h3:=ar.out;rw [Y.out,Int.mul_sub,Int.mul_neg,Int.mul_one] at h1;have h5:=VR.out;refine aBZ (ab.weak (Nat.zero_le _)) gT (by rw [vT];omega) (by symm;simp;omega)
   have k:=(H2.out.trans (t.out.mono H2.out.size)).trans (m.mono (show w1.heap.size<=w4.heap.size by omega));have I:=(au.out.trans (t.out.mono (show w.heap.size<=J.heap.size by omega))).trans (m.mono (show w.heap.size<=w4.heap.size by omega));have c:=newW (by omega) K2.out k;have d:=newW (by omega) K3.out k;have s0:=aAa (o:=0) c rfl;have s1:=aAa (o:=1) c rfl;have s2:=aAa (o:=0) d rfl;have s3:=aAa (o:=1) d rfl;have F:=fin4 c d E H I (by omega);have r0:=F.f0;have r1:=F.f1;have r2:=F.f2;have r3:=F.f3;have q0:=F.c0;have q1:=F.c1;have q2:=F.c2;have q3:=F.c3;have FA:=hid F.a;have FY:=hid F.b;have FB:=hid F.below;clear F E H I c d k;clear gT vT ab m
   go_wp2_with fail
   refine bodyPost_ret (v:=.tuple #[.agg #[.bool true,.slice fo FL.length fc],.agg #[.bool false,.slice a0 TL.length tc]]) (by simp [results,Tryz.results73,go_sem,q0,q1,q2,q3]) rfl ⟨_,_,rfl,FA.out,FY.out,FB.out⟩
 ·rw [decide_eq_false a2]
  go_enter Tryz.func73,Tryz.ntmps73
  go_wp2_with fail
  refine (SG.out _ (aB9 w _ _ _ _)).mono ?_;rintro e w1 ⟨rfl,f⟩;have S:=f.size;rw [aBq] at S;have B1:=(aB9 w _ _ _ _).trans (f.mono (aB9 w _ _ _ _).size);have k0:=newW (by rw [aBq];omega) (aI6 _ _ _ _ _) f;have k1:=newW (by rw [aBq];omega) (aI7 _ _ _ _ _) f;have K2:=hid (newW (by rw [aBq];omega) (aI8 _ _ _ _ _) f);have K3:=hid (newW (by rw [aBq];omega) (aI9 _ _ _ _ _) f);have y0:=aAa (o:=0) k0 rfl;have y1:=aAa (o:=1) k0 rfl;have y2:=aAa (o:=0) k1 rfl;have y3:=aAa (o:=1) k1 rfl;have DD:=hid (DL.out w1 B1);have j:=hid B1;clear f SG
  go_wp2_with fail
  refine (DD.out).mono ?_;rintro e J ⟨qv,rv,Q,R,rfl,A,M,N,O,B,C,g⟩;have bc:=g.size;obtain ⟨qo,qc,rfl,_⟩:=A.shape;obtain ⟨ro,rc,rfl,_⟩:=M.shape;have z0:=(g.cell (p:=⟨w.heap.size,0,none⟩) (by simp only;omega)).trans y0;have I:=j.out.trans (g.mono j.out.size);have k:=g;rw [show ((x.natAbs:Nat):Int)=x by omega] at B C;have X:0<=x/y:=Int.ediv_nonneg (by omega) (by omega);have U:0<=x%y:=Int.emod_nonneg _ (by omega);have E:WhoAt J (x/y) (.agg #[.bool false,.slice qo Q.length qc]):=aBZ A N (by rw [B];omega) (by symm;simp;omega);have H:WhoAt J (x%y) (.agg #[.bool false,.slice ro R.length rc]):=aBZ M O (by rw [C];omega) (by symm;simp;omega);have c:=newW (by omega) K2.out k;have d:=newW (by omega) K3.out k;have s0:=aAa (o:=0) c rfl;have s1:=aAa (o:=1) c rfl;have s2:=aAa (o:=0) d rfl;have s3:=aAa (o:=1) d rfl;have F:=fin4 c d E H I (by omega);have r0:=F.f0;have r1:=F.f1;have r2:=F.f2;have r3:=F.f3;have q0:=F.c0;have q1:=F.c1;have q2:=F.c2;have q3:=F.c3;have FA:=hid F.a;have FY:=hid F.b;have FB:=hid F.below;clear F E H I c d k;clear N O B C A M g X U
  go_wp2_with fail
  refine bodyPost_ret (v:=.tuple #[.agg #[.bool false,.slice qo Q.length qc],.agg #[.bool false,.slice ro R.length rc]]) (by simp [results,Tryz.results73,go_sem,q0,q1,q2,q3]) rfl ⟨_,_,rfl,FA.out,FY.out,FB.out⟩
open Go.RowKit
structure GcdW (w:World) (A B C p q:Nat):Prop where
 p:∃ ao n c,w.heap[A]?=some (.cells #[.bool false,.slice ao n c] 80 (0,0))/\WhoAt w p (.agg #[.bool false,.slice ao n c])
 q:∃ ao n c,w.heap[B]?=some (.cells #[.bool false,.slice ao n c] 80 (0,0))/\WhoAt w q (.agg #[.bool false,.slice ao n c])
 r:w.heap[C]?=some (.cells #[.bool false,.slice none 0 0] 80 (0,0))
def gcdWRel (w:World)(A B n x y gk:Nat)(wr:World):Prop:=
 ∃ p q:Nat,gk=q/\GcdW wr A B (w.heap.size+2) p q/\Nat.gcd p q=Nat.gcd x y/\p<2^n/\q<2^n/\Below w.heap.size w wr
theorem GcdW.alloc {w:World}{A B C p q:Nat}(h:GcdW w A B C p q)(o:Obj):GcdW (w.alloc o) A B C p q:=by
 obtain ⟨⟨a,b,c,d,e⟩,⟨f,g,i,j,k⟩,l⟩:=h;exact ⟨⟨a,b,c,aBK o d,e.alloc o⟩,⟨f,g,i,aBK o j,k.alloc o⟩,aBK o l⟩
theorem aDJ {w U:World}{A B n X Y gk:Nat}(h:gcdWRel w A B n X Y gk U)(o:Obj):gcdWRel w A B n X Y gk (U.alloc o):=by
 obtain ⟨p,q,b,c,d,e,f,a⟩:=h;exact ⟨p,q,b,c.alloc o,d,e,f,belowW a a.size o⟩
theorem aN9 {w U:World}{A B n X Y gk Q R:Nat}{x y:Value}{a b:Option Addr}{c d e f:Nat}(g:U.heap[A]?=some (.cells #[.bool false,x] 80 (0,0)))(h:U.heap[B]?=some (.cells #[.bool false,y] 80 (0,0)))(i:U.heap[w.heap.size+2]?=some (.cells #[.bool false,.slice none 0 0] 80 (0,0)))
  (t:w.heap.size+2<A) (u:A<B) (j:WhoAt U Q (.agg #[.bool false,.slice a c d])) (k:WhoAt U R (.agg #[.bool false,.slice b e f])) (l:Below w.heap.size w U) (m:gk=R) (o:Nat.gcd Q R=Nat.gcd X Y) (r:Q<2^n) (s:R<2^n):
  gcdWRel w A B n X Y gk ((((U.setCell ⟨A,0,none⟩ (.bool false)).setCell ⟨A,1,none⟩ (.slice a c d)).setCell ⟨B,0,none⟩ (.bool false)).setCell ⟨B,1,none⟩ (.slice b e f)):=by
 have S:=setw (U:=(U.setCell ⟨A,0,none⟩ (.bool false)).setCell ⟨A,1,none⟩ (.slice a c d)) rfl g;have T:=setw (p:=.bool false) (q:=.slice b e f) rfl ((S.oth B (by omega)).trans h);exact ⟨Q,R,m,⟨⟨_,_,_,(T.oth _ (by omega)).trans S.blk,T.num _ _ (S.num _ _ j)⟩,⟨_,_,_,T.blk,T.num _ _ (S.num _ _ k)⟩,(T.oth _ (by omega)).trans ((S.oth _ (by omega)).trans i)⟩,o,r,s,T.below _ _ (S.below _ _ l (by omega)) (by omega)⟩
theorem aLZ {p q n:Nat}{x y:Nat}(h:Nat.gcd p q=Nat.gcd x y)(b:0<q)(c:q<2^n):Nat.gcd q (p%q)=Nat.gcd x y/\p%q<2^n/\p%q<q:=by
 have a:=Nat.mod_lt p b;refine ⟨?_,by omega,a⟩;rw [<-h,Nat.gcd_comm q,<-Nat.gcd_rec,Nat.gcd_comm]
theorem aIb (w:World)(x y:Int)(na nb:Bool)(ao bo:Option Addr)(la lb cap H n:Nat)(hx:WhoAt w x (.agg #[.bool na,.slice ao la cap]))(hy:WhoAt w y (.agg #[.bool nb,.slice bo lb H]))(bx:x.natAbs<2^n)(bY:y.natAbs<2^n)(hn:n<=1000000000):
  Calls Tryz.prog 138 #[.agg #[.bool na,.slice ao la cap],.agg #[.bool nb,.slice bo lb H]] w (WhoPost w (Nat.gcd x.natAbs y.natAbs:Nat)):=by
 have HY:=hid hy;have BX:=hid bx;have BY:=hid bY;have u:=aAn w (.bool na) (.slice ao la cap) (.bool nb) (.slice bo lb H);have A1:=hid (aFy _ x _ (hx.below u));have I:=hid u;clear hx hy bx bY u
 go_enter Tryz.func138,Tryz.ntmps138
 go_wp2_with fail
 refine (A1.out).mono ?_;rintro e g ⟨v1,rfl,D,l⟩;have ad:=l.size;rw [aAD] at ad;have c:=newW (by rw [aAD];omega) (aCe _ _ _ _ _) l;have K2:=hid (newW (by rw [aAD];omega) (aBc _ _ _ _ _) l);obtain ⟨P,R,S,rfl,_⟩:=D.open;rw [decide_eq_false (show ¬((x.natAbs:Nat):Int)<0 by omega)] at*;have z2:=aAa (o:=0) c rfl;have z3:=aAa (o:=1) c rfl;have B1:=hid (I.out.trans (l.mono I.out.size));have J:=hid D
 have l1:w.heap.size+1<g.heap.size:=by omega
 have A2:=hid (aFy (g.alloc (.cells #[.bool false,.slice R P.length S] 80)) y _ ((HY.out.below B1.out).alloc _));clear l c D A1
 go_wp2_with fail
 refine (A2.out).mono ?_;rintro e i ⟨v3,rfl,E,h⟩;have ae:=h.size;rw [World.size_alloc] at ae;obtain ⟨d3,o3,c3,rfl,_⟩:=E.open;rw [decide_eq_false (show ¬((y.natAbs:Nat):Int)<0 by omega)] at*;have KA:=hid (newW (by rw [World.size_alloc];omega) (aBE g (.cells #[.bool false,.slice R P.length S] 80)) h);have KC:=hid (newW (by rw [World.size_alloc];omega) (aBK (.cells #[.bool false,.slice R P.length S] 80) K2.out) h);have NA:=hid ((J.out.alloc (.cells #[.bool false,.slice R P.length S] 80)).below h);have B3:=hid ((belowW B1.out (by omega) (.cells #[.bool false,.slice R P.length S] 80)).trans (h.mono (by rw [World.size_alloc];omega)))
 have GA:Hid (GcdW (i.alloc (.cells #[.bool false,.slice o3 d3.length c3] 80)) g.heap.size i.heap.size (w.heap.size+2) x.natAbs y.natAbs):=⟨⟨_,_,_,aBK _ KA.out,NA.out.alloc _⟩,⟨_,_,_,aBE i _,E.alloc _⟩,aBK _ KC.out⟩
 have B4:=hid (belowW B3.out (by omega) (.cells #[.bool false,.slice o3 d3.length c3] 80))
 have af:g.heap.size<i.heap.size:=by omega
 clear E h A2 KA KC NA J K2
 go_wp2_with fail
 go_loopg [] y.natAbs (fun gk wr=>gcdWRel w g.heap.size i.heap.size n x.natAbs y.natAbs gk wr)
 case atStart=>exact ⟨x.natAbs,y.natAbs,rfl,GA.out,rfl,BX.out,BY.out,B4.out⟩
 case round=>
  obtain ⟨p,q,T,hG,t,bp,bq,B⟩:=hrel;have ag:=hid T;clear T;obtain ⟨⟨po,pn,pc,j,U⟩,⟨qo,qn,qc,k,C⟩,W⟩:=hG;have hs:=B.size;have a6:=aAL j;have a7:=aAL k;have x0:=aAa (o:=0) j rfl;have x1:=aAa (o:=1) j rfl;have x2:=aAa (o:=0) k rfl;have x3:=aAa (o:=1) k rfl;have L:=hid (aDZ wr q _ C);have z:=hid j;have M:=hid k;have A:=hid W;have HP:=hid U;have HQ:=hid C;have N:=hid B;clear j k W U C B GA B4
  by_cases hq:q=0
  ·subst hq;have hc:Nm.cmp ((0:Nat):Int) 0=0:=Nm.aAz rfl;rw [hc] at L
   go_wp2_with fail
   refine (L.out).mono ?_;rintro e w5 ⟨rfl,a⟩;have ak:=a.size;have d:=newW (by omega) z.out a;have b:=newW (by omega) A.out a;have u0:=aAa (o:=0) d rfl;have u1:=aAa (o:=1) d rfl;have F:=finw b (HP.out.below a) (N.out.trans (a.mono N.out.size)) (by omega);have r0:=aAb (o:=0) b;have r1:=aAb (o:=1) b;have s0:=aAa (o:=0) b rfl;have s1:=aAa (o:=1) b rfl;have q0:=F.c0;have q1:=F.c1;have FN:=hid F.num;have FB:=hid F.below;clear F d b a
   go_wp2_with fail
   refine bodyPost_ret (v:=.agg #[.bool false,.slice po pn pc]) (by simp [results,Tryz.results138,go_sem,q0,q1]) rfl ⟨_,rfl,?_,FB.out⟩;rw [<-t,Nat.gcd_zero_right];exact FN.out
  ·have hc:Nm.cmp (q:Int) 0=1:=Nm.aAt (by omega);rw [hc] at L;obtain ⟨e1,e2,e3⟩:=aLZ t (by omega) bq;have al:=hid e1;have am:=hid e2;have an:=hid e3;clear e1 e2 e3
   go_wp2_with fail
   refine (L.out).mono ?_;rintro e w5 ⟨rfl,a⟩;have ak:=a.size;have d:=newW (by omega) z.out a;have c:=newW (by omega) M.out a;have O:=newW (by omega) A.out a;have u0:=aAa (o:=0) d rfl;have u1:=aAa (o:=1) d rfl;have u2:=aAa (o:=0) c rfl;have u3:=aAa (o:=1) c rfl;have DV:=hid (aDw w5 p q _ _ n (HP.out.below a) (HQ.out.below a) (by simpa using bp) (by simpa using bq) hn (by omega));have NQ:=hid (HQ.out.below a);have B5:=hid (N.out.trans (a.mono N.out.size));have K0:=hid d;have K1:=hid c;have K2:=hid O;clear d c O a L z M A HP HQ N x0 x1 x2 x3
   go_wp2_with fail
   refine (DV.out).mono ?_;rintro e m ⟨qv,rv,rfl,aa,r,f⟩;have ca:=f.size;obtain ⟨d6,o6,c6,rfl,_⟩:=aa.open;obtain ⟨d7,o7,c7,rfl,_⟩:=r.open
   have s:((p:Int)%(q:Int))=((p%q:Nat):Int):=by rw [Int.natCast_emod]
   rw [s] at r ⊢;rw [decide_eq_false (show ¬(((p%q:Nat):Int))<0 by omega)] at*;have d:=newW (by omega) K0.out f;have c:=newW (by omega) K1.out f;have O:=newW (by omega) K2.out f;have t2:=aAa (o:=0) c rfl;have t3:=aAa (o:=1) c rfl;have t0:=aAa (o:=0) d rfl;have t1:=aAa (o:=1) d rfl;have f0:=aAb (o:=0) d;have f1:=aAb (o:=1) d;have f2:=aAb (o:=0) c;have f3:=aAb (o:=1) c
   have lA:g.heap.size<m.heap.size:=by omega
   have lB:i.heap.size<m.heap.size:=by omega
   have cb:¬(g.heap.size=i.heap.size):=by omega
   have cc:¬(i.heap.size=g.heap.size):=by omega
   have cd:¬(g.heap.size=m.heap.size):=by omega
   have ce:¬(g.heap.size=m.heap.size+1):=by omega
   have cf:¬(i.heap.size=m.heap.size):=by omega
   have cg:¬(i.heap.size=m.heap.size+1):=by omega
   have ch:¬(m.heap.size=g.heap.size):=by omega
   have ci:¬(m.heap.size+1=g.heap.size):=by omega
   have cj:¬(m.heap.size=i.heap.size):=by omega
   have ck:¬(m.heap.size+1=i.heap.size):=by omega
   have ap:=hid (fun gk hk=>aN9 (n:=n) (X:=x.natAbs) (Y:=y.natAbs) (gk:=gk) d c O (show w.heap.size+2<g.heap.size by omega) af (NQ.out.below f) r (B5.out.trans (f.mono (by omega))) hk al.out bq am.out);clear d c O f aa r s DV;generalize decide ((p:Int)/(q:Int)<0)=nq at*
   go_wp2_with fail
   go_roundg (p%q)
   case measure=>have:=ag.out;have:=an.out;omega
   case rel=>exact aDJ (aDJ (ap.out _ rfl) _) _
theorem aKk (w:World)(x y:Int)(u v:Value)(n:Nat)(c:WhoAt w x u)(d:WhoAt w y v)(bx:x.natAbs<2^n)(g:y.natAbs<2^n)(h:n<=1000000000):Calls Tryz.prog 138 #[u,v] w (WhoPost w (Nat.gcd x.natAbs y.natAbs:Nat)):=by
 obtain ⟨a,i,e,rfl,_⟩:=c.open;obtain ⟨b,j,f,rfl,_⟩:=d.open;exact aIb w x y _ _ _ _ _ _ _ _ n c d bx g h
open Go.RowKit
def Nm.bl (z:Int):Nat:=if z=0 then 0 else Nat.log2 z.natAbs+1
theorem Nm.aUt {z:Int}{k:Nat}(h:1<=k)(i:(2:Int)^(k-1)<=z)(j:z<2^k):Nm.bl z=k:=by
 have e:(0:Int)<2^(k-1):=Nm.aAq (by decide) _
 have b:z≠0:=by omega
 unfold Nm.bl;rw [if_neg b]
 have c:2^(k-1)<=z.natAbs:=by
  have:((2^(k-1):Nat):Int)<=(z.natAbs:Int):=by
   rw [Int.natCast_pow];have:((2:Nat):Int)=2:=rfl;rw [this];omega
  exact Int.ofNat_le.1 this
 have d:z.natAbs<2^k:=by
  have:(z.natAbs:Int)<((2^k:Nat):Int):=by
   rw [Int.natCast_pow];have:((2:Nat):Int)=2:=rfl;rw [this];omega
  exact Int.ofNat_lt.1 this
 have a:z.natAbs≠0:=by omega
 have f:=(Nat.le_log2 a).2 c;have g:=(Nat.log2_lt a).2 d;omega
theorem aS4 {r:List Int}{d:Int}{c:Nat}(a:Nm.Dig 4294967296 r)(i:1<=c)(f:(2:Int)^(c-1)<=d)(j:d<2^c):Nm.bl (Nm.val 4294967296 (r++[d]))=32*r.length+c:=by
 have g:=Nm.aBJ (by decide) a;have b:=Nm.aCG (by decide) a;rw [Nm.aB7]
 have e:(4294967296:Int)^r.length=2^(32*r.length):=by rw [Int.pow_mul];rfl
 rw [e] at b ⊢;have h:(0:Int)<2^(32*r.length):=Nm.aAq (by decide) _;refine Nm.aUt (by omega) ?_ ?_
 ·have:2^(c-1)*(2:Int)^(32*r.length)<=d*2^(32*r.length):=Int.mul_le_mul_of_nonneg_right f (by omega);rw [<-Int.pow_add] at this;rw [show 32*r.length+c-1=c-1+32*r.length by omega];omega
 ·have:(d+1)*(2:Int)^(32*r.length)<=2^c*2^(32*r.length):=Int.mul_le_mul_of_nonneg_right (by omega) (by omega);rw [<-Int.pow_add] at this;rw [show 32*r.length+c=c+32*r.length by omega];rw [Int.add_mul] at this;omega
theorem aL4 {x T:Int}{c:Nat}(a:T=x/2^c):T/2=x/2^(c+1):=by
 rw [a,Int.pow_succ,Int.ediv_ediv_of_nonneg (Int.le_of_lt (Nm.aAq (by decide) _))]
theorem aKf (w:World)(a:List Int)(v:Value)(i:Lims w a v)(q:a.length<=10000000000)(s:Nm.Good 4294967296 a):
  Calls Tryz.prog 149 #[v] w fun e w'=>e=.returned (.int .i64 (Nm.bl (Nm.val 4294967296 a)))/\w'=w:=by
 obtain ⟨O,I,rfl,_⟩:=i.shape
 rcases Nm.aEa s with rfl | ⟨r,d,rfl,hr,d1,d2⟩
 ·have e:Nm.bl (Nm.val 4294967296 [])=0:=rfl;rw [e];clear i s;simp only [List.length_nil]
  go_enter Tryz.func149,Tryz.ntmps149
  go_wp2_with fail
  go_ret
  exact ⟨rfl,rfl⟩
 ·obtain ⟨g,rfl,p⟩:=i.place (by simp)
  have u:(r++[d]).length=r.length+1:=by simp
  have A:=p r.length (by simp)
  have B:Nm.at' (r++[d]) r.length=d:=by unfold Nm.at';simp
  rw [B] at A;rw [u] at q ⊢;have J:(((r.length+1:Nat):Int)==0)=false:=beq_eq_false_iff_ne.2 (by omega)
  have L:(((r.length+1:Nat):Int)-1).toNat=r.length:=by omega
  have M:((r.length+1:Nat):Int)-1=r.length:=by omega
  have j:=hid (fun (c:Nat) (h0:1<=c) h1 x=>aS4 (d:=d) (c:=c) hr h0 h1 x);clear i p s u
  go_enter Tryz.func149,Tryz.ntmps149
  go_wp2_with fail
  go_loop [3,4] (fun l t=>∃ (c:Nat) (T:Int),l=.int .i64 ((32*r.length+c:Nat):Int)/\t=.int .u32 T/\0<=T/\T<4294967296/\T=d/2^c/\(c=0\/(2:Int)^(c-1)<=d)/\c<=32) (fun _ t=>(intOf t).toNat)
  case atStart=>exact ⟨0,d,by simp;try omega,rfl,by omega,d2,by simp,Or.inl rfl,by omega⟩
  case round=>
   obtain ⟨c,T,rfl,rfl,P,R,y,z,p⟩:=hrel;have k:=hid y;have C:=hid z;clear y z
   by_cases h:0<T
   ·have f:(2:Int)^c<=d:=by
     have h1:1<=d/2^c:=by rw [<-k.out];omega
     have:=(Int.le_ediv_iff_mul_le (Nm.aAq (by decide) c)).1 h1;omega
    have D:c<32:=by
     rcases Nat.lt_or_ge c 32 with h1 | h1
     ·exact h1
     ·have x:(2:Int)^32<=2^c:=Nm.aAY (by decide) h1;have N:(2:Int)^32=4294967296:=rfl;omega
    have E:=hid f;clear f
    go_wp2_with fail
    go_round
    case rel=>exact ⟨c+1,T/2,by simp;omega,rfl,by omega,by omega,aL4 k.out,Or.inr (by simpa using E.out),by omega⟩
    case measure=>simp [intOf];omega
   ·have m:d/2^c=0:=by rw [<-k.out];omega
    have n:d<2^c:=by
     have F:(0:Int)<2^c:=Nm.aAq (by decide) c
     rcases Int.lt_or_le d (2^c) with h1 | h1
     ·exact h1
     ·have:(1:Int)<=d/2^c:=(Int.le_ediv_iff_mul_le F).2 (by omega);omega
    have o:1<=c:=by
     rcases Nat.eq_zero_or_pos c with rfl | h1
     ·simp at n;omega
     ·exact h1
    have b:(2:Int)^(c-1)<=d:=by
     rcases C.out with h1 | h1
     ·omega
     ·exact h1
    have H:=hid (j.out c o b n);clear m n b
    go_wp2_with fail
    go_ret
    exact ⟨by rw [H.out];rfl,rfl⟩
open Go.RowKit
namespace Ab
def lmb (ν:List (Int×Nat)):AV->Option (Int×Nat)
 | .one (.dg true i)=>(ν[i]?).bind fun zn=>bif Nat.ble zn.2 100 then some zn else none
 | _=>none
def intV:AV->Option Int
 | .one (.int .i64 n)=>some n
 | .one (.sint .i64 n)=>some n
 | _=>none
theorem aFL {φ:Nat->Option (Nat×Nat)}{ν μ:List (Int×Nat)}{w:World}(l:∀ (i:Nat) (x:Int×Nat),ν[i]?=some x->μ[i]?=some x){v:AV}{z:Int}{n:Nat}{x:Value}(h:lmb ν v=some (z,n))(r:relV Z φ μ w v x):∃ ds,Lims w ds x/\Nm.Good 4294967296 ds/\Nm.val 4294967296 ds=z.natAbs/\Bits n z/\n<=100/\ds.length<=10000000*n:=by
 unfold lmb at h;split at h
 ·rename_i i;obtain ⟨⟨m,g⟩,j,a⟩:=bnd h
  cases b:Nat.ble g 100 with
  | false=>simp only [b] at a;cases a
  | true=>
   simp only [b,cond_true] at a;cases a;obtain ⟨o,p,c,⟨ds,k,d,e⟩,f⟩:=r;rw [l _ _ j] at c;cases c;exact ⟨ds,k,d,e,f,Nat.le_of_ble_eq_true b,aBk d e f⟩
 ·cases h
theorem aQT {φ:Nat->Option (Nat×Nat)}{μ:List (Int×Nat)}{w:World}{v:AV}{n:Int}{x:Value}(h:intV v=some n)(r:relV Z φ μ w v x):x=.int .i64 n:=by
 unfold intV at h;split at h
 ·cases h;exact r
 ·cases h;exact r
 ·cases h
theorem zbits {n:Nat}{z:Int}(h:Bits n z):Z.bits n z:=h
def spL:Spec:=fun f _ ν _ bx vs=>
 bif f==149 then (match vs with
  | [a]=>(lmb ν a).map fun zn=>([],.val (.one (.sint .i64 (Nm.bl zn.1))),[],none)
  | _=>none)
 else bif f==154 then (match vs with
  | [a,b]=>(lmb ν a).bind fun x=>(lmb ν b).map fun y=>([],.val (.one (.sint .i64 (Nm.cmp (x.1.natAbs:Int) (y.1.natAbs:Int)))),[],none)
  | _=>none)
 else bif f==153 then (match vs with
  | [a,b]=>(lmb ν a).bind fun x=>(lmb ν b).map fun y=>([((x.1.natAbs:Int)*(y.1.natAbs:Int),x.2+y.2)],.val (.one (.dg true ν.length)),[],none)
  | _=>none)
 else bif f==119 then (match vs with
  | [.one (.int .u64 n)]=>bif decide (0<=n)&&decide (n<1000000000) then some ([(n,1)],.val (.one (.dg true ν.length)),[],none) else none
  | _=>none)
 else bif f==150 then (match vs with
  | [a,b]=>(lmb ν a).bind fun x=>(intV b).map fun t=>([((x.1.natAbs:Int)*2^t.toNat,100)],.val (.one (.dg true ν.length)),[0<=t/\t<=900000000/\10000000*x.2+t.toNat<=1000000000],none)
  | _=>none)
 else none
theorem aME {φ:Nat->Option (Nat×Nat)}{μ:List (Int×Nat)}{w:World}{a:AV}{xs:List Value}(h:All2 (relV Z φ μ w) [a] xs):∃ x,xs=[x]/\relV Z φ μ w a x:=by
 match xs,h with
 | [u],⟨h,_⟩=>exact ⟨u,rfl,h⟩
 | _::_::_,⟨_,h⟩=>exact h.elim
theorem aRM {φ:Nat->Option (Nat×Nat)}{μ:List (Int×Nat)}{w:World}{a b:AV}{xs:List Value}(h:All2 (relV Z φ μ w) [a,b] xs):∃ x y,xs=[x,y]/\relV Z φ μ w a x/\relV Z φ μ w b y:=by
 match xs,h with
 | [u,v],⟨h,g,_⟩=>exact ⟨u,v,rfl,h,g⟩
 | [_],⟨_,h⟩=>exact h.elim
 | _::_::_::_,⟨_,_,h⟩=>exact h.elim
theorem aHO (w0:World)(ψ:Nat->Option (Nat×Nat)):SpecOk Z w0 ψ spL:=by
 intro f d ν id bx vs ν' r p al h;unfold spL at h
 cases U:f==149 with
 | true=>
  have:f=149:=by simpa using U
  subst this;rw [U] at h;simp only [cond_true] at h;split at h
  ·obtain ⟨⟨z,n⟩,g,j⟩:=mpd h;cases j;refine ⟨(aAj Tryz.func149 rfl rfl).en,fun _ μ hμ φ w c _ _ _ _ hxs=>?_⟩;obtain ⟨x,rfl,a⟩:=aME hxs;obtain ⟨k,l,o,q,A,M,N⟩:=aFL (fun i x a=>hμ i x (aBb _ _ i x a)) g a;refine (aKf w k x l (by omega) o).mono ?_;rintro e F ⟨rfl,rfl⟩;rw [q,bl_abs];exact ⟨_,rfl,Below.refl _ _,rfl⟩
  ·cases h
 | false=>
 rw [U] at h;simp only [cond_false] at h
 cases W:f==154 with
 | true=>
  have:f=154:=by simpa using W
  subst this;rw [W] at h;simp only [cond_true] at h;split at h
  ·obtain ⟨⟨z,n⟩,g,j⟩:=bnd h;obtain ⟨⟨y,m⟩,B,C⟩:=mpd j;cases C;refine ⟨(aAj Tryz.func154 rfl rfl).en,fun _ μ hμ φ w c _ _ _ _ hxs=>?_⟩;obtain ⟨x,t,rfl,a,O⟩:=aRM hxs;obtain ⟨k,l,o,q,A,M,N⟩:=aFL (fun i x a=>hμ i x (aBb _ _ i x a)) g a;obtain ⟨P,R,S,T,k4,k5,k6⟩:=aFL (fun i x a=>hμ i x (aBb _ _ i x a)) B O;refine (aA6 w k P x t l R (by omega) o S).mono ?_;rintro e F ⟨rfl,s⟩;rw [q,T];exact ⟨_,rfl,s,rfl⟩
  ·cases h
 | false=>
 rw [W] at h;simp only [cond_false] at h
 cases X:f==153 with
 | true=>
  have:f=153:=by simpa using X
  subst this;rw [X] at h;simp only [cond_true] at h;split at h
  ·obtain ⟨⟨z,n⟩,g,j⟩:=bnd h;obtain ⟨⟨y,m⟩,B,C⟩:=mpd j;cases C;refine ⟨(aAj Tryz.func153 rfl rfl).en,fun _ μ hμ φ w c _ _ _ _ hxs=>?_⟩;obtain ⟨x,t,rfl,a,O⟩:=aRM hxs;obtain ⟨k,l,o,q,A,M,N⟩:=aFL (fun i x a=>hμ i x (aBb _ _ i x a)) g a;obtain ⟨P,R,S,T,k4,k5,k6⟩:=aFL (fun i x a=>hμ i x (aBb _ _ i x a)) B O;refine (aBN w k P x t l R (by omega) (by omega) o.dig S.dig).mono ?_;rintro e F ⟨v,c,rfl,⟨D,u⟩,E,s⟩;rw [q,T] at u;refine ⟨v,rfl,s,⟨(z.natAbs:Int)*(y.natAbs:Int),n+m,hμ _ _ (by simp),⟨c,E.weak (Nat.zero_le _),D,by rw [u,Int.natAbs_mul];simp⟩,aAk (aEy A) (aEy k4)⟩⟩
  ·cases h
 | false=>
 rw [X] at h;simp only [cond_false] at h
 cases Y:f==119 with
 | true=>
  have:f=119:=by simpa using Y
  subst this;rw [Y] at h;simp only [cond_true] at h;split at h
  ·rename_i n
   cases H:(decide (0<=n)&&decide (n<1000000000)) with
   | false=>rw [H] at h;cases h
   | true=>
    rw [H] at h;cases h;simp only [Bool.and_eq_true,decide_eq_true_eq] at H;refine ⟨(aAj Tryz.func119 rfl rfl).en,fun _ μ hμ φ w c _ _ _ _ hxs=>?_⟩;obtain ⟨x,rfl,a⟩:=aME hxs;have a:x=.int .u64 n:=a;subst a;refine (aCg n w H.1 (by omega)).mono ?_;rintro e F ⟨v,c,rfl,⟨D,u,_⟩,E,s⟩;refine ⟨v,rfl,s,⟨n,1,hμ _ _ (by simp),⟨c,E.weak (Nat.zero_le _),D,by rw [u];omega⟩,?_⟩⟩;exact bits60 (by omega)
  ·cases h
 | false=>
 rw [Y] at h;simp only [cond_false] at h
 cases h5:f==150 with
 | true=>
  have:f=150:=by simpa using h5
  subst this;rw [h5] at h;simp only [cond_true] at h;split at h
  ·obtain ⟨⟨z,n⟩,g,j⟩:=bnd h;obtain ⟨t,B,C⟩:=mpd j;cases C;refine ⟨(aAj Tryz.func150 rfl rfl).en,fun I μ hμ φ w c _ _ _ _ hxs=>?_⟩;obtain ⟨x,y,rfl,a,hy⟩:=aRM hxs;obtain ⟨k,l,o,q,A,M,N⟩:=aFL (fun i x a=>hμ i x (aBb _ _ i x a)) g a;have:=aQT B hy;subst this;have I:0<=t/\t<=900000000/\10000000*n+t.toNat<=1000000000:=I.one
   obtain ⟨b,rfl⟩:∃ b:Nat,t=b:=⟨t.toNat,by omega⟩
   refine (aDz w k x b l (by omega) o.dig (by omega)).mono ?_;rintro e F ⟨v,c,rfl,⟨D,u⟩,E,s⟩;rw [q] at u;have ad:(0:Int)<2^b:=Nm.aAq (by decide) b;have ae:0<=(z.natAbs:Int)*2^b:=Int.mul_nonneg (by omega) (by omega)
   have J:((b:Int)).toNat=b:=by omega
   refine ⟨v,rfl,s,⟨(z.natAbs:Int)*2^((b:Int)).toNat,100,hμ _ _ (by simp),⟨c,E.weak (Nat.zero_le _),D,by rw [u,J];omega⟩,?_⟩⟩
   have e6:10000000*n+b<=1000000000:=by have:=I.2.2;rw [J] at this;exact this
   rw [J]
   have L:Go.Proofs.YteghhlfmcjmnoaaGreatDoor.Bits (10000000*n+b) ((z.natAbs:Int)*2^b):=by
    show ((z.natAbs:Int)*2^b).natAbs<2^(10000000*n+b);rw [Int.natAbs_mul,Int.natAbs_pow,Nat.pow_add]
    have e7:((z.natAbs:Int)).natAbs=z.natAbs:=by omega
    have e8:(2:Int).natAbs=2:=rfl;rw [e7,e8];exact Nat.mul_lt_mul_of_pos_right A (Nat.pow_pos (by decide))
   exact zbits (aCI L e6)
  ·cases h
 | false=>
  rw [h5] at h;cases h
where
 bl_abs (z:Int):Nm.bl (z.natAbs:Int)=Nm.bl z:=by
  unfold Nm.bl
  by_cases h:z=0
  ·subst h;rfl
  ·rw [if_neg h,if_neg (by omega)];simp
end Ab
open Go.RowKit
namespace Ab
theorem aBa {w:World}{z:Int}{a:Nat}{v:Value}(h:RVT Z w (tokG true a (.ns [z])) v):WhoAt w z v/\Bits a z:=by
 obtain ⟨b,rfl,r⟩:=h
 match b,r with
 | [x,y],⟨h1,⟨ds,g1,g2,g3⟩,h3,_⟩=>
  subst h1;exact ⟨⟨ds,y,rfl,g1,g2,g3⟩,h3⟩
 | _::_::_::_,⟨_,_,_,h⟩=>exact h.elim
theorem aEo {w:World}{z:Int}{v:Value}(h:WhoAt w z v)(n:Nat)(e:Bits n z):RVT Z w (tokG true n (.ns [z])) v:=by
 obtain ⟨a,y,rfl,b,c,d⟩:=h;exact ⟨[_,y],rfl,rfl,⟨a,b,c,d⟩,e,trivial⟩
theorem aQU {w:World}{k:IntKind}{z:Int}{lim:Nat}{v:Value}(h:RVT Z w (tokG true lim (.i k z)) v):v=.int k z:=h.2
theorem aIA {w:World}{t:VT}{vs:List Value}(h:All2 (RVT Z w) [t] vs):∃ u,vs=[u]/\RVT Z w t u:=by
 match vs,h with
 | [u],⟨h,_⟩=>exact ⟨u,rfl,h⟩
 | _::_::_,⟨_,h⟩=>exact h.elim
theorem aGR {w:World}{t s:VT}{vs:List Value}(h:All2 (RVT Z w) [t,s] vs):∃ u v,vs=[u,v]/\RVT Z w t u/\RVT Z w s v:=by
 match vs,h with
 | [u,v],⟨h,g,_⟩=>exact ⟨u,v,rfl,h,g⟩
 | [_],⟨_,h⟩=>exact h.elim
 | _::_::_::_,⟨_,_,h⟩=>exact h.elim
def noNd:List G->List Prop:=fun _=>[]
def f2 (op:Int->Int->Int):List G->Option RG
 | [.ns [x],.ns [y]]=>some (.one (.ns [op x y]))
 | _=>none
theorem aN1 {f:FuncId}{l:Int->Int->Int}{s:List Nat->Nat}{b:Nat}(o:Enters Z.P f)(g:∀ x y n m,Bits n x->Bits m y->Bits (s [n,m]) (l x y))
  (h:∀ w x y u v,WhoAt w x u->WhoAt w y v->Bits b x->Bits b y->Calls Z.P f #[u,v] w (WhoPost w (l x y))):TEok Z f (teG true (f2 l) noNd s [b,b]):=by
 refine aDU o ?_ ?_
 ·intro A B i a j p C;unfold f2 at a;split at a
  ·rename_i x y;cases a
   match B,p with
   | [n,m],⟨c,d,_⟩=>
    intro z q;simp at q;subst q;exact g x y n m (c x (by simp)) (d y (by simp))
  ·cases a
 ·intro A i a j p w E k;unfold f2 at a;split at a
  ·rename_i x y;cases a;obtain ⟨u,v,rfl,c,d⟩:=aGR k;refine (h w x y u v (aBa c).1 (aBa d).1 (aBa c).2 (aBa d).2).mono ?_;rintro e D ⟨r,rfl,t,g⟩;exact ⟨r,rfl,fun n hn=>aEo t n (hn _ (by simp)),g⟩
  ·cases a
def f1 (op:Int->Int):List G->Option RG
 | [.ns [x]]=>some (.one (.ns [op x]))
 | _=>none
theorem aTr {f:FuncId}{k:Int->Int}{p:List Nat->Nat}{b:Nat}(l:Enters Z.P f)(d:∀ x n,Bits n x->Bits (p [n]) (k x))
  (h:∀ w x u,WhoAt w x u->Bits b x->Calls Z.P f #[u] w (WhoPost w (k x))):TEok Z f (teG true (f1 k) noNd p [b]):=by
 refine aDU l ?_ ?_
 ·intro s t g a i m v;unfold f1 at a;split at a
  ·rename_i x;cases a
   match t,m with
   | [n],⟨c,_⟩=>
    intro z o;simp at o;subst o;exact d x n (c x (by simp))
  ·cases a
 ·intro s g a i m w A j;unfold f1 at a;split at a
  ·rename_i x;cases a;obtain ⟨u,rfl,c⟩:=aIA j;refine (h w x u (aBa c).1 (aBa c).2).mono ?_;rintro e y ⟨r,rfl,q,d⟩;exact ⟨r,rfl,fun n hn=>aEo q n (hn _ (by simp)),d⟩
  ·cases a
def f1i (op:Int->Int):List G->Option RG
 | [.ns [x]]=>some (.one (.i .i64 (op x)))
 | _=>none
theorem aPq {f:FuncId}{k:Int->Int}{b:Nat}(i:Enters Z.P f)
  (h:∀ w x u,WhoAt w x u->Bits b x->Calls Z.P f #[u] w fun e w'=>e=.returned (.int .i64 (k x))/\Below w.heap.size w w'):TEok Z f (teG true (f1i k) noNd (fun _=>0) [b]):=by
 refine aDU i ?_ ?_
 ·intro m q c a d o p;unfold f1i at a;split at a
  ·cases a;trivial
  ·cases a
 ·intro m c a d o w r g;unfold f1i at a;split at a
  ·rename_i x;cases a;obtain ⟨u,rfl,j⟩:=aIA g;refine (h w x u (aBa j).1 (aBa j).2).mono ?_;rintro e w' ⟨rfl,l⟩;exact ⟨_,rfl,fun n _=>⟨rfl,rfl⟩,l⟩
  ·cases a
def f2i (op:Int->Int->Int):List G->Option RG
 | [.ns [x],.ns [y]]=>some (.one (.i .i64 (op x y)))
 | _=>none
theorem aTs {f:FuncId}{l:Int->Int->Int}{b:Nat}(i:Enters Z.P f)
  (h:∀ w x y u v,WhoAt w x u->WhoAt w y v->Bits b x->Bits b y->Calls Z.P f #[u,v] w fun e w'=>e=.returned (.int .i64 (l x y))/\Below w.heap.size w w'):TEok Z f (teG true (f2i l) noNd (fun _=>0) [b,b]):=by
 refine aDU i ?_ ?_
 ·intro o r c a d p q;unfold f2i at a;split at a
  ·cases a;trivial
  ·cases a
 ·intro o c a d p w s g;unfold f2i at a;split at a
  ·rename_i x y;cases a;obtain ⟨u,v,rfl,j,k⟩:=aGR g;refine (h w x y u v (aBa j).1 (aBa k).1 (aBa j).2 (aBa k).2).mono ?_;rintro e w' ⟨rfl,m⟩;exact ⟨_,rfl,fun n _=>⟨rfl,rfl⟩,m⟩
  ·cases a
def f4i (op:Int->Int->Int->Int->Int):List G->Option RG
 | [.ns [x],.ns [y],.ns [z],.ns [t]]=>some (.one (.i .i64 (op x y z t)))
 | _=>none
def fI1:List Int->Option (List Int)
 | [n]=>some [n]
 | _=>none
theorem aU9:TEok Z 94 (teI true fI1):=by
 refine ⟨(aAj Tryz.func94 rfl rfl).en,fun ts r p hts hp w vs hvs=>?_⟩;unfold teI at hts;obtain ⟨f,h,i⟩:=bnd hts;obtain ⟨j,a,k⟩:=mpd i;cases k;obtain ⟨c,d⟩:=aL8 ts f vs h hp hvs
 match f,a,c,d with
 | [(n,ps)],a,c,d=>
  cases a;obtain ⟨u,rfl,b⟩:=aIA c;have b:u=.int .i64 n:=b.2;subst b;have g:n.natAbs<1000000000000000000:=d (n,ps) (by simp);refine (aRW n w (by omega) (by omega)).mono ?_;rintro e o ⟨r,rfl,l,m⟩;exact ⟨r,rfl,aEo l 1 (bits60 g),m⟩
 | [],a,_,_=>cases a
 | _::_::_,a,_,_=>cases a
def halfZ (z t:Int):Int:=bif decide (t<1) then z else Nm.half z t.toNat
def fHalf:List G->Option RG
 | [.ns [z],.i .i64 t]=>some (.one (.ns [halfZ z t]))
 | _=>none
def ndHalf:List G->List Prop
 | [.ns [_],.i .i64 t]=>[1<=t/\t<=1000000000]
 | _=>[]
theorem aQS (z:Int)(n:Nat):(Nm.half z n).natAbs<=z.natAbs:=by
 unfold Nm.half;have h:((z.natAbs:Int)/2^n)<=z.natAbs:=Int.ediv_le_self _ (by omega);have a:0<=((z.natAbs:Int)/2^n):=Int.ediv_nonneg (by omega) (Int.le_of_lt (Nm.aAq (by decide) _))
 split<;>omega
theorem aN2:TEok Z 212 (teG true fHalf ndHalf (fun ns=>ns.headD 0) [100,0]):=by
 refine aDU (aAj Tryz.func212 rfl rfl).en ?_ ?_
 ·intro o ns d a c g p;unfold fHalf at a;split at a
  ·rename_i z t;cases a
   match ns,g with
   | [n,m],⟨b,_⟩=>
    intro y h;simp at h;subst h;have:=b z (by simp);unfold halfZ;cases decide (t<1)
    ·exact Nat.lt_of_le_of_lt (aQS _ _) this
    ·exact this
  ·cases a
 ·intro o d a c g w s f;unfold fHalf at a;split at a
  ·rename_i z t;cases a;obtain ⟨u,v,rfl,b,i⟩:=aGR f;have:=aQU i;subst this;have c:1<=t/\t<=1000000000:=c.one
   obtain ⟨k,rfl⟩:∃ k:Nat,t=k:=⟨t.toNat,by omega⟩
   have e:halfZ z k=Nm.half z k:=by unfold halfZ;rw [decide_eq_false (by omega)];simp
   rw [e];refine (aKx w z u k (10000000*100) (aBa b).1 (aBa b).2 (by omega) (by omega) (by omega)).mono ?_;rintro e q ⟨r,rfl,j,l⟩;exact ⟨r,rfl,fun m hm=>aEo j m (hm _ (by simp)),l⟩
  ·cases a
def fDiv:List G->Option RG
 | [.ns [x],.ns [y]]=>some (.tup [.ns [x/y],.ns [x%y]])
 | _=>none
def ndDiv:List G->List Prop
 | [.ns [_],.ns [y]]=>[0<y]
 | _=>[]
theorem aQG:TEok Z 73 (teG true fDiv ndDiv (fun ns=>ns.foldr max 0+1) [90,90]):=by
 refine aDU (aAj Tryz.func73 rfl rfl).en ?_ ?_
 ·intro F ns l a b d H;unfold fDiv at a;split at a
  ·rename_i x y;cases a;have i:0<y:=b.one
   match ns,d with
   | [n,m],⟨j,k,_⟩=>
    have q:Bits (max n (max m 0)) x:=aAg (j x (by simp)) (by omega);have r:Bits (max n (max m 0)) y:=aAg (k y (by simp)) (by omega);have J:x/y=x/y:=rfl;have L:=Int.emod_nonneg x (by omega:y≠0);have p:=Int.emod_lt_of_pos x i
    have s:(x/y).natAbs<=x.natAbs:=by
     rcases Int.le_total 0 x with h | h
     ·have t:=Int.ediv_nonneg h (Int.le_of_lt i);have A:x/y<=x:=Int.ediv_le_self _ h;omega
     ·have t:x/y<=0:=Int.ediv_nonpos_of_nonpos_of_neg h (by omega)
      have A:x<=x/y:=by
       have:=Int.mul_ediv_add_emod x y
       rcases Int.lt_or_le (x/y) x with c | c
       ·exfalso;have M:y*(x/y)<=y*(x-1):=Int.mul_le_mul_of_nonneg_left (by omega) (by omega);have N:(y-1)*x<=0:=Int.mul_nonpos_of_nonneg_of_nonpos (by omega) h
        have O:y*(x-1)=(y-1)*x+x-y:=by grind
        omega
       ·exact c
      omega
    intro g d;simp at d
    rcases d with rfl | rfl
    ·intro z f;simp at f;subst f;exact aDv q s (by simp)
    ·intro z f;simp at f;subst f;exact aDv r (by omega) (by simp)
  ·cases a
 ·intro F l a b d w P o;unfold fDiv at a;split at a
  ·rename_i x y;cases a;have i:0<y:=b.one;obtain ⟨u,v,rfl,j,k⟩:=aGR o;refine (aDw w x y u v (10000000*90) (aBa j).1 (aBa k).1 (aBa j).2 (aBa k).2 (by omega) i).mono ?_;intro e R I;obtain ⟨p,B,rfl,C,D,E⟩:=I;refine ⟨_,rfl,fun n b=>⟨[p,B],rfl,aEo C n ?_,aEo D n ?_,trivial⟩,E⟩
   ·exact b (.ns [x/y]) (by simp) _ (by simp)
   ·exact b (.ns [x%y]) (by simp) _ (by simp)
  ·cases a
noncomputable def tW0:List (FuncId×TE):=
 [(136,teG true (f2 (·*·)) noNd (fun ns=>ns.foldr (·+·) 0) [90,90]),(137,teG true (f2 (·+·)) noNd (fun ns=>ns.foldr max 0+1) [90,90]),(146,teG true (f2 (· - ·)) noNd (fun ns=>ns.foldr max 0+1) [90,90]),
  (123,teG true (f1 (fun x=>-x)) noNd (fun ns=>ns.headD 0) [90]),(147,teG true (f1 (fun x=>(x.natAbs:Int))) noNd (fun ns=>ns.headD 0) [90]),(72,teG true (f1i (fun x=>Nm.cmp x 0)) noNd (fun _=>0) [100]),
  (122,teG true (f2i Nm.cmp) noNd (fun _=>0) [90,90]),(225,teG true (f1i (fun x=>(Nm.tz x:Int))) noNd (fun _=>0) [90]),(94,teI true fI1),(212,teG true fHalf ndHalf (fun ns=>ns.headD 0) [100,0]),(73,teG true fDiv ndDiv (fun ns=>ns.foldr max 0+1) [90,90])]
theorem aPx {a n m:Nat}(h:a<2^n)(hn:n<=m):a<2^m:=Nat.lt_of_lt_of_le h (Nat.pow_le_pow_right (by decide) hn)
theorem aNj:AllTE Z tW0:=by
 refine ⟨?_,?_,?_,?_,?_,?_,?_,?_,aU9,aN2,aQG,trivial⟩
 ·exact aN1 (aAj Tryz.func136 rfl rfl).en (fun x y n m hx hy=>by simpa using aAk hx hy) (fun w x y u v h1 h2 h3 h4=>aK5 w x y u v (10000000*90) h1 h2 h3 h4 (by decide))
 ·exact aN1 (aAj Tryz.func137 rfl rfl).en (fun x y n m hx hy=>by simpa using aAH (aDE hx hy).1 (aDE hx hy).2) (fun w x y u v h1 h2 h3 h4=>aH5 w x y u v (10000000*90) h1 h2 h3 h4 (by decide))
 ·exact aN1 (aAj Tryz.func146 rfl rfl).en (fun x y n m hx hy=>by simpa using aG3 (aDE hx hy).1 (aDE hx hy).2) (fun w x y u v h1 h2 h3 h4=>aK2 w x y u v (10000000*90) h1 h2 h3 h4 (by decide))
 ·exact aTr (aAj Tryz.func123 rfl rfl).en (fun x n h=>by simpa using aBw h) (fun w x u h _=>aKb w x u h)
 ·exact aTr (aAj Tryz.func147 rfl rfl).en (fun x n h=>by simpa using aEy h) (fun w x u h _=>aFy w x u h)
 ·exact aPq (aAj Tryz.func72 rfl rfl).en (fun w x u h _=>aDZ w x u h)
 ·exact aTs (aAj Tryz.func122 rfl rfl).en (fun w x y u v h1 h2 h3 h4=>aH3 w x y u v (10000000*90) h1 h2 h3 h4 (by decide))
 ·exact aPq (aAj Tryz.func225 rfl rfl).en (fun w x u h hb=>aOZ w x u (10000000*90) h hb (by decide))
def Wr (x:Int):Int:=IntKind.i64.wrap x
def csz (a b c d:Int):Int:=
 bif decide (Wr ((Nm.bl a:Int)+(Nm.bl b:Int))<Wr (Wr ((Nm.bl c:Int)+(Nm.bl d:Int))-1)) then -1
 else bif decide (Wr ((Nm.bl a:Int)+(Nm.bl b:Int))>Wr (Wr ((Nm.bl c:Int)+(Nm.bl d:Int))+1)) then 1
 else bif (Nm.cmp (a.natAbs:Int) (c.natAbs:Int)==0) then Nm.cmp (b.natAbs:Int) (d.natAbs:Int)
 else Nm.cmp ((((a.natAbs:Int)*(b.natAbs:Int)).natAbs:Nat):Int) ((((c.natAbs:Int)*(d.natAbs:Int)).natAbs:Nat):Int)
theorem aTh:TEok Z 237 (teG true (f4i csz) noNd (fun _=>0) [40,40,40,40]):=by
 refine walkS (l:=[]) trivial aHO nobody (aAj Tryz.func237 rfl rfl) ?_ ?_
 ·intro b c a h _ _ _;unfold f4i at h;split at h
  ·cases h;trivial
  ·cases h
 ·intro b a h;unfold f4i at h;split at h
  ·cases h;exact ⟨[],by kernel_rfl,fun _ _=>aAc⟩
  ·cases h
end Ab
open Go.RowKit
namespace Ab
theorem aAv {x:Int}(h0:-4611686018427387904<=x)(h1:x<=4611686018427387904):Wr x=x:=by unfold Wr;rw [IntKind.wrap_i64];omega
theorem aG4 {z:Int}(a:z≠0):1<=Nm.bl z/\2^(Nm.bl z-1)<=z.natAbs/\z.natAbs<2^Nm.bl z:=by
 unfold Nm.bl;rw [if_neg a]
 have h:z.natAbs≠0:=by omega
 exact ⟨by omega,by simpa using Nat.log2_self_le h,Nat.lt_log2_self⟩
theorem aLl {z:Int}{n:Nat}(h:Bits n z):Nm.bl z<=10000000*n:=by
 by_cases a:z=0
 ·subst a;simp [Nm.bl]
 ·obtain ⟨d,c,_⟩:=aG4 a;have b:2^(Nm.bl z-1)<2^(10000000*n):=Nat.lt_of_le_of_lt c h;have:=(Nat.pow_lt_pow_iff_right (by decide)).1 b;omega
theorem aLm {x y:Int}(e:x≠0)(f:y≠0):2^(Nm.bl x+Nm.bl y-2)<=x.natAbs*y.natAbs/\x.natAbs*y.natAbs<2^(Nm.bl x+Nm.bl y):=by
 obtain ⟨g,a,b⟩:=aG4 e;obtain ⟨h,c,d⟩:=aG4 f;constructor
 ·rw [show Nm.bl x+Nm.bl y-2=(Nm.bl x-1)+(Nm.bl y-1) by omega,Nat.pow_add];exact Nat.mul_le_mul a c
 ·rw [Nat.pow_add];exact Nat.mul_lt_mul'' b d
theorem aNQ {k a b:Nat}(c:0<k):Nm.cmp ((k*a:Nat):Int) ((k*b:Nat):Int)=Nm.cmp (a:Int) (b:Int):=by
 rcases Nat.lt_trichotomy a b with h | h | h
 ·have:=Nat.mul_lt_mul_of_pos_left h c;rw [Nm.aAC (by omega),Nm.aAC (by omega)]
 ·rw [h,Nm.aAz rfl,Nm.aAz rfl]
 ·have:=Nat.mul_lt_mul_of_pos_left h c;rw [Nm.aAt (by omega),Nm.aAt (by omega)]
theorem aPn {a b c d:Int}(j:a≠0)(k:b≠0)(l:c≠0)(m:d≠0)(r:Bits 40 a)(s:Bits 40 b)(t:Bits 40 c)(u:Bits 40 d):csz a b c d=Nm.cmp ((a.natAbs*b.natAbs:Nat):Int) ((c.natAbs*d.natAbs:Nat):Int):=by
 have v:=aLl r;have x:=aLl s;have y:=aLl t;have z:=aLl u;obtain ⟨E,F⟩:=aLm j k;obtain ⟨H,I⟩:=aLm l m;have A:=(aG4 j).1;have B:=(aG4 k).1;have C:=(aG4 l).1;have D:=(aG4 m).1;unfold csz;have n:Wr ((Nm.bl a:Int)+(Nm.bl b:Int))=(Nm.bl a:Int)+(Nm.bl b:Int):=aAv (by omega) (by omega);have o:Wr ((Nm.bl c:Int)+(Nm.bl d:Int))=(Nm.bl c:Int)+(Nm.bl d:Int):=aAv (by omega) (by omega);have p:Wr ((Nm.bl c:Int)+(Nm.bl d:Int)-1)=(Nm.bl c:Int)+(Nm.bl d:Int)-1:=aAv (by omega) (by omega);have q:Wr ((Nm.bl c:Int)+(Nm.bl d:Int)+1)=(Nm.bl c:Int)+(Nm.bl d:Int)+1:=aAv (by omega) (by omega);rw [n,o,p,q]
 by_cases f:(Nm.bl a:Int)+(Nm.bl b:Int)<(Nm.bl c:Int)+(Nm.bl d:Int)-1
 ·rw [decide_eq_true f,cond_true];have:2^(Nm.bl a+Nm.bl b)<=2^(Nm.bl c+Nm.bl d-2):=Nat.pow_le_pow_right (by decide) (by omega);rw [Nm.aAC (by omega)]
 ·rw [decide_eq_false f,cond_false]
  by_cases g:(Nm.bl a:Int)+(Nm.bl b:Int)>(Nm.bl c:Int)+(Nm.bl d:Int)+1
  ·rw [decide_eq_true g,cond_true];have:2^(Nm.bl c+Nm.bl d)<=2^(Nm.bl a+Nm.bl b-2):=Nat.pow_le_pow_right (by decide) (by omega);rw [Nm.aAt (by omega)]
  ·rw [decide_eq_false g,cond_false]
   by_cases i:(a.natAbs:Int)=(c.natAbs:Int)
   ·rw [Nm.aAz i]
    have e:a.natAbs=c.natAbs:=by omega
    rw [show ((0:Int)==0)=true from rfl,cond_true,e,aNQ (by omega)]
   ·have e:(Nm.cmp (a.natAbs:Int) (c.natAbs:Int)==0)=false:=by
     rw [beq_eq_false_iff_ne]
     rcases Int.lt_or_gt_of_ne i with h | h
     ·rw [Nm.aAC h];decide
     ·rw [Nm.aAt h];decide
    rw [e,cond_false,Int.natAbs_mul,Int.natAbs_mul];simp
def cpr (a b c d:Int):Int:=
 bif decide (Wr (Nm.cmp a 0*Nm.cmp b 0)<Wr (Nm.cmp c 0*Nm.cmp d 0)) then -1
 else bif decide (Wr (Nm.cmp a 0*Nm.cmp b 0)>Wr (Nm.cmp c 0*Nm.cmp d 0)) then 1
 else Wr (Wr (Nm.cmp a 0*Nm.cmp b 0)*csz a b c d)
theorem aTg:TEok Z 226 (teG true (f4i cpr) noNd (fun _=>0) [40,40,40,40]):=by
 refine walkG (l:=(237,teG true (f4i csz) noNd (fun _=>0) [40,40,40,40])::tW0) ⟨aTh,aNj⟩ nobody (aAj Tryz.func226 rfl rfl) ?_ ?_
 ·intro b c a h _ _ _;unfold f4i at h;split at h
  ·cases h;trivial
  ·cases h
 ·intro b a h;unfold f4i at h;split at h
  ·cases h;exact ⟨[],by kernel_rfl,fun _ _=>aAc⟩
  ·cases h
theorem aM7 (a b:Int):Wr (Nm.cmp a 0*Nm.cmp b 0)=Nm.cmp (a*b) 0:=by
 have h:∀ x:Int,Nm.cmp x 0=x.sign:=fun x=>by
  rcases Int.lt_trichotomy x 0 with h | h | h
  ·rw [Nm.aAC h,Int.sign_eq_neg_one_of_neg h]
  ·rw [Nm.aAz h,h];rfl
  ·rw [Nm.aAt h,Int.sign_eq_one_of_pos h]
 have c:∀ x:Int,-1<=x.sign/\x.sign<=1:=fun x=>by
  rcases Int.lt_trichotomy x 0 with h | h | h
  ·rw [Int.sign_eq_neg_one_of_neg h];decide
  ·rw [h];decide
  ·rw [Int.sign_eq_one_of_pos h];decide
 rw [h,h,h,<-Int.sign_mul];have:=c (a*b);exact aAv (by omega) (by omega)
theorem aTf {a b c d:Int}(m:Bits 40 a)(n:Bits 40 b)(o:Bits 40 c)(p:Bits 40 d):cpr a b c d=Nm.cmp (a*b) (c*d):=by
 unfold cpr;rw [aM7,aM7]
 rcases Int.lt_trichotomy (a*b) 0 with h | h | h<;>rcases Int.lt_trichotomy (c*d) 0 with g | g | g
 ·rw [Nm.aAC h,Nm.aAC g]
  have f:a≠0:=fun e=>by rw [e] at h;simp at h
  have i:b≠0:=fun e=>by rw [e] at h;simp at h
  have j:c≠0:=fun e=>by rw [e] at g;simp at g
  have l:d≠0:=fun e=>by rw [e] at g;simp at g
  rw [aPn f i j l m n o p,<-Int.natAbs_mul,<-Int.natAbs_mul];simp only [Int.lt_irrefl,decide_false,cond_false,gt_iff_lt]
  rcases Int.lt_trichotomy (a*b) (c*d) with k | k | k
  ·rw [Nm.aAC k,Nm.aAt (by omega)];rfl
  ·rw [k,Nm.aAz rfl,Nm.aAz rfl];rfl
  ·rw [Nm.aAt k,Nm.aAC (by omega)];rfl
 ·rw [Nm.aAC h,Nm.aAz g,Nm.aAC (by omega)];rfl
 ·rw [Nm.aAC h,Nm.aAt g,Nm.aAC (by omega)];rfl
 ·rw [Nm.aAz h,Nm.aAC g,Nm.aAt (by omega)];rfl
 ·rw [Nm.aAz h,Nm.aAz g,Nm.aAz (by omega)];simp [Wr];rfl
 ·rw [Nm.aAz h,Nm.aAt g,Nm.aAC (by omega)];rfl
 ·rw [Nm.aAt h,Nm.aAC g,Nm.aAt (by omega)];rfl
 ·rw [Nm.aAt h,Nm.aAz g,Nm.aAt (by omega)];rfl
 ·rw [Nm.aAt h,Nm.aAt g]
  have f:a≠0:=fun e=>by rw [e] at h;simp at h
  have i:b≠0:=fun e=>by rw [e] at h;simp at h
  have j:c≠0:=fun e=>by rw [e] at g;simp at g
  have l:d≠0:=fun e=>by rw [e] at g;simp at g
  rw [aPn f i j l m n o p,<-Int.natAbs_mul,<-Int.natAbs_mul];simp only [Int.lt_irrefl,decide_false,cond_false,gt_iff_lt]
  rcases Int.lt_trichotomy (a*b) (c*d) with k | k | k
  ·rw [Nm.aAC k,Nm.aAC (by omega)];rfl
  ·rw [k,Nm.aAz rfl,Nm.aAz rfl];rfl
  ·rw [Nm.aAt k,Nm.aAt (by omega)];rfl
def cp (a b c d:Int):Int:=Nm.cmp (a*b) (c*d)
theorem aUw:TEok Z 226 (teG true (f4i cp) noNd (fun _=>0) [40,40,40,40]):=by
 refine aJY aTg ?_ ?_
 ·intro f a h i g;unfold f4i at h;split at h
  ·rename_i x y z t;cases h;obtain ⟨b,c,d,e,_⟩:=g;refine ⟨?_,aAc⟩;unfold f4i;simp only [cp,aTf (b x (by simp)) (c y (by simp)) (d z (by simp)) (e t (by simp))]
  ·cases h
 ·intro f j a h _ _ _;unfold f4i at h;split at h
  ·cases h;trivial
  ·cases h
end Ab
structure Mt where
 a:Int
 b:Int
 c:Int
 d:Int
def Mt.sym (s:Int):Mt:=if s=-1 then ⟨1,0,1,2⟩ else if s=0 then ⟨3,1,1,3⟩ else if s=1 then ⟨2,1,0,1⟩ else if s=43 then ⟨1,0,0,1⟩ else if s=45 then ⟨-1,0,0,1⟩ else if s=111 then ⟨1,-1,1,1⟩ else ⟨1,1,-1,1⟩
def Mt.at1 (m:Mt)(p q:Int):Int:=m.a*p+m.b*q
def Mt.at2 (m:Mt)(p q:Int):Int:=m.c*p+m.d*q
def Mt.ag1 (m:Mt)(p q:Int):Int:=m.d*p+-m.b*q
def Mt.ag2 (m:Mt)(p q:Int):Int:=m.a*q+-m.c*p
def Mt.mul (x y:Mt):Mt:=⟨x.a*y.a+x.b*y.c,x.a*y.b+x.b*y.d,x.c*y.a+x.d*y.c,x.c*y.b+x.d*y.d⟩
structure MBits (n:Nat) (m:Mt):Prop where
 a:Bits n m.a
 b:Bits n m.b
 c:Bits n m.c
 d:Bits n m.d
namespace Nw
def ups (c:Int×Int):Bool:=decide (0<c.1)||decide (0<c.2)
def downs (c:Int×Int):Bool:=decide (c.1<0)||decide (c.2<0)
def fits (cs:List (Int×Int)):Bool:=cs.any ups != cs.any downs
end Nw
end Go.Proofs.YteghhlfmcjmnoaaGreatDoor
