import Derived.Test.YthhffdeihoofiaaGreatDoorCFu03
import Derived.Test.YthhffdeihoofiaaGreatDoorCFu02
set_option linter.all false
set_option maxRecDepth 100000
set_option maxHeartbeats 2000000
namespace Go.Proofs.YthhffdeihoofiaaGreatDoor
open Int (ediv_nonneg ediv_le_self le_of_lt lt_or_le natAbs_mul mul_nonneg le_trans one_mul)
open Nat (zero_le le_refl)
open List (map_cons map_nil)
open Nm (gX rS iU jZ uB half tz iV)
open Go.Proofs.Tryz
open Go.RowKit
structure xE (W U:World) (s:Nat) (p q:Value):Prop where
 bV:U.heap[s]?=some (.cells #[p,q] 56 (0,0))
 oth:∀k,k≠s->U.heap[k]?=W.heap[k]?
 size:U.heap.size=W.heap.size
 num:∀z v,WhoAt W z v->WhoAt U z v
 below:∀B w0,Below B w0 W->B<=s->Below B w0 U
variable {n:World}
theorem tU {U:World}{s:Nat}{x g p q:Value}(d:U=(n.setCell ⟨s,0,none⟩ p).setCell ⟨s,1,none⟩ q)(k:n.heap[s]?=some (.cells #[x,g] 56 (0,0))):xE n U s p q:=by
 subst d;refine⟨?_,?_,by simp,fun z v h=>(h.other k (by decide) _).other (sH k (o:=0) _) (by decide) _,fun B e h a=>(h.setCell a _).setCell a _⟩
 ·rw[sH (sH k (o:=0) p) (o:=1) q];rfl
 ·intro j b;rw[Below.heap_setCell _ _ _ _ b,Below.heap_setCell _ _ _ _ b]
def uS (w:World)(a b c d:Value):World:=(kX w a b c d).alloc (.cells #[.bool false,.slice none 0 0] 56)
theorem Ln (w:World)(a b c d:Value):Below w.heap.size w (uS w a b c d):=aW (nB w a b c d) (nB w a b c d).size _
theorem Cr (w:World)(a b c d:Value):(uS w a b c d).heap.size=w.heap.size+4:=by rw[uS,World.size_alloc,uC]
theorem aKh (w:World)(a b c d:Value):(uS w a b c d).heap[w.heap.size]?=some (.cells #[a,b] 56 (0,0)):=xK _ (Lk w a b c d)
theorem aKi (w:World)(a b c d:Value):(uS w a b c d).heap[w.heap.size+1]?=some (.cells #[c,d] 56 (0,0)):=xK _ (Im w a b c d)
theorem aKj (w:World)(a b c d:Value):(uS w a b c d).heap[w.heap.size+2]?=some (.cells #[.bool false,.slice none 0 0] 56 (0,0)):=xK _ (zT w a b c d)
theorem aKk (w:World)(a b c d:Value):(uS w a b c d).heap[w.heap.size+3]?=some (.cells #[.bool false,.slice none 0 0] 56 (0,0)):=by
 have:=vN (kX w a b c d) (.cells #[.bool false,.slice none 0 0] 56);rw[uC]at this;exact this
structure Yu (w U:World) (s:Nat) (x y:Int) (p q r t:Value):Prop where
 c0:((((U.setCell ⟨s,0,none⟩ p).setCell ⟨s,1,none⟩ q).setCell ⟨s+1,0,none⟩ r).setCell ⟨s+1,1,none⟩ t).cell? ⟨s,0,none⟩=some p
 c1:((((U.setCell ⟨s,0,none⟩ p).setCell ⟨s,1,none⟩ q).setCell ⟨s+1,0,none⟩ r).setCell ⟨s+1,1,none⟩ t).cell? ⟨s,1,none⟩=some q
 c2:((((U.setCell ⟨s,0,none⟩ p).setCell ⟨s,1,none⟩ q).setCell ⟨s+1,0,none⟩ r).setCell ⟨s+1,1,none⟩ t).cell? ⟨s+1,0,none⟩=some r
 c3:((((U.setCell ⟨s,0,none⟩ p).setCell ⟨s,1,none⟩ q).setCell ⟨s+1,0,none⟩ r).setCell ⟨s+1,1,none⟩ t).cell? ⟨s+1,1,none⟩=some t
 f0:U.frozen? ⟨s,0,none⟩=false
 f1:U.frozen? ⟨s,1,none⟩=false
 f2:U.frozen? ⟨s+1,0,none⟩=false
 f3:U.frozen? ⟨s+1,1,none⟩=false
 d0:∃v,U.cell? ⟨s,0,none⟩=some v
 a:WhoAt ((((U.setCell ⟨s,0,none⟩ p).setCell ⟨s,1,none⟩ q).setCell ⟨s+1,0,none⟩ r).setCell ⟨s+1,1,none⟩ t) x (.agg #[p,q])
 b:WhoAt ((((U.setCell ⟨s,0,none⟩ p).setCell ⟨s,1,none⟩ q).setCell ⟨s+1,0,none⟩ r).setCell ⟨s+1,1,none⟩ t) y (.agg #[r,t])
 below:Below w.heap.size w ((((U.setCell ⟨s,0,none⟩ p).setCell ⟨s,1,none⟩ q).setCell ⟨s+1,0,none⟩ r).setCell ⟨s+1,1,none⟩ t)
variable {z:Int}
theorem Ke {U:World}{s:Nat}{x:Int}{p q r t m a i j:Value}(b:U.heap[s]?=some (.cells #[m,a] 56 (0,0)))(d:U.heap[s+1]?=some (.cells #[i,j] 56 (0,0)))(g:WhoAt U x (.agg #[p,q]))(h:WhoAt U z (.agg #[r,t]))(e:Below n.heap.size n U)(f:n.heap.size<=s):Yu n U s x z p q r t:=by
 have S:=tU (U:=(U.setCell ⟨s,0,none⟩ p).setCell ⟨s,1,none⟩ q) rfl b;have T:=tU (p:=r) (q:=t) rfl ((S.oth (s+1) (by omega)).trans d);have b0:=(T.oth s (by omega)).trans S.bV;exact⟨bH b0 rfl,bH b0 rfl,bH T.bV rfl,bH T.bV rfl,kN b,kN b,kN d,kN d,⟨_,bH b rfl⟩,T.num _ _ (S.num _ _ g),T.num _ _ (S.num _ _ h),T.below _ _ (S.below _ _ e f) (by omega)⟩
def Df (w:World)(x y:Int):NN:=fun e a=>∃b d,e=.returned (.tuple #[b,d])/\WhoAt a (x/y) b/\WhoAt a (x%y) d/\Below w.heap.size w a
theorem aFB (w:World)(x y:Int)(u v:Value)(n:Nat)(hx:WhoAt w x u)(hy:WhoAt w y v)(bx:x.natAbs<2^n)(bY:y.natAbs<2^n)(hn:n<=1000000000)(af:0<y):Calls prog 112 #[u,v] w (Df w x y):=by
 obtain⟨a,ao,c9,rfl,hI,hg,hv⟩:=hx.open;obtain⟨b,bo,c8,rfl,hJ,hh,hu⟩:=hy.open;have hl:=xN hg hv bx;have hk:=xN hh hu bY
 have bh:0<b.length:=by
  have:=Pe hh hu
  rcases Nat.eq_zero_or_pos b.length with h|h
  ·have:=this.1 (List.eq_nil_of_length_eq_zero h);omega
  ·exact h
 have SG:=hid (fun W hW=>aGa W y _ (hy.below hW));rw[gX af]at SG
 have ae:Nm.val 4294967296 b=y:=by omega
 have DL:=hid (fun W hW=>aFz W a b _ _ (hI.below hW) (hJ.below hW) (by omega) (by omega) hg hh bh);rw[hv,ae]at DL;have HJ:=hid hJ;have HH:=hid hh;have HU:=hid ae;rw[decide_eq_false (show¬y<0 by omega)]at*;have BX:=hid bx;clear hI hJ hg hh hu ae hx hy bx bY
 by_cases au:x<0
 ·rw[decide_eq_true au]
  go_enter func112,ntmps112
  go_wp2_with fail
  refine(SG.out _ (Ln w _ _ _ _)).mono ?_;rintro e w1⟨rfl,g⟩;have ad:=g.size;rw[Cr]at ad;have B1:=(Ln w _ _ _ _).trans (g.mono (Ln w _ _ _ _).size);have k0:=cP (by rw[Cr];omega) (aKh _ _ _ _ _) g;have k1:=cP (by rw[Cr];omega) (aKi _ _ _ _ _) g;have K2:=hid (cP (by rw[Cr];omega) (aKj _ _ _ _ _) g);have K3:=hid (cP (by rw[Cr];omega) (aKk _ _ _ _ _) g);obtain⟨y0,y1⟩:=kP k0 rfl rfl;obtain⟨y2,y3⟩:=kP k1 rfl rfl;have DD:=hid (DL.out w1 B1);have k:=hid B1;clear g SG
  go_wp2_with fail
  refine(DD.out).mono ?_;rintro e P⟨qv,rv,Q,R,rfl,r,J,H,I,D,E,i⟩;have bk:=i.size;obtain⟨qo,qc,rfl,_⟩:=r.shape;obtain⟨ro,rc,rfl,_⟩:=J.shape;have z0:=(i.cell (p:=⟨w.heap.size,0,none⟩) (by simp only;omega)).trans y0;have z3:=(i.cell (p:=⟨w.heap.size+1,1,none⟩) (by simp only;omega)).trans y3;have B2:=k.out.trans (i.mono k.out.size);have Y:=Nm.Fx (by decide) I;have ab:=rS (by decide) I.eU;have C:=Int.emod_lt_of_pos ((x.natAbs:Nat):Int) af;have B:=Int.emod_add_mul_ediv ((x.natAbs:Nat):Int) y;have aa:0<=((x.natAbs:Nat):Int)/y:=ediv_nonneg (by omega) (by omega);have j:=Nm.aNd af (show((x.natAbs:Nat):Int)=((x.natAbs:Nat):Int)/y*y+((x.natAbs:Nat):Int)%y by rw[Int.mul_comm];omega) (by omega) C;rw[show -((x.natAbs:Nat):Int)=x by omega]at j;have A:=Int.emod_add_mul_ediv x y
  by_cases X:R=[]
  ·subst X
   have e0:((x.natAbs:Nat):Int)%y=0:=by rw[<-E];rfl
   rw[if_pos e0]at j
   have bj:((x.natAbs:Nat):Int)/y≠0:=by intro e;rw[e]at B;omega
   have M:WhoAt P (x/y) (.agg #[.bool true,.slice qo Q.length qc]):=sJ r H (by rw[D,j];omega) (by rw[j];symm;simp;omega)
   have N:WhoAt P (x%y) (.agg #[.bool false,.slice none 0 0]):=by
    have:x%y=0:=by rw[j,Int.mul_neg]at A;omega
    rw[this];exact Wh P
   have O:=B2;have BB:=i;have d:=cP (by omega) K2.out BB;have f:=cP (by omega) K3.out BB;obtain⟨s0,s1⟩:=kP d rfl rfl;obtain⟨s2,s3⟩:=kP f rfl rfl;have F:=Ke d f M N O (by omega);have r0:=F.f0;have r1:=F.f1;have r2:=F.f2;have r3:=F.f3;have q0:=F.c0;have q1:=F.c1;have q2:=F.c2;have q3:=F.c3;have FA:=hid F.a;have FY:=hid F.b;have FB:=hid F.below;clear F M N O d f BB;clear bj j A B C aa ab Y H I D E r J B2 i e0
   go_wp2_with fail
   refine bodyPost_ret (v:=.tuple #[.agg #[.bool true,.slice qo Q.length qc],.agg #[.bool false,.slice none 0 0]]) (by simp[results,results112,go_sem,q0,q1,q2,q3]) rfl ⟨_,_,rfl,FA.out,FY.out,FB.out⟩
  ·have dc:((R.length:Int)==0)=false:=by
    have:=List.length_pos_iff.2 X;exact beq_eq_false_iff_ne.2 (by omega)
   have e0:((x.natAbs:Nat):Int)%y≠0:=by rw[<-E];exact fun h=>X (Y.1 h)
   rw[if_neg e0]at j;have LO:=hid (Nz 1 P (by decide) (by decide));have HQ:=hid r;have HR:=hid J;have GQ:=hid H;have GR:=hid I;have VQ:=hid D;have VR:=hid E;have S:=hid j;have ba:=hid A;have bc:=hid B;have al:=hid C;have H2:=hid i;have ak:=hid B2
   have db:Q.length<=n:=by
    have h1:=ediv_le_self y (show 0<=((x.natAbs:Nat):Int) by omega);have h2:=BX.out;exact xN (z:=((x.natAbs:Nat):Int)/y) H (by rw[D];omega) (by omega)
   clear r J H I D E j A B C i B2 Y
   go_wp2_with fail
   refine(LO.out).mono ?_;rintro e w3⟨lv,L,rfl,⟨gL,vL,lL⟩,ap,l⟩;have dd:=l.size;have AD:=hid (aEP w3 Q L _ _ (HQ.out.below l) (ap.bO (zero_le _)) (by omega) (by omega) GQ.out.eU gL.eU);rw[vL,VQ.out]at AD;have bs:=(l.cell (p:=⟨w.heap.size+1,1,none⟩) (by simp only;omega)).trans z3;have H3:=hid l;clear l ap gL vL
   go_wp2_with fail
   refine(AD.out).mono ?_;rintro e w4⟨fv,FL,rfl,⟨gF,vF⟩,T,s⟩;have de:=s.size;obtain⟨fo,fc,rfl,_⟩:=T.shape;have z4:=(s.cell (p:=⟨w.heap.size+1,1,none⟩) (by simp only;omega)).trans bs;have q:=hid (H3.out.trans (s.mono H3.out.size))
   have ar:Nm.val 4294967296 R<=Nm.val 4294967296 b:=by rw[VR.out,HU.out];have:=al.out;omega
   have SB:=hid (Lj w4 b R _ _ ((HJ.out.below ak.out).below q.out) (HR.out.below q.out) (by omega) (Gh GR.out HH.out ar) HH.out.eU GR.out.eU ar);rw[VR.out,HU.out]at SB;have bb:=hid T;have GF:=hid gF;have VF:=hid vF;clear T gF vF s
   go_wp2_with fail
   refine(SB.out).mono ?_;rintro e w5⟨tv,TL,rfl,⟨gT,vT⟩,U,o⟩;have df:=o.size;obtain⟨a2,tc,rfl,_⟩:=U.shape;have M:WhoAt w5 (x/y) (.agg #[.bool true,.slice fo FL.length fc]):=sJ ((bb.out.bO (zero_le _)).below o) GF.out (by rw[VF.out,S.out];omega) (by rw[S.out];symm;simp;omega)
   have N:WhoAt w5 (x%y) (.agg #[.bool false,.slice a2 TL.length tc]):=by
    have h1:=ba.out;have h2:=bc.out;have h3:=al.out;rw[S.out,Int.mul_sub,Int.mul_neg,Int.mul_one]at h1;have h5:=VR.out;refine sJ (U.bO (zero_le _)) gT (by rw[vT];omega) (by symm;simp;omega)
   have BB:=(H2.out.trans (q.out.mono H2.out.size)).trans (o.mono (show w1.heap.size<=w4.heap.size by omega));have O:=(ak.out.trans (q.out.mono (show w.heap.size<=P.heap.size by omega))).trans (o.mono (show w.heap.size<=w4.heap.size by omega));have d:=cP (by omega) K2.out BB;have f:=cP (by omega) K3.out BB;obtain⟨s0,s1⟩:=kP d rfl rfl;obtain⟨s2,s3⟩:=kP f rfl rfl;have F:=Ke d f M N O (by omega);have r0:=F.f0;have r1:=F.f1;have r2:=F.f2;have r3:=F.f3;have q0:=F.c0;have q1:=F.c1;have q2:=F.c2;have q3:=F.c3;have FA:=hid F.a;have FY:=hid F.b;have FB:=hid F.below;clear F M N O d f BB;clear gT vT U o
   go_wp2_with fail
   refine bodyPost_ret (v:=.tuple #[.agg #[.bool true,.slice fo FL.length fc],.agg #[.bool false,.slice a2 TL.length tc]]) (by simp[results,results112,go_sem,q0,q1,q2,q3]) rfl ⟨_,_,rfl,FA.out,FY.out,FB.out⟩
 ·rw[decide_eq_false au]
  go_enter func112,ntmps112
  go_wp2_with fail
  refine(SG.out _ (Ln w _ _ _ _)).mono ?_;rintro e w1⟨rfl,g⟩;have ad:=g.size;rw[Cr]at ad;have B1:=(Ln w _ _ _ _).trans (g.mono (Ln w _ _ _ _).size);have k0:=cP (by rw[Cr];omega) (aKh _ _ _ _ _) g;have k1:=cP (by rw[Cr];omega) (aKi _ _ _ _ _) g;have K2:=hid (cP (by rw[Cr];omega) (aKj _ _ _ _ _) g);have K3:=hid (cP (by rw[Cr];omega) (aKk _ _ _ _ _) g);obtain⟨y0,y1⟩:=kP k0 rfl rfl;obtain⟨y2,y3⟩:=kP k1 rfl rfl;have DD:=hid (DL.out w1 B1);have k:=hid B1;clear g SG
  go_wp2_with fail
  refine(DD.out).mono ?_;rintro e P⟨qv,rv,Q,R,rfl,r,J,H,I,D,E,i⟩;have bk:=i.size;obtain⟨qo,qc,rfl,_⟩:=r.shape;obtain⟨ro,rc,rfl,_⟩:=J.shape;have z0:=(i.cell (p:=⟨w.heap.size,0,none⟩) (by simp only;omega)).trans y0;have O:=k.out.trans (i.mono k.out.size);have BB:=i;rw[show((x.natAbs:Nat):Int)=x by omega]at D E;have aa:0<=x/y:=ediv_nonneg (by omega) (by omega);have ab:0<=x%y:=Int.emod_nonneg _ (by omega);have M:WhoAt P (x/y) (.agg #[.bool false,.slice qo Q.length qc]):=sJ r H (by rw[D];omega) (by symm;simp;omega);have N:WhoAt P (x%y) (.agg #[.bool false,.slice ro R.length rc]):=sJ J I (by rw[E];omega) (by symm;simp;omega);have d:=cP (by omega) K2.out BB;have f:=cP (by omega) K3.out BB;obtain⟨s0,s1⟩:=kP d rfl rfl;obtain⟨s2,s3⟩:=kP f rfl rfl;have F:=Ke d f M N O (by omega);have r0:=F.f0;have r1:=F.f1;have r2:=F.f2;have r3:=F.f3;have q0:=F.c0;have q1:=F.c1;have q2:=F.c2;have q3:=F.c3;have FA:=hid F.a;have FY:=hid F.b;have FB:=hid F.below;clear F M N O d f BB;clear H I D E r J i aa ab
  go_wp2_with fail
  refine bodyPost_ret (v:=.tuple #[.agg #[.bool false,.slice qo Q.length qc],.agg #[.bool false,.slice ro R.length rc]]) (by simp[results,results112,go_sem,q0,q1,q2,q3]) rfl ⟨_,_,rfl,FA.out,FY.out,FB.out⟩
structure zK (w:World) (A B C p q:Nat):Prop where
 p:∃ao n c,w.heap[A]?=some (.cells #[.bool false,.slice ao n c] 56 (0,0))/\WhoAt w p (.agg #[.bool false,.slice ao n c])
 q:∃ao n c,w.heap[B]?=some (.cells #[.bool false,.slice ao n c] 56 (0,0))/\WhoAt w q (.agg #[.bool false,.slice ao n c])
 r:w.heap[C]?=some (.cells #[.bool false,.slice none 0 0] 56 (0,0))
def nP (w:World)(A B n x y a:Nat)(wr:World):Prop:=
 ∃p q:Nat,a=q/\zK wr A B (w.heap.size+2) p q/\Nat.gcd p q=Nat.gcd x y/\p<2^n/\q<2^n/\Below w.heap.size w wr
theorem zK.alloc {w:World}{A k C p q:Nat}(h:zK w A k C p q)(o:Obj):zK (w.alloc o) A k C p q:=by
 obtain⟨⟨f,e,d,k0,n0⟩,⟨j,i,g,k1,b⟩,a⟩:=h;exact⟨⟨f,e,d,xK o k0,n0.alloc o⟩,⟨j,i,g,xK o k1,b.alloc o⟩,xK o a⟩
variable {w k:Nat}
theorem aD4 {b:World}{a o Y e:Nat}(h:nP n w k a o Y e b)(d:Obj):nP n w k a o Y e (b.alloc d):=by
 obtain⟨p,q,g,i,j,l,r,f⟩:=h;exact⟨p,q,g,i.alloc d,j,l,r,aW f f.size d⟩
theorem aPL {a b:World}{n X Y gk Q R:Nat}{x g:Value}{f ro:Option Addr}{e d rn h:Nat}(u:b.heap[w]?=some (.cells #[.bool false,x] 56 (0,0)))(v:b.heap[k]?=some (.cells #[.bool false,g] 56 (0,0)))(z:b.heap[a.heap.size+2]?=some (.cells #[.bool false,.slice none 0 0] 56 (0,0)))
  (C:a.heap.size+2<w) (D:w<k) (r:WhoAt b Q (.agg #[.bool false,.slice f e d])) (s:WhoAt b R (.agg #[.bool false,.slice ro rn h])) (j:Below a.heap.size a b) (o:gk=R) (l:Nat.gcd Q R=Nat.gcd X Y) (i:Q<2^n) (br:R<2^n):
  nP a w k n X Y gk ((((b.setCell ⟨w,0,none⟩ (.bool false)).setCell ⟨w,1,none⟩ (.slice f e d)).setCell ⟨k,0,none⟩ (.bool false)).setCell ⟨k,1,none⟩ (.slice ro rn h)):=by
 have S:=tU (U:=(b.setCell ⟨w,0,none⟩ (.bool false)).setCell ⟨w,1,none⟩ (.slice f e d)) rfl u;have T:=tU (p:=.bool false) (q:=.slice ro rn h) rfl ((S.oth k (by omega)).trans v);exact⟨Q,R,o,⟨⟨_,_,_,(T.oth _ (by omega)).trans S.bV,T.num _ _ (S.num _ _ r)⟩,⟨_,_,_,T.bV,T.num _ _ (S.num _ _ s)⟩,(T.oth _ (by omega)).trans ((S.oth _ (by omega)).trans z)⟩,l,i,br,T.below _ _ (S.below _ _ j (by omega)) (by omega)⟩
theorem aNi {p q n:Nat}{x y:Nat}(h:Nat.gcd p q=Nat.gcd x y)(b:0<q)(d:q<2^n):Nat.gcd q (p%q)=Nat.gcd x y/\p%q<2^n/\p%q<q:=by
 have a:=Nat.mod_lt p b;refine⟨?_,by omega,a⟩;rw[<-h,Nat.gcd_comm q,<-Nat.gcd_rec,Nat.gcd_comm]
theorem aJh (w:World)(x y:Int)(na nb:Bool)(ao bo:Option Addr)(la lb C B n:Nat)(hx:WhoAt w x (.agg #[.bool na,.slice ao la C]))(hy:WhoAt w y (.agg #[.bool nb,.slice bo lb B]))(bx:x.natAbs<2^n)(bY:y.natAbs<2^n)(hn:n<=1000000000):
  Calls prog 139 #[.agg #[.bool na,.slice ao la C],.agg #[.bool nb,.slice bo lb B]] w (bR w (Nat.gcd x.natAbs y.natAbs:Nat)):=by
 have HY:=hid hy;have BX:=hid bx;have BY:=hid bY;have A:=nB w (.bool na) (.slice ao la C) (.bool nb) (.slice bo lb B);have A1:=hid (aGb _ x _ (hx.below A));have J:=hid A;clear hx hy bx bY A
 go_enter func139,ntmps139
 go_wp2_with fail
 refine(A1.out).mono ?_;rintro e f⟨v1,rfl,D,i⟩;have ap:=i.size;rw[uC]at ap;have k1:=cP (by rw[uC];omega) (Im _ _ _ _ _) i;have W:=hid (cP (by rw[uC];omega) (zT _ _ _ _ _) i);obtain⟨d1,o1,c1,rfl,_⟩:=D.open;rw[decide_eq_false (show¬((x.natAbs:Nat):Int)<0 by omega)]at*;obtain⟨z2,z3⟩:=kP k1 rfl rfl;have B1:=hid (J.out.trans (i.mono J.out.size));have N:=hid D
 have l1:w.heap.size+1<f.heap.size:=by omega
 have A2:=hid (aGb (f.alloc (.cells #[.bool false,.slice o1 d1.length c1] 56)) y _ ((HY.out.below B1.out).alloc _));clear i k1 D A1
 go_wp2_with fail
 refine(A2.out).mono ?_;rintro e h⟨v3,rfl,E,g⟩;have aq:=g.size;rw[World.size_alloc]at aq;obtain⟨d3,o3,c3,rfl,_⟩:=E.open;rw[decide_eq_false (show¬((y.natAbs:Nat):Int)<0 by omega)]at*;have KA:=hid (cP (by rw[World.size_alloc];omega) (vN f (.cells #[.bool false,.slice o1 d1.length c1] 56)) g);have KC:=hid (cP (by rw[World.size_alloc];omega) (xK (.cells #[.bool false,.slice o1 d1.length c1] 56) W.out) g);have NA:=hid ((N.out.alloc (.cells #[.bool false,.slice o1 d1.length c1] 56)).below g);have B3:=hid ((aW B1.out (by omega) (.cells #[.bool false,.slice o1 d1.length c1] 56)).trans (g.mono (by rw[World.size_alloc];omega)))
 have GA:Hid (zK (h.alloc (.cells #[.bool false,.slice o3 d3.length c3] 56)) f.heap.size h.heap.size (w.heap.size+2) x.natAbs y.natAbs):=⟨⟨_,_,_,xK _ KA.out,NA.out.alloc _⟩,⟨_,_,_,vN h _,E.alloc _⟩,xK _ KC.out⟩
 have B4:=hid (aW B3.out (by omega) (.cells #[.bool false,.slice o3 d3.length c3] 56))
 have am:f.heap.size<h.heap.size:=by omega
 clear E g A2 KA KC NA N W
 go_wp2_with fail
 go_loopg [] y.natAbs (fun gk wr=>nP w f.heap.size h.heap.size n x.natAbs y.natAbs gk wr)
 case atStart=>exact⟨x.natAbs,y.natAbs,rfl,GA.out,rfl,BX.out,BY.out,B4.out⟩
 case round=>
  obtain⟨p,q,P,hG,r,bp,bq,H⟩:=hrel;have ag:=hid P;clear P;obtain⟨⟨po,pn,pc,k,S⟩,⟨qo,qn,qc,l,I⟩,R⟩:=hG;have hs:=H.size;have bc:=fQ k;have be:=fQ l;obtain⟨x0,x1⟩:=kP k rfl rfl;obtain⟨x2,x3⟩:=kP l rfl rfl;have O:=hid (aGa wr q _ I);have u:=hid k;have M:=hid l;have z:=hid R;have HP:=hid S;have HQ:=hid I;have L:=hid H;clear k l R S I H GA B4
  by_cases hq:q=0
  ·subst hq;have hc:Nm.cmp ((0:Nat):Int) 0=0:=iU rfl;rw[hc]at O
   go_wp2_with fail
   refine(O.out).mono ?_;rintro e w5⟨rfl,a⟩;have ar:=a.size;have k0:=cP (by omega) u.out a;have d:=cP (by omega) z.out a;obtain⟨u0,u1⟩:=kP k0 rfl rfl;have F:=vA d (HP.out.below a) (L.out.trans (a.mono L.out.size)) (by omega);obtain⟨r0,r1⟩:=Ei d;obtain⟨s0,s1⟩:=kP d rfl rfl;have q0:=F.c0;have q1:=F.c1;have FN:=hid F.num;have FB:=hid F.below;clear F k0 d a
   go_wp2_with fail
   refine bodyPost_ret (v:=.agg #[.bool false,.slice po pn pc]) (by simp[results,results139,go_sem,q0,q1]) rfl ⟨_,rfl,?_,FB.out⟩;rw[<-r,Nat.gcd_zero_right];exact FN.out
  ·have hc:Nm.cmp (q:Int) 0=1:=gX (by omega);rw[hc]at O;obtain⟨e1,e2,e3⟩:=aNi r (by omega) bq;have ad:=hid e1;have ae:=hid e2;have af:=hid e3;clear e1 e2 e3
   go_wp2_with fail
   refine(O.out).mono ?_;rintro e w5⟨rfl,a⟩;have ar:=a.size;have k0:=cP (by omega) u.out a;have k1:=cP (by omega) M.out a;have U:=cP (by omega) z.out a;obtain⟨u0,u1⟩:=kP k0 rfl rfl;obtain⟨u2,u3⟩:=kP k1 rfl rfl;have DV:=hid (aFB w5 p q _ _ n (HP.out.below a) (HQ.out.below a) (by simpa using bp) (by simpa using bq) hn (by omega));have NQ:=hid (HQ.out.below a);have B5:=hid (L.out.trans (a.mono L.out.size));have K0:=hid k0;have K1:=hid k1;have W:=hid U;clear k0 k1 U a O u M z HP HQ L x0 x1 x2 x3
   go_wp2_with fail
   refine(DV.out).mono ?_;rintro e j⟨qv,rv,rfl,T,o,b⟩;have b6:=b.size;obtain⟨d6,o6,c6,rfl,_⟩:=T.open;obtain⟨d7,o7,c7,rfl,_⟩:=o.open
   have s:((p:Int)%(q:Int))=((p%q:Nat):Int):=by rw[Int.natCast_emod]
   rw[s]at o ⊢;rw[decide_eq_false (show¬(((p%q:Nat):Int))<0 by omega)]at*;have k0:=cP (by omega) K0.out b;have k1:=cP (by omega) K1.out b;have U:=cP (by omega) W.out b;obtain⟨t2,t3⟩:=kP k1 rfl rfl;obtain⟨t0,t1,f0,f1⟩:=cf2 k0 rfl rfl;obtain⟨f2,f3⟩:=Ei k1
   have lA:f.heap.size<j.heap.size:=by omega
   have lB:h.heap.size<j.heap.size:=by omega
   have cd:¬(f.heap.size=h.heap.size):=by omega
   have cg:¬(h.heap.size=f.heap.size):=by omega
   have cb:¬(f.heap.size=j.heap.size):=by omega
   have cc:¬(f.heap.size=j.heap.size+1):=by omega
   have ce:¬(h.heap.size=j.heap.size):=by omega
   have cf:¬(h.heap.size=j.heap.size+1):=by omega
   have b7:¬(j.heap.size=f.heap.size):=by omega
   have b9:¬(j.heap.size+1=f.heap.size):=by omega
   have b8:¬(j.heap.size=h.heap.size):=by omega
   have ca:¬(j.heap.size+1=h.heap.size):=by omega
   have ab:=hid (fun gk hk=>aPL (n:=n) (X:=x.natAbs) (Y:=y.natAbs) (gk:=gk) k0 k1 U (show w.heap.size+2<f.heap.size by omega) am (NQ.out.below b) o (B5.out.trans (b.mono (by omega))) hk ad.out bq ae.out);clear k0 k1 U b T o s DV;generalize decide ((p:Int)/(q:Int)<0)=nq at*
   go_wp2_with fail
   go_roundg (p%q)
   case measure=>have:=ag.out;have:=af.out;omega
   case rel=>exact aD4 (aD4 (ab.out _ rfl) _) _
theorem aLx (w:World)(x y:Int)(u v:Value)(n:Nat)(d:WhoAt w x u)(e:WhoAt w y v)(h:x.natAbs<2^n)(f:y.natAbs<2^n)(j:n<=1000000000):Calls prog 139 #[u,v] w (bR w (Nat.gcd x.natAbs y.natAbs:Nat)):=by
 obtain⟨a,k,i,rfl,_⟩:=d.open;obtain⟨b,l,g,rfl,_⟩:=e.open;exact aJh w x y _ _ _ _ _ _ _ _ n d e h f j
def Nm.bl (z:Int):Nat:=if z=0 then 0 else Nat.log2 z.natAbs+1
variable {v:Int}
theorem Nm.aWQ (j:1<=k)(h:(2:Int)^(k-1)<=v)(i:v<2^k):Nm.bl v=k:=by
 have l:(0:Int)<2^(k-1):=jZ (by decide) _
 have e:v≠0:=by omega
 unfold Nm.bl;rw[if_neg e]
 have b:2^(k-1)<=v.natAbs:=by
  have:((2^(k-1):Nat):Int)<=(v.natAbs:Int):=by
   rw[Int.natCast_pow];have:((2:Nat):Int)=2:=rfl;rw[this];omega
  exact Int.ofNat_le.1 this
 have d:v.natAbs<2^k:=by
  have:(v.natAbs:Int)<((2^k:Nat):Int):=by
   rw[Int.natCast_pow];have:((2:Nat):Int)=2:=rfl;rw[this];omega
  exact Int.ofNat_lt.1 this
 have a:v.natAbs≠0:=by omega
 have f:=(Nat.le_log2 a).2 b;have g:=(Nat.log2_lt a).2 d;omega
variable {d:Int}
theorem aVd {r:LN}{c:Nat}(a:Nm.dE 4294967296 r)(hc:1<=c)(b:(2:Int)^(c-1)<=d)(f:d<2^c):Nm.bl (Nm.val 4294967296 (r++[d]))=32*r.length+c:=by
 have lo:=rS (by decide) a;have hi:=Nm.xU (by decide) a;rw[Nm.Ds]
 have e:(4294967296:Int)^r.length=2^(32*r.length):=by rw[Int.pow_mul];rfl
 rw[e]at hi ⊢;have g:(0:Int)<2^(32*r.length):=jZ (by decide) _;refine Nm.aWQ (by omega) ?_ ?_
 ·have:2^(c-1)*(2:Int)^(32*r.length)<=d*2^(32*r.length):=Int.mul_le_mul_of_nonneg_right b (by omega);rw[<-Int.pow_add]at this;rw[show 32*r.length+c-1=c-1+32*r.length by omega];omega
 ·have:(d+1)*(2:Int)^(32*r.length)<=2^c*2^(32*r.length):=Int.mul_le_mul_of_nonneg_right (by omega) (by omega);rw[<-Int.pow_add]at this;rw[show 32*r.length+c=c+32*r.length by omega];rw[Int.add_mul]at this;omega
theorem aNp {x:Int}{c:Nat}(a:z=x/2^c):z/2=x/2^(c+1):=by
 rw[a,Int.pow_succ,Int.ediv_ediv_of_nonneg (le_of_lt (jZ (by decide) _))]
theorem aLs (w:World)(a:LN)(v:Value)(i:Lims w a v)(p:a.length<=10000000000)(n:Nm.Good 4294967296 a):
  Calls prog 143 #[v] w fun e L=>e=.returned (.int .i64 (Nm.bl (Nm.val 4294967296 a)))/\L=w:=by
 obtain⟨M,D,rfl,_⟩:=i.shape
 rcases Nm.aEx n with rfl|⟨r,d,rfl,J,d1,d2⟩
 ·have e:Nm.bl (Nm.val 4294967296 [])=0:=rfl;rw[e];clear i n;simp only[List.length_nil]
  go_enter func143,ntmps143
  go_wp2_with fail
  go_ret
  exact⟨rfl,rfl⟩
 ·obtain⟨g,rfl,hc⟩:=i.place (by simp)
  have x:(r++[d]).length=r.length+1:=by simp
  have x1:=hc r.length (by simp)
  have E:Nm.at' (r++[d]) r.length=d:=by unfold Nm.at';simp
  rw[E]at x1;rw[x]at p ⊢;have R:(((r.length+1:Nat):Int)==0)=false:=beq_eq_false_iff_ne.2 (by omega)
  have O:(((r.length+1:Nat):Int)-1).toNat=r.length:=by omega
  have P:((r.length+1:Nat):Int)-1=r.length:=by omega
  have j:=hid (fun(c:Nat) (F:1<=c) h1 u=>aVd (d:=d) (c:=c) J F h1 u);clear i hc n x
  go_enter func143,ntmps143
  go_wp2_with fail
  go_loop [3,4] (fun l t=>∃(c:Nat) (T:Int),l=.int .i64 ((32*r.length+c:Nat):Int)/\t=.int .u32 T/\0<=T/\T<4294967296/\T=d/2^c/\(c=0\/(2:Int)^(c-1)<=d)/\c<=32) (fun _ t=>(intOf t).toNat)
  case atStart=>exact⟨0,d,by simp;try omega,rfl,by omega,d2,by simp,Or.inl rfl,by omega⟩
  case round=>
   obtain⟨c,T,rfl,rfl,S,U,y,z,hc⟩:=hrel;have k:=hid y;have C:=hid z;clear y z
   by_cases h:0<T
   ·have f:(2:Int)^c<=d:=by
     have h1:1<=d/2^c:=by rw[<-k.out];omega
     have:=(Int.le_ediv_iff_mul_le (jZ (by decide) c)).1 h1;omega
    have H:c<32:=by
     rcases Nat.lt_or_ge c 32 with h1|h1
     ·exact h1
     ·have u:(2:Int)^32<=2^c:=uB (by decide) h1;have N:(2:Int)^32=4294967296:=rfl;omega
    have B:=hid f;clear f
    go_wp2_with fail
    go_round
    case rel=>exact⟨c+1,T/2,by simp;omega,rfl,by omega,by omega,aNp k.out,Or.inr (by simpa using B.out),by omega⟩
    case measure=>simp[intOf];omega
   ·have o:d/2^c=0:=by rw[<-k.out];omega
    have s:d<2^c:=by
     have I:(0:Int)<2^c:=jZ (by decide) c
     rcases lt_or_le d (2^c)with h1|h1
     ·exact h1
     ·have:(1:Int)<=d/2^c:=(Int.le_ediv_iff_mul_le I).2 (by omega);omega
    have q:1<=c:=by
     rcases Nat.eq_zero_or_pos c with rfl|h1
     ·simp at s;omega
     ·exact h1
    have b:(2:Int)^(c-1)<=d:=by
     rcases C.out with h1|h1
     ·omega
     ·exact h1
    have A:=hid (j.out c q b s);clear o s b
    go_wp2_with fail
    go_ret
    exact⟨by rw[A.out];rfl,rfl⟩
namespace Ab
def Hb (ν:LV):AV->Option (Int×Nat)
 |.one (.dg true i)=>(ν[i]?).bind fun zn=>bif Nat.ble zn.2 100 then some zn else none
 |_=>none
def Kh:AV->Option Int
 |.one (.int .i64 n)=>some n
 |.one (.sint .i64 n)=>some n
 |_=>none
variable {φ:LI}{a:AV}{x:Value}
theorem Ml {ν k:LV}(f:∀(i:Nat) (x:Int×Nat),ν[i]?=some x->k[i]?=some x)(h:Hb ν a=some (v,w))(r:dW Z φ k n a x):∃b,Lims n b x/\Nm.Good 4294967296 b/\Nm.val 4294967296 b=v.natAbs/\Bits w v/\w<=100/\b.length<=10000000*w:=by
 unfold Hb at h;split at h
 ·rename_i i;obtain⟨⟨q,o⟩,l,d⟩:=aT h
  cases e:Nat.ble o 100 with
  |false=>simp only[e]at d;cases d
  |true=>
   simp only[e,cond_true]at d;cases d;obtain⟨s,p,f1,⟨b,f2,f3,g⟩,j⟩:=r;rw[f _ _ l]at f1;cases f1;exact⟨b,f2,f3,g,j,Nat.le_of_ble_eq_true e,xN f3 g j⟩
 ·cases h
variable {l:LV}
theorem aSQ (h:Kh a=some v)(r:dW Z φ l n a x):x=.int .i64 v:=by
 unfold Kh at h;split at h
 ·cases h;exact r
 ·cases h;exact r
 ·cases h
theorem Tq (h:Bits w v):Z.bits w v:=h
def rY:Spec:=fun f _ ν _ e d=>
 bif f==143 then (match d with
  | [a]=>(Hb ν a).map fun zn=>([],.val (.one (.sint .i64 (Nm.bl zn.1))),[],none)
  |_=>none)
 else bif f==110 then (match d with
  | [a,b]=>(Hb ν a).bind fun x=>(Hb ν b).map fun y=>([],.val (.one (.sint .i64 (Nm.cmp (x.1.natAbs:Int) (y.1.natAbs:Int)))),[],none)
  |_=>none)
 else bif f==108 then (match d with
  | [a,b]=>(Hb ν a).bind fun x=>(Hb ν b).map fun y=>([((x.1.natAbs:Int)*(y.1.natAbs:Int),x.2+y.2)],.val (.one (.dg true ν.length)),[],none)
  |_=>none)
 else bif f==96 then (match d with
  | [.one (.int .u64 n)]=>bif decide (0<=n)&&decide (n<1000000000)then some ([(n,1)],.val (.one (.dg true ν.length)),[],none)else none
  |_=>none)
 else bif f==144 then (match d with
  | [a,b]=>(Hb ν a).bind fun x=>(Kh b).map fun t=>([((x.1.natAbs:Int)*2^t.toNat,100)],.val (.one (.dg true ν.length)),[0<=t/\t<=900000000/\10000000*x.2+t.toNat<=1000000000],none)
  |_=>none)
 else none
variable {i:LB}
theorem Ql (h:All2 (dW Z φ l n) [a] i):∃x,i=[x]/\dW Z φ l n a x:=by
 match i,h with
 | [u],⟨h,_⟩=>exact⟨u,rfl,h⟩
 |_::_::_,⟨_,h⟩=>exact h.elim
theorem aTR {b:AV}(h:All2 (dW Z φ l n) [a,b] i):∃x y,i=[x,y]/\dW Z φ l n a x/\dW Z φ l n b y:=by
 match i,h with
 | [u,v],⟨h,g,_⟩=>exact⟨u,v,rfl,h,g⟩
 | [_],⟨_,h⟩=>exact h.elim
 |_::_::_::_,⟨_,_,h⟩=>exact h.elim
theorem Qf (w0:World)(ψ:LI):SpecOk Z w0 ψ rY:=by
 intro f d ν id bx vs ar r p ap h;unfold rY at h
 cases P:f==143 with
 |true=>
  have:f=143:=by simpa using P
  subst this;rw[P]at h;simp only[cond_true]at h;split at h
  ·obtain⟨⟨z,n⟩,o,q⟩:=cA h;cases q;refine⟨(bF func143 rfl rfl).en,fun _ M a φ w k _ _ _ _ j=>?_⟩;obtain⟨x,rfl,g⟩:=Ql j;obtain⟨l,A,B,C,I,q5,q6⟩:=Ml (fun i x g=>a i x (sK _ _ i x g)) o g;refine(aLs w l x A (by omega) B).mono ?_;rintro e L⟨rfl,rfl⟩;rw[C,bl_abs];exact⟨_,rfl,Below.refl _ _,rfl⟩
  ·cases h
 |false=>
 rw[P]at h;simp only[cond_false]at h
 cases R:f==110 with
 |true=>
  have:f=110:=by simpa using R
  subst this;rw[R]at h;simp only[cond_true]at h;split at h
  ·obtain⟨⟨z,n⟩,o,q⟩:=aT h;obtain⟨⟨y,m⟩,D,E⟩:=cA q;cases E;refine⟨(bF func110 rfl rfl).en,fun _ M a φ w k _ _ _ _ j=>?_⟩;obtain⟨x,t,rfl,g,X⟩:=aTR j;obtain⟨l,A,B,C,I,q5,q6⟩:=Ml (fun i x g=>a i x (sK _ _ i x g)) o g;obtain⟨O,k1,Y,k3,k4,k5,k6⟩:=Ml (fun i x g=>a i x (sK _ _ i x g)) D X;refine(Np w l O x t A k1 (by omega) B Y).mono ?_;rintro e L⟨rfl,u⟩;rw[C,k3];exact⟨_,rfl,u,rfl⟩
  ·cases h
 |false=>
 rw[R]at h;simp only[cond_false]at h
 cases S:f==108 with
 |true=>
  have:f=108:=by simpa using S
  subst this;rw[S]at h;simp only[cond_true]at h;split at h
  ·obtain⟨⟨z,n⟩,o,q⟩:=aT h;obtain⟨⟨y,m⟩,D,E⟩:=cA q;cases E;refine⟨(bF func108 rfl rfl).en,fun _ M a φ w k _ _ _ _ j=>?_⟩;obtain⟨x,t,rfl,g,X⟩:=aTR j;obtain⟨l,A,B,C,I,q5,q6⟩:=Ml (fun i x g=>a i x (sK _ _ i x g)) o g;obtain⟨O,k1,Y,k3,k4,k5,k6⟩:=Ml (fun i x g=>a i x (sK _ _ i x g)) D X;refine(Yx w l O x t A k1 (by omega) (by omega) B.eU Y.eU).mono ?_;rintro e L⟨v,k,rfl,⟨F,s⟩,H,u⟩;rw[C,k3]at s;refine⟨v,rfl,u,⟨(z.natAbs:Int)*(y.natAbs:Int),n+m,a _ _ (by simp),⟨k,H.bO (zero_le _),F,by rw[s,natAbs_mul];simp⟩,fY (Ul I) (Ul k4)⟩⟩
  ·cases h
 |false=>
 rw[S]at h;simp only[cond_false]at h
 cases T:f==96 with
 |true=>
  have:f=96:=by simpa using T
  subst this;rw[T]at h;simp only[cond_true]at h;split at h
  ·rename_i n
   cases J:(decide (0<=n)&&decide (n<1000000000))with
   |false=>rw[J]at h;cases h
   |true=>
    rw[J]at h;cases h;simp only[Bool.and_eq_true,decide_eq_true_eq]at J;refine⟨(bF func96 rfl rfl).en,fun _ M a φ w k _ _ _ _ j=>?_⟩;obtain⟨x,rfl,g⟩:=Ql j;have g:x=.int .u64 n:=g;subst g;refine(Nz n w J.1 (by omega)).mono ?_;rintro e L⟨v,k,rfl,⟨F,s,_⟩,H,u⟩;refine⟨v,rfl,u,⟨n,1,a _ _ (by simp),⟨k,H.bO (zero_le _),F,by rw[s];omega⟩,?_⟩⟩;exact iI (by omega)
  ·cases h
 |false=>
 rw[T]at h;simp only[cond_false]at h
 cases U:f==144 with
 |true=>
  have:f=144:=by simpa using U
  subst this;rw[U]at h;simp only[cond_true]at h;split at h
  ·obtain⟨⟨z,n⟩,o,q⟩:=aT h;obtain⟨t,D,E⟩:=cA q;cases E;refine⟨(bF func144 rfl rfl).en,fun W M a φ w k _ _ _ _ j=>?_⟩;obtain⟨x,y,rfl,g,hy⟩:=aTR j;obtain⟨l,A,B,C,I,q5,q6⟩:=Ml (fun i x g=>a i x (sK _ _ i x g)) o g;have:=aSQ D hy;subst this;have W:0<=t/\t<=900000000/\10000000*n+t.toNat<=1000000000:=W.one
   obtain⟨b,rfl⟩:∃b:Nat,t=b:=⟨t.toNat,by omega⟩
   refine(Za w l x b A (by omega) B.eU (by omega)).mono ?_;rintro e L⟨v,k,rfl,⟨F,s⟩,H,u⟩;rw[C]at s;have ak:(0:Int)<2^b:=jZ (by decide) b;have aj:0<=(z.natAbs:Int)*2^b:=mul_nonneg (by omega) (by omega)
   have N:((b:Int)).toNat=b:=by omega
   refine⟨v,rfl,u,⟨(z.natAbs:Int)*2^((b:Int)).toNat,100,a _ _ (by simp),⟨k,H.bO (zero_le _),F,by rw[s,N];omega⟩,?_⟩⟩
   have e6:10000000*n+b<=1000000000:=by have:=W.2.2;rw[N]at this;exact this
   rw[N]
   have ab:Go.Proofs.YthhffdeihoofiaaGreatDoor.Bits (10000000*n+b) ((z.natAbs:Int)*2^b):=by
    show((z.natAbs:Int)*2^b).natAbs<2^(10000000*n+b);rw[natAbs_mul,Int.natAbs_pow,Nat.pow_add]
    have e7:((z.natAbs:Int)).natAbs=z.natAbs:=by omega
    have e8:(2:Int).natAbs=2:=rfl;rw[e7,e8];exact Nat.mul_lt_mul_of_pos_right I (Nat.pow_pos (by decide))
   exact Tq (Dn ab e6)
  ·cases h
 |false=>
  rw[U]at h;cases h
where
 bl_abs (z:Int):Nm.bl (z.natAbs:Int)=Nm.bl z:=by
  unfold Nm.bl
  by_cases h:z=0
  ·subst h;rfl
  ·rw[if_neg h,if_neg (by omega)];simp
theorem rU {a:Value}(h:lJ Z n (pB true w (.ns [v])) a):WhoAt n v a/\Bits w v:=by
 obtain⟨j,rfl,r⟩:=h
 match j,r with
 | [x,y],⟨g,⟨b,d,e,f⟩,i,_⟩=>
  subst g;exact⟨⟨b,y,rfl,d,e,f⟩,i⟩
 |_::_::_::_,⟨_,_,_,h⟩=>exact h.elim
theorem Me (h:WhoAt n v x)(a:Nat)(g:Bits a v):lJ Z n (pB true a (.ns [v])) x:=by
 obtain⟨b,y,rfl,d,e,f⟩:=h;exact⟨[_,y],rfl,rfl,⟨b,d,e,f⟩,g,trivial⟩
theorem aSR {k:IntKind}(h:lJ Z n (pB true w (.i k v)) x):x=.int k v:=h.2
theorem aJL {t:VT}(h:All2 (lJ Z n) [t] i):∃u,i=[u]/\lJ Z n t u:=by
 match i,h with
 | [u],⟨h,_⟩=>exact⟨u,rfl,h⟩
 |_::_::_,⟨_,h⟩=>exact h.elim
theorem Wg {t s:VT}(h:All2 (lJ Z n) [t,s] i):∃u v,i=[u,v]/\lJ Z n t u/\lJ Z n s v:=by
 match i,h with
 | [u,v],⟨h,g,_⟩=>exact⟨u,v,rfl,h,g⟩
 | [_],⟨_,h⟩=>exact h.elim
 |_::_::_::_,⟨_,_,h⟩=>exact h.elim
def aX:List G->List Prop:=fun _=>[]
def f2 (op:Int->Int->Int):List G->Option RG
 | [.ns [x],.ns [y]]=>some (.one (.ns [op x y]))
 |_=>none
variable {M:FuncId}
theorem Xp {op:Int->Int->Int}{o:List Nat->Nat}(j:Enters Z.P M)(i:∀x y n m,Bits n x->Bits m y->Bits (o [n,m]) (op x y))
  (h:∀a x y u v,WhoAt a x u->WhoAt a y v->Bits w x->Bits w y->Calls Z.P M #[u,v] a (bR a (op x y))):bI Z M (gZ true (f2 op) aX o [w,w]):=by
 refine Dv j ?_ ?_
 ·intro s ns out b k p A;unfold f2 at b;split at b
  ·rename_i x y;cases b
   match ns,p with
   | [n,m],⟨d,g,_⟩=>
    intro z q;simp at q;subst q;exact i x y n m (d x (by simp)) (g y (by simp))
  ·cases b
 ·intro s out b k p a D l;unfold f2 at b;split at b
  ·rename_i x y;cases b;obtain⟨u,v,rfl,d,g⟩:=Wg l;refine(h a x y u v (rU d).1 (rU g).1 (rU d).2 (rU g).2).mono ?_;rintro e E⟨r,rfl,C,i⟩;exact⟨r,rfl,fun n B=>Me C n (B _ (by simp)),i⟩
  ·cases b
def f1 (op:Int->Int):List G->Option RG
 | [.ns [x]]=>some (.one (.ns [op x]))
 |_=>none
variable {op:Int->Int}
theorem aVB {l:List Nat->Nat}(i:Enters Z.P M)(g:∀x n,Bits n x->Bits (l [n]) (op x))
  (h:∀a x u,WhoAt a x u->Bits w x->Calls Z.P M #[u] a (bR a (op x))):bI Z M (gZ true (f1 op) aX l [w]):=by
 refine Dv i ?_ ?_
 ·intro q ns out b j o s;unfold f1 at b;split at b
  ·rename_i x;cases b
   match ns,o with
   | [n],⟨d,_⟩=>
    intro z p;simp at p;subst p;exact g x n (d x (by simp))
  ·cases b
 ·intro q out b j o a A k;unfold f1 at b;split at b
  ·rename_i x;cases b;obtain⟨u,rfl,d⟩:=aJL k;refine(h a x u (rU d).1 (rU d).2).mono ?_;rintro e B⟨r,rfl,y,g⟩;exact⟨r,rfl,fun n v=>Me y n (v _ (by simp)),g⟩
  ·cases b
def Rq (op:Int->Int):List G->Option RG
 | [.ns [x]]=>some (.one (.i .i64 (op x)))
 |_=>none
theorem aRl (d:Enters Z.P M)
  (h:∀a x u,WhoAt a x u->Bits w x->Calls Z.P M #[u] a fun e k=>e=.returned (.int .i64 (op x))/\Below a.heap.size a k):bI Z M (gZ true (Rq op) aX (fun _=>0) [w]):=by
 refine Dv d ?_ ?_
 ·intro l ns out b g p q;unfold Rq at b;split at b
  ·cases b;trivial
  ·cases b
 ·intro l out b g p a r i;unfold Rq at b;split at b
  ·rename_i x;cases b;obtain⟨u,rfl,j⟩:=aJL i;refine(h a x u (rU j).1 (rU j).2).mono ?_;rintro e k⟨rfl,o⟩;exact⟨_,rfl,fun n _=>⟨rfl,rfl⟩,o⟩
  ·cases b
def Ya (op:Int->Int->Int):List G->Option RG
 | [.ns [x],.ns [y]]=>some (.one (.i .i64 (op x y)))
 |_=>none
theorem aVC {op:Int->Int->Int}(d:Enters Z.P M)
  (h:∀a x y u v,WhoAt a x u->WhoAt a y v->Bits w x->Bits w y->Calls Z.P M #[u,v] a fun e l=>e=.returned (.int .i64 (op x y))/\Below a.heap.size a l):bI Z M (gZ true (Ya op) aX (fun _=>0) [w,w]):=by
 refine Dv d ?_ ?_
 ·intro o ns out b g q r;unfold Ya at b;split at b
  ·cases b;trivial
  ·cases b
 ·intro o out b g q a s i;unfold Ya at b;split at b
  ·rename_i x y;cases b;obtain⟨u,v,rfl,j,k⟩:=Wg i;refine(h a x y u v (rU j).1 (rU k).1 (rU j).2 (rU k).2).mono ?_;rintro e l⟨rfl,p⟩;exact⟨_,rfl,fun n _=>⟨rfl,rfl⟩,p⟩
  ·cases b
def zD (op:Int->Int->Int->Int->Int):List G->Option RG
 | [.ns [x],.ns [y],.ns [z],.ns [t]]=>some (.one (.i .i64 (op x y z t)))
 |_=>none
def fI1:List Int->Option (List Int)
 | [n]=>some [n]
 |_=>none
theorem aXv:bI Z 72 (Cd true fI1):=by
 refine⟨(bF func72 rfl rfl).en,fun ts r p b s w y h=>?_⟩;unfold Cd at b;obtain⟨i,j,k⟩:=aT b;obtain⟨out,a,l⟩:=cA k;cases l;obtain⟨d,f⟩:=aNv ts i y j s h
 match i,a,d,f with
 | [(n,x)],a,d,f=>
  cases a;obtain⟨u,rfl,g⟩:=aJL d;have g:u=.int .i64 n:=g.2;subst g;have q:n.natAbs<1000000000000000000:=f (n,x) (by simp);refine(aT1 n w (by omega) (by omega)).mono ?_;rintro e z⟨r,rfl,v,o⟩;exact⟨r,rfl,Me v 1 (iI q),o⟩
 | [],a,_,_=>cases a
 |_::_::_,a,_,_=>cases a
def iG (z t:Int):Int:=bif decide (t<1)then z else half z t.toNat
def wB:List G->Option RG
 | [.ns [z],.i .i64 t]=>some (.one (.ns [iG z t]))
 |_=>none
def Bd:List G->List Prop
 | [.ns [_],.i .i64 t]=>[1<=t/\t<=1000000000]
 |_=>[]
theorem aSP (z:Int)(n:Nat):(half z n).natAbs<=z.natAbs:=by
 unfold half;have h:((z.natAbs:Int)/2^n)<=z.natAbs:=ediv_le_self _ (by omega);have a:0<=((z.natAbs:Int)/2^n):=ediv_nonneg (by omega) (le_of_lt (jZ (by decide) _))
 split<;>omega
theorem aPG:bI Z 168 (gZ true wB Bd (fun ns=>ns.headD 0) [100,0]):=by
 refine Dv (bF func168 rfl rfl).en ?_ ?_
 ·intro i ns out a d g o;unfold wB at a;split at a
  ·rename_i z t;cases a
   match ns,g with
   | [n,m],⟨b,_⟩=>
    intro y h;simp at h;subst h;have:=b z (by simp);unfold iG;cases decide (t<1)
    ·exact Nat.lt_of_le_of_lt (aSP _ _) this
    ·exact this
  ·cases a
 ·intro i out a d g w s f;unfold wB at a;split at a
  ·rename_i z t;cases a;obtain⟨u,v,rfl,b,j⟩:=Wg f;have:=aSR j;subst this;have d:1<=t/\t<=1000000000:=d.one
   obtain⟨k,rfl⟩:∃k:Nat,t=k:=⟨t.toNat,by omega⟩
   have e:iG z k=half z k:=by unfold iG;rw[decide_eq_false (by omega)];simp
   rw[e];refine(aLK w z u k (10000000*100) (rU b).1 (rU b).2 (by omega) (by omega) (by omega)).mono ?_;rintro e x⟨r,rfl,q,l⟩;exact⟨r,rfl,fun m p=>Me q m (p _ (by simp)),l⟩
  ·cases a
def Ef:List G->Option RG
 | [.ns [x],.ns [y]]=>some (.tup [.ns [x/y],.ns [x%y]])
 |_=>none
def He:List G->List Prop
 | [.ns [_],.ns [y]]=>[0<y]
 |_=>[]
theorem aSG:bI Z 112 (gZ true Ef He (fun ns=>ns.foldr max 0+1) [90,90]):=by
 refine Dv (bF func112 rfl rfl).en ?_ ?_
 ·intro s ns out a b d B;unfold Ef at a;split at a
  ·rename_i x y;cases a;have k:0<y:=b.one
   match ns,d with
   | [n,m],⟨i,j,_⟩=>
    have r:Bits (max n (max m 0)) x:=eJ (i x (by simp)) (by omega);have q:Bits (max n (max m 0)) y:=eJ (j y (by simp)) (by omega);have H:x/y=x/y:=rfl;have I:=Int.emod_nonneg x (by omega:y≠0);have o:=Int.emod_lt_of_pos x k
    have D:(x/y).natAbs<=x.natAbs:=by
     rcases Int.le_total 0 x with h|h
     ·have a1:=ediv_nonneg h (le_of_lt k);have p:x/y<=x:=ediv_le_self _ h;omega
     ·have a1:x/y<=0:=Int.ediv_nonpos_of_nonpos_of_neg h (by omega)
      have p:x<=x/y:=by
       have:=Int.mul_ediv_add_emod x y
       rcases lt_or_le (x/y) x with c|c
       ·exfalso;have c1:y*(x/y)<=y*(x-1):=Int.mul_le_mul_of_nonneg_left (by omega) (by omega);have c2:(y-1)*x<=0:=Int.mul_nonpos_of_nonneg_of_nonpos (by omega) h
        have c3:y*(x-1)=(y-1)*x+x-y:=by grind
        omega
       ·exact c
      omega
    intro g d;simp at d
    rcases d with rfl|rfl
    ·intro z f;simp at f;subst f;exact Iq r D (by simp)
    ·intro z f;simp at f;subst f;exact Iq q (by omega) (by simp)
  ·cases a
 ·intro s out a b d w J l;unfold Ef at a;split at a
  ·rename_i x y;cases a;have k:0<y:=b.one;obtain⟨u,v,rfl,i,j⟩:=Wg l;refine(aFB w x y u v (10000000*90) (rU i).1 (rU j).1 (rU i).2 (rU j).2 (by omega) k).mono ?_;intro e L C;obtain⟨o,F,rfl,k1,E,A⟩:=C;refine⟨_,rfl,fun n b=>⟨[o,F],rfl,Me k1 n ?_,Me E n ?_,trivial⟩,A⟩
   ·exact b (.ns [x/y]) (by simp) _ (by simp)
   ·exact b (.ns [x%y]) (by simp) _ (by simp)
  ·cases a
noncomputable def Hq:List (FuncId×TE):=
 [(82,gZ true (f2 (·*·)) aX (fun ns=>ns.foldr (·+·) 0) [90,90]),(83,gZ true (f2 (·+·)) aX (fun ns=>ns.foldr max 0+1) [90,90]),(85,gZ true (f2 (· - ·)) aX (fun ns=>ns.foldr max 0+1) [90,90]),
  (97,gZ true (f1 (fun x=>-x)) aX (fun ns=>ns.headD 0) [90]),(86,gZ true (f1 (fun x=>(x.natAbs:Int))) aX (fun ns=>ns.headD 0) [90]),(80,gZ true (Rq (fun x=>Nm.cmp x 0)) aX (fun _=>0) [100]),
  (87,gZ true (Ya Nm.cmp) aX (fun _=>0) [90,90]),(181,gZ true (Rq (fun x=>(tz x:Int))) aX (fun _=>0) [90]),(72,Cd true fI1),(168,gZ true wB Bd (fun ns=>ns.headD 0) [100,0]),(112,gZ true Ef He (fun ns=>ns.foldr max 0+1) [90,90])]
theorem aRt {a m:Nat}(h:a<2^k)(b:k<=m):a<2^m:=Nat.lt_of_lt_of_le h (Nat.pow_le_pow_right (by decide) b)
theorem aOO:cG Z Hq:=by
 refine⟨?_,?_,?_,?_,?_,?_,?_,?_,aXv,aPG,aSG,trivial⟩
 ·exact Xp (bF func82 rfl rfl).en (fun x y n m f g=>by simpa using fY f g) (fun w x y u v a b d e=>aMq w x y u v (10000000*90) a b d e (by decide))
 ·exact Xp (bF func83 rfl rfl).en (fun x y n m f g=>by simpa using pM (Oj f g).1 (Oj f g).2) (fun w x y u v a b d e=>aJa w x y u v (10000000*90) a b d e (by decide))
 ·exact Xp (bF func85 rfl rfl).en (fun x y n m f g=>by simpa using aHX (Oj f g).1 (Oj f g).2) (fun w x y u v a b d e=>aMm w x y u v (10000000*90) a b d e (by decide))
 ·exact aVB (bF func97 rfl rfl).en (fun x n h=>by simpa using yX h) (fun w x u h _=>aLo w x u h)
 ·exact aVB (bF func86 rfl rfl).en (fun x n h=>by simpa using Ul h) (fun w x u h _=>aGb w x u h)
 ·exact aRl (bF func80 rfl rfl).en (fun w x u h _=>aGa w x u h)
 ·exact aVC (bF func87 rfl rfl).en (fun w x y u v a b d e=>aI7 w x y u v (10000000*90) a b d e (by decide))
 ·exact aRl (bF func181 rfl rfl).en (fun w x u h i=>aQP w x u (10000000*90) h i (by decide))
def Wr (x:Int):Int:=IntKind.i64.wrap x
def Re (a b c d:Int):Int:=
 bif decide (Wr ((Nm.bl a:Int)+(Nm.bl b:Int))<Wr (Wr ((Nm.bl c:Int)+(Nm.bl d:Int))-1))then -1
 else bif decide (Wr ((Nm.bl a:Int)+(Nm.bl b:Int))>Wr (Wr ((Nm.bl c:Int)+(Nm.bl d:Int))+1))then 1
 else bif (Nm.cmp (a.natAbs:Int) (c.natAbs:Int)==0)then Nm.cmp (b.natAbs:Int) (d.natAbs:Int)
 else Nm.cmp ((((a.natAbs:Int)*(b.natAbs:Int)).natAbs:Nat):Int) ((((c.natAbs:Int)*(d.natAbs:Int)).natAbs:Nat):Int)
theorem aVr:bI Z 194 (gZ true (zD Re) aX (fun _=>0) [40,40,40,40]):=by
 refine Tj (l:=[]) trivial Qf dG (bF func194 rfl rfl) ?_ ?_
 ·intro a ns out h _ _ _;unfold zD at h;split at h
  ·cases h;trivial
  ·cases h
 ·intro a out h;unfold zD at h;split at h
  ·cases h;exact⟨[],by kernel_rfl,fun _ _=>gG⟩
  ·cases h
theorem mD {x:Int}(a:-4611686018427387904<=x)(b:x<=4611686018427387904):Wr x=x:=by unfold Wr;rw[IntKind.wrap_i64];omega
theorem Gl (a:z≠0):1<=Nm.bl z/\2^(Nm.bl z-1)<=z.natAbs/\z.natAbs<2^Nm.bl z:=by
 unfold Nm.bl;rw[if_neg a]
 have h:z.natAbs≠0:=by omega
 exact⟨by omega,by simpa using Nat.log2_self_le h,Nat.lt_log2_self⟩
theorem Qk (h:Bits w v):Nm.bl v<=10000000*w:=by
 by_cases a:v=0
 ·subst a;simp[Nm.bl]
 ·obtain⟨e,b,_⟩:=Gl a;have d:2^(Nm.bl v-1)<2^(10000000*w):=Nat.lt_of_le_of_lt b h;have:=(Nat.pow_lt_pow_iff_right (by decide)).1 d;omega
theorem aMG {x:Int}(e:x≠0)(f:z≠0):2^(Nm.bl x+Nm.bl z-2)<=x.natAbs*z.natAbs/\x.natAbs*z.natAbs<2^(Nm.bl x+Nm.bl z):=by
 obtain⟨a1,a,b⟩:=Gl e;obtain⟨b1,b2,d⟩:=Gl f;constructor
 ·rw[show Nm.bl x+Nm.bl z-2=(Nm.bl x-1)+(Nm.bl z-1) by omega,Nat.pow_add];exact Nat.mul_le_mul a b2
 ·rw[Nat.pow_add];exact Nat.mul_lt_mul'' b d
theorem aPt {a b:Nat}(d:0<k):Nm.cmp ((k*a:Nat):Int) ((k*b:Nat):Int)=Nm.cmp (a:Int) (b:Int):=by
 rcases Nat.lt_trichotomy a b with h|h|h
 ·have:=Nat.mul_lt_mul_of_pos_left h d;rw[iV (by omega),iV (by omega)]
 ·rw[h,iU rfl,iU rfl]
 ·have:=Nat.mul_lt_mul_of_pos_left h d;rw[gX (by omega),gX (by omega)]
theorem aRh {a b c:Int}(j:a≠0)(k:b≠0)(hc:c≠0)(l:d≠0)(n:Bits 40 a)(o:Bits 40 b)(p:Bits 40 c)(bd:Bits 40 d):Re a b c d=Nm.cmp ((a.natAbs*b.natAbs:Nat):Int) ((c.natAbs*d.natAbs:Nat):Int):=by
 have la:=Qk n;have v:=Qk o;have w:=Qk p;have ld:=Qk bd;obtain⟨p1,x⟩:=aMG j k;obtain⟨y,z⟩:=aMG hc l;have a1:=(Gl j).1;have b1:=(Gl k).1;have c1:=(Gl hc).1;have d1:=(Gl l).1;unfold Re;have q:Wr ((Nm.bl a:Int)+(Nm.bl b:Int))=(Nm.bl a:Int)+(Nm.bl b:Int):=mD (by omega) (by omega);have r:Wr ((Nm.bl c:Int)+(Nm.bl d:Int))=(Nm.bl c:Int)+(Nm.bl d:Int):=mD (by omega) (by omega);have s:Wr ((Nm.bl c:Int)+(Nm.bl d:Int)-1)=(Nm.bl c:Int)+(Nm.bl d:Int)-1:=mD (by omega) (by omega);have u:Wr ((Nm.bl c:Int)+(Nm.bl d:Int)+1)=(Nm.bl c:Int)+(Nm.bl d:Int)+1:=mD (by omega) (by omega);rw[q,r,s,u]
 by_cases f:(Nm.bl a:Int)+(Nm.bl b:Int)<(Nm.bl c:Int)+(Nm.bl d:Int)-1
 ·rw[decide_eq_true f,cond_true];have:2^(Nm.bl a+Nm.bl b)<=2^(Nm.bl c+Nm.bl d-2):=Nat.pow_le_pow_right (by decide) (by omega);rw[iV (by omega)]
 ·rw[decide_eq_false f,cond_false]
  by_cases g:(Nm.bl a:Int)+(Nm.bl b:Int)>(Nm.bl c:Int)+(Nm.bl d:Int)+1
  ·rw[decide_eq_true g,cond_true];have:2^(Nm.bl c+Nm.bl d)<=2^(Nm.bl a+Nm.bl b-2):=Nat.pow_le_pow_right (by decide) (by omega);rw[gX (by omega)]
  ·rw[decide_eq_false g,cond_false]
   by_cases i:(a.natAbs:Int)=(c.natAbs:Int)
   ·rw[iU i]
    have e:a.natAbs=c.natAbs:=by omega
    rw[show((0:Int)==0)=true from rfl,cond_true,e,aPt (by omega)]
   ·have e:(Nm.cmp (a.natAbs:Int) (c.natAbs:Int)==0)=false:=by
     rw[beq_eq_false_iff_ne]
     rcases Int.lt_or_gt_of_ne i with h|h
     ·rw[iV h];decide
     ·rw[gX h];decide
    rw[e,cond_false,natAbs_mul,natAbs_mul];simp
def cpr (a b c d:Int):Int:=
 bif decide (Wr (Nm.cmp a 0*Nm.cmp b 0)<Wr (Nm.cmp c 0*Nm.cmp d 0))then -1
 else bif decide (Wr (Nm.cmp a 0*Nm.cmp b 0)>Wr (Nm.cmp c 0*Nm.cmp d 0))then 1
 else Wr (Wr (Nm.cmp a 0*Nm.cmp b 0)*Re a b c d)
theorem aVq:bI Z 183 (gZ true (zD cpr) aX (fun _=>0) [40,40,40,40]):=by
 refine wW (l:=(194,gZ true (zD Re) aX (fun _=>0) [40,40,40,40])::Hq) ⟨aVr,aOO⟩ dG (bF func183 rfl rfl) ?_ ?_
 ·intro a ns out h _ _ _;unfold zD at h;split at h
  ·cases h;trivial
  ·cases h
 ·intro a out h;unfold zD at h;split at h
  ·cases h;exact⟨[],by kernel_rfl,fun _ _=>gG⟩
  ·cases h
theorem aOB (a b:Int):Wr (Nm.cmp a 0*Nm.cmp b 0)=Nm.cmp (a*b) 0:=by
 have h:∀x:Int,Nm.cmp x 0=x.sign:=fun x=>by
  rcases Int.lt_trichotomy x 0 with h|h|h
  ·rw[iV h,Int.sign_eq_neg_one_of_neg h]
  ·rw[iU h,h];rfl
  ·rw[gX h,Int.sign_eq_one_of_pos h]
 have d:∀x:Int,-1<=x.sign/\x.sign<=1:=fun x=>by
  rcases Int.lt_trichotomy x 0 with h|h|h
  ·rw[Int.sign_eq_neg_one_of_neg h];decide
  ·rw[h];decide
  ·rw[Int.sign_eq_one_of_pos h];decide
 rw[h,h,h,<-Int.sign_mul];have:=d (a*b);exact mD (by omega) (by omega)
theorem aVp {a b c:Int}(l:Bits 40 a)(n:Bits 40 b)(o:Bits 40 c)(bd:Bits 40 d):cpr a b c d=Nm.cmp (a*b) (c*d):=by
 unfold cpr;rw[aOB,aOB]
 rcases Int.lt_trichotomy (a*b) 0 with h|h|h<;>rcases Int.lt_trichotomy (c*d) 0 with g|g|g
 ·rw[iV h,iV g]
  have f:a≠0:=fun e=>by rw[e]at h;simp at h
  have i:b≠0:=fun e=>by rw[e]at h;simp at h
  have hc:c≠0:=fun e=>by rw[e]at g;simp at g
  have j:d≠0:=fun e=>by rw[e]at g;simp at g
  rw[aRh f i hc j l n o bd,<-natAbs_mul,<-natAbs_mul];simp only[Int.lt_irrefl,decide_false,cond_false,gt_iff_lt]
  rcases Int.lt_trichotomy (a*b) (c*d)with k|k|k
  ·rw[iV k,gX (by omega)];rfl
  ·rw[k,iU rfl,iU rfl];rfl
  ·rw[gX k,iV (by omega)];rfl
 ·rw[iV h,iU g,iV (by omega)];rfl
 ·rw[iV h,gX g,iV (by omega)];rfl
 ·rw[iU h,iV g,gX (by omega)];rfl
 ·rw[iU h,iU g,iU (by omega)];simp[Wr];rfl
 ·rw[iU h,gX g,iV (by omega)];rfl
 ·rw[gX h,iV g,gX (by omega)];rfl
 ·rw[gX h,iU g,gX (by omega)];rfl
 ·rw[gX h,gX g]
  have f:a≠0:=fun e=>by rw[e]at h;simp at h
  have i:b≠0:=fun e=>by rw[e]at h;simp at h
  have hc:c≠0:=fun e=>by rw[e]at g;simp at g
  have j:d≠0:=fun e=>by rw[e]at g;simp at g
  rw[aRh f i hc j l n o bd,<-natAbs_mul,<-natAbs_mul];simp only[Int.lt_irrefl,decide_false,cond_false,gt_iff_lt]
  rcases Int.lt_trichotomy (a*b) (c*d)with k|k|k
  ·rw[iV k,iV (by omega)];rfl
  ·rw[k,iU rfl,iU rfl];rfl
  ·rw[gX k,gX (by omega)];rfl
def cp (a b c d:Int):Int:=Nm.cmp (a*b) (c*d)
theorem aWT:bI Z 183 (gZ true (zD cp) aX (fun _=>0) [40,40,40,40]):=by
 refine aLd aVq ?_ ?_
 ·intro a out h i g;unfold zD at h;split at h
  ·rename_i x y z t;cases h;obtain⟨b,d,e,f,_⟩:=g;refine⟨?_,gG⟩;unfold zD;simp only[cp,aVp (b x (by simp)) (d y (by simp)) (e z (by simp)) (f t (by simp))]
  ·cases h
 ·intro a ns out h _ _ _;unfold zD at h;split at h
  ·cases h;trivial
  ·cases h
end Ab
structure Mt where
 a:Int
 b:Int
 c:Int
 d:Int
def Mt.sym (s:Int):Mt:=if s=-1 then⟨1,0,1,2⟩else if s=0 then⟨3,1,1,3⟩else if s=1 then⟨2,1,0,1⟩else if s=43 then⟨1,0,0,1⟩else if s=45 then⟨-1,0,0,1⟩else if s=111 then⟨1,-1,1,1⟩else⟨1,1,-1,1⟩
def Mt.at1 (m:Mt)(p q:Int):Int:=m.a*p+m.b*q
def Mt.at2 (m:Mt)(p q:Int):Int:=m.c*p+m.d*q
def Mt.vU (m:Mt)(p q:Int):Int:=m.d*p+-m.b*q
def Mt.vV (m:Mt)(p q:Int):Int:=m.a*q+-m.c*p
def Mt.mul (x y:Mt):Mt:=⟨x.a*y.a+x.b*y.c,x.a*y.b+x.b*y.d,x.c*y.a+x.d*y.c,x.c*y.b+x.d*y.d⟩
structure dB (n:Nat) (m:Mt):Prop where
 a:Bits n m.a
 b:Bits n m.b
 c:Bits n m.c
 d:Bits n m.d
namespace Nw
def pF (c:Int×Int):Bool:=decide (0<c.1)||decide (0<c.2)
def lQ (c:Int×Int):Bool:=decide (c.1<0)||decide (c.2<0)
def fits (cs:List (Int×Int)):Bool:=cs.any pF != cs.any lQ
end Nw
namespace Rf
open Nw
abbrev V:=Int×Int
def eZ (m:Mt)(v:V):V:=(m.at1 v.1 v.2,m.at2 v.1 v.2)
def fI (m:Mt)(v:V):V:=(m.vU v.1 v.2,m.vV v.1 v.2)
def one:Mt:=⟨1,0,0,1⟩
inductive Op where
 |none|pi|e|cf|sqrt|exp|fL|atan
 deriving DecidableEq
structure Nd where
 pos:Bool
 t:List V
 args:List Nat
 read:List Nat
 out:List Int
 told:Mt
 dT:List Mt
 op:Op
 aP:Bool
 nest:Bool
 k:Nat
 part:Mt
 p:Int
 q:Int
 terms:List Int
 x:Option Nat
 fC:Option Nat
def fresh (pos:Bool)(t:List V)(args:PH):Nd:=⟨pos,t,args,args.map (fun _=>0),[],one,[one],.none,false,false,0,one,0,0,[],none,none⟩
structure St where
 nodes:List Nd
 clock:Int
structure Ok (n:Nd):Prop where
 t:∀v∈n.t,Bits 20000 v.1/\Bits 20000 v.2
 told:dB 20000 n.told
 dT:∀m∈n.dT,dB 20000 m
 part:dB 100000000 n.part
 p:Bits 20000 n.p
 q:Bits 20000 n.q
 read:∀r∈n.read,r<=10000
 out:n.out.length<=10000
 k:n.k<=10000
def ends (ns:List Nd)(n:Nd)(side:Nat):Option (V×V):=
 (n.args[side]?).bind fun a=>(ns[a]?).bind fun x=>(n.read[side]?).bind fun r=>(x.dT[r]?).map fun m=>(eZ m (1,0),eZ m (0,1))
def bM (t:List V)(x y:V):V:=
 match t with
 | [a,b,c,d]=>(((a.1*(x.1*y.1)+b.1*(x.1*y.2))+c.1*(x.2*y.1))+d.1*(x.2*y.2),((a.2*(x.1*y.1)+b.2*(x.1*y.2))+c.2*(x.2*y.1))+d.2*(x.2*y.2))
 |_=>(0,0)
def bare (ns:List Nd)(n:Nd):Option (List V):=
 match n.t with
 | []=>some [eZ n.part (1,0),eZ n.part (0,1)]
 | [c]=>some [c]
 | [c,d]=>(ends ns n 0).map fun e=>[eZ ⟨c.1,d.1,c.2,d.2⟩ e.1,eZ ⟨c.1,d.1,c.2,d.2⟩ e.2]
 | [a,b,c,d]=>(ends ns n 0).bind fun e=>(if n.args.length=2 then ends ns n 1 else some ((1,0),(0,1))).map fun r=>
   [bM [a,b,c,d] e.1 r.1,bM [a,b,c,d] e.1 r.2,bM [a,b,c,d] e.2 r.1,bM [a,b,c,d] e.2 r.2]
 |_=>none
def corners (ns:List Nd)(n:Nd):Option (List V):=(bare ns n).map (·.map (fI n.told))
def waits (ns:List Nd):List Nat->List Nat->Bool
 |a::b,r::d=>(match ns[a]? with|some x=>!x.pos&&r==0|none=>false)||waits ns b d
 |_,_=>false
def tries (n:Nd):LN:=if n.pos=false/\n.out=[]then [43,45,111,119]else [-1,1,0]
def can (l:List V)(s:Int):Bool:=fits (l.map (fI (Mt.sym s)))
def next (ns:List Nd)(n:Nd):Option (Option Int):=
 if waits ns n.args n.read then some none else(corners ns n).map fun l=>(tries n).find? (can l)
def digits (ns:List Nd)(n:Nd)(side:Nat):Option (Option Nat):=
 if side<n.args.length then
  (n.args[side]?).bind fun a=>(ns[a]?).bind fun x=>(n.read[side]?).map fun r=>if x.pos then some r else if r=0 then none else some (r-1)
 else some (some 0)
def apart (a b:V):V:=
 if a.1+a.2=0\/b.1+b.2=0 then(0,1)else(((((a.1-a.2)*(b.1+b.2)-(b.1-b.2)*(a.1+a.2)).natAbs:Nat):Int),((((a.1+a.2)*(b.1+b.2)).natAbs:Nat):Int))
def eA (a b:V):V:=if b.1*a.2<=a.1*b.2 then a else b
def wider (e:Int)(l:List V):Int:=
 match l with
 | [a,b,c,d]=>
  let p:=eA (apart a c) (apart b d)
  let q:=eA (apart a b) (apart c d)
  Nm.cmp (e*p.1*q.2) (q.1*p.2)
 |_=>0
def side (ns:List Nd)(n:Nd):ON:=
 if n.t.length<4 then some 0 else
 (digits ns n 0).bind fun
  |none=>some 0
  |some a=>(digits ns n 1).bind fun
   |none=>some 1
   |some b=>(corners ns n).map fun l=>
    let c:=if fits l then wider (if n.nest then 8 else 1) l else 0
    if c=1 then 0 else if c=-1 then 1 else if a<=b then 0 else 1
def isqrt:Nat->Nat->Nat
 |0,_=>0
 |k+1,n=>if(2*isqrt k (n/4)+1)*(2*isqrt k (n/4)+1)<=n then 2*isqrt k (n/4)+1 else 2*isqrt k (n/4)
def root (z:Int):Int:=isqrt (z.toNat.log2/2+1) z.toNat
def near (p q:Int):Nat->Int->Option (Int×Int)
 |0,_=>none
 |k+1,t=>if 16<=root ((t*t*p)/q)then some (root ((t*t*p)/q),t)else near p q k (t+t)
def shape (op:Op)(k:Nat):Int×Int:=
 if op=.fL then(if k=0 then(1,1)else((((k+1)/2*((k+1)/2):Nat):Int),((k+1:Nat):Int)))
 else if op=.atan then(if k=0 then(1,1)else(((k*k:Nat):Int),((2*k+1:Nat):Int)))
 else(1,((4*k+2:Nat):Int))
def hX (k:Nat):Int:=if k=0 then 2 else if k%3=2 then(((k+1)/3*2:Nat):Int)else 1
def constant (n:Nd)(k:Nat):Option Mt:=
 match n.op with
 |.pi=>some (if k=0 then⟨0,4,1,1⟩else⟨0,((k*k:Nat):Int),1,((2*k+1:Nat):Int)⟩)
 |.e=>some ⟨hX k,1,1,0⟩
 |.cf=>(n.terms[if k=0 then 0 else 1+(k-1)%(n.terms.length-1)]?).map fun a=>⟨a,1,1,0⟩
 |.sqrt=>(near n.p n.q 20000 1).map fun b=>⟨b.1*n.q,b.2*n.p,b.2*n.q,b.1*n.q⟩
 |.none=>none
 |op=>some (if op≠.fL/\0<k then⟨0,(shape op k).1*(n.p*n.p),n.q*n.q,(shape op k).2*(n.q*n.q)⟩else⟨0,(shape op k).1*n.p,n.q,(shape op k).2*n.q⟩)
def known (op:Op)(lo hi:V):Bool:=
 let d:=4*(hi.1*lo.2-lo.1*hi.2)
 let q:=lo.2*hi.2
 if op=.sqrt then decide (hi.1*lo.2<=2*(lo.1*hi.2))
 else if op=.exp then decide (d<=q)
 else if op=.fL then decide (d<=q+hi.2*lo.1)
 else decide (d<=q+hi.1*lo.1)
inductive Kind where
 |add|sub|mul|div
 deriving DecidableEq
def Kind.cols:Kind->List V
 |.add=>[(0,0),(1,0),(1,0),(0,1)]
 |.sub=>[(0,0),(1,0),(-1,0),(0,1)]
 |.mul=>[(1,0),(0,0),(0,0),(0,1)]
 |.div=>[(0,0),(1,0),(0,1),(0,0)]
def two (d:Kind)(e f:Bool)(a b:Nat):Nd:=fresh (e&&f&&decide (d≠.sub)) d.cols [a,b]
def raised (t:Nat):Nd:=fresh true [(1,-1),(1,1)] [t]
def row (op:Op)(p q:Int):Nd:={ fresh true [] []with op:=op,p:=p,q:=q}
open Classical in
noncomputable def more (ns:List Nd)(n:Nd):Option (List Nd):=if Ok n then some (ns++[n])else none
open Classical in
noncomputable def put (ns:List Nd)(i:Nat)(n:Nd):Option (List Nd):=if Ok n/\i<ns.length then some (ns.set i n)else none
noncomputable def outright (ns:List Nd)(op:Op)(p q:Int):Option (List Nd×Nat):=
 (more ns (row op p q)).bind fun a=>if op=.exp then(more a (raised ns.length)).map fun b=>(b,ns.length+1)else some (a,ns.length)
def eR (op:Op)(k:Nat)(a x:Nat)(sq:ON):Nd:={ fresh true [(0,0),((shape op k).1,0),(0,1),(0,(shape op k).2)] [a]with op:=op,nest:=true,k:=k,x:=some x,fC:=sq}
noncomputable def nest (ns:List Nd)(op:Op)(k x:Nat)(sq:ON):Option (List Nd×Nat):=
 if 0<k/\op≠.fL then
  match sq with
  |some s=>(more ns (eR op k s x (some s))).map fun a=>(a,ns.length)
  |none=>(ns[x]?).bind fun d=>(more ns (two .mul d.pos d.pos x x)).bind fun a=>(more a (eR op k ns.length x (some ns.length))).map fun b=>(b,ns.length+1)
 else(more ns (eR op k x x sq)).map fun a=>(a,ns.length)
noncomputable def deeper (ns:List Nd)(n:Nd):Option (List Nd×Nat):=
 if n.op=.sqrt then(n.args[0]?).bind fun a=>(more ns { fresh true n.t [a]with op:=n.op,nest:=true}).map fun b=>(b,ns.length)
 else n.x.bind fun x=>nest ns n.op (n.k+1) x n.fC
def jW (op:Op)(lo:V):List V:=[(lo.2,if op=.atan then lo.1 else 0),(-lo.1,if op=.fL then lo.1+lo.2 else lo.2)]
noncomputable def turn (ns:List Nd)(i:Nat)(n:Nd)(lo:V):Option (List Nd):=
 (n.args[0]?).bind fun x=>
 if n.op=.sqrt then(near lo.1 lo.2 20000 1).bind fun a=>put ns i {n with t:=[(0,0),(a.2,0),(a.1,a.2),(0,a.1)],nest:=true}
 else
  (if 0<lo.1 then(more ns (fresh true (jW n.op lo) [x])).map fun e=>(e,ns.length)else some (ns,x)).bind fun h=>
  (nest h.1 n.op 0 h.2 none).bind fun b=>
  (if n.op=.exp then(more b.1 (raised b.2)).map fun f=>(f,b.1.length)else some b).bind fun d=>
  if lo.1=0 then put d.1 i {n with args:=[d.2]}
  else(outright d.1 n.op lo.1 lo.2).bind fun g=>
   put g.1 i {n with t:=(if n.op=.exp then Kind.mul else Kind.add).cols,args:=[g.2,d.2],read:=[0,0]}
noncomputable def give (s:St)(i:Nat)(n:Nd)(c:Int):Option St:=
 (put s.nodes i {n with out:=n.out++[c],told:=n.told.mul (Mt.sym c),dT:=n.dT++[n.told.mul (Mt.sym c)]}).map fun ns=>⟨ns,s.clock-1⟩
def bump:List Nat->Nat->List Nat
 | [],_=>[]
 |r::a,0=>(r+1)::a
 |r::a,k+1=>r::bump a k
noncomputable def wide (s:St)(i:Nat)(n:Nd)(a:Nat):Option St:=
 if a=n.args.length then
  (deeper s.nodes n).bind fun d=>(put d.1 i {n with args:=n.args++[d.2],read:=n.read++[0]}).map fun ns=>⟨ns,s.clock⟩
 else some s
noncomputable def settle (ns:List Nd)(i:Nat)(n:Nd):Option (List Nd):=
 if n.aP then
  (ends ns n 0).bind fun e=>
  if known n.op e.2 e.1 then(put ns i {n with read:=n.read.set 0 0,aP:=false}).bind fun a=>turn a i {n with read:=n.read.set 0 0,aP:=false} e.2
  else some ns
 else some ns
noncomputable def after (s:St)(i b:Nat):Option (St×Bool):=
 (s.nodes[i]?).bind fun n=>
 (put s.nodes i {n with read:=bump n.read b}).bind fun ns=>
 if s.clock-1<0 then some (⟨ns,s.clock-1⟩,false)else
 (settle ns i {n with read:=bump n.read b}).map fun a=>(⟨a,s.clock-1⟩,true)
noncomputable def reads (d:St->Nat->Nat->Option (St×Option Int))(s:St)(i:Nat)(n:Nd):Option (St×Bool):=
 if n.t=[]then
  (constant n n.k).bind fun m=>(put s.nodes i {n with part:=n.part.mul m,k:=n.k+1}).map fun ns=>(⟨ns,s.clock-1⟩,decide (0<=s.clock-1))
 else
  (side s.nodes n).bind fun b=>(wide s i n b).bind fun f=>
  (f.nodes[i]?).bind fun e=>(e.args[b]?).bind fun a=>(e.read[b]?).bind fun r=>
  (d f a r).bind fun x=>match x.2 with
   |none=>some (x.1,false)
   |some _=>after x.1 i b
noncomputable def sym:Nat->St->Nat->Nat->Option (St×Option Int)
 |0,_,_,_=>none
 |f+1,s,i,j=>
  (s.nodes[i]?).bind fun n=>
  match n.out[j]? with
  |some c=>some (s,some c)
  |none=>
   (if n.aP then some none else next s.nodes n).bind fun o=>match o with
   |some c=>if s.clock-1<0 then some (⟨s.nodes,s.clock-1⟩,none)else(give s i n c).bind fun a=>sym f a i j
   |none=>(reads (sym f) s i n).bind fun x=>if x.2 then sym f x.1 i j else some (x.1,none)
end Rf
namespace Rf
open Nw
theorem aIs {m:Mt}(h:dB w m)(c:Int):dB (w+2) (m.mul (Mt.sym c)):=by
 obtain⟨a,b,d,f⟩:=h;unfold Bits at a b d f
 have e:2^(w+2)=4*2^w:=by rw[Nat.pow_add];omega
 unfold Mt.mul Mt.sym
 constructor<;>(unfold Bits;rw[e];generalize 2^w=N at *)<;>(repeat' split)<;>simp<;>omega
structure Up (m:Mt):Prop where
 a:0<=m.a
 b:0<=m.b
 c:0<=m.c
 d:0<=m.d
 det:0<m.a*m.d-m.b*m.c
theorem aRZ:Up one:=⟨by decide,by decide,by decide,by decide,by decide⟩
theorem aWw {m:Mt}(h:Up m){s:Int}(a:s∈[(-1:Int),1,0]):Up (m.mul (Mt.sym s)):=by
 obtain⟨b,d,e,f,g⟩:=h;simp at a
 rcases a with rfl|rfl|rfl
 ·refine⟨?_,?_,?_,?_,?_⟩<;>simp[Mt.mul,Mt.sym]<;>(first|omega|grind)
 ·refine⟨?_,?_,?_,?_,?_⟩<;>simp[Mt.mul,Mt.sym]<;>(first|omega|grind)
 ·refine⟨?_,?_,?_,?_,?_⟩<;>simp[Mt.mul,Mt.sym]<;>(first|omega|grind)
theorem aJ2 (m s:Mt)(v:V):fI (m.mul s) v=fI s (fI m v):=by grind [fI,Mt.mul,Mt.vU,Mt.vV]
theorem Gg (v:V):fI one v=v:=by
 unfold fI one Mt.vU Mt.vV;simp
theorem mV (v:V):fits [v]=true↔((0<=v.1/\0<=v.2/\(0<v.1\/0<v.2))\/(v.1<=0/\v.2<=0/\(v.1<0\/v.2<0))):=by grind [fits,pF,lQ]
theorem aMK {S:V}(h:fits [S]=true):∃s,[(-1:Int),1,0].find? (can [S])=some s:=by
 have:([(-1:Int),1,0].find? (can [S])).isSome=true:=by
  rw[List.find?_isSome];have a:=(mV S).1 h
  have k1:can [S] (-1)=true\/can [S] 1=true:=by
   unfold can;simp only[map_cons,map_nil];rw[mV,mV];simp[fI,Mt.sym,Mt.vU,Mt.vV];omega
  rcases k1 with k|k
  ·exact⟨-1,by simp,k⟩
  ·exact⟨1,by simp,k⟩
 exact Option.isSome_iff_exists.1 this
theorem aPs {S:V}(a:S.1<0)(b:0<S.2):∃s,[(43:Int),45,111,119].find? (can [S])=some s:=by
 have:([(43:Int),45,111,119].find? (can [S])).isSome=true:=by
  rw[List.find?_isSome];refine⟨45,by simp,?_⟩;unfold can;simp only[map_cons,map_nil];rw[mV];simp[fI,Mt.sym,Mt.vU,Mt.vV];omega
 exact Option.isSome_iff_exists.1 this
theorem aPH {D:List V}{ts:LN}{s:Int}(h:ts.find? (can D)=some s):can D s=true/\s∈ts:=by grind
theorem aGp:∀(k n:Nat),n<4^k->isqrt k n*isqrt k n<=n/\n<(isqrt k n+1)*(isqrt k n+1)
 |0,n,h=>by
  have:n=0:=by simpa using h
  subst this;simp[isqrt]
 |k+1,n,h=>by
  have g:n/4<4^k:=by
   rw[Nat.pow_succ]at h;omega
  obtain⟨i,f⟩:=aGp k (n/4) g;unfold isqrt;generalize isqrt k (n/4)=r at*
  have a:2*r*(2*r)=4*(r*r):=by grind
  have b:(2*r+1)*(2*r+1)=4*(r*r)+4*r+1:=by grind
  have d:(2*r+1+1)*(2*r+1+1)=4*(r*r)+8*r+4:=by grind
  have e:(r+1)*(r+1)=r*r+2*r+1:=by grind
  rw[e]at f;split
  ·rename_i hc;refine⟨hc,?_⟩;rw[d];omega
  ·rename_i hc;rw[a,b]at*;exact⟨by omega,by omega⟩
theorem Oy (h:0<=v):0<=root v/\root v*root v<=v/\v<(root v+1)*(root v+1):=by
 obtain⟨n,rfl⟩:=Int.eq_ofNat_of_zero_le h;unfold root;rw[Int.toNat_natCast]
 have d:n<4^(n.log2/2+1):=by
  rw[show(4:Nat)=2^2 by rfl,<-Nat.pow_mul];refine Nat.lt_of_lt_of_le (Nat.lt_log2_self) (Nat.pow_le_pow_right (by decide) (by omega))
 obtain⟨a,b⟩:=aGp _ n d;generalize isqrt (n.log2/2+1) n=r at*;refine⟨by omega,?_,?_⟩
 ·rw[<-Int.natCast_mul];exact Int.ofNat_le.2 a
 ·have:((r:Int)+1)*((r:Int)+1)=(((r+1)*(r+1):Nat):Int):=by simp
  rw[this];exact Int.ofNat_lt.2 b
theorem aTu {k:Int}(a:0<=k)(h:k*k<=v):k<=root v:=by
 have b:0<=v:=le_trans (mul_nonneg a a) h;obtain⟨d,e,f⟩:=Oy b
 rcases lt_or_le (root v) k with h4|h4
 ·have:(root v+1)*(root v+1)<=k*k:=Int.mul_le_mul (by omega) (by omega) (by omega) (by omega);omega
 ·exact h4
theorem Wu (h:0<=v):root v<=v:=by
 obtain⟨a,b,d⟩:=Oy h
 rcases lt_or_le (root v) 1 with h4|h4
 ·omega
 ·have:root v*1<=root v*root v:=Int.mul_le_mul_of_nonneg_left h4 a;omega
theorem aIv {p q:Int}(r:0<p)(i:0<q):∀(k:Nat) (t:Int),0<t->q*256<=t*t*4^k->∃a b,near p q (k+1) t=some (a,b)/\16<=a/\a<=b*b*p/\0<b/\b<=t*2^k
 |0,t,g,h=>by
  have f:0<=t*t*p:=mul_nonneg (mul_nonneg (by omega) (by omega)) (by omega)
  have s:256<=t*t*p/q:=by
   refine(Int.le_ediv_iff_mul_le i).2 ?_;have:t*t*1<=t*t*p:=Int.mul_le_mul_of_nonneg_left (by omega) (mul_nonneg (by omega) (by omega));simp at h;omega
  have d:16<=root (t*t*p/q):=aTu (by decide) (by omega);exact⟨_,_,by unfold near;rw[if_pos d],d,le_trans (Wu (by omega)) (ediv_le_self _ f),g,by simp⟩
 |k+1,t,g,h=>by
  have f:0<=t*t*p:=mul_nonneg (mul_nonneg (by omega) (by omega)) (by omega)
  by_cases d:16<=root (t*t*p/q)
  ·refine⟨_,_,by unfold near;rw[if_pos d],d,le_trans (Wu (ediv_nonneg f (by omega))) (ediv_le_self _ f),g,?_⟩
   have:(1:Int)<=2^(k+1):=by have:(0:Int)<2^(k+1):=Int.pow_pos (by decide);omega
   have:=Int.mul_le_mul_of_nonneg_left this (show 0<=t by omega);omega
  ·obtain ⟨a,b,j,l,n,o,u⟩:=aIv r i k (t+t) (by omega) (by
    have e:(t+t)*(t+t)=t*t*4:=by grind
    rw[e,Int.mul_assoc,<-Int.pow_succ']
    exact h)
   refine⟨a,b,by unfold near;rw[if_neg d];exact j,l,n,o,?_⟩;rw[Int.pow_succ]
   have:(t+t)*2^k=t*(2^k*2):=by grind
   omega
theorem aIu {p q:Int}{r:Int×Int}:∀(k m:Nat) (t:Int),k<=m->near p q k t=some r->near p q m t=some r
 |0,_,_,_,h=>by simp[near]at h
 |k+1,0,_,a,_=>by omega
 |k+1,m+1,t,a,h=>by
  unfold near at h ⊢;split at h
  ·rename_i hc;rw[if_pos hc];exact h
  ·rename_i hc;rw[if_neg hc];exact aIu k m _ (by omega) h
theorem aRt {q:Int}(h:Bits w q):q<2^w:=by grind [Bits]
theorem aVN {b:Int}(a:0<=b)(h:b<=2^w):Bits (w+1) b:=by grind [Bits]
theorem Pn {p q:Int}(l:0<p)(n:0<q)(g:Bits 6100 p)(h:Bits 6100 q):∃a b,near p q 20000 1=some (a,b)/\16<=a/\0<b/\Bits 12300 a/\Bits 3100 b:=by
 have o:q<2^6100:=aRt h
 obtain ⟨a,b,i,j,r,k,f⟩:=aIv l n 3060 1 (by decide) (by
  have e:(1:Int)*1*4^3060=2^6100*2^20:=by
   rw[<-Int.pow_add,show(4:Int)=2^2 by rfl,<-Int.pow_mul,one_mul,one_mul]
  rw[e]
  have:(2:Int)^20=1048576:=by decide
  rw[this];generalize (2:Int)^6100=N at*
  omega)
 have d:Bits 3061 b:=aVN (by omega) (by rw[one_mul]at f;exact f);refine⟨a,b,aIu _ _ _ (by decide) i,j,k,?_,eJ d (by decide)⟩;exact Iq (fY (fY d d) g) (by omega) (by decide)
end Rf
namespace Ab
def aV (x y:Int):Int:=(Nat.gcd x.natAbs y.natAbs:Nat)
theorem aVF:bI Z 139 (gZ true (f2 aV) aX (fun ns=>ns.foldr max 0) [90,90]):=by
 refine Xp (bF func139 rfl rfl).en (fun x y n m j k=>?_) (fun w x y u v d f g i=>aLx w x y u v (10000000*90) d f g i (by decide));have a:Bits (max n (max m 0)) x:=eJ j (by omega);have b:Bits (max n (max m 0)) y:=eJ k (by omega);show((Nat.gcd x.natAbs y.natAbs:Nat):Int).natAbs<2^(10000000*max n (max m 0))
 have e:((Nat.gcd x.natAbs y.natAbs:Nat):Int).natAbs=Nat.gcd x.natAbs y.natAbs:=by omega
 rw[e]
 rcases Nat.eq_zero_or_pos x.natAbs with h|h
 ·rw[h,Nat.gcd_zero_left];exact b
 ·exact Nat.lt_of_le_of_lt (Nat.gcd_le_left _ h) a
noncomputable def Lg:List (FuncId×TE):=(183,gZ true (zD cp) aX (fun _=>0) [40,40,40,40])::(139,gZ true (f2 aV) aX (fun ns=>ns.foldr max 0) [90,90])::Hq
theorem aRR:cG Z Lg:=⟨aWT,aVF,aOO⟩
def Ez (base times i p:Int):AS:=
 ⟨[.top,.val (.one (.sint .i64 times)),.top,.top,.val (.one (.ptr 0 0)),.val (.one (.ptr 1 0)),.val (.one (.ptr 2 0)),.val (.one (.sint .i64 i)),.top,.top,.top,.top,.top,.top,.top,.top,.top,.top,.top,.top],
  [(0,⟨[.bool false,.lit (.slice none 0 0)],56,true,false,false⟩),(1,⟨[.sg 0,.dg true 0],56,true,false,false⟩),(2,⟨[.sg 1,.dg true 1],56,true,false,false⟩)],3,[(p,80),(base,1)],[]⟩
theorem aOf (base times:Int):(run Z (eS rY (aD Hq)) (fun _=>none) (aK Z (eS rY (aD Hq))) nY 300 [.code (aE f56),.top f56] (start f56 (dZ true [.i .i64 base,.i .i64 times] [0,0]))).bind (iZ true [0,1,2] [1,4,5,6,1007] 3 [80,1])=
  some (.need [base.natAbs<1000000000000000000] (.need [Bits 80 1,Bits 1 base] (.again (.code (.loop (pH (aE f56) f56))::tA (aE f56) f56) (Ez base times 0 1)))):=by kernel_rfl
theorem aOg (base times i p:Int)(n:Nat):(run Z (eS rY (aD Hq)) (fun _=>none) (aK Z (eS rY (aD Hq))) iX 300 (.code (pH (aE f56) f56)::.lp (pH (aE f56) f56) n::tA (aE f56) f56) (Ez base times i p)).bind (iZ true [0,1,2] [1,4,5,6,1007] 3 [80,1])=
  some (.br (decide (i<times)) (.need [Bits 80 (p*base),Bits 1 base] (.again (.lp (pH (aE f56) f56) n::tA (aE f56) f56) (Ez base times (Wr (i+1)) (p*base)))) (.ret (.one (.ns [p])))):=by kernel_rfl
def Eh:List G->Option RG
 | [.i .i64 b,.i .i64 t]=>some (.one (.ns [b^t.toNat]))
 |_=>none
def Hh:List G->List Prop
 | [.i .i64 b,.i .i64 t]=>[b.natAbs<=16/\0<=t/\t<=100000]
 |_=>[]
theorem aHp {b:Int}(a:b.natAbs<=16)(k:Nat):Go.Proofs.YthhffdeihoofiaaGreatDoor.Bits (4*k+1) (b^k):=by
 show(b^k).natAbs<2^(4*k+1);rw[Int.natAbs_pow];have:b.natAbs^k<=16^k:=Nat.pow_le_pow_left a k
 have e:(2:Nat)^(4*k+1)=2*16^k:=by rw[Nat.pow_succ,Nat.pow_mul,show(2:Nat)^4=16 from rfl,Nat.mul_comm]
 have:0<16^k:=Nat.pow_pos (by decide);omega
theorem aV8:bI Z 56 (gZ true Eh Hh (fun _=>1) [0,0]):=by
 refine wX (l:=Hq) aOO Qf (bF func56 rfl rfl) (kb:=[0,1,2]) (kt:=[1,4,5,6,1007]) (nx:=3) (rb:=[80,1]) ?_ (by kernel_rfl) ?_
 ·intro k ns out h d o p;unfold Eh at h;split at h
  ·rename_i b t;cases h;have d:b.natAbs<=16/\0<=t/\t<=100000:=d.one;intro z j;simp at j;subst j;exact Dn (aHp d.1 _) (by omega)
  ·cases h
 ·intro k out h d o;unfold Eh at h;split at h
  ·rename_i b t;cases h;have d:b.natAbs<=16/\0<=t/\t<=100000:=d.one;have a:Bits 1 b:=iI (by omega);refine⟨fun m s=>∃i:Nat,s=Ez b t i (b^i)/\(i:Int)<=t/\m=t.toNat-i,⟨300,_,aOf b t,?_⟩,?_⟩
   ·refine⟨fH (by omega) gG,fH ?_ (fH a gG),rfl,_,0,by simp,by omega,rfl⟩;exact Dn (aHp (b:=1) (by decide) 0) (by decide)
   ·rintro m s⟨i,rfl,hi,rfl⟩ n;refine⟨300,_,aOg b t i (b^i) n,?_,?_⟩
    ·intro g
     have g:(i:Int)<t:=by simpa using g
     have e:b^i*b=b^(i+1):=by rw[Int.pow_succ]
     refine⟨fH ?_ (fH a gG),rfl,t.toNat-(i+1),by omega,i+1,?_,by omega,rfl⟩
     ·rw[e];exact Dn (aHp d.1 _) (by omega)
     ·rw[e,mD (by omega) (by omega)];simp
    ·intro f
     have f:¬(i:Int)<t:=by simpa using f
     show RG.one (.ns [b^i])=_
     have:t.toNat=i:=by omega
     rw[this]
  ·cases h
theorem aZX {r:Int}(f:0<v)(d:0<r):0<(r+v/r)/2/\v<((r+v/r)/2+1)*((r+v/r)/2+1)/\(r<=(r+v/r)/2->r*r<=v):=by
 have g:0<=v/r:=ediv_nonneg (by omega) (by omega);have i:r*(v/r)<=v:=Int.mul_ediv_self_le (by omega)
 have j:v<r*(v/r+1):=by
  have:=Int.lt_mul_ediv_self_add (x:=v) d;rw[Int.mul_add];omega
 generalize v/r=q at*;have b0:0<=(r+q)/2:=ediv_nonneg (by omega) (by omega)
 have b1:r+q+1<=2*((r+q)/2+1):=by omega
 have b2:(r<=(r+q)/2)->r<=q:=by omega
 generalize (r+q)/2=b at*
 have k:4*(r*(q+1))<=(r+q+1)*(r+q+1):=by
  have:0<=(r-(q+1))*(r-(q+1)):=by
   rcases Int.le_total 0 (r-(q+1))with h|h
   ·exact mul_nonneg h h
   ·exact Int.mul_nonneg_of_nonpos_of_nonpos h h
  have e:(r+q+1)*(r+q+1)=4*(r*(q+1))+(r-(q+1))*(r-(q+1)):=by grind
  omega
 have l:(r+q+1)*(r+q+1)<=(2*(b+1))*(2*(b+1)):=Int.mul_le_mul b1 b1 (by omega) (by omega)
 have n:(2*(b+1))*(2*(b+1))=4*((b+1)*(b+1)):=by grind
 have a:v<(b+1)*(b+1):=by omega
 refine⟨?_,a,fun h=>?_⟩
 ·rcases lt_or_le 0 b with h|h
  ·exact h
  ·have:b=0:=by omega
   subst this;omega
 ·have:=b2 h;have:r*r<=r*q:=Int.mul_le_mul_of_nonneg_left this (by omega);omega
theorem Rx {x:Int}(h:0<=x):iG x 1=x/2:=by
 unfold iG half;rw[show decide ((1:Int)<1)=false from rfl,cond_false,if_neg (by omega)]
 have a:(x.natAbs:Int)=x:=by omega
 have b:(2:Int)^((1:Int).toNat)=2:=rfl;rw[a,b]
theorem aOr {r:Int}(a:0<=v)(i:0<=r)(f:r*r<=v)(g:v<(r+1)*(r+1)):Rf.root v=r:=by
 obtain⟨b,d,e⟩:=Rf.Oy a
 rcases Int.lt_trichotomy (Rf.root v) r with h|h|h
 ·have:(Rf.root v+1)*(Rf.root v+1)<=r*r:=Int.mul_le_mul (by omega) (by omega) (by omega) (by omega);omega
 ·exact h
 ·have:(r+1)*(r+1)<=Rf.root v*Rf.root v:=Int.mul_le_mul (by omega) (by omega) (by omega) (by omega);omega
theorem aFY (k:Nat):Go.Proofs.YthhffdeihoofiaaGreatDoor.Bits (k+1) ((2:Int)^k):=by
 show((2:Int)^k).natAbs<2^(k+1);rw[Int.natAbs_pow];exact Nat.pow_lt_pow_right (by decide) (by omega)
def wT (z r:Int):AS:=
 ⟨[.top,.val (.one (.ptr 0 0)),.val (.one (.ptr 1 0)),.top,.val (.one (.ptr 10 0))]++List.replicate 36 .top,
  [(0,⟨[.sg 0,.dg true 0],56,true,false,false⟩),(1,⟨[.bool false,.lit (.slice none 0 0)],56,true,false,false⟩),(10,⟨[.sg 1,.dg true 1],56,true,false,false⟩)],11,[(z,10),(r,11)],[]⟩
def lZ (z:Int):Int:=Wr ((Wr ((Nm.bl z:Int)+1)).tdiv 2)
theorem aL2 (z:Int):(run Z (eS rY (aD Lg)) (fun _=>none) (aK Z (eS rY (aD Lg))) nY 300 [.code (aE f170),.top f170] (start f170 (dZ true [.ns [z]] [10]))).bind (iZ true [0,1,10] [1,2,4] 11 [10,11])=
  some (.br (decide (Nm.cmp z 0<=0)) (.ret (.one (.ns [0]))) (.need [0<=lZ z/\lZ z<=900000000/\10000000*1+(lZ z).toNat<=1000000000] (.need [0<=((1:Int).natAbs:Int)*2^(lZ z).toNat,Bits 10 z,Bits 11 (((1:Int).natAbs:Int)*2^(lZ z).toNat)] (.again (.code (.loop (pH (aE f170) f170))::tA (aE f170) f170) (wT z (((1:Int).natAbs:Int)*2^(lZ z).toNat)))))):=by kernel_rfl
theorem aL3 (z r:Int)(n:Nat):(run Z (eS rY (aD Lg)) (fun _=>none) (aK Z (eS rY (aD Lg))) iX 300 (.code (pH (aE f170) f170)::.lp (pH (aE f170) f170) n::tA (aE f170) f170) (wT z r)).bind (iZ true [0,1,10] [1,2,4] 11 [10,11])=
  some (.br (decide (0<Nm.cmp r 0)) (.need [0<r] (.need [(1:Int)<=1/\(1:Int)<=1000000000] (.br (decide (0<=Nm.cmp (iG (r+z/r) 1) r)) (.ret (.one (.ns [r]))) (.need [Bits 10 z,Bits 11 (iG (r+z/r) 1)] (.again (.lp (pH (aE f170) f170) n::tA (aE f170) f170) (wT z (iG (r+z/r) 1))))))) (.ret (.one (.ns [r])))):=by kernel_rfl
def wE:List G->Option RG
 | [.ns [z]]=>some (.one (.ns [Rf.root z]))
 |_=>none
def Bf:List G->List Prop
 | [.ns [z]]=>[0<=z]
 |_=>[]
theorem aTv:bI Z 170 (gZ true wE Bf (fun ns=>ns.headD 0) [10]):=by
 refine wX (l:=Lg) aRR Qf (bF func170 rfl rfl) (kb:=[0,1,10]) (kt:=[1,2,4]) (nx:=11) (rb:=[10,11]) ?_ (by kernel_rfl) ?_
 ·intro x ns out h b g L;unfold wE at h;split at h
  ·rename_i z;cases h;have b:0<=z:=b.one
   match ns,g with
   | [n],⟨g,_⟩=>
    intro y v;simp at v;subst v;have k:=g z (by simp);have A:=Rf.Wu b;have B:=(Rf.Oy b).1;exact Iq k (by omega) (le_refl _)
  ·cases h
 ·intro x out h b g;unfold wE at h;split at h
  ·rename_i z;cases h;have b:0<=z:=b.one;have j:Bits 10 z:=g.1 z (by simp);have D:=Qk j
   have C:lZ z=(((Nm.bl z+1)/2:Nat):Int):=by
    have J:Wr ((Nm.bl z:Int)+1)=(Nm.bl z:Int)+1:=mD (by omega) (by omega);unfold lZ;rw[J]
    have:((Nm.bl z:Int)+1).tdiv 2=(((Nm.bl z+1)/2:Nat):Int):=by
     rw[Int.tdiv_eq_ediv_of_nonneg (by omega)];omega
    rw[this];exact mD (by omega) (by omega)
   have w:((1:Int).natAbs:Int)*2^(lZ z).toNat=2^((Nm.bl z+1)/2):=by
    rw[C,Int.toNat_natCast];show(1:Int)*_=_;rw[one_mul]
   have E:(0:Int)<2^((Nm.bl z+1)/2):=jZ (by decide) _;have b2:Bits 11 (2^((Nm.bl z+1)/2):Int):=Dn (aFY ((Nm.bl z+1)/2)) (by omega);refine⟨fun m s=>∃r:Int,s=wT z r/\0<r/\0<z/\z<(r+1)*(r+1)/\Bits 11 r/\m=r.toNat,⟨300,_,aL2 z,?_,?_⟩,?_⟩
   ·intro d
    have d:Nm.cmp z 0<=0:=by simpa using d
    have:z=0:=by
     rcases Int.lt_or_eq_of_le b with h|h
     ·rw[gX h]at d;omega
     ·exact h.symm
    subst this;rw[aOr (r:=0) (by decide) (by decide) (by decide) (by decide)];exact rfl
   ·intro d
    have d:¬Nm.cmp z 0<=0:=by simpa using d
    have i:0<z:=by
     rcases Int.lt_or_eq_of_le b with h|h
     ·exact h
     ·exfalso;apply d;rw[iU h.symm];decide
    rw[w];refine⟨fH ⟨by omega,by omega,by omega⟩ gG,fH (by omega) (fH j (fH b2 gG)),rfl,_,_,rfl,E,i,?_,b2,rfl⟩;have k:=(Gl (z:=z) (by omega)).2.2
    have A:(2:Int)^Nm.bl z<=2^((Nm.bl z+1)/2)*2^((Nm.bl z+1)/2):=by
     rw[<-Int.pow_add];exact uB (by decide) (by omega)
    have B:z<(2:Int)^Nm.bl z:=by
     have:((z.natAbs:Nat):Int)<((2^Nm.bl z:Nat):Int):=Int.ofNat_lt.2 k;rw[Int.natCast_pow]at this;have e:((2:Nat):Int)=2:=rfl;rw[e]at this;omega
    generalize (2:Int)^((Nm.bl z+1)/2)=P at*
    have e:(P+1)*(P+1)=P*P+2*P+1:=by grind
    omega
   ·rintro m s⟨r,rfl,p,i,o,br,rfl⟩ n;obtain⟨F,H,I⟩:=aZX i p;have M:0<=z/r:=ediv_nonneg (by omega) (by omega);have u:iG (r+z/r) 1=(r+z/r)/2:=Rx (by omega);refine⟨300,_,aL3 z r n,?_,?_⟩
    ·intro _;refine⟨fH p gG,fH (by decide) gG,?_,?_⟩
     ·intro a
      have a:0<=Nm.cmp (iG (r+z/r) 1) r:=by simpa using a
      rw[u]at a
      have h8:r<=(r+z/r)/2:=by
       rcases lt_or_le ((r+z/r)/2) r with h|h
       ·rw[iV h]at a;omega
       ·exact h
      rw[aOr b (by omega) (I h8) o];exact rfl
     ·intro a
      have a:¬0<=Nm.cmp (iG (r+z/r) 1) r:=by simpa using a
      rw[u]at a ⊢
      have h8:(r+z/r)/2<r:=by
       rcases lt_or_le ((r+z/r)/2) r with h|h
       ·exact h
       ·exfalso;apply a
        rcases Int.lt_or_eq_of_le h with h|h
        ·rw[gX h];decide
        ·rw[iU h.symm];decide
      have q:Bits 11 ((r+z/r)/2):=Iq br (by omega) (le_refl _);exact⟨fH j (fH q gG),rfl,((r+z/r)/2).toNat,by omega,_,rfl,F,i,H,q,rfl⟩
    ·intro f
     have f:¬0<Nm.cmp r 0:=by simpa using f
     exfalso;apply f;rw[gX p];decide
  ·cases h
noncomputable def tW:List (FuncId×TE):=(170,gZ true wE Bf (fun ns=>ns.headD 0) [10])::(56,gZ true Eh Hh (fun _=>1) [0,0])::Lg
theorem Iw:cG Z tW:=⟨aTv,aV8,aRR⟩
def jL (k:Bool):Out->Option (List Prop×RG×Nat)
 |.ret (.val v)=>(gT k v).map fun g=>([],.one g.1,g.2)
 |.ret (.tup e)=>(fB (gT k) e).map fun d=>([],.tup (d.map (·.1)),(d.map (·.2)).foldr max 0)
 |.br t x y=>(jL k x).bind fun a=>(jL k y).bind fun b=>(En t a.2.1 b.2.1).map fun c=>(a.1.map (fun p=>t=true->p)++b.1.map (fun p=>t=false->p),c,max a.2.2 b.2.2)
 |.need p o=>(jL k o).map fun a=>(p++a.1,a.2)
theorem aRn {k:Bool}{w:Nat}{n:World}:∀{b:List VT} {a:List (G×Nat)} {d:LB},fB (gT k) b=some a->(a.map (·.2)).foldr max 0<=w->All2 (lJ Z n) b d->All2 (lJ Z n) ((a.map (·.1)).map (pB k w)) d
 | [],a,[],h,_,_=>by simp[fB]at h;subst h;trivial
 |v::b,a,x::d,h,i,⟨l,o⟩=>by
  unfold fB at h;obtain⟨y,e,f⟩:=aT h;obtain⟨p,g,rfl⟩:=cA f;simp only[map_cons,List.foldr_cons]at i;obtain⟨k1,j⟩:=Mq e l;exact⟨j w (k1.mono (by omega)),aRn g (by omega) o⟩
 | [],_,_::_,_,_,h=>h.elim
 |_::_,_,[],_,_,h=>h.elim
theorem Dq {k:Bool}{w:Nat}:∀{o:Out} {r:List Prop} {out:RG} {m:Nat},jL k o=some (r,out,m)->Holds r->m<=w->o.ok fun F=>∀d v,RRV Z d F v->RRV Z d (wR k w out) v
 |.ret (.val t),r,out,m,h,_,f=>by
  simp only[jL]at h;obtain⟨⟨g,J⟩,i,j⟩:=cA h;cases j;intro d v hv;obtain⟨k1,D⟩:=Mq i hv;exact D w (k1.mono f)
 |.ret (.tup vs),r,out,m,h,_,f=>by
  simp only[jL]at h;obtain⟨I,i,j⟩:=cA h;cases j;rintro d v⟨H,e,hv⟩;exact⟨H,e,aRn i f hv⟩
 |.br t x y,r,out,m,h,s,f=>by
  simp only[jL]at h;obtain⟨⟨p1,a,E⟩,i,j⟩:=aT h;obtain⟨⟨M,b,L⟩,z,A⟩:=aT j;obtain⟨c,B,C⟩:=cA A;cases C;have u:=aNK B;refine⟨fun e=>?_,fun e=>?_⟩
  ·subst e;subst u;exact Dq i (fun q l=>s (true=true->q) (List.mem_append_left _ (List.mem_map.2 ⟨q,l,rfl⟩)) rfl) (by simp only at f ⊢;omega)
  ·subst e;subst u;exact Dq z (fun q l=>s (false=false->q) (List.mem_append_right _ (List.mem_map.2 ⟨q,l,rfl⟩)) rfl) (by simp only at f ⊢;omega)
 |.need p o,r,out,m,h,s,f=>by
  simp only[jL]at h;obtain⟨⟨p1,a,E⟩,i,j⟩:=cA h;cases j;exact⟨fun q l=>s q (by simp[l]),Dq i (fun q l=>s q (by simp[l])) f⟩
abbrev cY (k:Bool)(F:List G->Option RG)(nd:List G->List Prop)(N:Nat)(a:PH):TE:=gZ k F nd (fun _=>N) a
variable {l:List (FuncId×TE)}{M:FuncId}{F:List G->Option RG}{nd:List G->List Prop}{f:PH}
theorem iA (C:cG Z l){b:FF}(q:bU Z b){fn:Func}(e:Fn M fn){k:Bool}
  (h:∀d out,F d=some out->∃z m,((run Z (aD l) b (aK Z (aD l)) (fun _=>false) 2000 [.code (aE fn),.top fn] (start fn (dZ k d f))).bind outcome).bind (jL k)=some (z,out,m)/\m<=w/\(Holds (nd d)->pX d f->Holds z)):bI Z M (cY k F nd w f):=by
 refine⟨e.en,fun ts r p n R a A u=>?_⟩;unfold cY gZ at n;obtain⟨B,I,j⟩:=aT n
 cases g:mX (B.map (·.2)) f with
 |false=>rw[g]at j;cases j
 |true=>
  rw[g]at j;simp only[cond_true]at j;obtain⟨out,J,L⟩:=cA j;cases L;obtain⟨E,g2,H⟩:=Oi ts B f A I g u;obtain⟨z,m,k1,W,D⟩:=h _ out J;have x:=D R H;clear D;generalize B.map (·.1)=d at*;obtain⟨o,X,Y⟩:=aT k1;obtain⟨tr,k6,k7⟩:=aT X
  have P:At (eG 0 (dZ k d f)).2 0 (eG 0 (dZ k d f)).2:=fun i y U=>by rw[Nat.zero_add];exact U
  refine mL (w0:=a) (ψ:=fun _=>none) (φ:=fun _=>none) (s:=start fn (dZ k d f)) (vs:=(eG 0 (dZ k d f)).1) (cZ C) q (pN mixed (cZ C)) e.at' e.body rfl (Ij _ 0 A P E) (Ox fn _ a) 2000 k6 _ (fun _ _=>False) (fun _ _ h=>h.elim) (yU k7 (Dq Y x W)) ?_;rintro r0 s φ v w'⟨hc,r',O,h8⟩ S T;exact⟨v,rfl,h8 w' v (Ct O S),RepF.below T hc⟩
theorem dM (d:cG Z l){fn:Func}(b:Fn M fn)
  (h:∀a out,F a=some out->((run Z (aD l) (fun _=>none) (aK Z (aD l)) (fun _=>false) 2000 [.code (aE fn),.top fn] (start fn (dZ true a f))).bind outcome).bind (jL true)=some ([],out,w)):bI Z M (cY true F aX w f):=
 iA d dG b fun a out e=>⟨[],w,h a out e,le_refl _,fun _ _=>gG⟩
theorem aIU {k:Bool}{n:List G->Option RG}{i:List G->List Prop}{l:List Nat->Nat}(h:bI Z M (gZ k F nd l f))(x:∀b out,n b=some out->Holds (i b)->pX b f->F b=some out/\Holds (nd b)):bI Z M (gZ k n i l f):=by
 refine⟨h.1,fun ts r p e y w q g=>?_⟩;unfold gZ at e;obtain⟨j,o,d⟩:=aT e
 cases a:mX (j.map (·.2)) f with
 |false=>rw[a]at d;cases d
 |true=>
  rw[a]at d;simp only[cond_true]at d;obtain⟨out,u,v⟩:=cA d;cases v;obtain⟨A,B,s⟩:=Oi ts j f q o a g;obtain⟨k1,z⟩:=x _ out u y s;exact h.2 ts (wR k (l (j.map (·.2))) out) (nd (j.map (·.1))) (by unfold gZ;rw[o];simp only[Option.bind_some,a,cond_true,k1,Option.map_some]) z w q g
def aG (t b:Int):Int:=bif decide (Nm.cmp b 0<0)then -t/aV t b else bif Nm.cmp b 0==0 then(bif decide (Nm.cmp t 0<0)then -t/aV t b else t/aV t b)else t/aV t b
def aL (t b:Int):Int:=bif decide (Nm.cmp b 0<0)then -b/aV t b else bif Nm.cmp b 0==0 then(bif decide (Nm.cmp t 0<0)then -b/aV t b else b/aV t b)else b/aV t b
def yA:List G->Option RG
 | [.ns [t],.ns [b]]=>some (.one (.ns [aG t b,aL t b]))
 |_=>none
def tB:List G->List Prop
 | [.ns [t],.ns [b]]=>[0<aV t b]
 |_=>[]
theorem aRs:bI Z 123 (cY true yA tB 41 [40,40]):=by
 refine iA (l:=tW) Iw dG (bF func123 rfl rfl) ?_;intro d out h;unfold yA at h;split at h
 ·rename_i t b;cases h;refine⟨[decide (Nm.cmp b 0<0)=true->0<aV t b,decide (Nm.cmp b 0<0)=true->0<aV t b,decide (Nm.cmp b 0<0)=false->(Nm.cmp b 0==0)=true->decide (Nm.cmp t 0<0)=true->0<aV t b,decide (Nm.cmp b 0<0)=false->(Nm.cmp b 0==0)=true->decide (Nm.cmp t 0<0)=true->0<aV t b,decide (Nm.cmp b 0<0)=false->(Nm.cmp b 0==0)=true->decide (Nm.cmp t 0<0)=false->0<aV t b,decide (Nm.cmp b 0<0)=false->(Nm.cmp b 0==0)=true->decide (Nm.cmp t 0<0)=false->0<aV t b,decide (Nm.cmp b 0<0)=false->(Nm.cmp b 0==0)=false->0<aV t b,decide (Nm.cmp b 0<0)=false->(Nm.cmp b 0==0)=false->0<aV t b],41,by kernel_rfl,by decide,fun a e=>?_⟩;have a:0<aV t b:=a.one;exact fH (fun _=>a) (fH (fun _=>a) (fH (fun _ _ _=>a) (fH (fun _ _ _=>a) (fH (fun _ _ _=>a) (fH (fun _ _ _=>a) (fH (fun _ _=>a) (fH (fun _ _=>a) gG)))))))
 ·cases h
def wA:List Int->Option (List Int)
 | [n]=>some [n,1]
 |_=>none
theorem aSK:bI Z 47 (Cd true wA):=by
 refine Cj Iw (bF func47 rfl rfl) ?_ ?_
 ·intro d out h;unfold wA at h;split at h
  ·rename_i n;cases h;exact⟨[n.natAbs<1000000000000000000],by kernel_rfl,fun h=>fH (h n (by simp)) gG⟩
  ·cases h
 ·intro d out h b;unfold wA at h;split at h
  ·rename_i n;cases h;intro z a;simp at a
   rcases a with rfl|rfl
   ·exact iI (b _ (by simp))
   ·exact iI (by decide)
  ·cases h
def qX:List G->Option RG
 | [.ns [t,b]]=>some (.one (.i .i64 (Nm.cmp t 0)))
 |_=>none
theorem aNg:bI Z 75 (cY true qX aX 0 [90]):=dM Iw (bF func75 rfl rfl) fun _ _ h=>by
 unfold qX at h
 split at h<;>cases h
 kernel_rfl
def uX:List G->Option RG
 | [.ns [t,b]]=>some (.one (.ns [-t,b]))
 |_=>none
theorem aPK:bI Z 74 (cY true uX aX 10 [10]):=dM Iw (bF func74 rfl rfl) fun _ _ h=>by
 unfold uX at h
 split at h<;>cases h
 kernel_rfl
noncomputable def Tf:List (FuncId×TE):=(123,cY true yA tB 41 [40,40])::(47,Cd true wA)::(75,cY true qX aX 0 [90])::(74,cY true uX aX 10 [10])::tW
theorem Xm:cG Z Tf:=⟨aRs,aSK,aNg,aPK,Iw⟩
def nH (top e:Int->Int->Int->Int->Int):List G->Option RG
 | [.ns [a,b],.ns [c,d]]=>some (.one (.ns [aG (top a b c d) (e a b c d),aL (top a b c d) (e a b c d)]))
 |_=>none
def mY (top e:Int->Int->Int->Int->Int):List G->List Prop
 | [.ns [a,b],.ns [c,d]]=>[0<aV (top a b c d) (e a b c d)]
 |_=>[]
theorem aNf:bI Z 98 (cY true (nH (fun a b c d=>a*d+c*b) (fun a b c d=>b*d)) (mY (fun a b c d=>a*d+c*b) (fun a b c d=>b*d)) 41 [10,10]):=by
 refine iA (l:=Tf) Xm dG (bF func98 rfl rfl) ?_;intro f out h;unfold nH at h;split at h
 ·rename_i a b c d;cases h;exact⟨[0<aV (a*d+c*b) (b*d)],41,by kernel_rfl,by decide,fun e _=>fH e.one gG⟩
 ·cases h
theorem aLD:bI Z 100 (cY true (nH (fun a b c d=>a*c) (fun a b c d=>b*d)) (mY (fun a b c d=>a*c) (fun a b c d=>b*d)) 41 [10,10]):=by
 refine iA (l:=Tf) Xm dG (bF func100 rfl rfl) ?_;intro f out h;unfold nH at h;split at h
 ·rename_i a b c d;cases h;exact⟨[0<aV (a*c) (b*d)],41,by kernel_rfl,by decide,fun e _=>fH e.one gG⟩
 ·cases h
theorem aNe:bI Z 101 (cY true (nH (fun a b c d=>a*d) (fun a b c d=>b*c)) (mY (fun a b c d=>a*d) (fun a b c d=>b*c)) 41 [10,10]):=by
 refine iA (l:=Tf) Xm dG (bF func101 rfl rfl) ?_;intro f out h;unfold nH at h;split at h
 ·rename_i a b c d;cases h;exact⟨[0<aV (a*d) (b*c)],41,by kernel_rfl,by decide,fun e _=>fH e.one gG⟩
 ·cases h
noncomputable def tF1:List (FuncId×TE):=(98,cY true (nH (fun a b c d=>a*d+c*b) (fun a b c d=>b*d)) (mY (fun a b c d=>a*d+c*b) (fun a b c d=>b*d)) 41 [10,10])::(100,cY true (nH (fun a b c d=>a*c) (fun a b c d=>b*d)) (mY (fun a b c d=>a*c) (fun a b c d=>b*d)) 41 [10,10])::(101,cY true (nH (fun a b c d=>a*d) (fun a b c d=>b*c)) (mY (fun a b c d=>a*d) (fun a b c d=>b*c)) 41 [10,10])::Tf
theorem aRO:cG Z tF1:=⟨aNf,aLD,aNe,Xm⟩
theorem aLC:bI Z 99 (cY true (nH (fun a b c d=>a*d+-c*b) (fun a b c d=>b*d)) (mY (fun a b c d=>a*d+-c*b) (fun a b c d=>b*d)) 41 [10,10]):=by
 refine iA (l:=tF1) aRO dG (bF func99 rfl rfl) ?_;intro f out h;unfold nH at h;split at h
 ·rename_i a b c d;cases h;exact⟨[0<aV (a*d+-c*b) (b*d)],41,by kernel_rfl,by decide,fun e _=>fH e.one gG⟩
 ·cases h
noncomputable def tF:List (FuncId×TE):=(99,cY true (nH (fun a b c d=>a*d+-c*b) (fun a b c d=>b*d)) (mY (fun a b c d=>a*d+-c*b) (fun a b c d=>b*d)) 41 [10,10])::tF1
theorem aWk:cG Z tF:=⟨aLC,aRO⟩
def Eg:List Int->Option (List Int)
 | [a,b,c,d]=>some [a,b,c,d]
 |_=>none
theorem aVO:bI Z 79 (Cd true Eg):=by
 refine Cj Iw (bF func79 rfl rfl) ?_ ?_
 ·intro g out h;unfold Eg at h;split at h
  ·rename_i a b c d;cases h;exact⟨[a.natAbs<1000000000000000000,b.natAbs<1000000000000000000,c.natAbs<1000000000000000000,d.natAbs<1000000000000000000],by kernel_rfl,fun h=>by simp at h;exact fH h.1 (fH h.2.1 (fH h.2.2.1 (fH h.2.2.2 gG)))⟩
  ·cases h
 ·intro g out h f;unfold Eg at h;split at h
  ·cases h
   exact fun z e=>iI (f z e)
  ·cases h
def uZ:List G->Option RG
 | [.ns [a],.ns [x],.ns [b],.ns [y]]=>some (.one (.ns [a*x+b*y]))
 |_=>none
theorem aQd:bI Z 114 (cY true uZ aX 7 [3,3,3,3]):=dM Iw (bF func114 rfl rfl) fun _ _ h=>by
 unfold uZ at h
 split at h<;>cases h
 kernel_rfl
noncomputable def tM0:List (FuncId×TE):=(79,Cd true Eg)::(114,cY true uZ aX 7 [3,3,3,3])::tF
theorem aON:cG Z tM0:=⟨aVO,aQd,aWk⟩
def gN (s:Int):Int:=bif s==2 then -1 else bif s==3 then 1 else bif s==4 then 1 else bif s==5 then 1 else bif s==6 then 3 else bif s==7 then 2 else 1
def gQ (s:Int):Int:=bif s==2 then 0 else bif s==3 then -1 else bif s==4 then 1 else bif s==5 then 0 else bif s==6 then 1 else bif s==7 then 1 else 0
def gU (s:Int):Int:=bif s==2 then 0 else bif s==3 then 1 else bif s==4 then -1 else bif s==5 then 1 else bif s==6 then 1 else bif s==7 then 0 else 0
def gV (s:Int):Int:=bif s==2 then 1 else bif s==3 then 1 else bif s==4 then 1 else bif s==5 then 2 else bif s==6 then 3 else bif s==7 then 1 else 1
def Ar:List G->Option RG
 | [.i .i64 s]=>some (.one (.ns [gN s,gQ s,gU s,gV s]))
 |_=>none
theorem aSa:bI Z 90 (cY true Ar aX 1 [0]):=dM aON (bF func90 rfl rfl) fun _ _ h=>by
 unfold Ar at h
 split at h<;>cases h
 kernel_rfl
def uW:List G->Option RG
 | [.ns [a,b,c,d],.ns [e,f,g,h]]=>some (.one (.ns [a*e+b*g,a*f+b*h,c*e+d*g,c*f+d*h]))
 |_=>none
theorem aPg:bI Z 89 (cY true uW aX 7 [3,3]):=dM aON (bF func89 rfl rfl) fun _ _ h=>by
 unfold uW at h
 split at h<;>cases h
 kernel_rfl
noncomputable def tM:List (FuncId×TE):=(90,cY true Ar aX 1 [0])::(89,cY true uW aX 7 [3,3])::tM0
theorem Xs:cG Z tM:=⟨aSa,aPg,aON⟩
def wD:List Int->Option (List Int)
 | [p,q]=>some [p,q]
 |_=>none
theorem aTf:bI Z 126 (Cd true wD):=by
 refine Cj Xs (bF func126 rfl rfl) ?_ ?_
 ·intro d out h;unfold wD at h;split at h
  ·rename_i p q;cases h;exact⟨[p.natAbs<1000000000000000000,q.natAbs<1000000000000000000],by kernel_rfl,fun h=>by simp at h;exact fH h.1 (fH h.2 gG)⟩
  ·cases h
 ·intro d out h b;unfold wD at h;split at h
  ·cases h
   exact fun z a=>iI (b z a)
  ·cases h
def Al:List G->Option RG
 | [.ns [p,q],.ns [n]]=>some (.one (.ns [p*n,q*n]))
 |_=>none
theorem aR5:bI Z 197 (cY true Al aX 18 [15,3]):=dM Xs (bF func197 rfl rfl) fun _ _ h=>by
 unfold Al at h
 split at h<;>cases h
 kernel_rfl
def Ak:List G->Option RG
 | [.ns [p,q],.ns [r,s]]=>some (.one (.ns [p+r,q+s]))
 |_=>none
theorem aR4:bI Z 198 (cY true Ak aX 19 [18,18]):=dM Xs (bF func198 rfl rfl) fun _ _ h=>by
 unfold Ak at h
 split at h<;>cases h
 kernel_rfl
noncomputable def tC0:List (FuncId×TE):=(126,Cd true wD)::(197,cY true Al aX 18 [15,3])::(198,cY true Ak aX 19 [18,18])::tM
theorem aRL:cG Z tC0:=⟨aTf,aR5,aR4,Xs⟩
def Ap:List G->Option RG
 | [.ns [p,q],.ns [r,s],.ns [a,b,c,d]]=>some (.tup [.ns [p*a+r*c,q*a+s*c],.ns [p*b+r*d,q*b+s*d]])
 |_=>none
theorem aR8:bI Z 188 (cY true Ap aX 19 [15,15,3]):=dM aRL (bF func188 rfl rfl) fun _ _ h=>by
 unfold Ap at h
 split at h<;>cases h
 kernel_rfl
noncomputable def tC1:List (FuncId×TE):=(188,cY true Ap aX 19 [15,15,3])::tC0
theorem Xl:cG Z tC1:=⟨aR8,aRL⟩
def Jx:List G->Option RG
 | [.ns [e,g,p1,h,f,i,p3,j],.ns [a,b,c,d]]=>some (.one (.ns [e*a+f*c,g*a+i*c,p1*a+p3*c,h*a+j*c,e*b+f*d,g*b+i*d,p1*b+p3*d,h*b+j*d]))
 |_=>none
theorem aUt:bI Z 178 (cY true Jx aX 19 [15,3]):=dM Xl (bF func178 rfl rfl) fun _ _ h=>by
 unfold Jx at h
 split at h<;>cases h
 kernel_rfl
def Jy:List G->Option RG
 | [.ns [e,g,p1,h,f,i,p3,j],.ns [a,b,c,d]]=>some (.one (.ns [e*a+p1*c,g*a+h*c,e*b+p1*d,g*b+h*d,f*a+p3*c,i*a+j*c,f*b+p3*d,i*b+j*d]))
 |_=>none
theorem aUu:bI Z 173 (cY true Jy aX 19 [15,3]):=dM Xl (bF func173 rfl rfl) fun _ _ h=>by
 unfold Jy at h
 split at h<;>cases h
 kernel_rfl
def Ao:List G->Option RG
 | [.ns [e,g,p1,h,f,i,p3,j],.ns [a,b,c,d]]=>some (.one (.ns [d*e-b*g,a*g-c*e,d*p1-b*h,a*h-c*p1,d*f-b*i,a*i-c*f,d*p3-b*j,a*j-c*p3]))
 |_=>none
theorem aR7:bI Z 151 (cY true Ao aX 19 [15,3]):=dM Xl (bF func151 rfl rfl) fun _ _ h=>by
 unfold Ao at h
 split at h<;>cases h
 kernel_rfl
noncomputable def tC2:List (FuncId×TE):=(178,cY true Jx aX 19 [15,3])::(173,cY true Jy aX 19 [15,3])::(151,cY true Ao aX 19 [15,3])::tC1
theorem Cw:cG Z tC2:=⟨aUt,aUu,aR7,Xl⟩
noncomputable def cW (t z:Int):Int:=bif Nm.cmp z 0==0 then t else bif decide (t<0)then(tz z:Int)else bif decide ((tz z:Int)<t)then(tz z:Int)else t
def gI (a k:Int):Int:=bif a==11 then 1 else bif k==0 then 1 else bif a==13 then Wr (k*k)else Wr (Wr ((Wr (k+1)).tdiv 2)*Wr ((Wr (k+1)).tdiv 2))
def gJ (a k:Int):Int:=bif a==11 then Wr (Wr (4*k)+2)else bif k==0 then 1 else bif a==13 then Wr (Wr (2*k)+1)else Wr (k+1)
def hX (k:Int):Int:=bif k==0 then 2 else bif k.tmod 3==2 then Wr ((Wr (2*Wr (k+1))).tdiv 3)else 1
theorem aTi {k:Int}(h:0<=k/\k<=100000000):Holds [(k==0)=false->(Wr (k*k)).natAbs<1000000000000000000,(k==0)=false->(Wr (Wr (2*k)+1)).natAbs<1000000000000000000]:=by
 have e:0<=k*k:=mul_nonneg h.1 h.1;have f:k*k<=100000000*100000000:=Int.mul_le_mul h.2 h.2 h.1 (by decide);have a:Wr (k*k)=k*k:=mD (by omega) (by omega);have b:Wr (2*k)=2*k:=mD (by omega) (by omega);have d:Wr (2*k+1)=2*k+1:=mD (by omega) (by omega);rw[a,b,d];exact fH (fun _=>by omega) (fH (fun _=>by omega) gG)
def Sj:List G->List Prop
 | [.i .i64 k]=>[0<=k/\k<=100000000]
 |_=>[]
noncomputable def Jn:List G->Option RG
 | [.i .i64 t,.ns [z]]=>some (.one (.i .i64 (cW t z)))
 |_=>none
theorem aUk:bI Z 167 (cY true Jn aX 0 [0,19]):=dM Cw (bF func167 rfl rfl) fun _ _ h=>by
 unfold Jn at h
 split at h<;>cases h
 kernel_rfl
def qY:List G->Option RG
 | [.ns [p,q]]=>some (.one (.b ((Nm.cmp p 0==0)&&(Nm.cmp q 0==0))))
 |_=>none
theorem aMt:bI Z 203 (cY true qY aX 0 [19]):=dM Cw (bF func203 rfl rfl) fun _ _ h=>by
 unfold qY at h
 split at h<;>cases h
 kernel_rfl
def Jo:List G->Option RG
 | [.ns [a],.ns [b]]=>some (.one (.ns [bif decide (Nm.cmp a b<0)then b else a]))
 |_=>none
theorem aUl:bI Z 189 (cY true Jo aX 80 [80,80]):=dM Cw (bF func189 rfl rfl) fun _ _ h=>by
 unfold Jo at h
 split at h<;>cases h
 kernel_rfl
def Kb:List G->Option RG
 | [.i .i64 k]=>some (.one (.b ((k==13)||(k==11))))
 |_=>none
theorem aUx:bI Z 195 (cY true Kb aX 0 [0]):=dM Cw (bF func195 rfl rfl) fun _ _ h=>by
 unfold Kb at h
 split at h<;>cases h
 kernel_rfl
def Jm:List G->Option RG
 | [.i .i64 a,.i .i64 k]=>some (.tup [.i .i64 (gI a k),.i .i64 (gJ a k)])
 |_=>none
theorem aUj:bI Z 196 (cY true Jm aX 0 [0,0]):=dM Cw (bF func196 rfl rfl) fun _ _ h=>by
 unfold Jm at h
 split at h<;>cases h
 kernel_rfl
def Jj:List G->Option RG
 | [.i .i64 k]=>some (.one (.i .i64 (hX k)))
 |_=>none
theorem aUg:bI Z 185 (cY true Jj aX 0 [0]):=dM Cw (bF func185 rfl rfl) fun _ _ h=>by
 unfold Jj at h
 split at h<;>cases h
 kernel_rfl
def Jw:List G->Option RG
 | [.i .i64 k]=>some (.one (.ns [bif k==0 then 0 else 0,bif k==0 then 4 else Wr (k*k),bif k==0 then 1 else 1,bif k==0 then 1 else Wr (Wr (2*k)+1)]))
 |_=>none
theorem aUs:bI Z 184 (cY true Jw Sj 1 [0]):=by
 refine iA (l:=tC2) Cw dG (bF func184 rfl rfl) ?_;intro b out h;unfold Jw at h;split at h
 ·rename_i k;cases h;exact⟨[(k==0)=false->(Wr (k*k)).natAbs<1000000000000000000,(k==0)=false->(Wr (Wr (2*k)+1)).natAbs<1000000000000000000],1,by kernel_rfl,by decide,fun a _=>aTi a.one⟩
 ·cases h
def Jv:List G->Option RG
 | [.i .i64 k]=>some (.one (.ns [bif k==6 then 0 else bif k==7 then 0 else bif k==8 then 1 else 0,bif k==6 then 0 else bif k==7 then 0 else bif k==8 then 0 else 0,bif k==6 then 1 else bif k==7 then 1 else bif k==8 then 0 else 1,bif k==6 then 0 else bif k==7 then 0 else bif k==8 then 0 else 0,bif k==6 then 1 else bif k==7 then -1 else bif k==8 then 0 else 0,bif k==6 then 0 else bif k==7 then 0 else bif k==8 then 0 else 1,bif k==6 then 0 else bif k==7 then 0 else bif k==8 then 0 else 0,bif k==6 then 1 else bif k==7 then 1 else bif k==8 then 1 else 0]))
 |_=>none
theorem aUr:bI Z 127 (cY true Jv aX 1 [0]):=dM Cw (bF func127 rfl rfl) fun _ _ h=>by
 unfold Jv at h
 split at h<;>cases h
 kernel_rfl
def Aq:List G->Option RG
 | [.i .i64 k,.ns [p,q]]=>some (.one (.ns [bif k==12 then q else bif k==13 then q else q,bif k==12 then 0 else bif k==13 then p else 0,bif k==12 then -p else bif k==13 then -p else -p,bif k==12 then p+q else bif k==13 then q else q,bif k==12 then 0 else bif k==13 then 0 else 0,bif k==12 then 0 else bif k==13 then 0 else 0,bif k==12 then 0 else bif k==13 then 0 else 0,bif k==12 then 0 else bif k==13 then 0 else 0]))
 |_=>none
theorem aR9:bI Z 202 (cY true Aq aX 11 [0,10]):=dM Cw (bF func202 rfl rfl) fun _ _ h=>by
 unfold Aq at h
 split at h<;>cases h
 kernel_rfl
noncomputable def tC3:List (FuncId×TE):=(167,cY true Jn aX 0 [0,19])::(203,cY true qY aX 0 [19])::(189,cY true Jo aX 80 [80,80])::(195,cY true Kb aX 0 [0])::(196,cY true Jm aX 0 [0,0])::(185,cY true Jj aX 0 [0])::(184,cY true Jw Sj 1 [0])::(127,cY true Jv aX 1 [0])::(202,cY true Aq aX 11 [0,10])::tC2
theorem aOL:cG Z tC3:=⟨aUk,aMt,aUl,aUx,aUj,aUg,aUs,aUr,aR9,Cw⟩
def Bx (p q:Int):Int:=bif (Nm.cmp p 0==0)&&(Nm.cmp q 0==0)then 1 else p+q
def iF (k d a lp b:Int):Bool:=
 bif k==10 then decide (Nm.cmp (d*b) (lp*a+lp*a)<=0)
 else bif k==12 then decide (Nm.cmp ((d*b-lp*a)*4) (a*b+lp*a)<=0)
 else bif k==13 then decide (Nm.cmp ((d*b-lp*a)*4) (a*b+d*lp)<=0)
 else decide (Nm.cmp ((d*b-lp*a)*4) (a*b)<=0)
def Kc:List G->Option RG
 | [.ns [p,q]]=>some (.one (.ns [Bx p q]))
 |_=>none
theorem aUy:bI Z 199 (cY true Kc aX 16 [15]):=dM aOL (bF func199 rfl rfl) fun _ _ h=>by
 unfold Kc at h
 split at h<;>cases h
 kernel_rfl
def Jl:List G->Option RG
 | [.i .i64 k,.ns [a,d],.ns [lp,e]]=>some (.one (.b (iF k a d lp e)))
 |_=>none
theorem aUi:bI Z 192 (cY true Jl aX 0 [0,15,15]):=dM aOL (bF func192 rfl rfl) fun _ _ h=>by
 unfold Jl at h
 split at h<;>cases h
 kernel_rfl
noncomputable def tC4:List (FuncId×TE):=(199,cY true Kc aX 16 [15])::(192,cY true Jl aX 0 [0,15,15])::tC3
theorem aRM:cG Z tC4:=⟨aUy,aUi,aOL⟩
def jB (up d e f op a rp b:Int):Int:=(((up*f-d*e)*(Bx op a*Bx rp b)).natAbs:Int)
def Yc (a b:Int):Int:=bif decide (Nm.cmp a b<0)then b else a
def Ka:List G->Option RG
 | [.ns [up,d],.ns [e,f],.ns [op,a],.ns [rp,b]]=>some (.one (.ns [jB up d e f op a rp b]))
 |_=>none
theorem aUw:bI Z 190 (cY true Ka aX 63 [15,15,15,15]):=dM aRM (bF func190 rfl rfl) fun _ _ h=>by
 unfold Ka at h
 split at h<;>cases h
 kernel_rfl
noncomputable def tC5:List (FuncId×TE):=(190,cY true Ka aX 63 [15,15,15,15])::tC4
theorem aRN:cG Z tC5:=⟨aUw,aRM⟩
def kD (a d p1 e b f p3 g t:Int):Int:=
 Nm.cmp (Yc (jB a d b f p1 e p3 g) (jB p1 e p3 g a d b f)*t) (Yc (jB a d p1 e b f p3 g) (jB b f p3 g a d p1 e))
def Hi:List G->List Prop
 | [.ns _,.i .i64 t]=>[t.natAbs<1000000000000000000]
 |_=>[]
inductive SF where
 |st (b:Bool)
 |sy (b:Bool)
def SF.val:SF->Bool
 |.st b=>b
 |.sy b=>b
def Kd:List G->Option RG
 | [.ns [a,d,p1,e,b,f,p3,g],.i .i64 t]=>some (.one (.i .i64 (kD a d p1 e b f p3 g t)))
 |_=>none
theorem aRb:bI Z 175 (cY true Kd Hi 0 [15,0]):=by
 refine iA (l:=tC5) aRN dG (bF func175 rfl rfl) ?_;intro b out h;unfold Kd at h;split at h
 ·rename_i d f p1 g e i p3 j t;cases h;exact⟨[t.natAbs<1000000000000000000],0,by kernel_rfl,by decide,fun a _=>fH a.one gG⟩
 ·cases h
noncomputable def wV:List (FuncId×TE):=(175,cY true Kd Hi 0 [15,0])::tC5
theorem Qh:cG Z wV:=⟨aRb,aRN⟩
def orL (u x y:Bool)(k:SF->LT):LT:=.br u (k (.st true)) (.br x (k (.st true)) (k (.sy y)))
def Ix (d:SF)(k:LT):LT:=
 match d with
 |.st true=>.ret (.one (.b false))
 |.st false=>k
 |.sy t=>.br t (.ret (.one (.b false))) k
def Rg (u d:SF)(k:LT):LT:=
 match u with
 |.st true=>Ix d k
 |.st false=>k
 |.sy t=>.br t (Ix d k) k
variable {P:RG->Prop}{Q:List (K (List AT))->AS->Prop}
theorem aRA {a x y:Bool}{k:SF->LT}(h:∀s:SF,s.val=(a||x||y)->(k s).ok P Q):(orL a x y k).ok P Q:=by
 refine⟨fun e=>h _ (by rw[e];rfl),fun e=>⟨fun f=>h _ (by rw[e,f];rfl),fun f=>h _ (by rw[e,f];rfl)⟩⟩
theorem aSu {u d:SF}{k:LT}(g:u.val=true->d.val=true->P (.one (.b false)))(f:k.ok P Q):(Rg u d k).ok P Q:=by
 have h:u.val=true->(Ix d k).ok P Q:=by
  intro i
  cases d with
  |st b=>cases b with
   |true=>exact g i rfl
   |false=>exact f
  |sy t=>exact⟨fun e=>g i e,fun _=>f⟩
 cases u with
 |st b=>cases b with
  |true=>exact h rfl
  |false=>exact f
 |sy t=>exact⟨fun e=>h e,fun _=>f⟩
def nI (u d:Bool)(l:List (Int×Int)):Bool:=!((u||l.any fun c=>decide (c.1<0)||decide (c.2<0))==(d||l.any fun c=>decide (c.1>0)||decide (c.2>0)))
theorem aM4 (u d:Bool)(p q:Int)(l:List (Int×Int)):nI u d ((p,q)::l)=nI (u||decide (p<0)||decide (q<0)) (d||decide (p>0)||decide (q>0)) l:=by
 unfold nI;simp only[List.any_cons,Bool.or_assoc]
theorem aM3 (l:List (Int×Int)):nI true true l=false:=by unfold nI;simp
def Bs (f:LN)(e:LN)(i:Nat)(u d:Bool):AS:=
 ⟨[.top,.top,.val (.one (.ptr 0 0)),.val (.one (.ptr 1 0)),.top,.val (.one (.sbool u)),.val (.one (.sbool d)),.val (.one (.int .i64 i))]++List.replicate 57 .top,
  [(0,⟨bJ true 0 8,186,true,false,false⟩),(1,⟨bJ true 8 4,74,true,false,false⟩)],2,(f.map fun z=>(z,19))++e.map (fun z=>(z,3)),[]⟩
def cl (p q a b c d:Int):Int×Int:=(cp d p b q,cp a q c p)
def mM (p0 q0 p1 q1 p2 q2 p3 q3 a b c d:Int):Bool:=nI false false [cl p0 q0 a b c d,cl p1 q1 a b c d,cl p2 q2 a b c d,cl p3 q3 a b c d]
section
variable (p0 q0 p1 q1 p2 q2 p3 q3 a b c d:Int)
theorem aNb:(run Z (eS rY (aD wV)) (fun _=>none) (aK Z (eS rY (aD wV))) nY 300 [.code (aE f171),.top f171] (start f171 (dZ true [.ns [p0,q0,p1,q1,p2,q2,p3,q3],.ns [a,b,c,d]] [19,3]))).bind (iZ true [0,1] [2,3,1005,1006,7] 2 [])=
  some (.again (.code (.loop (pH (aE f171) f171))::tA (aE f171) f171) (Bs [p0,q0,p1,q1,p2,q2,p3,q3] [a,b,c,d] 0 false false)):=by kernel_rfl
noncomputable def oH (i:Nat)(n:Nat)(u v:Bool):Option LT:=(run Z (eS rY (aD wV)) (fun _=>none) (aK Z (eS rY (aD wV))) iX 300 (.code (pH (aE f171) f171)::.lp (pH (aE f171) f171) n::tA (aE f171) f171) (Bs [p0,q0,p1,q1,p2,q2,p3,q3] [a,b,c,d] i u v)).bind (iZ true [0,1] [2,3,1005,1006,7] 2 [])
noncomputable def lT (i:Nat)(n:Nat)(u v:Bool)(p q:Int):LT:=orL u (decide ((cl p q a b c d).1<0)) (decide ((cl p q a b c d).2<0)) fun e=>orL v (decide ((cl p q a b c d).1>0)) (decide ((cl p q a b c d).2>0)) fun f=>Rg e f (.again (.lp (pH (aE f171) f171) n::tA (aE f171) f171) (Bs [p0,q0,p1,q1,p2,q2,p3,q3] [a,b,c,d] (i+1) e.val f.val))
theorem aM6 (n:Nat)(u v:Bool):oH p0 q0 p1 q1 p2 q2 p3 q3 a b c d 0 n u v=some (lT p0 q0 p1 q1 p2 q2 p3 q3 a b c d 0 n u v p0 q0):=by kernel_rfl
theorem aM7 (n:Nat)(u v:Bool):oH p0 q0 p1 q1 p2 q2 p3 q3 a b c d 1 n u v=some (lT p0 q0 p1 q1 p2 q2 p3 q3 a b c d 1 n u v p1 q1):=by kernel_rfl
theorem aM8 (n:Nat)(u v:Bool):oH p0 q0 p1 q1 p2 q2 p3 q3 a b c d 2 n u v=some (lT p0 q0 p1 q1 p2 q2 p3 q3 a b c d 2 n u v p2 q2):=by kernel_rfl
theorem aM9 (n:Nat)(u v:Bool):oH p0 q0 p1 q1 p2 q2 p3 q3 a b c d 3 n u v=some (lT p0 q0 p1 q1 p2 q2 p3 q3 a b c d 3 n u v p3 q3):=by kernel_rfl
theorem aNa (n:Nat)(u v:Bool):oH p0 q0 p1 q1 p2 q2 p3 q3 a b c d 4 n u v=some (.ret (.one (.b !(u==v)))):=by kernel_rfl
end
def Am:List G->Option RG
 | [.ns [p0,q0,p1,q1,p2,q2,p3,q3],.ns [a,b,c,d]]=>some (.one (.b (mM p0 q0 p1 q1 p2 q2 p3 q3 a b c d)))
 |_=>none
theorem aQ9:bI Z 171 (cY true Am aX 0 [19,3]):=by
 refine wX (l:=wV) Qh Qf (bF func171 rfl rfl) (kb:=[0,1]) (kt:=[2,3,1005,1006,7]) (nx:=2) (rb:=[]) ?_ (by kernel_rfl) ?_
 ·intro C ns out h x y I;unfold Am at h;split at h
  ·cases h;trivial
  ·cases h
 ·intro C out h M J;unfold Am at h;split at h
  ·rename_i p0 q0 p1 q1 p2 q2 p3 q3 a b c d;cases h;refine⟨fun m s=>∃(i:Nat) (u v:Bool),m=5-i/\i<=4/\s=Bs [p0,q0,p1,q1,p2,q2,p3,q3] [a,b,c,d] i u v/\nI u v ([cl p0 q0 a b c d,cl p1 q1 a b c d,cl p2 q2 a b c d,cl p3 q3 a b c d].drop i)=mM p0 q0 p1 q1 p2 q2 p3 q3 a b c d,⟨300,_,aNb p0 q0 p1 q1 p2 q2 p3 q3 a b c d,rfl,5,0,false,false,rfl,by omega,rfl,rfl⟩,?_⟩;rintro m s⟨i,u,v,rfl,hi,rfl,k⟩ n
   have e:∀(j:Nat) (p q:Int) (r:List (Int×Int)),j<4->nI u v (cl p q a b c d::r)=mM p0 q0 p1 q1 p2 q2 p3 q3 a b c d->r=[cl p0 q0 a b c d,cl p1 q1 a b c d,cl p2 q2 a b c d,cl p3 q3 a b c d].drop (j+1)->
     (lT p0 q0 p1 q1 p2 q2 p3 q3 a b c d j n u v p q).ok (fun g=>g=.one (.b (mM p0 q0 p1 q1 p2 q2 p3 q3 a b c d))) fun D E=>D=.lp (pH (aE f171) f171) n::tA (aE f171) f171/\∃z,z<5-j/\∃(i:Nat) (u v:Bool),z=5-i/\i<=4/\E=Bs [p0,q0,p1,q1,p2,q2,p3,q3] [a,b,c,d] i u v/\nI u v ([cl p0 q0 a b c d,cl p1 q1 a b c d,cl p2 q2 a b c d,cl p3 q3 a b c d].drop i)=mM p0 q0 p1 q1 p2 q2 p3 q3 a b c d:=by
    intro j p q r L x y
    have f:nI (u||decide ((cl p q a b c d).1<0)||decide ((cl p q a b c d).2<0)) (v||decide ((cl p q a b c d).1>0)||decide ((cl p q a b c d).2>0)) r=mM p0 q0 p1 q1 p2 q2 p3 q3 a b c d:=by rw[<-aM4];exact x
    refine aRA fun F o=>aRA fun H w=>aSu ?_ ?_
    ·intro A B;rw[<-o,<-w,A,B,aM3]at f;rw[f]
    ·refine⟨rfl,5-(j+1),by omega,j+1,F.val,H.val,rfl,by omega,rfl,?_⟩;rw[o,w,<-y];exact f
   rcases(by omega:i=0\/i=1\/i=2\/i=3\/i=4)with rfl|rfl|rfl|rfl|rfl
   ·exact⟨300,_,aM6 p0 q0 p1 q1 p2 q2 p3 q3 a b c d n u v,e 0 p0 q0 _ (by omega) k rfl⟩
   ·exact⟨300,_,aM7 p0 q0 p1 q1 p2 q2 p3 q3 a b c d n u v,e 1 p1 q1 _ (by omega) k rfl⟩
   ·exact⟨300,_,aM8 p0 q0 p1 q1 p2 q2 p3 q3 a b c d n u v,e 2 p2 q2 _ (by omega) k rfl⟩
   ·exact⟨300,_,aM9 p0 q0 p1 q1 p2 q2 p3 q3 a b c d n u v,e 3 p3 q3 _ (by omega) k rfl⟩
   ·refine⟨300,_,aNa p0 q0 p1 q1 p2 q2 p3 q3 a b c d n u v,?_⟩
    have:(!(u==v))=mM p0 q0 p1 q1 p2 q2 p3 q3 a b c d:=by rw[<-k];simp[nI]
    show RG.one (.b !(u==v))=_;rw[this]
  ·cases h
end Ab
end Go.Proofs.YthhffdeihoofiaaGreatDoor
