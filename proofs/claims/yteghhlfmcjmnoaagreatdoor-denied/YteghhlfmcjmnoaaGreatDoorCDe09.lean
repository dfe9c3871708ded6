import Derived.Test.YteghhlfmcjmnoaaGreatDoorCDe08
import Derived.Test.YteghhlfmcjmnoaaGreatDoorCDe06
import Derived.Test.YteghhlfmcjmnoaaGreatDoorCDe05
set_option linter.unusedSimpArgs false
set_option linter.unusedVariables false
set_option maxRecDepth 100000
set_option maxHeartbeats 2000000
namespace Go.Proofs.YteghhlfmcjmnoaaGreatDoor
open Go.RowKit
structure GcdW (w:World) (A B C p q:Nat):Prop where
 p:∃ ao n c,w.heap[A]?=some (.cells #[.bool false,.slice ao n c] 80 (0,0))/\WhoAt w p (.agg #[.bool false,.slice ao n c])
 q:∃ ao n c,w.heap[B]?=some (.cells #[.bool false,.slice ao n c] 80 (0,0))/\WhoAt w q (.agg #[.bool false,.slice ao n c])
 r:w.heap[C]?=some (.cells #[.bool false,.slice none 0 0] 80 (0,0))
def gcdWRel (w:World)(A B n x y gk:Nat)(wr:World):Prop:=
 ∃ p q:Nat,gk=q/\GcdW wr A B (w.heap.size+2) p q/\Nat.gcd p q=Nat.gcd x y/\p<2^n/\q<2^n/\Below w.heap.size w wr
theorem GcdW.alloc {w:World}{A B C p q:Nat}(h:GcdW w A B C p q)(o:Obj):GcdW (w.alloc o) A B C p q:=by
 obtain ⟨⟨po,pn,pc,k0,n0⟩,⟨qo,qn,qc,k1,n1⟩,k2⟩:=h
 exact ⟨⟨po,pn,pc,at_oldW o k0,n0.alloc o⟩,⟨qo,qn,qc,at_oldW o k1,n1.alloc o⟩,at_oldW o k2⟩
theorem gcdWRel_alloc {w U:World}{A B n X Y gk:Nat}(h:gcdWRel w A B n X Y gk U)(o:Obj):gcdWRel w A B n X Y gk (U.alloc o):=by
 obtain ⟨p,q,h1,h2,h3,h4,h5,h6⟩:=h
 exact ⟨p,q,h1,h2.alloc o,h3,h4,h5,belowW h6 h6.size o⟩
theorem gcdW_fin {w U:World}{A B n X Y gk Q R:Nat}{x y:Value}{qo ro:Option Addr}{qn qc rn rc:Nat}(kA:U.heap[A]?=some (.cells #[.bool false,x] 80 (0,0)))(kB:U.heap[B]?=some (.cells #[.bool false,y] 80 (0,0)))(kC:U.heap[w.heap.size+2]?=some (.cells #[.bool false,.slice none 0 0] 80 (0,0)))
  (hA:w.heap.size+2<A) (hB:A<B) (hq:WhoAt U Q (.agg #[.bool false,.slice qo qn qc])) (hr:WhoAt U R (.agg #[.bool false,.slice ro rn rc])) (hb:Below w.heap.size w U) (hk:gk=R) (hg:Nat.gcd Q R=Nat.gcd X Y) (bq:Q<2^n) (br:R<2^n):
  gcdWRel w A B n X Y gk ((((U.setCell ⟨A,0,none⟩ (.bool false)).setCell ⟨A,1,none⟩ (.slice qo qn qc)).setCell ⟨B,0,none⟩ (.bool false)).setCell ⟨B,1,none⟩ (.slice ro rn rc)):=by
 have S:=setw (U:=(U.setCell ⟨A,0,none⟩ (.bool false)).setCell ⟨A,1,none⟩ (.slice qo qn qc)) rfl kA
 have T:=setw (p:=.bool false) (q:=.slice ro rn rc) rfl ((S.oth B (by omega)).trans kB)
 exact ⟨Q,R,hk,⟨⟨_,_,_,(T.oth _ (by omega)).trans S.blk,T.num _ _ (S.num _ _ hq)⟩,⟨_,_,_,T.blk,T.num _ _ (S.num _ _ hr)⟩,(T.oth _ (by omega)).trans ((S.oth _ (by omega)).trans kC)⟩,hg,bq,br,T.below _ _ (S.below _ _ hb (by omega)) (by omega)⟩
theorem gcdw_step {p q n:Nat}{x y:Nat}(h:Nat.gcd p q=Nat.gcd x y)(hq:0<q)(bq:q<2^n):Nat.gcd q (p%q)=Nat.gcd x y/\p%q<2^n/\p%q<q:=by
 have hm:=Nat.mod_lt p hq
 refine ⟨?_,by omega,hm⟩
 rw [<-h,Nat.gcd_comm q,<-Nat.gcd_rec,Nat.gcd_comm]
theorem common_core (w:World)(x y:Int)(na nb:Bool)(ao bo:Option Addr)(la lb cap bap n:Nat)(hx:WhoAt w x (.agg #[.bool na,.slice ao la cap]))(hy:WhoAt w y (.agg #[.bool nb,.slice bo lb bap]))(bx:x.natAbs<2^n)(bY:y.natAbs<2^n)(hn:n<=1000000000):
  Calls Tryz.prog 138 #[.agg #[.bool na,.slice ao la cap],.agg #[.bool nb,.slice bo lb bap]] w (WhoPost w (Nat.gcd x.natAbs y.natAbs:Nat)):=by
 have HY:=hid hy
 have BX:=hid bx
 have BY:=hid bY
 have b30:=boxw_below' w (.bool na) (.slice ao la cap) (.bool nb) (.slice bo lb bap)
 have A1:=hid (wsize_any _ x _ (hx.below b30))
 have B30:=hid b30
 clear hx hy bx bY b30
 go_enter Tryz.func138,Tryz.ntmps138
 go_wp2_with fail
 refine (A1.out).mono ?_
 rintro e w1 ⟨v1,rfl,hN1,hb1⟩
 have hs1:=hb1.size
 rw [boxw_size'] at hs1
 have k1:=newW (by rw [boxw_size'];omega) (boxw_at1' _ _ _ _ _) hb1
 have K2:=hid (newW (by rw [boxw_size'];omega) (boxw_at2' _ _ _ _ _) hb1)
 obtain ⟨d1,o1,c1,rfl,_⟩:=hN1.open
 rw [decide_eq_false (show ¬((x.natAbs:Nat):Int)<0 by omega)] at*
 have z2:=cell_of_block (o:=0) k1 rfl
 have z3:=cell_of_block (o:=1) k1 rfl
 have B1:=hid (B30.out.trans (hb1.mono B30.out.size))
 have HN1:=hid hN1
 have l1:w.heap.size+1<w1.heap.size:=by omega
 have A2:=hid (wsize_any (w1.alloc (.cells #[.bool false,.slice o1 d1.length c1] 80)) y _ ((HY.out.below B1.out).alloc _))
 clear hb1 k1 hN1 A1
 go_wp2_with fail
 refine (A2.out).mono ?_
 rintro e w3 ⟨v3,rfl,hN3,hb3⟩
 have hs3:=hb3.size
 rw [World.size_alloc] at hs3
 obtain ⟨d3,o3,c3,rfl,_⟩:=hN3.open
 rw [decide_eq_false (show ¬((y.natAbs:Nat):Int)<0 by omega)] at*
 have KA:=hid (newW (by rw [World.size_alloc];omega) (at_newW w1 (.cells #[.bool false,.slice o1 d1.length c1] 80)) hb3)
 have KC:=hid (newW (by rw [World.size_alloc];omega) (at_oldW (.cells #[.bool false,.slice o1 d1.length c1] 80) K2.out) hb3)
 have NA:=hid ((HN1.out.alloc (.cells #[.bool false,.slice o1 d1.length c1] 80)).below hb3)
 have B3:=hid ((belowW B1.out (by omega) (.cells #[.bool false,.slice o1 d1.length c1] 80)).trans (hb3.mono (by rw [World.size_alloc];omega)))
 have GA:Hid (GcdW (w3.alloc (.cells #[.bool false,.slice o3 d3.length c3] 80)) w1.heap.size w3.heap.size (w.heap.size+2) x.natAbs y.natAbs):=⟨⟨_,_,_,at_oldW _ KA.out,NA.out.alloc _⟩,⟨_,_,_,at_newW w3 _,hN3.alloc _⟩,at_oldW _ KC.out⟩
 have B4:=hid (belowW B3.out (by omega) (.cells #[.bool false,.slice o3 d3.length c3] 80))
 have hAB:w1.heap.size<w3.heap.size:=by omega
 clear hN3 hb3 A2 KA KC NA HN1 K2
 go_wp2_with fail
 go_loopg [] y.natAbs (fun gk wr=>gcdWRel w w1.heap.size w3.heap.size n x.natAbs y.natAbs gk wr)
 case atStart=>exact ⟨x.natAbs,y.natAbs,rfl,GA.out,rfl,BX.out,BY.out,B4.out⟩
 case round=>
  obtain ⟨p,q,hgk,hG,hgcd,bp,bq,hbw⟩:=hrel
  have HGK:=hid hgk
  clear hgk
  obtain ⟨⟨po,pn,pc,hk0,hnp⟩,⟨qo,qn,qc,hk1,hnq⟩,hk2⟩:=hG
  have hs:=hbw.size
  have hltA:=heap_lt hk0
  have hltB:=heap_lt hk1
  have x0:=cell_of_block (o:=0) hk0 rfl
  have x1:=cell_of_block (o:=1) hk0 rfl
  have x2:=cell_of_block (o:=0) hk1 rfl
  have x3:=cell_of_block (o:=1) hk1 rfl
  have SG:=hid (wsign_any wr q _ hnq)
  have HK0:=hid hk0
  have HK1:=hid hk1
  have HK2:=hid hk2
  have HP:=hid hnp
  have HQ:=hid hnq
  have HB:=hid hbw
  clear hk0 hk1 hk2 hnp hnq hbw GA B4
  by_cases hq:q=0
  ·subst hq
   have hc:Nm.cmp ((0:Nat):Int) 0=0:=Nm.cmp_eq rfl
   rw [hc] at SG
   go_wp2_with fail
   refine (SG.out).mono ?_
   rintro e w5 ⟨rfl,hb5⟩
   have hs5:=hb5.size
   have k0:=newW (by omega) HK0.out hb5
   have hblk:=newW (by omega) HK2.out hb5
   have u0:=cell_of_block (o:=0) k0 rfl
   have u1:=cell_of_block (o:=1) k0 rfl
   have F:=finw hblk (HP.out.below hb5) (HB.out.trans (hb5.mono HB.out.size)) (by omega)
   have r0:=frozen_of_block (o:=0) hblk
   have r1:=frozen_of_block (o:=1) hblk
   have s0:=cell_of_block (o:=0) hblk rfl
   have s1:=cell_of_block (o:=1) hblk rfl
   have q0:=F.c0
   have q1:=F.c1
   have FN:=hid F.num
   have FB:=hid F.below
   clear F k0 hblk hb5
   go_wp2_with fail
   refine bodyPost_ret (v:=.agg #[.bool false,.slice po pn pc]) (by simp [results,Tryz.results138,go_sem,q0,q1]) rfl ⟨_,rfl,?_,FB.out⟩
   rw [<-hgcd,Nat.gcd_zero_right]
   exact FN.out
  ·have hc:Nm.cmp (q:Int) 0=1:=Nm.cmp_gt (by omega)
   rw [hc] at SG
   obtain ⟨e1,e2,e3⟩:=gcdw_step hgcd (by omega) bq
   have HE1:=hid e1
   have HE2:=hid e2
   have HE3:=hid e3
   clear e1 e2 e3
   go_wp2_with fail
   refine (SG.out).mono ?_
   rintro e w5 ⟨rfl,hb5⟩
   have hs5:=hb5.size
   have k0:=newW (by omega) HK0.out hb5
   have k1:=newW (by omega) HK1.out hb5
   have k2:=newW (by omega) HK2.out hb5
   have u0:=cell_of_block (o:=0) k0 rfl
   have u1:=cell_of_block (o:=1) k0 rfl
   have u2:=cell_of_block (o:=0) k1 rfl
   have u3:=cell_of_block (o:=1) k1 rfl
   have DV:=hid (divided_any w5 p q _ _ n (HP.out.below hb5) (HQ.out.below hb5) (by simpa using bp) (by simpa using bq) hn (by omega))
   have NQ:=hid (HQ.out.below hb5)
   have B5:=hid (HB.out.trans (hb5.mono HB.out.size))
   have K0:=hid k0
   have K1:=hid k1
   have K2:=hid k2
   clear k0 k1 k2 hb5 SG HK0 HK1 HK2 HP HQ HB x0 x1 x2 x3
   go_wp2_with fail
   refine (DV.out).mono ?_
   rintro e w6 ⟨qv,rv,rfl,hqv,hrv,hb6⟩
   have hs6:=hb6.size
   obtain ⟨d6,o6,c6,rfl,_⟩:=hqv.open
   obtain ⟨d7,o7,c7,rfl,_⟩:=hrv.open
   have hmod:((p:Int)%(q:Int))=((p%q:Nat):Int):=by rw [Int.natCast_emod]
   rw [hmod] at hrv ⊢
   rw [decide_eq_false (show ¬(((p%q:Nat):Int))<0 by omega)] at*
   have k0:=newW (by omega) K0.out hb6
   have k1:=newW (by omega) K1.out hb6
   have k2:=newW (by omega) K2.out hb6
   have t2:=cell_of_block (o:=0) k1 rfl
   have t3:=cell_of_block (o:=1) k1 rfl
   have t0:=cell_of_block (o:=0) k0 rfl
   have t1:=cell_of_block (o:=1) k0 rfl
   have f0:=frozen_of_block (o:=0) k0
   have f1:=frozen_of_block (o:=1) k0
   have f2:=frozen_of_block (o:=0) k1
   have f3:=frozen_of_block (o:=1) k1
   have lA:w1.heap.size<w6.heap.size:=by omega
   have lB:w3.heap.size<w6.heap.size:=by omega
   have nAB:¬(w1.heap.size=w3.heap.size):=by omega
   have nBA:¬(w3.heap.size=w1.heap.size):=by omega
   have nA6:¬(w1.heap.size=w6.heap.size):=by omega
   have nA7:¬(w1.heap.size=w6.heap.size+1):=by omega
   have nB6:¬(w3.heap.size=w6.heap.size):=by omega
   have nB7:¬(w3.heap.size=w6.heap.size+1):=by omega
   have n6A:¬(w6.heap.size=w1.heap.size):=by omega
   have n7A:¬(w6.heap.size+1=w1.heap.size):=by omega
   have n6B:¬(w6.heap.size=w3.heap.size):=by omega
   have n7B:¬(w6.heap.size+1=w3.heap.size):=by omega
   have FIN:=hid (fun gk hk=>gcdW_fin (n:=n) (X:=x.natAbs) (Y:=y.natAbs) (gk:=gk) k0 k1 k2 (show w.heap.size+2<w1.heap.size by omega) hAB (NQ.out.below hb6) hrv (B5.out.trans (hb6.mono (by omega))) hk HE1.out bq HE2.out)
   clear k0 k1 k2 hb6 hqv hrv hmod DV
   generalize decide ((p:Int)/(q:Int)<0)=nq at*
   go_wp2_with fail
   go_roundg (p%q)
   case measure=>have:=HGK.out;have:=HE3.out;omega
   case rel=>exact gcdWRel_alloc (gcdWRel_alloc (FIN.out _ rfl) _) _
theorem common_any (w:World)(x y:Int)(u v:Value)(n:Nat)(hx:WhoAt w x u)(hy:WhoAt w y v)(bx:x.natAbs<2^n)(bY:y.natAbs<2^n)(hn:n<=1000000000):Calls Tryz.prog 138 #[u,v] w (WhoPost w (Nat.gcd x.natAbs y.natAbs:Nat)):=by
 obtain ⟨a,ao,cap,rfl,_⟩:=hx.open
 obtain ⟨b,bo,bap,rfl,_⟩:=hy.open
 exact common_core w x y _ _ _ _ _ _ _ _ n hx hy bx bY hn
open Go.RowKit
def Nm.bl (z:Int):Nat:=if z=0 then 0 else Nat.log2 z.natAbs+1
theorem Nm.bl_eq {z:Int}{k:Nat}(hk:1<=k)(h1:(2:Int)^(k-1)<=z)(h2:z<2^k):Nm.bl z=k:=by
 have hp:(0:Int)<2^(k-1):=Nm.pow_pos' (by decide) _
 have hz:z≠0:=by omega
 unfold Nm.bl
 rw [if_neg hz]
 have e1:2^(k-1)<=z.natAbs:=by
  have:((2^(k-1):Nat):Int)<=(z.natAbs:Int):=by
   rw [Int.natCast_pow]
   have:((2:Nat):Int)=2:=rfl
   rw [this]
   omega
  exact Int.ofNat_le.1 this
 have e2:z.natAbs<2^k:=by
  have:(z.natAbs:Int)<((2^k:Nat):Int):=by
   rw [Int.natCast_pow]
   have:((2:Nat):Int)=2:=rfl
   rw [this]
   omega
  exact Int.ofNat_lt.1 this
 have h3:z.natAbs≠0:=by omega
 have g1:=(Nat.le_log2 h3).2 e1
 have g2:=(Nat.log2_lt h3).2 e2
 omega
theorem bl_top {r:List Int}{d:Int}{c:Nat}(hr:Nm.Dig 4294967296 r)(hc:1<=c)(h1:(2:Int)^(c-1)<=d)(h2:d<2^c):Nm.bl (Nm.val 4294967296 (r++[d]))=32*r.length+c:=by
 have lo:=Nm.val_lo (by decide) hr
 have hi:=Nm.val_hi (by decide) hr
 rw [Nm.val_snoc]
 have hB:(4294967296:Int)^r.length=2^(32*r.length):=by rw [Int.pow_mul];rfl
 rw [hB] at hi ⊢
 have hp:(0:Int)<2^(32*r.length):=Nm.pow_pos' (by decide) _
 refine Nm.bl_eq (by omega) ?_ ?_
 ·have:2^(c-1)*(2:Int)^(32*r.length)<=d*2^(32*r.length):=Int.mul_le_mul_of_nonneg_right h1 (by omega)
  rw [<-Int.pow_add] at this
  rw [show 32*r.length+c-1=c-1+32*r.length by omega]
  omega
 ·have:(d+1)*(2:Int)^(32*r.length)<=2^c*2^(32*r.length):=Int.mul_le_mul_of_nonneg_right (by omega) (by omega)
  rw [<-Int.pow_add] at this
  rw [show 32*r.length+c=c+32*r.length by omega]
  rw [Int.add_mul] at this
  omega
theorem half_step {x T:Int}{c:Nat}(hT:T=x/2^c):T/2=x/2^(c+1):=by
 rw [hT,Int.pow_succ,Int.ediv_ediv_of_nonneg (Int.le_of_lt (Nm.pow_pos' (by decide) _))]
theorem bitLen_any (w:World)(a:List Int)(v:Value)(ha:Lims w a v)(hal:a.length<=10000000000)(ga:Nm.Good 4294967296 a):
  Calls Tryz.prog 149 #[v] w fun e w'=>e=.returned (.int .i64 (Nm.bl (Nm.val 4294967296 a)))/\w'=w:=by
 obtain ⟨ao,cap,rfl,_⟩:=ha.shape
 rcases Nm.good_cases ga with rfl | ⟨r,d,rfl,hr,d1,d2⟩
 ·have e:Nm.bl (Nm.val 4294967296 [])=0:=rfl
  rw [e]
  clear ha ga
  simp only [List.length_nil]
  go_enter Tryz.func149,Tryz.ntmps149
  go_wp2_with fail
  go_ret
  exact ⟨rfl,rfl⟩
 ·obtain ⟨g,rfl,hc⟩:=ha.place (by simp)
  have hl:(r++[d]).length=r.length+1:=by simp
  have x1:=hc r.length (by simp)
  have e1:Nm.at' (r++[d]) r.length=d:=by unfold Nm.at';simp
  rw [e1] at x1
  rw [hl] at hal ⊢
  have l0:(((r.length+1:Nat):Int)==0)=false:=beq_eq_false_iff_ne.2 (by omega)
  have i2:(((r.length+1:Nat):Int)-1).toNat=r.length:=by omega
  have i3:((r.length+1:Nat):Int)-1=r.length:=by omega
  have FIN:=hid (fun (c:Nat) (h0:1<=c) h1 h2=>bl_top (d:=d) (c:=c) hr h0 h1 h2)
  clear ha hc ga hl
  go_enter Tryz.func149,Tryz.ntmps149
  go_wp2_with fail
  go_loop [3,4] (fun l t=>∃ (c:Nat) (T:Int),l=.int .i64 ((32*r.length+c:Nat):Int)/\t=.int .u32 T/\0<=T/\T<4294967296/\T=d/2^c/\(c=0\/(2:Int)^(c-1)<=d)/\c<=32) (fun _ t=>(intOf t).toNat)
  case atStart=>exact ⟨0,d,by simp;try omega,rfl,by omega,d2,by simp,Or.inl rfl,by omega⟩
  case round=>
   obtain ⟨c,T,rfl,rfl,t0,t3,t1,tc,hc⟩:=hrel
   have HT:=hid t1
   have TC:=hid tc
   clear t1 tc
   by_cases h:0<T
   ·have hpc:(2:Int)^c<=d:=by
     have h1:1<=d/2^c:=by rw [<-HT.out];omega
     have:=(Int.le_ediv_iff_mul_le (Nm.pow_pos' (by decide) c)).1 h1
     omega
    have hc2:c<32:=by
     rcases Nat.lt_or_ge c 32 with h1 | h1
     ·exact h1
     ·have h2:(2:Int)^32<=2^c:=Nm.pow_mono (by decide) h1
      have h4:(2:Int)^32=4294967296:=rfl
      omega
    have HP:=hid hpc
    clear hpc
    go_wp2_with fail
    go_round
    case rel=>exact ⟨c+1,T/2,by simp;omega,rfl,by omega,by omega,half_step HT.out,Or.inr (by simpa using HP.out),by omega⟩
    case measure=>simp [intOf];omega
   ·have hT0:d/2^c=0:=by rw [<-HT.out];omega
    have hd:d<2^c:=by
     have hp:(0:Int)<2^c:=Nm.pow_pos' (by decide) c
     rcases Int.lt_or_le d (2^c) with h1 | h1
     ·exact h1
     ·have:(1:Int)<=d/2^c:=(Int.le_ediv_iff_mul_le hp).2 (by omega)
      omega
    have hc1:1<=c:=by
     rcases Nat.eq_zero_or_pos c with rfl | h1
     ·simp at hd;omega
     ·exact h1
    have hlow:(2:Int)^(c-1)<=d:=by
     rcases TC.out with h1 | h1
     ·omega
     ·exact h1
    have FF:=hid (FIN.out c hc1 hlow hd)
    clear hT0 hd hlow
    go_wp2_with fail
    go_ret
    exact ⟨by rw [FF.out];rfl,rfl⟩
open Go.RowKit
namespace Ab
def lmb (ν:List (Int×Nat)):AV->Option (Int×Nat)
 | .one (.dg true i)=>(ν[i]?).bind fun zn=>bif Nat.ble zn.2 100 then some zn else none
 | _=>none
def intV:AV->Option Int
 | .one (.int .i64 n)=>some n
 | .one (.sint .i64 n)=>some n
 | _=>none
theorem lmb_ok {φ:Nat->Option (Nat×Nat)}{ν μ:List (Int×Nat)}{w:World}(hμ:∀ (i:Nat) (x:Int×Nat),ν[i]?=some x->μ[i]?=some x){v:AV}{z:Int}{n:Nat}{x:Value}(h:lmb ν v=some (z,n))(r:relV Z φ μ w v x):∃ ds,Lims w ds x/\Nm.Good 4294967296 ds/\Nm.val 4294967296 ds=z.natAbs/\Bits n z/\n<=100/\ds.length<=10000000*n:=by
 unfold lmb at h
 split at h
 ·rename_i i
  obtain ⟨⟨z',n'⟩,h1,h2⟩:=bnd h
  cases hb:Nat.ble n' 100 with
  | false=>simp only [hb] at h2;cases h2
  | true=>
   simp only [hb,cond_true] at h2
   cases h2
   obtain ⟨z2,n2,f1,⟨ds,f2,f3,f4⟩,f5⟩:=r
   rw [hμ _ _ h1] at f1
   cases f1
   exact ⟨ds,f2,f3,f4,f5,Nat.le_of_ble_eq_true hb,lims_len f3 f4 f5⟩
 ·cases h
theorem intV_ok {φ:Nat->Option (Nat×Nat)}{μ:List (Int×Nat)}{w:World}{v:AV}{n:Int}{x:Value}(h:intV v=some n)(r:relV Z φ μ w v x):x=.int .i64 n:=by
 unfold intV at h
 split at h
 ·cases h;exact r
 ·cases h;exact r
 ·cases h
theorem zbits {n:Nat}{z:Int}(h:Bits n z):Z.bits n z:=h
def spL:Spec:=fun f _ ν _ bx vs=>
 bif f==149 then (match vs with
  | [a]=>(lmb ν a).map fun zn=>([],.val (.one (.sint .i64 (Nm.bl zn.1))),[],none)
  | _=>none)
 else bif f==154 then (match vs with
  | [a,b]=>(lmb ν a).bind fun x=>(lmb ν b).map fun y=>([],.val (.one (.sint .i64 (Nm.cmp (x.1.natAbs:Int) (y.1.natAbs:Int)))),[],none)
  | _=>none)
 else bif f==153 then (match vs with
  | [a,b]=>(lmb ν a).bind fun x=>(lmb ν b).map fun y=>([((x.1.natAbs:Int)*(y.1.natAbs:Int),x.2+y.2)],.val (.one (.dg true ν.length)),[],none)
  | _=>none)
 else bif f==119 then (match vs with
  | [.one (.int .u64 n)]=>bif decide (0<=n)&&decide (n<1000000000) then some ([(n,1)],.val (.one (.dg true ν.length)),[],none) else none
  | _=>none)
 else bif f==150 then (match vs with
  | [a,b]=>(lmb ν a).bind fun x=>(intV b).map fun t=>([((x.1.natAbs:Int)*2^t.toNat,100)],.val (.one (.dg true ν.length)),[0<=t/\t<=900000000/\10000000*x.2+t.toNat<=1000000000],none)
  | _=>none)
 else none
theorem one_v {φ:Nat->Option (Nat×Nat)}{μ:List (Int×Nat)}{w:World}{a:AV}{xs:List Value}(h:All2 (relV Z φ μ w) [a] xs):∃ x,xs=[x]/\relV Z φ μ w a x:=by
 match xs,h with
 | [u],⟨h,_⟩=>exact ⟨u,rfl,h⟩
 | _::_::_,⟨_,h⟩=>exact h.elim
theorem two_v {φ:Nat->Option (Nat×Nat)}{μ:List (Int×Nat)}{w:World}{a b:AV}{xs:List Value}(h:All2 (relV Z φ μ w) [a,b] xs):∃ x y,xs=[x,y]/\relV Z φ μ w a x/\relV Z φ μ w b y:=by
 match xs,h with
 | [u,v],⟨h,g,_⟩=>exact ⟨u,v,rfl,h,g⟩
 | [_],⟨_,h⟩=>exact h.elim
 | _::_::_::_,⟨_,_,h⟩=>exact h.elim
theorem spL_ok (w0:World)(ψ:Nat->Option (Nat×Nat)):SpecOk Z w0 ψ spL:=by
 intro f d ν id bx vs ν' r p nbx h
 unfold spL at h
 cases h1:f==149 with
 | true=>
  have:f=149:=by simpa using h1
  subst this
  rw [h1] at h
  simp only [cond_true] at h
  split at h
  ·obtain ⟨⟨z,n⟩,e1,e2⟩:=mpd h
   cases e2
   refine ⟨(fn_of Tryz.func149 rfl rfl).en,fun _ μ hμ φ w xs _ _ _ _ hxs=>?_⟩
   obtain ⟨x,rfl,hx⟩:=one_v hxs
   obtain ⟨ds,q1,q2,q3,q4,q5,q6⟩:=lmb_ok (fun i x hx=>hμ i x (app_ext _ _ i x hx)) e1 hx
   refine (bitLen_any w ds x q1 (by omega) q2).mono ?_
   rintro e w' ⟨rfl,rfl⟩
   rw [q3,bl_abs]
   exact ⟨_,rfl,Below.refl _ _,rfl⟩
  ·cases h
 | false=>
 rw [h1] at h
 simp only [cond_false] at h
 cases h2:f==154 with
 | true=>
  have:f=154:=by simpa using h2
  subst this
  rw [h2] at h
  simp only [cond_true] at h
  split at h
  ·obtain ⟨⟨z,n⟩,e1,e2⟩:=bnd h
   obtain ⟨⟨y,m⟩,e3,e4⟩:=mpd e2
   cases e4
   refine ⟨(fn_of Tryz.func154 rfl rfl).en,fun _ μ hμ φ w xs _ _ _ _ hxs=>?_⟩
   obtain ⟨x,t,rfl,hx,ht⟩:=two_v hxs
   obtain ⟨ds,q1,q2,q3,q4,q5,q6⟩:=lmb_ok (fun i x hx=>hμ i x (app_ext _ _ i x hx)) e1 hx
   obtain ⟨es,k1,k2,k3,k4,k5,k6⟩:=lmb_ok (fun i x hx=>hμ i x (app_ext _ _ i x hx)) e3 ht
   refine (compareLimbs_any w ds es x t q1 k1 (by omega) q2 k2).mono ?_
   rintro e w' ⟨rfl,hb⟩
   rw [q3,k3]
   exact ⟨_,rfl,hb,rfl⟩
  ·cases h
 | false=>
 rw [h2] at h
 simp only [cond_false] at h
 cases h3:f==153 with
 | true=>
  have:f=153:=by simpa using h3
  subst this
  rw [h3] at h
  simp only [cond_true] at h
  split at h
  ·obtain ⟨⟨z,n⟩,e1,e2⟩:=bnd h
   obtain ⟨⟨y,m⟩,e3,e4⟩:=mpd e2
   cases e4
   refine ⟨(fn_of Tryz.func153 rfl rfl).en,fun _ μ hμ φ w xs _ _ _ _ hxs=>?_⟩
   obtain ⟨x,t,rfl,hx,ht⟩:=two_v hxs
   obtain ⟨ds,q1,q2,q3,q4,q5,q6⟩:=lmb_ok (fun i x hx=>hμ i x (app_ext _ _ i x hx)) e1 hx
   obtain ⟨es,k1,k2,k3,k4,k5,k6⟩:=lmb_ok (fun i x hx=>hμ i x (app_ext _ _ i x hx)) e3 ht
   refine (multiplyLimbs_any w ds es x t q1 k1 (by omega) (by omega) q2.dig k2.dig).mono ?_
   rintro e w' ⟨v,xs,rfl,⟨g1,g2⟩,g3,hb⟩
   rw [q3,k3] at g2
   refine ⟨v,rfl,hb,⟨(z.natAbs:Int)*(y.natAbs:Int),n+m,hμ _ _ (by simp),⟨xs,g3.weak (Nat.zero_le _),g1,by rw [g2,Int.natAbs_mul];simp⟩,bits_mul (bits_abs q4) (bits_abs k4)⟩⟩
  ·cases h
 | false=>
 rw [h3] at h
 simp only [cond_false] at h
 cases h4:f==119 with
 | true=>
  have:f=119:=by simpa using h4
  subst this
  rw [h4] at h
  simp only [cond_true] at h
  split at h
  ·rename_i n
   cases hn:(decide (0<=n)&&decide (n<1000000000)) with
   | false=>rw [hn] at h;cases h
   | true=>
    rw [hn] at h
    cases h
    simp only [Bool.and_eq_true,decide_eq_true_eq] at hn
    refine ⟨(fn_of Tryz.func119 rfl rfl).en,fun _ μ hμ φ w xs _ _ _ _ hxs=>?_⟩
    obtain ⟨x,rfl,hx⟩:=one_v hxs
    have hx:x=.int .u64 n:=hx
    subst hx
    refine (limbsOf_any n w hn.1 (by omega)).mono ?_
    rintro e w' ⟨v,xs,rfl,⟨g1,g2,_⟩,g3,hb⟩
    refine ⟨v,rfl,hb,⟨n,1,hμ _ _ (by simp),⟨xs,g3.weak (Nat.zero_le _),g1,by rw [g2];omega⟩,?_⟩⟩
    exact bits60 (by omega)
  ·cases h
 | false=>
 rw [h4] at h
 simp only [cond_false] at h
 cases h5:f==150 with
 | true=>
  have:f=150:=by simpa using h5
  subst this
  rw [h5] at h
  simp only [cond_true] at h
  split at h
  ·obtain ⟨⟨z,n⟩,e1,e2⟩:=bnd h
   obtain ⟨t,e3,e4⟩:=mpd e2
   cases e4
   refine ⟨(fn_of Tryz.func150 rfl rfl).en,fun hp μ hμ φ w xs _ _ _ _ hxs=>?_⟩
   obtain ⟨x,y,rfl,hx,hy⟩:=two_v hxs
   obtain ⟨ds,q1,q2,q3,q4,q5,q6⟩:=lmb_ok (fun i x hx=>hμ i x (app_ext _ _ i x hx)) e1 hx
   have:=intV_ok e3 hy
   subst this
   have hp:0<=t/\t<=900000000/\10000000*n+t.toNat<=1000000000:=hp.one
   obtain ⟨b,rfl⟩:∃ b:Nat,t=b:=⟨t.toNat,by omega⟩
   refine (shiftUp_any w ds x b q1 (by omega) q2.dig (by omega)).mono ?_
   rintro e w' ⟨v,xs,rfl,⟨g1,g2⟩,g3,hb⟩
   rw [q3] at g2
   have hp2:(0:Int)<2^b:=Nm.pow_pos' (by decide) b
   have hnn:0<=(z.natAbs:Int)*2^b:=Int.mul_nonneg (by omega) (by omega)
   have e5:((b:Int)).toNat=b:=by omega
   refine ⟨v,rfl,hb,⟨(z.natAbs:Int)*2^((b:Int)).toNat,100,hμ _ _ (by simp),⟨xs,g3.weak (Nat.zero_le _),g1,by rw [g2,e5];omega⟩,?_⟩⟩
   have e6:10000000*n+b<=1000000000:=by have:=hp.2.2;rw [e5] at this;exact this
   rw [e5]
   have key:Go.Proofs.YteghhlfmcjmnoaaGreatDoor.Bits (10000000*n+b) ((z.natAbs:Int)*2^b):=by
    show ((z.natAbs:Int)*2^b).natAbs<2^(10000000*n+b)
    rw [Int.natAbs_mul,Int.natAbs_pow,Nat.pow_add]
    have e7:((z.natAbs:Int)).natAbs=z.natAbs:=by omega
    have e8:(2:Int).natAbs=2:=rfl
    rw [e7,e8]
    exact Nat.mul_lt_mul_of_pos_right q4 (Nat.pow_pos (by decide))
   exact zbits (bits_in key e6)
  ·cases h
 | false=>
  rw [h5] at h
  cases h
where
 bl_abs (z:Int):Nm.bl (z.natAbs:Int)=Nm.bl z:=by
  unfold Nm.bl
  by_cases h:z=0
  ·subst h;rfl
  ·rw [if_neg h,if_neg (by omega)]
   simp
end Ab
open Go.RowKit
namespace Ab
theorem who_arg {w:World}{z:Int}{lim:Nat}{v:Value}(h:RVT Z w (tokG true lim (.ns [z])) v):WhoAt w z v/\Bits lim z:=by
 obtain ⟨xs,rfl,r⟩:=h
 match xs,r with
 | [x,y],⟨h1,⟨ds,g1,g2,g3⟩,h3,_⟩=>
  subst h1
  exact ⟨⟨ds,y,rfl,g1,g2,g3⟩,h3⟩
 | _::_::_::_,⟨_,_,_,h⟩=>exact h.elim
theorem who_res {w:World}{z:Int}{v:Value}(h:WhoAt w z v)(n:Nat)(hn:Bits n z):RVT Z w (tokG true n (.ns [z])) v:=by
 obtain ⟨ds,y,rfl,g1,g2,g3⟩:=h
 exact ⟨[_,y],rfl,rfl,⟨ds,g1,g2,g3⟩,hn,trivial⟩
theorem int_arg {w:World}{k:IntKind}{z:Int}{lim:Nat}{v:Value}(h:RVT Z w (tokG true lim (.i k z)) v):v=.int k z:=h.2
theorem one_arg {w:World}{t:VT}{vs:List Value}(h:All2 (RVT Z w) [t] vs):∃ u,vs=[u]/\RVT Z w t u:=by
 match vs,h with
 | [u],⟨h,_⟩=>exact ⟨u,rfl,h⟩
 | _::_::_,⟨_,h⟩=>exact h.elim
theorem two_arg {w:World}{t s:VT}{vs:List Value}(h:All2 (RVT Z w) [t,s] vs):∃ u v,vs=[u,v]/\RVT Z w t u/\RVT Z w s v:=by
 match vs,h with
 | [u,v],⟨h,g,_⟩=>exact ⟨u,v,rfl,h,g⟩
 | [_],⟨_,h⟩=>exact h.elim
 | _::_::_::_,⟨_,_,h⟩=>exact h.elim
def noNd:List G->List Prop:=fun _=>[]
def f2 (op:Int->Int->Int):List G->Option RG
 | [.ns [x],.ns [y]]=>some (.one (.ns [op x y]))
 | _=>none
theorem f2_ok {f:FuncId}{op:Int->Int->Int}{bo:List Nat->Nat}{lim:Nat}(hen:Enters Z.P f)(hb:∀ x y n m,Bits n x->Bits m y->Bits (bo [n,m]) (op x y))
  (h:∀ w x y u v,WhoAt w x u->WhoAt w y v->Bits lim x->Bits lim y->Calls Z.P f #[u,v] w (WhoPost w (op x y))):TEok Z f (teG true (f2 op) noNd bo [lim,lim]):=by
 refine teG_ok hen ?_ ?_
 ·intro gs ns out hF hn0 hg hg0
  unfold f2 at hF
  split at hF
  ·rename_i x y
   cases hF
   match ns,hg with
   | [n,m],⟨h1,h2,_⟩=>
    intro z hz
    simp at hz
    subst hz
    exact hb x y n m (h1 x (by simp)) (h2 y (by simp))
  ·cases hF
 ·intro gs out hF hn0 hg w vs hvs
  unfold f2 at hF
  split at hF
  ·rename_i x y
   cases hF
   obtain ⟨u,v,rfl,h1,h2⟩:=two_arg hvs
   refine (h w x y u v (who_arg h1).1 (who_arg h2).1 (who_arg h1).2 (who_arg h2).2).mono ?_
   rintro e w' ⟨r,rfl,hr,hb⟩
   exact ⟨r,rfl,fun n hn=>who_res hr n (hn _ (by simp)),hb⟩
  ·cases hF
def f1 (op:Int->Int):List G->Option RG
 | [.ns [x]]=>some (.one (.ns [op x]))
 | _=>none
theorem f1_ok {f:FuncId}{op:Int->Int}{bo:List Nat->Nat}{lim:Nat}(hen:Enters Z.P f)(hb:∀ x n,Bits n x->Bits (bo [n]) (op x))
  (h:∀ w x u,WhoAt w x u->Bits lim x->Calls Z.P f #[u] w (WhoPost w (op x))):TEok Z f (teG true (f1 op) noNd bo [lim]):=by
 refine teG_ok hen ?_ ?_
 ·intro gs ns out hF hn0 hg hg0
  unfold f1 at hF
  split at hF
  ·rename_i x
   cases hF
   match ns,hg with
   | [n],⟨h1,_⟩=>
    intro z hz
    simp at hz
    subst hz
    exact hb x n (h1 x (by simp))
  ·cases hF
 ·intro gs out hF hn0 hg w vs hvs
  unfold f1 at hF
  split at hF
  ·rename_i x
   cases hF
   obtain ⟨u,rfl,h1⟩:=one_arg hvs
   refine (h w x u (who_arg h1).1 (who_arg h1).2).mono ?_
   rintro e w' ⟨r,rfl,hr,hb⟩
   exact ⟨r,rfl,fun n hn=>who_res hr n (hn _ (by simp)),hb⟩
  ·cases hF
def f1i (op:Int->Int):List G->Option RG
 | [.ns [x]]=>some (.one (.i .i64 (op x)))
 | _=>none
theorem f1i_ok {f:FuncId}{op:Int->Int}{lim:Nat}(hen:Enters Z.P f)
  (h:∀ w x u,WhoAt w x u->Bits lim x->Calls Z.P f #[u] w fun e w'=>e=.returned (.int .i64 (op x))/\Below w.heap.size w w'):TEok Z f (teG true (f1i op) noNd (fun _=>0) [lim]):=by
 refine teG_ok hen ?_ ?_
 ·intro gs ns out hF hn0 hg hg0
  unfold f1i at hF
  split at hF
  ·cases hF;trivial
  ·cases hF
 ·intro gs out hF hn0 hg w vs hvs
  unfold f1i at hF
  split at hF
  ·rename_i x
   cases hF
   obtain ⟨u,rfl,h1⟩:=one_arg hvs
   refine (h w x u (who_arg h1).1 (who_arg h1).2).mono ?_
   rintro e w' ⟨rfl,hb⟩
   exact ⟨_,rfl,fun n _=>⟨rfl,rfl⟩,hb⟩
  ·cases hF
def f2i (op:Int->Int->Int):List G->Option RG
 | [.ns [x],.ns [y]]=>some (.one (.i .i64 (op x y)))
 | _=>none
theorem f2i_ok {f:FuncId}{op:Int->Int->Int}{lim:Nat}(hen:Enters Z.P f)
  (h:∀ w x y u v,WhoAt w x u->WhoAt w y v->Bits lim x->Bits lim y->Calls Z.P f #[u,v] w fun e w'=>e=.returned (.int .i64 (op x y))/\Below w.heap.size w w'):TEok Z f (teG true (f2i op) noNd (fun _=>0) [lim,lim]):=by
 refine teG_ok hen ?_ ?_
 ·intro gs ns out hF hn0 hg hg0
  unfold f2i at hF
  split at hF
  ·cases hF;trivial
  ·cases hF
 ·intro gs out hF hn0 hg w vs hvs
  unfold f2i at hF
  split at hF
  ·rename_i x y
   cases hF
   obtain ⟨u,v,rfl,h1,h2⟩:=two_arg hvs
   refine (h w x y u v (who_arg h1).1 (who_arg h2).1 (who_arg h1).2 (who_arg h2).2).mono ?_
   rintro e w' ⟨rfl,hb⟩
   exact ⟨_,rfl,fun n _=>⟨rfl,rfl⟩,hb⟩
  ·cases hF
def f4i (op:Int->Int->Int->Int->Int):List G->Option RG
 | [.ns [x],.ns [y],.ns [z],.ns [t]]=>some (.one (.i .i64 (op x y z t)))
 | _=>none
def fI1:List Int->Option (List Int)
 | [n]=>some [n]
 | _=>none
theorem of_te:TEok Z 94 (teI true fI1):=by
 refine ⟨(fn_of Tryz.func94 rfl rfl).en,fun ts r p hts hp w vs hvs=>?_⟩
 unfold teI at hts
 obtain ⟨xs,h1,h2⟩:=bnd hts
 obtain ⟨out,h3,h4⟩:=mpd h2
 cases h4
 obtain ⟨g1,g2⟩:=iTs_ok ts xs vs h1 hp hvs
 match xs,h3,g1,g2 with
 | [(n,ps)],h3,g1,g2=>
  cases h3
  obtain ⟨u,rfl,hu⟩:=one_arg g1
  have hu:u=.int .i64 n:=hu.2
  subst hu
  have hn:n.natAbs<1000000000000000000:=g2 (n,ps) (by simp)
  refine (wof_any n w (by omega) (by omega)).mono ?_
  rintro e w' ⟨r,rfl,hr,hb⟩
  exact ⟨r,rfl,who_res hr 1 (bits60 hn),hb⟩
 | [],h3,_,_=>cases h3
 | _::_::_,h3,_,_=>cases h3
def halfZ (z t:Int):Int:=bif decide (t<1) then z else Nm.half z t.toNat
def fHalf:List G->Option RG
 | [.ns [z],.i .i64 t]=>some (.one (.ns [halfZ z t]))
 | _=>none
def ndHalf:List G->List Prop
 | [.ns [_],.i .i64 t]=>[1<=t/\t<=1000000000]
 | _=>[]
theorem half_le (z:Int)(n:Nat):(Nm.half z n).natAbs<=z.natAbs:=by
 unfold Nm.half
 have h:((z.natAbs:Int)/2^n)<=z.natAbs:=Int.ediv_le_self _ (by omega)
 have h0:0<=((z.natAbs:Int)/2^n):=Int.ediv_nonneg (by omega) (Int.le_of_lt (Nm.pow_pos' (by decide) _))
 split<;>omega
theorem fHalf_ok:TEok Z 212 (teG true fHalf ndHalf (fun ns=>ns.headD 0) [100,0]):=by
 refine teG_ok (fn_of Tryz.func212 rfl rfl).en ?_ ?_
 ·intro gs ns out hF hn hg hg0
  unfold fHalf at hF
  split at hF
  ·rename_i z t
   cases hF
   match ns,hg with
   | [n,m],⟨h1,_⟩=>
    intro y hy
    simp at hy
    subst hy
    have:=h1 z (by simp)
    unfold halfZ
    cases decide (t<1)
    ·exact Nat.lt_of_le_of_lt (half_le _ _) this
    ·exact this
  ·cases hF
 ·intro gs out hF hn hg w vs hvs
  unfold fHalf at hF
  split at hF
  ·rename_i z t
   cases hF
   obtain ⟨u,v,rfl,h1,h2⟩:=two_arg hvs
   have:=int_arg h2
   subst this
   have hn:1<=t/\t<=1000000000:=hn.one
   obtain ⟨k,rfl⟩:∃ k:Nat,t=k:=⟨t.toNat,by omega⟩
   have e:halfZ z k=Nm.half z k:=by unfold halfZ;rw [decide_eq_false (by omega)];simp
   rw [e]
   refine (halved_any w z u k (10000000*100) (who_arg h1).1 (who_arg h1).2 (by omega) (by omega) (by omega)).mono ?_
   rintro e w' ⟨r,rfl,hr,hb⟩
   exact ⟨r,rfl,fun m hm=>who_res hr m (hm _ (by simp)),hb⟩
  ·cases hF
def fDiv:List G->Option RG
 | [.ns [x],.ns [y]]=>some (.tup [.ns [x/y],.ns [x%y]])
 | _=>none
def ndDiv:List G->List Prop
 | [.ns [_],.ns [y]]=>[0<y]
 | _=>[]
theorem fDiv_ok:TEok Z 73 (teG true fDiv ndDiv (fun ns=>ns.foldr max 0+1) [90,90]):=by
 refine teG_ok (fn_of Tryz.func73 rfl rfl).en ?_ ?_
 ·intro gs ns out hF hn hg hg0
  unfold fDiv at hF
  split at hF
  ·rename_i x y
   cases hF
   have hy:0<y:=hn.one
   match ns,hg with
   | [n,m],⟨h1,h2,_⟩=>
    have bx:Bits (max n (max m 0)) x:=bits_mono (h1 x (by simp)) (by omega)
    have bY:Bits (max n (max m 0)) y:=bits_mono (h2 y (by simp)) (by omega)
    have q1:x/y=x/y:=rfl
    have r0:=Int.emod_nonneg x (by omega:y≠0)
    have r1:=Int.emod_lt_of_pos x hy
    have hq:(x/y).natAbs<=x.natAbs:=by
     rcases Int.le_total 0 x with h | h
     ·have a1:=Int.ediv_nonneg h (Int.le_of_lt hy)
      have a2:x/y<=x:=Int.ediv_le_self _ h
      omega
     ·have a1:x/y<=0:=Int.ediv_nonpos_of_nonpos_of_neg h (by omega)
      have a2:x<=x/y:=by
       have:=Int.mul_ediv_add_emod x y
       rcases Int.lt_or_le (x/y) x with c | c
       ·exfalso
        have c1:y*(x/y)<=y*(x-1):=Int.mul_le_mul_of_nonneg_left (by omega) (by omega)
        have c2:(y-1)*x<=0:=Int.mul_nonpos_of_nonneg_of_nonpos (by omega) h
        have c3:y*(x-1)=(y-1)*x+x-y:=by grind
        omega
       ·exact c
      omega
    intro g hg
    simp at hg
    rcases hg with rfl | rfl
    ·intro z hz
     simp at hz
     subst hz
     exact bits_of bx hq (by simp)
    ·intro z hz
     simp at hz
     subst hz
     exact bits_of bY (by omega) (by simp)
  ·cases hF
 ·intro gs out hF hn hg w vs hvs
  unfold fDiv at hF
  split at hF
  ·rename_i x y
   cases hF
   have hy:0<y:=hn.one
   obtain ⟨u,v,rfl,h1,h2⟩:=two_arg hvs
   refine (divided_any w x y u v (10000000*90) (who_arg h1).1 (who_arg h2).1 (who_arg h1).2 (who_arg h2).2 (by omega) hy).mono ?_
   intro e w' hp
   obtain ⟨r1,r2,rfl,k1,k2,hb⟩:=hp
   refine ⟨_,rfl,fun n hn=>⟨[r1,r2],rfl,who_res k1 n ?_,who_res k2 n ?_,trivial⟩,hb⟩
   ·exact hn (.ns [x/y]) (by simp) _ (by simp)
   ·exact hn (.ns [x%y]) (by simp) _ (by simp)
  ·cases hF
noncomputable def tW0:List (FuncId×TE):=
 [(136,teG true (f2 (·*·)) noNd (fun ns=>ns.foldr (·+·) 0) [90,90]),(137,teG true (f2 (·+·)) noNd (fun ns=>ns.foldr max 0+1) [90,90]),(146,teG true (f2 (· - ·)) noNd (fun ns=>ns.foldr max 0+1) [90,90]),
  (123,teG true (f1 (fun x=>-x)) noNd (fun ns=>ns.headD 0) [90]),(147,teG true (f1 (fun x=>(x.natAbs:Int))) noNd (fun ns=>ns.headD 0) [90]),(72,teG true (f1i (fun x=>Nm.cmp x 0)) noNd (fun _=>0) [100]),
  (122,teG true (f2i Nm.cmp) noNd (fun _=>0) [90,90]),(225,teG true (f1i (fun x=>(Nm.tz x:Int))) noNd (fun _=>0) [90]),(94,teI true fI1),(212,teG true fHalf ndHalf (fun ns=>ns.headD 0) [100,0]),(73,teG true fDiv ndDiv (fun ns=>ns.foldr max 0+1) [90,90])]
theorem lt_pow {a n m:Nat}(h:a<2^n)(hn:n<=m):a<2^m:=Nat.lt_of_lt_of_le h (Nat.pow_le_pow_right (by decide) hn)
theorem tW0_ok:AllTE Z tW0:=by
 refine ⟨?_,?_,?_,?_,?_,?_,?_,?_,of_te,fHalf_ok,fDiv_ok,trivial⟩
 ·exact f2_ok (fn_of Tryz.func136 rfl rfl).en (fun x y n m hx hy=>by simpa using bits_mul hx hy) (fun w x y u v h1 h2 h3 h4=>wtimes_any w x y u v (10000000*90) h1 h2 h3 h4 (by decide))
 ·exact f2_ok (fn_of Tryz.func137 rfl rfl).en (fun x y n m hx hy=>by simpa using bits_add (bits_max hx hy).1 (bits_max hx hy).2) (fun w x y u v h1 h2 h3 h4=>wplus_any w x y u v (10000000*90) h1 h2 h3 h4 (by decide))
 ·exact f2_ok (fn_of Tryz.func146 rfl rfl).en (fun x y n m hx hy=>by simpa using bits_subt (bits_max hx hy).1 (bits_max hx hy).2) (fun w x y u v h1 h2 h3 h4=>wminus_any w x y u v (10000000*90) h1 h2 h3 h4 (by decide))
 ·exact f1_ok (fn_of Tryz.func123 rfl rfl).en (fun x n h=>by simpa using bits_neg h) (fun w x u h _=>wneg_any w x u h)
 ·exact f1_ok (fn_of Tryz.func147 rfl rfl).en (fun x n h=>by simpa using bits_abs h) (fun w x u h _=>wsize_any w x u h)
 ·exact f1i_ok (fn_of Tryz.func72 rfl rfl).en (fun w x u h _=>wsign_any w x u h)
 ·exact f2i_ok (fn_of Tryz.func122 rfl rfl).en (fun w x y u v h1 h2 h3 h4=>wcompare_any w x y u v (10000000*90) h1 h2 h3 h4 (by decide))
 ·exact f1i_ok (fn_of Tryz.func225 rfl rfl).en (fun w x u h hb=>twos_any w x u (10000000*90) h hb (by decide))
def Wr (x:Int):Int:=IntKind.i64.wrap x
def csz (a b c d:Int):Int:=
 bif decide (Wr ((Nm.bl a:Int)+(Nm.bl b:Int))<Wr (Wr ((Nm.bl c:Int)+(Nm.bl d:Int))-1)) then -1
 else bif decide (Wr ((Nm.bl a:Int)+(Nm.bl b:Int))>Wr (Wr ((Nm.bl c:Int)+(Nm.bl d:Int))+1)) then 1
 else bif (Nm.cmp (a.natAbs:Int) (c.natAbs:Int)==0) then Nm.cmp (b.natAbs:Int) (d.natAbs:Int)
 else Nm.cmp ((((a.natAbs:Int)*(b.natAbs:Int)).natAbs:Nat):Int) ((((c.natAbs:Int)*(d.natAbs:Int)).natAbs:Nat):Int)
theorem csz_te:TEok Z 237 (teG true (f4i csz) noNd (fun _=>0) [40,40,40,40]):=by
 refine walkS (l:=[]) trivial spL_ok nobody (fn_of Tryz.func237 rfl rfl) ?_ ?_
 ·intro gs ns out h _ _ _
  unfold f4i at h
  split at h
  ·cases h;trivial
  ·cases h
 ·intro gs out h
  unfold f4i at h
  split at h
  ·cases h
   exact ⟨[],by kernel_rfl,fun _ _=>holds_nil⟩
  ·cases h
end Ab
open Go.RowKit
namespace Ab
theorem wr_small {x:Int}(h0:-4611686018427387904<=x)(h1:x<=4611686018427387904):Wr x=x:=by unfold Wr;rw [IntKind.wrap_i64];omega
theorem bl_lo {z:Int}(hz:z≠0):1<=Nm.bl z/\2^(Nm.bl z-1)<=z.natAbs/\z.natAbs<2^Nm.bl z:=by
 unfold Nm.bl
 rw [if_neg hz]
 have h:z.natAbs≠0:=by omega
 exact ⟨by omega,by simpa using Nat.log2_self_le h,Nat.lt_log2_self⟩
theorem bl_le {z:Int}{n:Nat}(h:Bits n z):Nm.bl z<=10000000*n:=by
 by_cases hz:z=0
 ·subst hz;simp [Nm.bl]
 ·obtain ⟨h1,h2,_⟩:=bl_lo hz
  have h3:2^(Nm.bl z-1)<2^(10000000*n):=Nat.lt_of_le_of_lt h2 h
  have:=(Nat.pow_lt_pow_iff_right (by decide)).1 h3
  omega
theorem bl_prod {x y:Int}(hx:x≠0)(hy:y≠0):2^(Nm.bl x+Nm.bl y-2)<=x.natAbs*y.natAbs/\x.natAbs*y.natAbs<2^(Nm.bl x+Nm.bl y):=by
 obtain ⟨a1,a2,a3⟩:=bl_lo hx
 obtain ⟨b1,b2,b3⟩:=bl_lo hy
 constructor
 ·rw [show Nm.bl x+Nm.bl y-2=(Nm.bl x-1)+(Nm.bl y-1) by omega,Nat.pow_add]
  exact Nat.mul_le_mul a2 b2
 ·rw [Nat.pow_add]
  exact Nat.mul_lt_mul'' a3 b3
theorem cmpN_mul {k a b:Nat}(hk:0<k):Nm.cmp ((k*a:Nat):Int) ((k*b:Nat):Int)=Nm.cmp (a:Int) (b:Int):=by
 rcases Nat.lt_trichotomy a b with h | h | h
 ·have:=Nat.mul_lt_mul_of_pos_left h hk
  rw [Nm.cmp_lt (by omega),Nm.cmp_lt (by omega)]
 ·rw [h,Nm.cmp_eq rfl,Nm.cmp_eq rfl]
 ·have:=Nat.mul_lt_mul_of_pos_left h hk
  rw [Nm.cmp_gt (by omega),Nm.cmp_gt (by omega)]
theorem csz_eq {a b c d:Int}(ha:a≠0)(hb:b≠0)(hc:c≠0)(hd:d≠0)(ba:Bits 40 a)(bb:Bits 40 b)(bc:Bits 40 c)(bd:Bits 40 d):csz a b c d=Nm.cmp ((a.natAbs*b.natAbs:Nat):Int) ((c.natAbs*d.natAbs:Nat):Int):=by
 have la:=bl_le ba
 have lb:=bl_le bb
 have lc:=bl_le bc
 have ld:=bl_le bd
 obtain ⟨p1,p2⟩:=bl_prod ha hb
 obtain ⟨q1,q2⟩:=bl_prod hc hd
 have a1:=(bl_lo ha).1
 have b1:=(bl_lo hb).1
 have c1:=(bl_lo hc).1
 have d1:=(bl_lo hd).1
 unfold csz
 have w1:Wr ((Nm.bl a:Int)+(Nm.bl b:Int))=(Nm.bl a:Int)+(Nm.bl b:Int):=wr_small (by omega) (by omega)
 have w2:Wr ((Nm.bl c:Int)+(Nm.bl d:Int))=(Nm.bl c:Int)+(Nm.bl d:Int):=wr_small (by omega) (by omega)
 have w3:Wr ((Nm.bl c:Int)+(Nm.bl d:Int)-1)=(Nm.bl c:Int)+(Nm.bl d:Int)-1:=wr_small (by omega) (by omega)
 have w4:Wr ((Nm.bl c:Int)+(Nm.bl d:Int)+1)=(Nm.bl c:Int)+(Nm.bl d:Int)+1:=wr_small (by omega) (by omega)
 rw [w1,w2,w3,w4]
 by_cases h1:(Nm.bl a:Int)+(Nm.bl b:Int)<(Nm.bl c:Int)+(Nm.bl d:Int)-1
 ·rw [decide_eq_true h1,cond_true]
  have:2^(Nm.bl a+Nm.bl b)<=2^(Nm.bl c+Nm.bl d-2):=Nat.pow_le_pow_right (by decide) (by omega)
  rw [Nm.cmp_lt (by omega)]
 ·rw [decide_eq_false h1,cond_false]
  by_cases h2:(Nm.bl a:Int)+(Nm.bl b:Int)>(Nm.bl c:Int)+(Nm.bl d:Int)+1
  ·rw [decide_eq_true h2,cond_true]
   have:2^(Nm.bl c+Nm.bl d)<=2^(Nm.bl a+Nm.bl b-2):=Nat.pow_le_pow_right (by decide) (by omega)
   rw [Nm.cmp_gt (by omega)]
  ·rw [decide_eq_false h2,cond_false]
   by_cases h3:(a.natAbs:Int)=(c.natAbs:Int)
   ·rw [Nm.cmp_eq h3]
    have h4:a.natAbs=c.natAbs:=by omega
    rw [show ((0:Int)==0)=true from rfl,cond_true,h4,cmpN_mul (by omega)]
   ·have h4:(Nm.cmp (a.natAbs:Int) (c.natAbs:Int)==0)=false:=by
     rw [beq_eq_false_iff_ne]
     rcases Int.lt_or_gt_of_ne h3 with h | h
     ·rw [Nm.cmp_lt h];decide
     ·rw [Nm.cmp_gt h];decide
    rw [h4,cond_false,Int.natAbs_mul,Int.natAbs_mul]
    simp
def cpr (a b c d:Int):Int:=
 bif decide (Wr (Nm.cmp a 0*Nm.cmp b 0)<Wr (Nm.cmp c 0*Nm.cmp d 0)) then -1
 else bif decide (Wr (Nm.cmp a 0*Nm.cmp b 0)>Wr (Nm.cmp c 0*Nm.cmp d 0)) then 1
 else Wr (Wr (Nm.cmp a 0*Nm.cmp b 0)*csz a b c d)
theorem cpr_te:TEok Z 226 (teG true (f4i cpr) noNd (fun _=>0) [40,40,40,40]):=by
 refine walkG (l:=(237,teG true (f4i csz) noNd (fun _=>0) [40,40,40,40])::tW0) ⟨csz_te,tW0_ok⟩ nobody (fn_of Tryz.func226 rfl rfl) ?_ ?_
 ·intro gs ns out h _ _ _
  unfold f4i at h
  split at h
  ·cases h;trivial
  ·cases h
 ·intro gs out h
  unfold f4i at h
  split at h
  ·cases h
   exact ⟨[],by kernel_rfl,fun _ _=>holds_nil⟩
  ·cases h
theorem sgn_mul (a b:Int):Wr (Nm.cmp a 0*Nm.cmp b 0)=Nm.cmp (a*b) 0:=by
 have h:∀ x:Int,Nm.cmp x 0=x.sign:=fun x=>by
  rcases Int.lt_trichotomy x 0 with h | h | h
  ·rw [Nm.cmp_lt h,Int.sign_eq_neg_one_of_neg h]
  ·rw [Nm.cmp_eq h,h];rfl
  ·rw [Nm.cmp_gt h,Int.sign_eq_one_of_pos h]
 have hb:∀ x:Int,-1<=x.sign/\x.sign<=1:=fun x=>by
  rcases Int.lt_trichotomy x 0 with h | h | h
  ·rw [Int.sign_eq_neg_one_of_neg h];decide
  ·rw [h];decide
  ·rw [Int.sign_eq_one_of_pos h];decide
 rw [h,h,h,<-Int.sign_mul]
 have:=hb (a*b)
 exact wr_small (by omega) (by omega)
theorem cpr_eq {a b c d:Int}(ba:Bits 40 a)(bb:Bits 40 b)(bc:Bits 40 c)(bd:Bits 40 d):cpr a b c d=Nm.cmp (a*b) (c*d):=by
 unfold cpr
 rw [sgn_mul,sgn_mul]
 rcases Int.lt_trichotomy (a*b) 0 with h | h | h<;>rcases Int.lt_trichotomy (c*d) 0 with g | g | g
 ·rw [Nm.cmp_lt h,Nm.cmp_lt g]
  have ha:a≠0:=fun e=>by rw [e] at h;simp at h
  have hb:b≠0:=fun e=>by rw [e] at h;simp at h
  have hc:c≠0:=fun e=>by rw [e] at g;simp at g
  have hd:d≠0:=fun e=>by rw [e] at g;simp at g
  rw [csz_eq ha hb hc hd ba bb bc bd,<-Int.natAbs_mul,<-Int.natAbs_mul]
  simp only [Int.lt_irrefl,decide_false,cond_false,gt_iff_lt]
  rcases Int.lt_trichotomy (a*b) (c*d) with k | k | k
  ·rw [Nm.cmp_lt k,Nm.cmp_gt (by omega)];rfl
  ·rw [k,Nm.cmp_eq rfl,Nm.cmp_eq rfl];rfl
  ·rw [Nm.cmp_gt k,Nm.cmp_lt (by omega)];rfl
 ·rw [Nm.cmp_lt h,Nm.cmp_eq g,Nm.cmp_lt (by omega)];rfl
 ·rw [Nm.cmp_lt h,Nm.cmp_gt g,Nm.cmp_lt (by omega)];rfl
 ·rw [Nm.cmp_eq h,Nm.cmp_lt g,Nm.cmp_gt (by omega)];rfl
 ·rw [Nm.cmp_eq h,Nm.cmp_eq g,Nm.cmp_eq (by omega)];simp [Wr];rfl
 ·rw [Nm.cmp_eq h,Nm.cmp_gt g,Nm.cmp_lt (by omega)];rfl
 ·rw [Nm.cmp_gt h,Nm.cmp_lt g,Nm.cmp_gt (by omega)];rfl
 ·rw [Nm.cmp_gt h,Nm.cmp_eq g,Nm.cmp_gt (by omega)];rfl
 ·rw [Nm.cmp_gt h,Nm.cmp_gt g]
  have ha:a≠0:=fun e=>by rw [e] at h;simp at h
  have hb:b≠0:=fun e=>by rw [e] at h;simp at h
  have hc:c≠0:=fun e=>by rw [e] at g;simp at g
  have hd:d≠0:=fun e=>by rw [e] at g;simp at g
  rw [csz_eq ha hb hc hd ba bb bc bd,<-Int.natAbs_mul,<-Int.natAbs_mul]
  simp only [Int.lt_irrefl,decide_false,cond_false,gt_iff_lt]
  rcases Int.lt_trichotomy (a*b) (c*d) with k | k | k
  ·rw [Nm.cmp_lt k,Nm.cmp_lt (by omega)];rfl
  ·rw [k,Nm.cmp_eq rfl,Nm.cmp_eq rfl];rfl
  ·rw [Nm.cmp_gt k,Nm.cmp_gt (by omega)];rfl
def cp (a b c d:Int):Int:=Nm.cmp (a*b) (c*d)
theorem cp_te:TEok Z 226 (teG true (f4i cp) noNd (fun _=>0) [40,40,40,40]):=by
 refine te_congr cpr_te ?_ ?_
 ·intro gs out h hn hg
  unfold f4i at h
  split at h
  ·rename_i x y z t
   cases h
   obtain ⟨h1,h2,h3,h4,_⟩:=hg
   refine ⟨?_,holds_nil⟩
   unfold f4i
   simp only [cp,cpr_eq (h1 x (by simp)) (h2 y (by simp)) (h3 z (by simp)) (h4 t (by simp))]
  ·cases h
 ·intro gs ns out h _ _ _
  unfold f4i at h
  split at h
  ·cases h;trivial
  ·cases h
end Ab
structure Mt where
 a:Int
 b:Int
 c:Int
 d:Int
def Mt.sym (s:Int):Mt:=if s=-1 then ⟨1,0,1,2⟩ else if s=0 then ⟨3,1,1,3⟩ else if s=1 then ⟨2,1,0,1⟩ else if s=43 then ⟨1,0,0,1⟩ else if s=45 then ⟨-1,0,0,1⟩ else if s=111 then ⟨1,-1,1,1⟩ else ⟨1,1,-1,1⟩
def Mt.at1 (m:Mt)(p q:Int):Int:=m.a*p+m.b*q
def Mt.at2 (m:Mt)(p q:Int):Int:=m.c*p+m.d*q
def Mt.ag1 (m:Mt)(p q:Int):Int:=m.d*p+-m.b*q
def Mt.ag2 (m:Mt)(p q:Int):Int:=m.a*q+-m.c*p
def Mt.mul (x y:Mt):Mt:=⟨x.a*y.a+x.b*y.c,x.a*y.b+x.b*y.d,x.c*y.a+x.d*y.c,x.c*y.b+x.d*y.d⟩
structure MBits (n:Nat) (m:Mt):Prop where
 a:Bits n m.a
 b:Bits n m.b
 c:Bits n m.c
 d:Bits n m.d
namespace Nw
def ups (c:Int×Int):Bool:=decide (0<c.1)||decide (0<c.2)
def downs (c:Int×Int):Bool:=decide (c.1<0)||decide (c.2<0)
def fits (cs:List (Int×Int)):Bool:=cs.any ups != cs.any downs
end Nw
namespace Rf
open Nw
abbrev V:=Int×Int
def vat (m:Mt)(v:V):V:=(m.at1 v.1 v.2,m.at2 v.1 v.2)
def vag (m:Mt)(v:V):V:=(m.ag1 v.1 v.2,m.ag2 v.1 v.2)
def one:Mt:=⟨1,0,0,1⟩
inductive Op where
 | none | pi | e | cf | sqrt | exp | ln1p | atan
 deriving DecidableEq
structure Nd where
 pos:Bool
 t:List V
 args:List Nat
 read:List Nat
 out:List Int
 told:Mt
 had:List Mt
 op:Op
 probe:Bool
 nest:Bool
 k:Nat
 part:Mt
 p:Int
 q:Int
 terms:List Int
 x:Option Nat
 square:Option Nat
def fresh (pos:Bool)(t:List V)(args:List Nat):Nd:=⟨pos,t,args,args.map (fun _=>0),[],one,[one],.none,false,false,0,one,0,0,[],none,none⟩
structure St where
 nodes:List Nd
 clock:Int
structure Ok (n:Nd):Prop where
 t:∀ v∈n.t,Bits 20000 v.1/\Bits 20000 v.2
 told:MBits 20000 n.told
 had:∀ m∈n.had,MBits 20000 m
 part:MBits 100000000 n.part
 p:Bits 20000 n.p
 q:Bits 20000 n.q
 read:∀ r∈n.read,r<=10000
 out:n.out.length<=10000
 k:n.k<=10000
def ends (ns:List Nd)(n:Nd)(side:Nat):Option (V×V):=
 (n.args[side]?).bind fun a=>(ns[a]?).bind fun x=>(n.read[side]?).bind fun r=>(x.had[r]?).map fun m=>(vat m (1,0),vat m (0,1))
def tensor (t:List V)(x y:V):V:=
 match t with
 | [a,b,c,d]=>(((a.1*(x.1*y.1)+b.1*(x.1*y.2))+c.1*(x.2*y.1))+d.1*(x.2*y.2),((a.2*(x.1*y.1)+b.2*(x.1*y.2))+c.2*(x.2*y.1))+d.2*(x.2*y.2))
 | _=>(0,0)
def bare (ns:List Nd)(n:Nd):Option (List V):=
 match n.t with
 | []=>some [vat n.part (1,0),vat n.part (0,1)]
 | [c]=>some [c]
 | [c,d]=>(ends ns n 0).map fun e=>[vat ⟨c.1,d.1,c.2,d.2⟩ e.1,vat ⟨c.1,d.1,c.2,d.2⟩ e.2]
 | [a,b,c,d]=>(ends ns n 0).bind fun e=>(if n.args.length=2 then ends ns n 1 else some ((1,0),(0,1))).map fun r=>
   [tensor [a,b,c,d] e.1 r.1,tensor [a,b,c,d] e.1 r.2,tensor [a,b,c,d] e.2 r.1,tensor [a,b,c,d] e.2 r.2]
 | _=>none
def corners (ns:List Nd)(n:Nd):Option (List V):=(bare ns n).map (·.map (vag n.told))
def waits (ns:List Nd):List Nat->List Nat->Bool
 | a::ar,r::rs=>(match ns[a]? with | some x=>!x.pos&&r==0 | none=>false)||waits ns ar rs
 | _,_=>false
def tries (n:Nd):List Int:=if n.pos=false/\n.out=[] then [43,45,111,119] else [-1,1,0]
def can (l:List V)(s:Int):Bool:=fits (l.map (vag (Mt.sym s)))
def next (ns:List Nd)(n:Nd):Option (Option Int):=
 if waits ns n.args n.read then some none else (corners ns n).map fun l=>(tries n).find? (can l)
def digits (ns:List Nd)(n:Nd)(side:Nat):Option (Option Nat):=
 if side<n.args.length then
  (n.args[side]?).bind fun a=>(ns[a]?).bind fun x=>(n.read[side]?).map fun r=>if x.pos then some r else if r=0 then none else some (r-1)
 else some (some 0)
def apart (a b:V):V:=
 if a.1+a.2=0\/b.1+b.2=0 then (0,1) else (((((a.1-a.2)*(b.1+b.2)-(b.1-b.2)*(a.1+a.2)).natAbs:Nat):Int),((((a.1+a.2)*(b.1+b.2)).natAbs:Nat):Int))
def greater (a b:V):V:=if b.1*a.2<=a.1*b.2 then a else b
def wider (far:Int)(l:List V):Int:=
 match l with
 | [a,b,c,d]=>
  let p:=greater (apart a c) (apart b d)
  let q:=greater (apart a b) (apart c d)
  Nm.cmp (far*p.1*q.2) (q.1*p.2)
 | _=>0
def side (ns:List Nd)(n:Nd):Option Nat:=
 if n.t.length<4 then some 0 else
 (digits ns n 0).bind fun
  | none=>some 0
  | some a=>(digits ns n 1).bind fun
   | none=>some 1
   | some b=>(corners ns n).map fun l=>
    let c:=if fits l then wider (if n.nest then 8 else 1) l else 0
    if c=1 then 0 else if c=-1 then 1 else if a<=b then 0 else 1
def isqrt:Nat->Nat->Nat
 | 0,_=>0
 | k+1,n=>if (2*isqrt k (n/4)+1)*(2*isqrt k (n/4)+1)<=n then 2*isqrt k (n/4)+1 else 2*isqrt k (n/4)
def root (z:Int):Int:=isqrt (z.toNat.log2/2+1) z.toNat
def near (p q:Int):Nat->Int->Option (Int×Int)
 | 0,_=>none
 | k+1,t=>if 16<=root ((t*t*p)/q) then some (root ((t*t*p)/q),t) else near p q k (t+t)
def shape (op:Op)(k:Nat):Int×Int:=
 if op=.ln1p then (if k=0 then (1,1) else ((((k+1)/2*((k+1)/2):Nat):Int),((k+1:Nat):Int)))
 else if op=.atan then (if k=0 then (1,1) else (((k*k:Nat):Int),((2*k+1:Nat):Int)))
 else (1,((4*k+2:Nat):Int))
def eterm (k:Nat):Int:=if k=0 then 2 else if k%3=2 then (((k+1)/3*2:Nat):Int) else 1
def constant (n:Nd)(k:Nat):Option Mt:=
 match n.op with
 | .pi=>some (if k=0 then ⟨0,4,1,1⟩ else ⟨0,((k*k:Nat):Int),1,((2*k+1:Nat):Int)⟩)
 | .e=>some ⟨eterm k,1,1,0⟩
 | .cf=>(n.terms[if k=0 then 0 else 1+(k-1)%(n.terms.length-1)]?).map fun a=>⟨a,1,1,0⟩
 | .sqrt=>(near n.p n.q 20000 1).map fun ab=>⟨ab.1*n.q,ab.2*n.p,ab.2*n.q,ab.1*n.q⟩
 | .none=>none
 | op=>some (if op≠.ln1p/\0<k then ⟨0,(shape op k).1*(n.p*n.p),n.q*n.q,(shape op k).2*(n.q*n.q)⟩ else ⟨0,(shape op k).1*n.p,n.q,(shape op k).2*n.q⟩)
def known (op:Op)(lo hi:V):Bool:=
 let d:=4*(hi.1*lo.2-lo.1*hi.2)
 let q:=lo.2*hi.2
 if op=.sqrt then decide (hi.1*lo.2<=2*(lo.1*hi.2))
 else if op=.exp then decide (d<=q)
 else if op=.ln1p then decide (d<=q+hi.2*lo.1)
 else decide (d<=q+hi.1*lo.1)
inductive Kind where
 | add | sub | mul | div
 deriving DecidableEq
def Kind.cols:Kind->List V
 | .add=>[(0,0),(1,0),(1,0),(0,1)]
 | .sub=>[(0,0),(1,0),(-1,0),(0,1)]
 | .mul=>[(1,0),(0,0),(0,0),(0,1)]
 | .div=>[(0,0),(1,0),(0,1),(0,0)]
def two (kd:Kind)(ap bp:Bool)(a b:Nat):Nd:=fresh (ap&&bp&&decide (kd≠.sub)) kd.cols [a,b]
def raised (t:Nat):Nd:=fresh true [(1,-1),(1,1)] [t]
def row (op:Op)(p q:Int):Nd:={ fresh true [] [] with op:=op,p:=p,q:=q}
open Classical in
noncomputable def more (ns:List Nd)(n:Nd):Option (List Nd):=if Ok n then some (ns++[n]) else none
open Classical in
noncomputable def put (ns:List Nd)(i:Nat)(n:Nd):Option (List Nd):=if Ok n/\i<ns.length then some (ns.set i n) else none
noncomputable def outright (ns:List Nd)(op:Op)(p q:Int):Option (List Nd×Nat):=
 (more ns (row op p q)).bind fun ns1=>if op=.exp then (more ns1 (raised ns.length)).map fun ns2=>(ns2,ns.length+1) else some (ns1,ns.length)
def nestNd (op:Op)(k:Nat)(a x:Nat)(sq:Option Nat):Nd:={ fresh true [(0,0),((shape op k).1,0),(0,1),(0,(shape op k).2)] [a] with op:=op,nest:=true,k:=k,x:=some x,square:=sq}
noncomputable def nest (ns:List Nd)(op:Op)(k x:Nat)(sq:Option Nat):Option (List Nd×Nat):=
 if 0<k/\op≠.ln1p then
  match sq with
  | some s=>(more ns (nestNd op k s x (some s))).map fun ns1=>(ns1,ns.length)
  | none=>(ns[x]?).bind fun nx=>(more ns (two .mul nx.pos nx.pos x x)).bind fun ns1=>(more ns1 (nestNd op k ns.length x (some ns.length))).map fun ns2=>(ns2,ns.length+1)
 else (more ns (nestNd op k x x sq)).map fun ns1=>(ns1,ns.length)
noncomputable def deeper (ns:List Nd)(n:Nd):Option (List Nd×Nat):=
 if n.op=.sqrt then (n.args[0]?).bind fun a=>(more ns { fresh true n.t [a] with op:=n.op,nest:=true}).map fun ns1=>(ns1,ns.length)
 else n.x.bind fun x=>nest ns n.op (n.k+1) x n.square
def restCols (op:Op)(lo:V):List V:=[(lo.2,if op=.atan then lo.1 else 0),(-lo.1,if op=.ln1p then lo.1+lo.2 else lo.2)]
noncomputable def turn (ns:List Nd)(i:Nat)(n:Nd)(lo:V):Option (List Nd):=
 (n.args[0]?).bind fun x=>
 if n.op=.sqrt then (near lo.1 lo.2 20000 1).bind fun ab=>put ns i {n with t:=[(0,0),(ab.2,0),(ab.1,ab.2),(0,ab.1)],nest:=true}
 else
  (if 0<lo.1 then (more ns (fresh true (restCols n.op lo) [x])).map fun ns1=>(ns1,ns.length) else some (ns,x)).bind fun zb=>
  (nest zb.1 n.op 0 zb.2 none).bind fun nb=>
  (if n.op=.exp then (more nb.1 (raised nb.2)).map fun ns3=>(ns3,nb.1.length) else some nb).bind fun rb=>
  if lo.1=0 then put rb.1 i {n with args:=[rb.2]}
  else (outright rb.1 n.op lo.1 lo.2).bind fun fb=>
   put fb.1 i {n with t:=(if n.op=.exp then Kind.mul else Kind.add).cols,args:=[fb.2,rb.2],read:=[0,0]}
noncomputable def give (s:St)(i:Nat)(n:Nd)(c:Int):Option St:=
 (put s.nodes i {n with out:=n.out++[c],told:=n.told.mul (Mt.sym c),had:=n.had++[n.told.mul (Mt.sym c)]}).map fun ns=>⟨ns,s.clock-1⟩
def bump:List Nat->Nat->List Nat
 | [],_=>[]
 | r::rs,0=>(r+1)::rs
 | r::rs,k+1=>r::bump rs k
noncomputable def wide (s:St)(i:Nat)(n:Nd)(sd:Nat):Option St:=
 if sd=n.args.length then
  (deeper s.nodes n).bind fun d=>(put d.1 i {n with args:=n.args++[d.2],read:=n.read++[0]}).map fun ns=>⟨ns,s.clock⟩
 else some s
noncomputable def settle (ns:List Nd)(i:Nat)(n:Nd):Option (List Nd):=
 if n.probe then
  (ends ns n 0).bind fun e=>
  if known n.op e.2 e.1 then (put ns i {n with read:=n.read.set 0 0,probe:=false}).bind fun ns1=>turn ns1 i {n with read:=n.read.set 0 0,probe:=false} e.2
  else some ns
 else some ns
noncomputable def after (s:St)(i sd:Nat):Option (St×Bool):=
 (s.nodes[i]?).bind fun n=>
 (put s.nodes i {n with read:=bump n.read sd}).bind fun ns=>
 if s.clock-1<0 then some (⟨ns,s.clock-1⟩,false) else
 (settle ns i {n with read:=bump n.read sd}).map fun ns1=>(⟨ns1,s.clock-1⟩,true)
noncomputable def reads (rec:St->Nat->Nat->Option (St×Option Int))(s:St)(i:Nat)(n:Nd):Option (St×Bool):=
 if n.t=[] then
  (constant n n.k).bind fun m=>(put s.nodes i {n with part:=n.part.mul m,k:=n.k+1}).map fun ns=>(⟨ns,s.clock-1⟩,decide (0<=s.clock-1))
 else
  (side s.nodes n).bind fun sd=>(wide s i n sd).bind fun s1=>
  (s1.nodes[i]?).bind fun n1=>(n1.args[sd]?).bind fun a=>(n1.read[sd]?).bind fun r=>
  (rec s1 a r).bind fun x=>match x.2 with
   | none=>some (x.1,false)
   | some _=>after x.1 i sd
noncomputable def sym:Nat->St->Nat->Nat->Option (St×Option Int)
 | 0,_,_,_=>none
 | f+1,s,i,j=>
  (s.nodes[i]?).bind fun n=>
  match n.out[j]? with
  | some c=>some (s,some c)
  | none=>
   (if n.probe then some none else next s.nodes n).bind fun o=>match o with
   | some c=>if s.clock-1<0 then some (⟨s.nodes,s.clock-1⟩,none) else (give s i n c).bind fun s1=>sym f s1 i j
   | none=>(reads (sym f) s i n).bind fun x=>if x.2 then sym f x.1 i j else some (x.1,none)
end Rf
namespace Rf
open Nw
theorem mul_sym_bits {n:Nat}{m:Mt}(h:MBits n m)(c:Int):MBits (n+2) (m.mul (Mt.sym c)):=by
 obtain ⟨h1,h2,h3,h4⟩:=h
 unfold Bits at h1 h2 h3 h4
 have e:2^(n+2)=4*2^n:=by rw [Nat.pow_add];omega
 unfold Mt.mul Mt.sym
 constructor<;>(unfold Bits;rw [e];generalize 2^n=N at *)<;>(repeat' split)<;>simp<;>omega
structure Up (m:Mt):Prop where
 a:0<=m.a
 b:0<=m.b
 c:0<=m.c
 d:0<=m.d
 det:0<m.a*m.d-m.b*m.c
theorem up_one:Up one:=⟨by decide,by decide,by decide,by decide,by decide⟩
theorem up_sym {m:Mt}(h:Up m){s:Int}(hs:s∈[(-1:Int),1,0]):Up (m.mul (Mt.sym s)):=by
 obtain ⟨h1,h2,h3,h4,h5⟩:=h
 simp at hs
 rcases hs with rfl | rfl | rfl
 ·refine ⟨?_,?_,?_,?_,?_⟩<;>simp [Mt.mul,Mt.sym]<;>(first | omega | grind)
 ·refine ⟨?_,?_,?_,?_,?_⟩<;>simp [Mt.mul,Mt.sym]<;>(first | omega | grind)
 ·refine ⟨?_,?_,?_,?_,?_⟩<;>simp [Mt.mul,Mt.sym]<;>(first | omega | grind)
theorem vag_mul (m s:Mt)(v:V):vag (m.mul s) v=vag s (vag m v):=by
 unfold vag Mt.mul Mt.ag1 Mt.ag2
 simp only [Prod.mk.injEq]
 constructor<;>grind
theorem vag_one (v:V):vag one v=v:=by
 unfold vag one Mt.ag1 Mt.ag2
 simp
theorem fits1 (v:V):fits [v]=true↔((0<=v.1/\0<=v.2/\(0<v.1\/0<v.2))\/(v.1<=0/\v.2<=0/\(v.1<0\/v.2<0))):=by
 unfold fits ups downs
 simp
 by_cases a:0<v.1<;>by_cases b:0<v.2<;>by_cases c:v.1<0<;>by_cases d:v.2<0<;>simp [a,b,c,d]<;>omega
theorem can_digit {v:V}(h:fits [v]=true):∃ s,[(-1:Int),1,0].find? (can [v])=some s:=by
 have:([(-1:Int),1,0].find? (can [v])).isSome=true:=by
  rw [List.find?_isSome]
  have h':=(fits1 v).1 h
  have k1:can [v] (-1)=true\/can [v] 1=true:=by
   unfold can
   simp only [List.map_cons,List.map_nil]
   rw [fits1,fits1]
   simp [vag,Mt.sym,Mt.ag1,Mt.ag2]
   omega
  rcases k1 with k | k
  ·exact ⟨-1,by simp,k⟩
  ·exact ⟨1,by simp,k⟩
 exact Option.isSome_iff_exists.1 this
theorem can_sign {v:V}(h1:v.1<0)(h2:0<v.2):∃ s,[(43:Int),45,111,119].find? (can [v])=some s:=by
 have:([(43:Int),45,111,119].find? (can [v])).isSome=true:=by
  rw [List.find?_isSome]
  refine ⟨45,by simp,?_⟩
  unfold can
  simp only [List.map_cons,List.map_nil]
  rw [fits1]
  simp [vag,Mt.sym,Mt.ag1,Mt.ag2]
  omega
 exact Option.isSome_iff_exists.1 this
theorem find_can {l:List V}{ts:List Int}{s:Int}(h:ts.find? (can l)=some s):can l s=true/\s∈ts:=⟨List.find?_some h,List.mem_of_find?_eq_some h⟩
theorem isqrt_spec:∀ (k n:Nat),n<4^k->isqrt k n*isqrt k n<=n/\n<(isqrt k n+1)*(isqrt k n+1)
 | 0,n,h=>by
  have:n=0:=by simpa using h
  subst this
  simp [isqrt]
 | k+1,n,h=>by
  have hk:n/4<4^k:=by
   rw [Nat.pow_succ] at h
   omega
  obtain ⟨h1,h2⟩:=isqrt_spec k (n/4) hk
  unfold isqrt
  generalize isqrt k (n/4)=r at*
  have e1:2*r*(2*r)=4*(r*r):=by grind
  have e2:(2*r+1)*(2*r+1)=4*(r*r)+4*r+1:=by grind
  have e3:(2*r+1+1)*(2*r+1+1)=4*(r*r)+8*r+4:=by grind
  have e4:(r+1)*(r+1)=r*r+2*r+1:=by grind
  rw [e4] at h2
  split
  ·rename_i hc
   refine ⟨hc,?_⟩
   rw [e3]
   omega
  ·rename_i hc
   rw [e1,e2] at*
   exact ⟨by omega,by omega⟩
theorem root_spec {z:Int}(h:0<=z):0<=root z/\root z*root z<=z/\z<(root z+1)*(root z+1):=by
 obtain ⟨n,rfl⟩:=Int.eq_ofNat_of_zero_le h
 unfold root
 rw [Int.toNat_natCast]
 have hn:n<4^(n.log2/2+1):=by
  rw [show (4:Nat)=2^2 by rfl,<-Nat.pow_mul]
  refine Nat.lt_of_lt_of_le (Nat.lt_log2_self) (Nat.pow_le_pow_right (by decide) (by omega))
 obtain ⟨h1,h2⟩:=isqrt_spec _ n hn
 generalize isqrt (n.log2/2+1) n=r at*
 refine ⟨by omega,?_,?_⟩
 ·rw [<-Int.natCast_mul];exact Int.ofNat_le.2 h1
 ·have:((r:Int)+1)*((r:Int)+1)=(((r+1)*(r+1):Nat):Int):=by simp
  rw [this]
  exact Int.ofNat_lt.2 h2
theorem root_ge {z k:Int}(hk:0<=k)(h:k*k<=z):k<=root z:=by
 have h0:0<=z:=Int.le_trans (Int.mul_nonneg hk hk) h
 obtain ⟨h1,h2,h3⟩:=root_spec h0
 rcases Int.lt_or_le (root z) k with h4 | h4
 ·have:(root z+1)*(root z+1)<=k*k:=Int.mul_le_mul (by omega) (by omega) (by omega) (by omega)
  omega
 ·exact h4
theorem root_le {z:Int}(h:0<=z):root z<=z:=by
 obtain ⟨h1,h2,h3⟩:=root_spec h
 rcases Int.lt_or_le (root z) 1 with h4 | h4
 ·omega
 ·have:root z*1<=root z*root z:=Int.mul_le_mul_of_nonneg_left h4 h1
  omega
theorem near_some {p q:Int}(hp:0<p)(hq:0<q):∀ (k:Nat) (t:Int),0<t->q*256<=t*t*4^k->∃ a b,near p q (k+1) t=some (a,b)/\16<=a/\a<=b*b*p/\0<b/\b<=t*2^k
 | 0,t,ht,h=>by
  have h0:0<=t*t*p:=Int.mul_nonneg (Int.mul_nonneg (by omega) (by omega)) (by omega)
  have h1:256<=t*t*p/q:=by
   refine (Int.le_ediv_iff_mul_le hq).2 ?_
   have:t*t*1<=t*t*p:=Int.mul_le_mul_of_nonneg_left (by omega) (Int.mul_nonneg (by omega) (by omega))
   simp at h
   omega
  have h2:16<=root (t*t*p/q):=root_ge (by decide) (by omega)
  exact ⟨_,_,by unfold near;rw [if_pos h2],h2,Int.le_trans (root_le (by omega)) (Int.ediv_le_self _ h0),ht,by simp⟩
 | k+1,t,ht,h=>by
  have h0:0<=t*t*p:=Int.mul_nonneg (Int.mul_nonneg (by omega) (by omega)) (by omega)
  by_cases h2:16<=root (t*t*p/q)
  ·refine ⟨_,_,by unfold near;rw [if_pos h2],h2,Int.le_trans (root_le (Int.ediv_nonneg h0 (by omega))) (Int.ediv_le_self _ h0),ht,?_⟩
   have:(1:Int)<=2^(k+1):=by have:(0:Int)<2^(k+1):=Int.pow_pos (by decide);omega
   have:=Int.mul_le_mul_of_nonneg_left this (show 0<=t by omega)
   omega
  ·obtain ⟨a,b,h3,h4,h5,h6,h7⟩:=near_some hp hq k (t+t) (by omega) (by
    have e:(t+t)*(t+t)=t*t*4:=by grind
    rw [e,Int.mul_assoc,<-Int.pow_succ']
    exact h)
   refine ⟨a,b,by unfold near;rw [if_neg h2];exact h3,h4,h5,h6,?_⟩
   rw [Int.pow_succ]
   have:(t+t)*2^k=t*(2^k*2):=by grind
   omega
theorem near_more {p q:Int}{r:Int×Int}:∀ (k m:Nat) (t:Int),k<=m->near p q k t=some r->near p q m t=some r
 | 0,_,_,_,h=>by simp [near] at h
 | k+1,0,_,hm,_=>by omega
 | k+1,m+1,t,hm,h=>by
  unfold near at h ⊢
  split at h
  ·rename_i hc
   rw [if_pos hc];exact h
  ·rename_i hc
   rw [if_neg hc]
   exact near_more k m _ (by omega) h
theorem lt_pow {n:Nat}{q:Int}(h:Bits n q):q<2^n:=by
 unfold Bits at h
 have:((q.natAbs:Nat):Int)<((2^n:Nat):Int):=Int.ofNat_lt.2 h
 rw [Int.natCast_pow] at this
 have e:(((2:Nat):Int))=2:=rfl
 rw [e] at this
 generalize (2:Int)^n=N at*
 omega
theorem le_pow {n:Nat}{b:Int}(h0:0<=b)(h:b<=2^n):Bits (n+1) b:=by
 unfold Bits
 rw [Nat.pow_succ]
 have e:(2:Int)^n=((2^n:Nat):Int):=by rw [Int.natCast_pow];rfl
 rw [e] at h
 have:0<2^n:=Nat.pow_pos (by decide)
 generalize (2:Nat)^n=N at*
 omega
theorem near_ok {p q:Int}(hp:0<p)(hq:0<q)(bp:Bits 6100 p)(bq:Bits 6100 q):∃ a b,near p q 20000 1=some (a,b)/\16<=a/\0<b/\Bits 12300 a/\Bits 3100 b:=by
 have hq2:q<2^6100:=lt_pow bq
 obtain ⟨a,b,h1,h2,h3,h4,h5⟩:=near_some hp hq 3060 1 (by decide) (by
  have e:(1:Int)*1*4^3060=2^6100*2^20:=by
   rw [<-Int.pow_add,show (4:Int)=2^2 by rfl,<-Int.pow_mul,Int.one_mul,Int.one_mul]
  rw [e]
  have:(2:Int)^20=1048576:=by decide
  rw [this]
  generalize (2:Int)^6100=N at*
  omega)
 have hb:Bits 3061 b:=le_pow (by omega) (by rw [Int.one_mul] at h5;exact h5)
 refine ⟨a,b,near_more _ _ _ (by decide) h1,h2,h4,?_,bits_mono hb (by decide)⟩
 exact bits_of (bits_mul (bits_mul hb hb) bp) (by omega) (by decide)
end Rf
end Go.Proofs.YteghhlfmcjmnoaaGreatDoor
