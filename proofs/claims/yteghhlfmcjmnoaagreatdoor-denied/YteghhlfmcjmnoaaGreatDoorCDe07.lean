import Derived.Test.YteghhlfmcjmnoaaGreatDoorCDe06
set_option linter.unusedSimpArgs false
set_option linter.unusedVariables false
set_option maxRecDepth 100000
set_option maxHeartbeats 2000000
namespace Go.Proofs.YteghhlfmcjmnoaaGreatDoor
open Go.RowKit
theorem at_oldW {w:World}{k:Nat}{o:Obj}(o':Obj)(h:w.heap[k]?=some o):(w.alloc o').heap[k]?=some o:=by rw [Below.heap_alloc _ _ _ (heap_lt h)];exact h
structure Finw (w w2:World) (B:Nat) (z:Int) (p q:Value):Prop where
 c0:((w2.setCell ⟨B,0,none⟩ p).setCell ⟨B,1,none⟩ q).cell? ⟨B,0,none⟩=some p
 c1:((w2.setCell ⟨B,0,none⟩ p).setCell ⟨B,1,none⟩ q).cell? ⟨B,1,none⟩=some q
 num:WhoAt ((w2.setCell ⟨B,0,none⟩ p).setCell ⟨B,1,none⟩ q) z (.agg #[p,q])
 below:Below w.heap.size w ((w2.setCell ⟨B,0,none⟩ p).setCell ⟨B,1,none⟩ q)
theorem finw {w w2:World}{B:Nat}{x y p q:Value}{z:Int}(h:w2.heap[B]?=some (.cells #[x,y] 80 (0,0)))(hn:WhoAt w2 z (.agg #[p,q]))(hb:Below w.heap.size w w2)(hB:w.heap.size<=B):Finw w w2 B z p q:=by
 have h1:=heap_set h (o:=0) p
 have h2:=heap_set h1 (o:=1) q
 exact ⟨cell_of_block h2 rfl,cell_of_block h2 rfl,(hn.other h (by decide) p).other h1 (by decide) q,(hb.setCell hB _).setCell hB _⟩
def boxw (w:World)(a b c d:Value):World:=((w.alloc (.cells #[a,b] 80)).alloc (.cells #[c,d] 80)).alloc (.cells #[.bool false,.slice none 0 0] 80)
theorem boxw_below (w:World)(a b c d:Value):Below w.heap.size w (boxw w a b c d).drew:=(belowW (belowW (belowW (Below.refl _ _) (Nat.le_refl _) _) (by simp) _) (by simp;omega) _).trans ((drewW _).mono (by simp [boxw];omega))
theorem boxw_size (w:World)(a b c d:Value):(boxw w a b c d).drew.heap.size=w.heap.size+3:=by simp [boxw]
theorem boxw_at0 (w:World)(a b c d:Value):(boxw w a b c d).drew.heap[w.heap.size]?=some (.cells #[a,b] 80 (0,0)):=at_oldW _ (at_oldW _ (at_newW _ _))
theorem boxw_at1 (w:World)(a b c d:Value):(boxw w a b c d).drew.heap[w.heap.size+1]?=some (.cells #[c,d] 80 (0,0)):=by
 have:=at_oldW (.cells #[.bool false,.slice none 0 0] 80) (at_newW (w.alloc (.cells #[a,b] 80)) (.cells #[c,d] 80))
 rw [World.size_alloc] at this
 exact this
theorem boxw_at2 (w:World)(a b c d:Value):(boxw w a b c d).drew.heap[w.heap.size+2]?=some (.cells #[.bool false,.slice none 0 0] 80 (0,0)):=by
 have:=at_newW ((w.alloc (.cells #[a,b] 80)).alloc (.cells #[c,d] 80)) (.cells #[.bool false,.slice none 0 0] 80)
 rw [World.size_alloc,World.size_alloc] at this
 exact this
theorem boxw_below' (w:World)(a b c d:Value):Below w.heap.size w (boxw w a b c d):=belowW (belowW (belowW (Below.refl _ _) (Nat.le_refl _) _) (by simp) _) (by simp;omega) _
theorem boxw_size' (w:World)(a b c d:Value):(boxw w a b c d).heap.size=w.heap.size+3:=by simp [boxw]
theorem boxw_at0' (w:World)(a b c d:Value):(boxw w a b c d).heap[w.heap.size]?=some (.cells #[a,b] 80 (0,0)):=boxw_at0 w a b c d
theorem boxw_at1' (w:World)(a b c d:Value):(boxw w a b c d).heap[w.heap.size+1]?=some (.cells #[c,d] 80 (0,0)):=boxw_at1 w a b c d
theorem boxw_at2' (w:World)(a b c d:Value):(boxw w a b c d).heap[w.heap.size+2]?=some (.cells #[.bool false,.slice none 0 0] 80 (0,0)):=boxw_at2 w a b c d
theorem who_of {W:World}{z:Int}{xs:List Int}{v:Value}{nb:Bool}(hI:Lims W xs v)(hg:Nm.Good 4294967296 xs)(hv:Nm.val 4294967296 xs=z.natAbs)(hb:nb=decide (z<0)):WhoAt W z (.agg #[.bool nb,v]):=⟨xs,v,by rw [hb],hI,hg,hv⟩
theorem wof_neg (n:Int)(w:World)(hlo:-9223372036854775808<=n)(hhi:n<9223372036854775808)(hc:n<0):Calls Tryz.prog 94 #[.int .i64 n] w (WhoPost w n):=by
 have LO:Hid (∀ W N,N=-n->Calls Tryz.prog 119 #[.int .u64 N] W (LimPost W fun xs=>Nm.Good 4294967296 xs/\Nm.val 4294967296 xs=-n/\xs.length<=2)):=by
  rintro W N rfl
  exact limbsOf_any _ W (by omega) (by omega)
 have hd:decide (n<0)=true:=by simpa using hc
 go_enter Tryz.func94,Tryz.ntmps94
 go_wp2_with fail
 refine (LO.out _ _ (by omega)).mono ?_
 rintro e w1 ⟨v1,xs,rfl,⟨hg,hv,_⟩,hI,hb⟩
 have hs1:=hb.size
 rw [World.size_alloc] at hs1
 obtain ⟨o1,c1,rfl,_⟩:=hI.shape
 have hblk:=newW (by rw [World.size_alloc];omega) (at_newW w (.cells #[.bool false,.slice none 0 0] 80)) hb
 have hN:WhoAt w1 n (.agg #[.bool true,.slice o1 xs.length c1]):=who_of (hI.weak (Nat.zero_le _)) hg (by omega) hd.symm
 have hr:=(belowW (Below.refl w.heap.size w) (Nat.le_refl _) (.cells #[.bool false,.slice none 0 0] 80)).trans (hb.mono (by rw [World.size_alloc];omega))
 have F:=finw hblk hN hr (by omega)
 have r0:=frozen_of_block (o:=0) hblk
 have r1:=frozen_of_block (o:=1) hblk
 have s0:=cell_of_block (o:=0) hblk rfl
 have s1:=cell_of_block (o:=1) hblk rfl
 have q0:=F.c0
 have q1:=F.c1
 have FN:=hid F.num
 have FB:=hid F.below
 clear F hN hr hblk
 clear hb hI hd
 go_wp2_with fail
 refine bodyPost_ret (v:=.agg #[.bool true,.slice o1 xs.length c1]) (by simp [results,Tryz.results94,go_sem,q0,q1]) rfl ⟨_,rfl,FN.out,FB.out⟩
theorem wof_pos (n:Int)(w:World)(hlo:-9223372036854775808<=n)(hhi:n<9223372036854775808)(hc:¬n<0):Calls Tryz.prog 94 #[.int .i64 n] w (WhoPost w n):=by
 have LO:Hid (∀ W N,N=n->Calls Tryz.prog 119 #[.int .u64 N] W (LimPost W fun xs=>Nm.Good 4294967296 xs/\Nm.val 4294967296 xs=n/\xs.length<=2)):=by
  rintro W N rfl
  exact limbsOf_any _ W (by omega) (by omega)
 have hd:decide (n<0)=false:=by simpa using hc
 go_enter Tryz.func94,Tryz.ntmps94
 go_wp2_with fail
 refine (LO.out _ _ (by omega)).mono ?_
 rintro e w1 ⟨v1,xs,rfl,⟨hg,hv,_⟩,hI,hb⟩
 have hs1:=hb.size
 rw [World.size_alloc] at hs1
 obtain ⟨o1,c1,rfl,_⟩:=hI.shape
 have hblk:=newW (by rw [World.size_alloc];omega) (at_newW w (.cells #[.bool false,.slice none 0 0] 80)) hb
 have hN:WhoAt w1 n (.agg #[.bool false,.slice o1 xs.length c1]):=who_of (hI.weak (Nat.zero_le _)) hg (by omega) hd.symm
 have hr:=(belowW (Below.refl w.heap.size w) (Nat.le_refl _) (.cells #[.bool false,.slice none 0 0] 80)).trans (hb.mono (by rw [World.size_alloc];omega))
 have F:=finw hblk hN hr (by omega)
 have r0:=frozen_of_block (o:=0) hblk
 have r1:=frozen_of_block (o:=1) hblk
 have s0:=cell_of_block (o:=0) hblk rfl
 have s1:=cell_of_block (o:=1) hblk rfl
 have q0:=F.c0
 have q1:=F.c1
 have FN:=hid F.num
 have FB:=hid F.below
 clear F hN hr hblk
 clear hb hI hd
 go_wp2_with fail
 refine bodyPost_ret (v:=.agg #[.bool false,.slice o1 xs.length c1]) (by simp [results,Tryz.results94,go_sem,q0,q1]) rfl ⟨_,rfl,FN.out,FB.out⟩
theorem wof_any (n:Int)(w:World)(hlo:-9223372036854775808<=n)(hhi:n<9223372036854775808):Calls Tryz.prog 94 #[.int .i64 n] w (WhoPost w n):=by
 by_cases h:n<0
 ·exact wof_neg n w hlo hhi h
 ·exact wof_pos n w hlo hhi h
theorem who_zero {ds:List Int}{z:Int}(hg:Nm.Good 4294967296 ds)(hv:Nm.val 4294967296 ds=z.natAbs):ds=[]↔z=0:=by
 have:=Nm.val_zero (by decide) hg
 rw [hv] at this
 rw [<-this]
 omega
theorem wsign_any (w:World)(z:Int)(v:Value)(h:WhoAt w z v):Calls Tryz.prog 72 #[v] w fun e w'=>e=.returned (.int .i64 (Nm.cmp z 0))/\Below w.heap.size w w':=by
 obtain ⟨ds,ao,cap,rfl,hI,hg,hv⟩:=h.open
 have hz:=who_zero hg hv
 clear hI hg hv h
 rcases Int.lt_trichotomy z 0 with h0 | h0 | h0
 ·have l0:((ds.length:Int)==0)=false:=by
   simp only [beq_eq_false_iff_ne,ne_eq]
   intro h
   have:=hz.1 (List.eq_nil_of_length_eq_zero (by omega))
   omega
  rw [Nm.cmp_lt h0,decide_eq_true h0]
  clear hz
  go_enter Tryz.func72,Tryz.ntmps72
  go_wp2_with fail
  go_ret
  exact ⟨rfl,belowW (Below.refl _ _) (Nat.le_refl _) _⟩
 ·subst h0
  have:=hz.2 rfl
  subst this
  rw [Nm.cmp_eq rfl]
  clear hz
  go_enter Tryz.func72,Tryz.ntmps72
  go_wp2_with fail
  go_ret
  exact ⟨rfl,belowW (Below.refl _ _) (Nat.le_refl _) _⟩
 ·have l0:((ds.length:Int)==0)=false:=by
   simp only [beq_eq_false_iff_ne,ne_eq]
   intro h
   have:=hz.1 (List.eq_nil_of_length_eq_zero (by omega))
   omega
  rw [Nm.cmp_gt h0,decide_eq_false (by omega)]
  clear hz
  go_enter Tryz.func72,Tryz.ntmps72
  go_wp2_with fail
  go_ret
  exact ⟨rfl,belowW (Below.refl _ _) (Nat.le_refl _) _⟩
theorem wneg_any (w:World)(z:Int)(v:Value)(h:WhoAt w z v):Calls Tryz.prog 123 #[v] w (WhoPost w (-z)):=by
 obtain ⟨ds,ao,cap,rfl,hI,hg,hv⟩:=h.open
 have hz:=who_zero hg hv
 have HI:=hid hI
 have HG:=hid hg
 have HV:=hid hv
 clear hI hg hv h
 by_cases hneg:z<0
 ·rw [decide_eq_true hneg]
  go_enter Tryz.func123,Tryz.ntmps123
  go_wp2_with fail
  refine bodyPost_ret (v:=.agg #[.bool false,.slice ao ds.length cap]) (by simp [results,Tryz.results123,go_sem]) rfl ⟨_,rfl,who_of ((HI.out.alloc _).alloc _) HG.out (by rw [HV.out];omega) (by symm;simp;omega),belowW (belowW (Below.refl _ _) (Nat.le_refl _) _) (by simp) _⟩
 ·rw [decide_eq_false hneg]
  by_cases h0:z=0
  ·have e:=hz.2 h0
   subst e
   go_enter Tryz.func123,Tryz.ntmps123
   go_wp2_with fail
   refine bodyPost_ret (v:=.agg #[.bool false,.slice ao 0 cap]) (by simp [results,Tryz.results123,go_sem]) rfl ⟨_,rfl,who_of (xs:=[]) ((HI.out.alloc _).alloc _) HG.out rfl rfl,belowW (belowW (Below.refl _ _) (Nat.le_refl _) _) (by simp) _⟩
  ·have l0:(0:Int)<ds.length:=by
    rcases Nat.eq_zero_or_pos ds.length with h | h
    ·exact absurd (hz.1 (List.eq_nil_of_length_eq_zero h)) h0
    ·omega
   have l1:0<ds.length:=by omega
   go_enter Tryz.func123,Tryz.ntmps123
   go_wp2_with fail
   refine bodyPost_ret (v:=.agg #[.bool true,.slice ao ds.length cap]) (by simp [results,Tryz.results123,go_sem,l1]) rfl ⟨_,rfl,who_of ((HI.out.alloc _).alloc _) HG.out (by rw [HV.out];omega) (by symm;simp;omega),belowW (belowW (Below.refl _ _) (Nat.le_refl _) _) (by simp) _⟩
theorem wsize_any (w:World)(z:Int)(v:Value)(h:WhoAt w z v):Calls Tryz.prog 147 #[v] w (WhoPost w (z.natAbs:Int)):=by
 obtain ⟨ds,ao,cap,rfl,hI,hg,hv⟩:=h.open
 have HI:=hid hI
 have HG:=hid hg
 have HV:=hid hv
 clear hI hg hv h
 generalize decide (z<0)=nb at*
 go_enter Tryz.func147,Tryz.ntmps147
 go_wp2_with fail
 refine bodyPost_ret (v:=.agg #[.bool false,.slice ao ds.length cap]) (by simp [results,Tryz.results147,go_sem]) rfl ⟨_,rfl,who_of ((HI.out.alloc _).alloc _) HG.out (by rw [HV.out];simp) (by symm;simp),belowW (belowW (Below.refl _ _) (Nat.le_refl _) _) (by simp) _⟩
open Go.RowKit
theorem wplus_same (w:World)(na nb:Bool)(ao bo:Option Addr)(la lb cap bap:Nat)(z:Int)(P:List Int->Prop)(hs:na=nb)
  (hP:∀ W,Below w.heap.size w W->Calls Tryz.prog 118 #[.slice ao la cap,.slice bo lb bap] W (LimPost W P))
  (hT:∀ W xs v,P xs->Lims W xs v->WhoAt W z (.agg #[.bool (na),v])):
  Calls Tryz.prog 137 #[.agg #[.bool na,.slice ao la cap],.agg #[.bool nb,.slice bo lb bap]] w (WhoPost w z):=by
 subst hs
 have HP:=hid hP
 have HT:=hid hT
 clear hP hT
 have ne1:¬(w.heap.size=w.heap.size+1+1):=by omega
 have ne2:¬(w.heap.size+1+1=w.heap.size):=by omega
 go_enter Tryz.func137,Tryz.ntmps137
 go_wp2_with fail
 go_region_held3 (fun w'=>w'.cell? ⟨w.heap.size,0,none⟩=some (.bool na)/\w'.cell? ⟨w.heap.size,1,none⟩=some (.slice ao la cap)/\w'.cell? ⟨w.heap.size+1,1,none⟩=some (.slice bo lb bap)) (go_keep) (
   (go_at_call 118
    refine (HP.out _ (boxw_below w _ _ _ _)).mono ?_
    rintro e w1 ⟨v1,xs,rfl,hp,hI1,hb1⟩
    have hs1:=hb1.size
    rw [boxw_size] at hs1
    obtain ⟨o1,c1,rfl,_⟩:=hI1.shape
    have hblk:=newW (by rw [boxw_size];omega) (boxw_at2 _ _ _ _ _) hb1
    have x0:=cell_of_block (o:=0) (newW (by rw [boxw_size];omega) (boxw_at0 _ _ _ _ _) hb1) rfl
    have x1:=cell_of_block (o:=1) (newW (by rw [boxw_size];omega) (boxw_at0 _ _ _ _ _) hb1) rfl
    have x2:=cell_of_block (o:=1) (newW (by rw [boxw_size];omega) (boxw_at1 _ _ _ _ _) hb1) rfl
    have hl1:w.heap.size+1<w1.heap.size:=by omega
    have hN:=HT.out _ xs _ hp (hI1.weak (Nat.zero_le _))
    have hr:=(boxw_below w _ _ _ _).trans (hb1.mono (boxw_below w _ _ _ _).size)
    have F:=finw hblk hN hr (by omega)
    have r0:=frozen_of_block (o:=0) hblk
    have r1:=frozen_of_block (o:=1) hblk
    have s0:=cell_of_block (o:=0) hblk rfl
    have s1:=cell_of_block (o:=1) hblk rfl
    have q0:=F.c0
    have q1:=F.c1
    have FN:=hid F.num
    have FB:=hid F.below
    clear F hN hr hblk
    clear hb1 hI1 hp))
 all_goals
  go_wp2_with fail
  refine bodyPost_ret (v:=.agg #[.bool (na),.slice o1 xs.length c1]) (by simp [results,Tryz.results137,go_sem,q0,q1]) rfl ⟨_,rfl,FN.out,FB.out⟩
theorem wplus_gt (w:World)(na nb:Bool)(ao bo:Option Addr)(la lb cap bap:Nat)(z:Int)(P:List Int->Prop)(hs:(na==nb)=false)
  (hS:∀ W,Below w.heap.size w W->Calls Tryz.prog 154 #[.slice ao la cap,.slice bo lb bap] W fun e w'=>e=.returned (.int .i64 (1))/\Below W.heap.size W w')
  (hP:∀ W,Below w.heap.size w W->Calls Tryz.prog 120 #[.slice ao la cap,.slice bo lb bap] W (LimPost W P))
  (hT:∀ W xs v,P xs->Lims W xs v->WhoAt W z (.agg #[.bool na,v])):
  Calls Tryz.prog 137 #[.agg #[.bool na,.slice ao la cap],.agg #[.bool nb,.slice bo lb bap]] w (WhoPost w z):=by
 have HS:=hid hS
 have HP:=hid hP
 have HT:=hid hT
 clear hP hT hS
 have ne1:¬(w.heap.size=w.heap.size+1+1):=by omega
 have ne2:¬(w.heap.size+1+1=w.heap.size):=by omega
 go_enter Tryz.func137,Tryz.ntmps137
 go_wp2_with fail
 refine (HS.out _ (boxw_below' w _ _ _ _)).mono ?_
 rintro e w0 ⟨rfl,hb0⟩
 have hs0:=hb0.size
 rw [boxw_size'] at hs0
 have b2:=newW (by rw [boxw_size'];omega) (boxw_at2' _ _ _ _ _) hb0
 have b1:=newW (by rw [boxw_size'];omega) (boxw_at1' _ _ _ _ _) hb0
 have b0:=newW (by rw [boxw_size'];omega) (boxw_at0' _ _ _ _ _) hb0
 have z0:=cell_of_block (o:=0) b0 rfl
 have z1:=cell_of_block (o:=1) b0 rfl
 have z2:=cell_of_block (o:=1) b1 rfl
 have B0:=hid ((boxw_below' w _ _ _ _).trans (hb0.mono (boxw_below' w _ _ _ _).size))
 clear hb0 b0 b1
 go_wp2_with fail
 go_region_held3 (fun w'=>w'.cell? ⟨w.heap.size,0,none⟩=some (.bool na)/\w'.cell? ⟨w.heap.size,1,none⟩=some (.slice ao la cap)/\w'.cell? ⟨w.heap.size+1,1,none⟩=some (.slice bo lb bap)) (go_keep) (
   (go_at_call 120
    refine (HP.out _ (B0.out.trans ((drewW _).mono B0.out.size))).mono ?_
    rintro e w1 ⟨v1,xs,rfl,hp,hI1,hb1'⟩
    have hb1:=undrewW hb1'
    clear hb1'
    have hs1:=hb1.size
    obtain ⟨o1,c1,rfl,_⟩:=hI1.shape
    have hblk:=newW (by omega) b2 hb1
    have x0:=(hb1.cell (p:=⟨w.heap.size,0,none⟩) (by simp only;omega)).trans z0
    have x1:=(hb1.cell (p:=⟨w.heap.size,1,none⟩) (by simp only;omega)).trans z1
    have x2:=(hb1.cell (p:=⟨w.heap.size+1,1,none⟩) (by simp only;omega)).trans z2
    have hN:=HT.out _ xs _ hp (hI1.weak (Nat.zero_le _))
    have hr:=B0.out.trans (hb1.mono B0.out.size)
    have F:=finw hblk hN hr (by omega)
    have r0:=frozen_of_block (o:=0) hblk
    have r1:=frozen_of_block (o:=1) hblk
    have s0:=cell_of_block (o:=0) hblk rfl
    have s1:=cell_of_block (o:=1) hblk rfl
    have q0:=F.c0
    have q1:=F.c1
    have FN:=hid F.num
    have FB:=hid F.below
    clear F hN hr hblk
    clear hb1 hI1 hp b2))
 all_goals
  go_wp2_with fail
  refine bodyPost_ret (v:=.agg #[.bool na,.slice o1 xs.length c1]) (by simp [results,Tryz.results137,go_sem,q0,q1]) rfl ⟨_,rfl,FN.out,FB.out⟩
theorem wplus_lt (w:World)(na nb:Bool)(ao bo:Option Addr)(la lb cap bap:Nat)(z:Int)(P:List Int->Prop)(hs:(na==nb)=false)
  (hS:∀ W,Below w.heap.size w W->Calls Tryz.prog 154 #[.slice ao la cap,.slice bo lb bap] W fun e w'=>e=.returned (.int .i64 (-1))/\Below W.heap.size W w')
  (hP:∀ W,Below w.heap.size w W->Calls Tryz.prog 120 #[.slice bo lb bap,.slice ao la cap] W (LimPost W P))
  (hT:∀ W xs v,P xs->Lims W xs v->WhoAt W z (.agg #[.bool nb,v])):
  Calls Tryz.prog 137 #[.agg #[.bool na,.slice ao la cap],.agg #[.bool nb,.slice bo lb bap]] w (WhoPost w z):=by
 have HS:=hid hS
 have HP:=hid hP
 have HT:=hid hT
 clear hP hT hS
 have ne1:¬(w.heap.size=w.heap.size+1+1):=by omega
 have ne2:¬(w.heap.size+1+1=w.heap.size):=by omega
 go_enter Tryz.func137,Tryz.ntmps137
 go_wp2_with fail
 refine (HS.out _ (boxw_below' w _ _ _ _)).mono ?_
 rintro e w0 ⟨rfl,hb0⟩
 have hs0:=hb0.size
 rw [boxw_size'] at hs0
 have b2:=newW (by rw [boxw_size'];omega) (boxw_at2' _ _ _ _ _) hb0
 have b1:=newW (by rw [boxw_size'];omega) (boxw_at1' _ _ _ _ _) hb0
 have b0:=newW (by rw [boxw_size'];omega) (boxw_at0' _ _ _ _ _) hb0
 have z0:=cell_of_block (o:=0) b1 rfl
 have z1:=cell_of_block (o:=1) b0 rfl
 have z2:=cell_of_block (o:=1) b1 rfl
 have B0:=hid ((boxw_below' w _ _ _ _).trans (hb0.mono (boxw_below' w _ _ _ _).size))
 clear hb0 b0 b1
 go_wp2_with fail
 go_region_held3 (fun w'=>w'.cell? ⟨w.heap.size+1,0,none⟩=some (.bool nb)/\w'.cell? ⟨w.heap.size,1,none⟩=some (.slice ao la cap)/\w'.cell? ⟨w.heap.size+1,1,none⟩=some (.slice bo lb bap)) (go_keep) (
   (go_at_call 120
    refine (HP.out _ (B0.out.trans ((drewW _).mono B0.out.size))).mono ?_
    rintro e w1 ⟨v1,xs,rfl,hp,hI1,hb1'⟩
    have hb1:=undrewW hb1'
    clear hb1'
    have hs1:=hb1.size
    obtain ⟨o1,c1,rfl,_⟩:=hI1.shape
    have hblk:=newW (by omega) b2 hb1
    have x0:=(hb1.cell (p:=⟨w.heap.size+1,0,none⟩) (by simp only;omega)).trans z0
    have x1:=(hb1.cell (p:=⟨w.heap.size,1,none⟩) (by simp only;omega)).trans z1
    have x2:=(hb1.cell (p:=⟨w.heap.size+1,1,none⟩) (by simp only;omega)).trans z2
    have hN:=HT.out _ xs _ hp (hI1.weak (Nat.zero_le _))
    have hr:=B0.out.trans (hb1.mono B0.out.size)
    have F:=finw hblk hN hr (by omega)
    have r0:=frozen_of_block (o:=0) hblk
    have r1:=frozen_of_block (o:=1) hblk
    have s0:=cell_of_block (o:=0) hblk rfl
    have s1:=cell_of_block (o:=1) hblk rfl
    have q0:=F.c0
    have q1:=F.c1
    have FN:=hid F.num
    have FB:=hid F.below
    clear F hN hr hblk
    clear hb1 hI1 hp b2))
 all_goals
  go_wp2_with fail
  refine bodyPost_ret (v:=.agg #[.bool nb,.slice o1 xs.length c1]) (by simp [results,Tryz.results137,go_sem,q0,q1]) rfl ⟨_,rfl,FN.out,FB.out⟩
theorem who_nil (W:World):WhoAt W 0 (.agg #[.bool false,.slice none 0 0]):=⟨[],_,rfl,LimsB.nil _ _,Nm.Good.nil _,rfl⟩
theorem wplus_eq (w:World)(na nb:Bool)(ao bo:Option Addr)(la lb cap bap:Nat)(hs:(na==nb)=false)
  (hS:∀ W,Below w.heap.size w W->Calls Tryz.prog 154 #[.slice ao la cap,.slice bo lb bap] W fun e w'=>e=.returned (.int .i64 0)/\Below W.heap.size W w'):
  Calls Tryz.prog 137 #[.agg #[.bool na,.slice ao la cap],.agg #[.bool nb,.slice bo lb bap]] w (WhoPost w 0):=by
 have HS:=hid hS
 clear hS
 have ne1:¬(w.heap.size=w.heap.size+1+1):=by omega
 have ne2:¬(w.heap.size+1+1=w.heap.size):=by omega
 go_enter Tryz.func137,Tryz.ntmps137
 go_wp2_with fail
 refine (HS.out _ (boxw_below' w _ _ _ _)).mono ?_
 rintro e w0 ⟨rfl,hb0⟩
 have hs0:=hb0.size
 rw [boxw_size'] at hs0
 have hblk:=newW (by rw [boxw_size'];omega) (boxw_at2' _ _ _ _ _) hb0
 have hr:=(boxw_below' w _ _ _ _).trans (hb0.mono (boxw_below' w _ _ _ _).size)
 have hN:=who_nil w0
 have F:=finw hblk hN hr (by omega)
 have r0:=frozen_of_block (o:=0) hblk
 have r1:=frozen_of_block (o:=1) hblk
 have s0:=cell_of_block (o:=0) hblk rfl
 have s1:=cell_of_block (o:=1) hblk rfl
 have q0:=F.c0
 have q1:=F.c1
 have FN:=hid F.num
 have FB:=hid F.below
 clear F hN hr hblk
 clear hb0
 go_wp2_with fail
 refine bodyPost_ret (v:=.agg #[.bool false,.slice none 0 0]) (by simp [results,Tryz.results137,go_sem,q0,q1]) rfl ⟨_,rfl,FN.out,FB.out⟩
theorem wlen_le {a b:List Int}(ha:Nm.Good 4294967296 a)(hb:Nm.Good 4294967296 b)(h:Nm.val 4294967296 a<=Nm.val 4294967296 b):a.length<=b.length:=by
 rcases Nat.lt_or_ge b.length a.length with h1 | h1
 ·have:=Nm.val_longer (by decide) hb.dig ha h1;omega
 ·exact h1
theorem opp {x y:Int}(hs:¬decide (x<0)=decide (y<0)):(x<0/\0<=y)\/(0<=x/\y<0):=by
 by_cases hx0:x<0
 ·refine Or.inl ⟨hx0,?_⟩
  rcases Int.lt_or_le y 0 with h | h
  ·exact absurd (by rw [decide_eq_true hx0,decide_eq_true h]) hs
  ·exact h
 ·refine Or.inr ⟨by omega,?_⟩
  rcases Int.lt_or_le y 0 with h | h
  ·exact h
  ·exact absurd (by rw [decide_eq_false hx0,decide_eq_false (by omega)]) hs
theorem wplus_any (w:World)(x y:Int)(u v:Value)(n:Nat)(hx:WhoAt w x u)(hy:WhoAt w y v)(bx:x.natAbs<2^n)(bY:y.natAbs<2^n)(hn:n<=1000000000):Calls Tryz.prog 137 #[u,v] w (WhoPost w (x+y)):=by
 obtain ⟨a,ao,cap,rfl,hI,hg,hv⟩:=hx.open
 obtain ⟨b,bo,bap,rfl,hJ,hh,hu⟩:=hy.open
 have hl:=lims_len hg hv bx
 have hk:=lims_len hh hu bY
 by_cases hs:decide (x<0)=decide (y<0)
 ·refine wplus_same w _ _ _ _ _ _ _ _ (x+y) _ hs (fun W hW=>addLimbs_any W a b _ _ (hI.below hW) (hJ.below hW) (by omega) (by omega) hg.dig hh.dig) ?_
  rintro W xs r ⟨h1,h2⟩ hr
  have e:(x<0)=(y<0):=by simpa using hs
  by_cases hx0:x<0
  ·have:y<0:=by rw [<-e];exact hx0
   exact who_of hr h1 (by rw [h2,hv,hu];omega) (by simp;omega)
  ·have:¬y<0:=by rw [<-e];exact hx0
   exact who_of hr h1 (by rw [h2,hv,hu];omega) (by simp;omega)
 ·have hs':(decide (x<0)==decide (y<0))=false:=by simpa using hs
  have SZ:∀ W,Below w.heap.size w W->Calls Tryz.prog 154 #[.slice ao a.length cap,.slice bo b.length bap] W fun e w'=>e=.returned (.int .i64 (Nm.cmp (Nm.val 4294967296 a) (Nm.val 4294967296 b)))/\Below W.heap.size W w':=fun W hW=>compareLimbs_any W a b _ _ (hI.below hW) (hJ.below hW) (by omega) hg hh
  have hopp:=opp hs
  rcases Int.lt_trichotomy (Nm.val 4294967296 a) (Nm.val 4294967296 b) with h | h | h
  ·rw [Nm.cmp_lt h] at SZ
   refine wplus_lt w _ _ _ _ _ _ _ _ (x+y) _ hs' SZ (fun W hW=>subtractLimbs_any W b a _ _ (hJ.below hW) (hI.below hW) (by omega) (wlen_le hg hh (by omega)) hh.dig hg.dig (by omega)) ?_
   rintro W xs r ⟨h1,h2⟩ hr
   rw [hv,hu] at h h2
   exact who_of hr h1 (by rw [h2];omega) (by simp;omega)
  ·rw [Nm.cmp_eq h] at SZ
   rw [hv,hu] at h
   rw [show x+y=0 by omega]
   exact wplus_eq w _ _ _ _ _ _ _ _ hs' SZ
  ·rw [Nm.cmp_gt h] at SZ
   refine wplus_gt w _ _ _ _ _ _ _ _ (x+y) _ hs' SZ (fun W hW=>subtractLimbs_any W a b _ _ (hI.below hW) (hJ.below hW) (by omega) (wlen_le hh hg (by omega)) hg.dig hh.dig (by omega)) ?_
   rintro W xs r ⟨h1,h2⟩ hr
   rw [hv,hu] at h h2
   exact who_of hr h1 (by rw [h2];omega) (by simp;omega)
open Go.RowKit
theorem isOne_any (w:World)(a:List Int)(v:Value)(ha:Lims w a v):Calls Tryz.prog 167 #[v] w fun e w'=>e=.returned (.bool (decide (a=[1])))/\w'=w:=by
 obtain ⟨ao,cap,rfl,hcap⟩:=ha.shape
 by_cases h1:a.length=1
 ·obtain ⟨x,rfl⟩:∃ x,a=[x]:=by
   match a,h1 with
   | [x],_=>exact ⟨x,rfl⟩
  obtain ⟨g,rfl,hc⟩:=ha.place (by simp)
  have x1:=hc 0 (by simp)
  have e1:Nm.at' [x] 0=x:=rfl
  rw [e1] at x1
  have e2:decide ([x]=[(1:Int)])=(x==1):=by
   by_cases h:x=1
   ·subst h;rfl
   ·simp [h]
  rw [e2]
  clear ha hc
  simp only [List.length_cons,List.length_nil,Nat.zero_add]
  go_enter Tryz.func167,Tryz.ntmps167
  go_wp2_with fail
  go_ret
  first | exact ⟨rfl,rfl⟩ | trace_state
 ·have e2:decide (a=[(1:Int)])=false:=decide_eq_false (fun h=>h1 (by rw [h];rfl))
  rw [e2]
  have h2:((a.length:Int)==1)=false:=by
   rw [beq_eq_false_iff_ne]
   omega
  clear ha
  go_enter Tryz.func167,Tryz.ntmps167
  go_wp2_with fail
  go_ret
  first | exact ⟨rfl,rfl⟩ | trace_state
theorem wtimes_core (w:World)(na nb:Bool)(ao bo:Option Addr)(la lb cap bap:Nat)(z:Int)(P:List Int->Prop)(hla:((la:Int)==0)=false)(hlb:((lb:Int)==0)=false)
  (hA:∀ W,Below w.heap.size w W->Calls Tryz.prog 167 #[.slice ao la cap] W fun e w'=>e=.returned (.bool false)/\w'=W)
  (hB:∀ W,Below w.heap.size w W->Calls Tryz.prog 167 #[.slice bo lb bap] W fun e w'=>e=.returned (.bool false)/\w'=W)
  (hP:∀ W,Below w.heap.size w W->Calls Tryz.prog 153 #[.slice ao la cap,.slice bo lb bap] W (LimPost W P))
  (hT:∀ W xs v,P xs->Lims W xs v->WhoAt W z (.agg #[.bool (!(na==nb)),v])):
  Calls Tryz.prog 136 #[.agg #[.bool na,.slice ao la cap],.agg #[.bool nb,.slice bo lb bap]] w (WhoPost w z):=by
 have HA:=hid (hA _ (boxw_below' w (.bool na) (.slice ao la cap) (.bool nb) (.slice bo lb bap)))
 have HB:=hid (hB _ (boxw_below' w (.bool na) (.slice ao la cap) (.bool nb) (.slice bo lb bap)))
 have HP:=hid (hP _ (boxw_below' w (.bool na) (.slice ao la cap) (.bool nb) (.slice bo lb bap)))
 have HT:=hid hT
 clear hP hT hA hB
 go_enter Tryz.func136,Tryz.ntmps136
 go_wp2_with fail
 refine (HA.out).mono ?_
 rintro e w0 ⟨rfl,h0⟩
 have b0:=boxw_at0' w (.bool na) (.slice ao la cap) (.bool nb) (.slice bo lb bap)
 have b1:=boxw_at1' w (.bool na) (.slice ao la cap) (.bool nb) (.slice bo lb bap)
 have b2:=boxw_at2' w (.bool na) (.slice ao la cap) (.bool nb) (.slice bo lb bap)
 have BS:=boxw_size' w (.bool na) (.slice ao la cap) (.bool nb) (.slice bo lb bap)
 have BB:=boxw_below' w (.bool na) (.slice ao la cap) (.bool nb) (.slice bo lb bap)
 have B2:=boxw_at2' w (.bool na) (.slice ao la cap) (.bool nb) (.slice bo lb bap)
 rw [<-h0] at b0 b1 b2 HB HP BS BB B2
 clear h0 HA
 have x0:=cell_of_block (o:=0) b0 rfl
 have x1:=cell_of_block (o:=1) b0 rfl
 have x2:=cell_of_block (o:=0) b1 rfl
 have x3:=cell_of_block (o:=1) b1 rfl
 have u0:=frozen_of_block (o:=0) b2
 have u1:=frozen_of_block (o:=1) b2
 have v0:=cell_of_block (o:=0) b2 rfl
 have v1':=cell_of_block (o:=1) b2 rfl
 clear b0 b1 b2
 have BB:=hid BB
 have B2:=hid B2
 go_wp2_with fail
 refine (HB.out).mono ?_
 rintro e w0' ⟨rfl,rfl⟩
 go_wp2_with fail
 refine (HP.out).mono ?_
 rintro e w1 ⟨v1,xs,rfl,hp,hI1,hb1⟩
 have hs1:=hb1.size
 rw [BS] at hs1
 obtain ⟨o1,c1,rfl,_⟩:=hI1.shape
 have hblk:=newW (by rw [BS];omega) B2.out hb1
 have hN:=HT.out _ xs _ hp (hI1.weak (Nat.zero_le _))
 have hr:=BB.out.trans (hb1.mono BB.out.size)
 have F:=finw hblk hN hr (by omega)
 have r0:=frozen_of_block (o:=0) hblk
 have r1:=frozen_of_block (o:=1) hblk
 clear x0 x1 x2 x3 u0 u1 v0 v1'
 have s0:=cell_of_block (o:=0) hblk rfl
 have s1:=cell_of_block (o:=1) hblk rfl
 have q0:=F.c0
 have q1:=F.c1
 have FN:=hid F.num
 have FB:=hid F.below
 clear F hN hr hblk
 clear hb1 hI1 hp
 go_wp2_with fail
 refine bodyPost_ret (v:=.agg #[.bool (!(na==nb)),.slice o1 xs.length c1]) (by simp [results,Tryz.results136,go_sem,q0,q1]) rfl ⟨_,rfl,FN.out,FB.out⟩
theorem wtimes_one (w:World)(na nb:Bool)(ao bo:Option Addr)(la lb cap bap:Nat)(z:Int)(hla:((la:Int)==0)=false)(hlb:((lb:Int)==0)=false)
  (hA:∀ W,Below w.heap.size w W->Calls Tryz.prog 167 #[.slice ao la cap] W fun e w'=>e=.returned (.bool true)/\w'=W)
  (hT:∀ W,Below w.heap.size w W->WhoAt W z (.agg #[.bool (!(na==nb)),.slice bo lb bap])):
  Calls Tryz.prog 136 #[.agg #[.bool na,.slice ao la cap],.agg #[.bool nb,.slice bo lb bap]] w (WhoPost w z):=by
 have HA:=hid (hA _ (boxw_below' w (.bool na) (.slice ao la cap) (.bool nb) (.slice bo lb bap)))
 have HT:=hid hT
 have F:=finw (boxw_at2' w (.bool na) (.slice ao la cap) (.bool nb) (.slice bo lb bap)) (hT _ (boxw_below' w _ _ _ _)) (boxw_below' w _ _ _ _) (by omega)
 have q0:=F.c0
 have q1:=F.c1
 have FN:=hid F.num
 have FB:=hid F.below
 clear hT hA F
 go_enter Tryz.func136,Tryz.ntmps136
 go_wp2_with fail
 refine (HA.out).mono ?_
 rintro e w0 ⟨rfl,h0⟩
 have b0:=boxw_at0' w (.bool na) (.slice ao la cap) (.bool nb) (.slice bo lb bap)
 have b1:=boxw_at1' w (.bool na) (.slice ao la cap) (.bool nb) (.slice bo lb bap)
 have b2:=boxw_at2' w (.bool na) (.slice ao la cap) (.bool nb) (.slice bo lb bap)
 rw [<-h0] at b0 b1 b2 q0 q1 FN FB
 clear h0 HA
 have x0:=cell_of_block (o:=0) b0 rfl
 have x1:=cell_of_block (o:=1) b0 rfl
 have x2:=cell_of_block (o:=0) b1 rfl
 have x3:=cell_of_block (o:=1) b1 rfl
 have u0:=frozen_of_block (o:=0) b2
 have u1:=frozen_of_block (o:=1) b2
 have v0:=cell_of_block (o:=0) b2 rfl
 have v1':=cell_of_block (o:=1) b2 rfl
 clear b0 b1 b2
 go_wp2_with fail
 refine bodyPost_ret (v:=.agg #[.bool (!(na==nb)),.slice bo lb bap]) (by simp [results,Tryz.results136,go_sem,q0,q1]) rfl ⟨_,rfl,FN.out,FB.out⟩
theorem wtimes_two (w:World)(na nb:Bool)(ao bo:Option Addr)(la lb cap bap:Nat)(z:Int)(hla:((la:Int)==0)=false)(hlb:((lb:Int)==0)=false)
  (hA:∀ W,Below w.heap.size w W->Calls Tryz.prog 167 #[.slice ao la cap] W fun e w'=>e=.returned (.bool false)/\w'=W)
  (hB:∀ W,Below w.heap.size w W->Calls Tryz.prog 167 #[.slice bo lb bap] W fun e w'=>e=.returned (.bool true)/\w'=W)
  (hT:∀ W,Below w.heap.size w W->WhoAt W z (.agg #[.bool (!(na==nb)),.slice ao la cap])):
  Calls Tryz.prog 136 #[.agg #[.bool na,.slice ao la cap],.agg #[.bool nb,.slice bo lb bap]] w (WhoPost w z):=by
 have HA:=hid (hA _ (boxw_below' w (.bool na) (.slice ao la cap) (.bool nb) (.slice bo lb bap)))
 have HB:=hid (hB _ (boxw_below' w (.bool na) (.slice ao la cap) (.bool nb) (.slice bo lb bap)))
 have F:=finw (boxw_at2' w (.bool na) (.slice ao la cap) (.bool nb) (.slice bo lb bap)) (hT _ (boxw_below' w _ _ _ _)) (boxw_below' w _ _ _ _) (by omega)
 have q0:=F.c0
 have q1:=F.c1
 have FN:=hid F.num
 have FB:=hid F.below
 clear hT hA hB F
 go_enter Tryz.func136,Tryz.ntmps136
 go_wp2_with fail
 refine (HA.out).mono ?_
 rintro e w0 ⟨rfl,h0⟩
 have b0:=boxw_at0' w (.bool na) (.slice ao la cap) (.bool nb) (.slice bo lb bap)
 have b1:=boxw_at1' w (.bool na) (.slice ao la cap) (.bool nb) (.slice bo lb bap)
 have b2:=boxw_at2' w (.bool na) (.slice ao la cap) (.bool nb) (.slice bo lb bap)
 rw [<-h0] at b0 b1 b2 HB q0 q1 FN FB
 clear h0 HA
 have x0:=cell_of_block (o:=0) b0 rfl
 have x1:=cell_of_block (o:=1) b0 rfl
 have x2:=cell_of_block (o:=0) b1 rfl
 have x3:=cell_of_block (o:=1) b1 rfl
 have u0:=frozen_of_block (o:=0) b2
 have u1:=frozen_of_block (o:=1) b2
 have v0:=cell_of_block (o:=0) b2 rfl
 have v1':=cell_of_block (o:=1) b2 rfl
 clear b0 b1 b2
 go_wp2_with fail
 refine (HB.out).mono ?_
 rintro e w0' ⟨rfl,rfl⟩
 go_wp2_with fail
 refine bodyPost_ret (v:=.agg #[.bool (!(na==nb)),.slice ao la cap]) (by simp [results,Tryz.results136,go_sem,q0,q1]) rfl ⟨_,rfl,FN.out,FB.out⟩
theorem wtimes_zero (w:World)(na nb:Bool)(ao bo:Option Addr)(la lb cap bap:Nat)(h:la=0\/(¬la=0/\lb=0)):
  Calls Tryz.prog 136 #[.agg #[.bool na,.slice ao la cap],.agg #[.bool nb,.slice bo lb bap]] w (WhoPost w 0):=by
 rcases h with rfl | ⟨h1,rfl⟩
 ·go_enter Tryz.func136,Tryz.ntmps136
  go_wp2_with fail
  refine bodyPost_ret (v:=.agg #[.bool false,.slice none 0 0]) (by simp [results,Tryz.results136,go_sem]) rfl ⟨_,rfl,who_nil _,boxw_below' w _ _ _ _⟩
 ·have h2:((la:Int)==0)=false:=by simpa using h1
  go_enter Tryz.func136,Tryz.ntmps136
  go_wp2_with fail
  refine bodyPost_ret (v:=.agg #[.bool false,.slice none 0 0]) (by simp [results,Tryz.results136,go_sem]) rfl ⟨_,rfl,who_nil _,boxw_below' w _ _ _ _⟩
theorem wtimes_any (w:World)(x y:Int)(u v:Value)(n:Nat)(hx:WhoAt w x u)(hy:WhoAt w y v)(bx:x.natAbs<2^n)(bY:y.natAbs<2^n)(hn:n<=1000000000):Calls Tryz.prog 136 #[u,v] w (WhoPost w (x*y)):=by
 obtain ⟨a,ao,cap,rfl,hI,hg,hv⟩:=hx.open
 obtain ⟨b,bo,bap,rfl,hJ,hh,hu⟩:=hy.open
 have hl:=lims_len hg hv bx
 have hk:=lims_len hh hu bY
 have za:=who_zero hg hv
 have zb:=who_zero hh hu
 by_cases h0:a.length=0\/(¬a.length=0/\b.length=0)
 ·have e:x*y=0:=by
   rcases h0 with h | ⟨_,h⟩
   ·rw [za.1 (List.eq_nil_of_length_eq_zero h),Int.zero_mul]
   ·rw [zb.1 (List.eq_nil_of_length_eq_zero h),Int.mul_zero]
  rw [e]
  exact wtimes_zero w _ _ _ _ _ _ _ _ h0
 ·have h1:¬a.length=0:=fun h=>h0 (Or.inl h)
  have h2:¬b.length=0:=fun h=>h0 (Or.inr ⟨h1,h⟩)
  have hx0:x≠0:=fun h=>h1 (by rw [za.2 h];rfl)
  have hy0:y≠0:=fun h=>h2 (by rw [zb.2 h];rfl)
  have sg:(!(decide (x<0)==decide (y<0)))=decide (x*y<0):=by
   rcases Int.lt_or_gt_of_ne hx0 with hx1 | hx1
   ·rcases Int.lt_or_gt_of_ne hy0 with hy1 | hy1
    ·have:=Int.mul_pos_of_neg_of_neg hx1 hy1
     simp [hx1,hy1];omega
    ·have:=Int.mul_neg_of_neg_of_pos hx1 hy1
     simp [hx1,show ¬y<0 by omega];omega
   ·rcases Int.lt_or_gt_of_ne hy0 with hy1 | hy1
    ·have:=Int.mul_neg_of_pos_of_neg hx1 hy1
     simp [hy1,show ¬x<0 by omega];omega
    ·have:=Int.mul_pos hx1 hy1
     simp [show ¬y<0 by omega,show ¬x<0 by omega];omega
  have key:∀ W (ds:List Int) r,Nm.Good 4294967296 ds->Nm.val 4294967296 ds=((x*y).natAbs:Int)->Lims W ds r->WhoAt W (x*y) (.agg #[.bool (!(decide (x<0)==decide (y<0))),r]):=fun W ds r g1 g2 hr=>who_of hr g1 g2 sg
  by_cases ha1:a=[1]
  ·have hx1:(x.natAbs:Int)=1:=by rw [<-hv,ha1];rfl
   exact wtimes_one w _ _ _ _ _ _ _ _ (x*y) (by simpa using h1) (by simpa using h2) (fun W hW=>(isOne_any W a _ (hI.below hW)).mono fun e w' ⟨g1,g2⟩=>⟨by rw [g1,decide_eq_true ha1],g2⟩) fun W hW=>key W b _ hh (by rw [hu,Int.natAbs_mul];simp [show x.natAbs=1 by omega]) (hJ.below hW)
  ·by_cases hb1:b=[1]
   ·have hy1:(y.natAbs:Int)=1:=by rw [<-hu,hb1];rfl
    exact wtimes_two w _ _ _ _ _ _ _ _ (x*y) (by simpa using h1) (by simpa using h2) (fun W hW=>(isOne_any W a _ (hI.below hW)).mono fun e w' ⟨g1,g2⟩=>⟨by rw [g1,decide_eq_false ha1],g2⟩) (fun W hW=>(isOne_any W b _ (hJ.below hW)).mono fun e w' ⟨g1,g2⟩=>⟨by rw [g1,decide_eq_true hb1],g2⟩) fun W hW=>key W a _ hg (by rw [hv,Int.natAbs_mul];simp [show y.natAbs=1 by omega]) (hI.below hW)
   ·refine wtimes_core w _ _ _ _ _ _ _ _ (x*y) _ (by simpa using h1) (by simpa using h2) (fun W hW=>(isOne_any W a _ (hI.below hW)).mono fun e w' ⟨g1,g2⟩=>⟨by rw [g1,decide_eq_false ha1],g2⟩) (fun W hW=>(isOne_any W b _ (hJ.below hW)).mono fun e w' ⟨g1,g2⟩=>⟨by rw [g1,decide_eq_false hb1],g2⟩) (fun W hW=>multiplyLimbs_any W a b _ _ (hI.below hW) (hJ.below hW) (by omega) (by omega) hg.dig hh.dig) ?_
    rintro W xs r ⟨g1,g2⟩ hr
    exact key W xs r g1 (by rw [g2,hv,hu,Int.natAbs_mul];simp) hr
theorem wminus_core (w:World)(na nb:Bool)(ao bo:Option Addr)(la lb cap bap:Nat)(y z:Int)
  (hM:∀ W,Below w.heap.size w W->Calls Tryz.prog 123 #[.agg #[.bool nb,.slice bo lb bap]] W (WhoPost W y))
  (hT:∀ W v,Below w.heap.size w W->WhoAt W y v->Calls Tryz.prog 137 #[.agg #[.bool na,.slice ao la cap],v] W (WhoPost W z)):
  Calls Tryz.prog 146 #[.agg #[.bool na,.slice ao la cap],.agg #[.bool nb,.slice bo lb bap]] w (WhoPost w z):=by
 have HP:=hid hM
 have HT:=hid hT
 clear hM hT
 have ne1:¬(w.heap.size=w.heap.size+1+1):=by omega
 have ne2:¬(w.heap.size+1+1=w.heap.size):=by omega
 go_enter Tryz.func146,Tryz.ntmps146
 go_wp2_with fail
 go_region_held3 (fun w'=>w'.cell? ⟨w.heap.size,0,none⟩=some (.bool na)/\w'.cell? ⟨w.heap.size,1,none⟩=some (.slice ao la cap)/\w'.cell? ⟨w.heap.size+1,0,none⟩=some (.bool nb)/\w'.cell? ⟨w.heap.size+1,1,none⟩=some (.slice bo lb bap)) (go_keep) (first
  | (go_at_call 123
     refine (HP.out _ (boxw_below w _ _ _ _)).mono ?_
     rintro e w1 ⟨v1,rfl,hN1,hb1⟩
     have hs1:=hb1.size
     rw [boxw_size] at hs1
     have b2:=newW (by rw [boxw_size];omega) (boxw_at2 _ _ _ _ _) hb1
     have x0:=cell_of_block (o:=0) (newW (by rw [boxw_size];omega) (boxw_at0 _ _ _ _ _) hb1) rfl
     have x1:=cell_of_block (o:=1) (newW (by rw [boxw_size];omega) (boxw_at0 _ _ _ _ _) hb1) rfl
     have x2:=cell_of_block (o:=0) (newW (by rw [boxw_size];omega) (boxw_at1 _ _ _ _ _) hb1) rfl
     have x3:=cell_of_block (o:=1) (newW (by rw [boxw_size];omega) (boxw_at1 _ _ _ _ _) hb1) rfl
     have hl1:w.heap.size+1<w1.heap.size:=by omega
     have B1:=hid ((boxw_below w _ _ _ _).trans (hb1.mono (boxw_below w _ _ _ _).size))
     clear hb1)
  | (go_at_call 137
     refine (HT.out _ _ B1.out hN1).mono ?_
     rintro e w2 ⟨r,rfl,hN,hb2⟩
     have hr:=B1.out.trans (hb2.mono B1.out.size)
     have hblk:=newW (by omega) b2 hb2
     have hs2:=hb2.size
     have y0:=(hb2.cell (p:=⟨w.heap.size,0,none⟩) (by simp only;omega)).trans x0
     have y1:=(hb2.cell (p:=⟨w.heap.size,1,none⟩) (by simp only;omega)).trans x1
     have y2:=(hb2.cell (p:=⟨w.heap.size+1,0,none⟩) (by simp only;omega)).trans x2
     have y3:=(hb2.cell (p:=⟨w.heap.size+1,1,none⟩) (by simp only;omega)).trans x3
     obtain ⟨ds',ao',cap',rfl,_⟩:=hN.open
     have F:=finw hblk hN hr (by omega)
     have r0:=frozen_of_block (o:=0) hblk
     have r1:=frozen_of_block (o:=1) hblk
     have s0:=cell_of_block (o:=0) hblk rfl
     have s1:=cell_of_block (o:=1) hblk rfl
     have q0:=F.c0
     have q1:=F.c1
     have FN:=hid F.num
     have FB:=hid F.below
     clear F hN hr hblk
     clear hb2 b2 B1 hN1
     generalize decide (z<0)=nc at *))
 all_goals
  go_wp2_with fail
  refine bodyPost_ret (v:=.agg #[.bool nc,.slice ao' ds'.length cap']) (by simp [results,Tryz.results146,go_sem,q0,q1]) rfl ⟨_,rfl,FN.out,FB.out⟩
theorem wminus_any (w:World)(x y:Int)(u v:Value)(n:Nat)(hx:WhoAt w x u)(hy:WhoAt w y v)(bx:x.natAbs<2^n)(bY:y.natAbs<2^n)(hn:n<=1000000000):Calls Tryz.prog 146 #[u,v] w (WhoPost w (x-y)):=by
 obtain ⟨a,ao,cap,rfl,_⟩:=hx.open
 obtain ⟨b,bo,bap,rfl,_⟩:=hy.open
 exact wminus_core w _ _ _ _ _ _ _ _ (-y) (x-y) (fun W hW=>wneg_any W y _ (hy.below hW)) (fun W r hW hr=>wplus_any W x (-y) _ _ n (hx.below hW) hr bx (by rwa [Int.natAbs_neg]) hn)
theorem wcompare_any (w:World)(x y:Int)(u v:Value)(n:Nat)(hx:WhoAt w x u)(hy:WhoAt w y v)(bx:x.natAbs<2^n)(bY:y.natAbs<2^n)(hn:n<=1000000000):Calls Tryz.prog 122 #[u,v] w fun e w'=>e=.returned (.int .i64 (Nm.cmp x y))/\Below w.heap.size w w':=by
 obtain ⟨a,ao,cap,rfl,hI,hg,hv⟩:=hx.open
 obtain ⟨b,bo,bap,rfl,hJ,hh,hu⟩:=hy.open
 have hl:=lims_len hg hv bx
 have hk:=lims_len hh hu bY
 have hb2:∀ o o',Below w.heap.size w ((w.alloc o).alloc o'):=fun o o'=>belowW (belowW (Below.refl _ _) (Nat.le_refl _) _) (by simp) _
 have C1:=hid (fun W hW=>compareLimbs_any W a b _ _ (hI.below hW) (hJ.below hW) (by omega) hg hh)
 have C2:=hid (fun W hW=>compareLimbs_any W b a _ _ (hJ.below hW) (hI.below hW) (by omega) hh hg)
 rw [hv,hu] at C1 C2
 have HB2:=hid hb2
 clear hI hJ hg hh hv hu hx hy bx bY hb2 hl hk
 by_cases hx0:x<0
 ·by_cases hy0:y<0
  ·have e:Nm.cmp ((y.natAbs:Nat):Int) ((x.natAbs:Nat):Int)=Nm.cmp x y:=by
    rcases Int.lt_trichotomy x y with h | h | h
    ·rw [Nm.cmp_lt h,Nm.cmp_lt (by omega)]
    ·rw [Nm.cmp_eq h,Nm.cmp_eq (by omega)]
    ·rw [Nm.cmp_gt h,Nm.cmp_gt (by omega)]
   rw [e] at C2
   rw [decide_eq_true hx0,decide_eq_true hy0]
   clear e
   generalize Nm.cmp x y=c at*
   go_enter Tryz.func122,Tryz.ntmps122
   go_wp2_with fail
   refine (C2.out _ (HB2.out _ _)).mono ?_
   rintro e w1 ⟨rfl,hb1⟩
   go_wp2_with fail
   go_ret
   exact ⟨rfl,(HB2.out _ _).trans (hb1.mono (HB2.out _ _).size)⟩
  ·rw [decide_eq_true hx0,decide_eq_false hy0,Nm.cmp_lt (show x<y by omega)]
   go_enter Tryz.func122,Tryz.ntmps122
   go_wp2_with fail
   go_ret
   exact ⟨rfl,HB2.out _ _⟩
 ·by_cases hy0:y<0
  ·rw [decide_eq_false hx0,decide_eq_true hy0,Nm.cmp_gt (show y<x by omega)]
   go_enter Tryz.func122,Tryz.ntmps122
   go_wp2_with fail
   go_ret
   exact ⟨rfl,HB2.out _ _⟩
  ·rw [show ((x.natAbs:Nat):Int)=x by omega,show ((y.natAbs:Nat):Int)=y by omega] at C1
   rw [decide_eq_false hx0,decide_eq_false hy0]
   generalize Nm.cmp x y=c at*
   go_enter Tryz.func122,Tryz.ntmps122
   go_wp2_with fail
   refine (C1.out _ (HB2.out _ _)).mono ?_
   rintro e w1 ⟨rfl,hb1⟩
   go_wp2_with fail
   go_ret
   exact ⟨rfl,(HB2.out _ _).trans (hb1.mono (HB2.out _ _).size)⟩
open Go.RowKit
def Nm.dn (a:List Int)(wh p t:Nat):Int:=((Nm.at' a (t+wh)+Nm.at' a (t+wh+1)*4294967296)/2^p)%4294967296
theorem Nm.at_ext:∀ {a b:List Int},a.length=b.length->(∀ t,t<a.length->Nm.at' a t=Nm.at' b t)->a=b:=by
 intro a b hl h
 refine List.ext_getElem hl ?_
 intro t h1 h2
 have:=h t h1
 unfold Nm.at' at this
 rw [List.getD_eq_getElem?_getD,List.getD_eq_getElem?_getD,List.getElem?_eq_getElem h1,List.getElem?_eq_getElem h2] at this
 exact this
theorem Nm.at_drop (a:List Int)(n t:Nat):Nm.at' (a.drop n) t=Nm.at' a (t+n):=by
 unfold Nm.at'
 simp [List.getD,List.getElem?_drop,Nat.add_comm]
def Nm.dl (p:Nat):List Int->List Int
 | []=>[]
 | x::r=>((x+Nm.at' r 0*4294967296)/2^p)%4294967296::Nm.dl p r
theorem Nm.dl_len (p:Nat):∀ l,(Nm.dl p l).length=l.length:=by
 intro l
 induction l with
 | nil=>rfl
 | cons x r ih=>simp [Nm.dl,ih]
theorem Nm.dl_at (p:Nat):∀ l t,t<l.length->Nm.at' (Nm.dl p l) t=((Nm.at' l t+Nm.at' l (t+1)*4294967296)/2^p)%4294967296:=by
 intro l
 induction l with
 | nil=>intro t h;simp at h
 | cons x r ih=>
  intro t h
  cases t with
  | zero=>rfl
  | succ t=>exact ih t (by simpa using h)
theorem Nm.split_low {l:List Int}(hl:Nm.Dig 4294967296 l):∃ V',Nm.val 4294967296 l=Nm.at' l 0+4294967296*V':=by
 cases l with
 | nil=>exact ⟨0,rfl⟩
 | cons x r=>exact ⟨Nm.val 4294967296 r,rfl⟩
theorem Nm.dl_step {x f V' D E:Int}(hD:0<D)(hE:0<E)(hW:D*E=4294967296)(x0:0<=x)(x1:x<4294967296):
  (x+f*4294967296)/D%4294967296+4294967296*((f+4294967296*V')/D)=(x+4294967296*(f+4294967296*V'))/D:=by
 have e1:(x+f*4294967296)/D=x/D+E*f:=by
  rw [show f*4294967296=(E*f)*D by rw [<-hW];grind,Int.add_mul_ediv_right _ _ (by omega)]
 have e2:(x+4294967296*(f+4294967296*V'))/D=x/D+E*(f+4294967296*V'):=by
  rw [show 4294967296*(f+4294967296*V')=(E*(f+4294967296*V'))*D by rw [<-hW];grind,Int.add_mul_ediv_right _ _ (by omega)]
 have e3:(f+4294967296*V')/D=f/D+E*V':=by
  rw [show 4294967296*V'=(E*V')*D by rw [<-hW];grind,Int.add_mul_ediv_right _ _ (by omega)]
 rw [e1,e2,e3]
 have h1:=Int.emod_add_mul_ediv f D
 have h2:=Int.emod_nonneg f (show D≠0 by omega)
 have h3:=Int.emod_lt_of_pos f hD
 have hx0:0<=x/D:=Int.ediv_nonneg x0 (by omega)
 have hx1:x/D<E:=Int.ediv_lt_of_lt_mul hD (by rw [Int.mul_comm,hW];exact x1)
 generalize f%D=h at*
 generalize f/D=g at*
 generalize x/D=q at*
 have e4:(q+E*f)%4294967296=q+E*h:=by
  have:q+E*f=(q+E*h)+g*4294967296:=by rw [<-h1,<-hW];grind
  rw [this,Int.add_mul_emod_self_right]
  refine Int.emod_eq_of_lt (Int.add_nonneg hx0 (Int.mul_nonneg (by omega) h2)) ?_
  have:E*(h+1)<=E*D:=Int.mul_le_mul_of_nonneg_left (by omega) (by omega)
  rw [Int.mul_comm E D,hW,Int.mul_add,Int.mul_one] at this
  omega
 rw [e4,<-h1]
 grind
theorem Nm.dl_val {p:Nat}(hp:p<32):∀ l,Nm.Dig 4294967296 l->Nm.val 4294967296 (Nm.dl p l)=Nm.val 4294967296 l/2^p:=by
 have hD:(0:Int)<2^p:=Nm.pow_pos' (by decide) p
 have hE:(0:Int)<2^(32-p):=Nm.pow_pos' (by decide) _
 have hW:(2:Int)^p*2^(32-p)=4294967296:=by rw [<-Int.pow_add,show p+(32-p)=32 by omega];rfl
 intro l
 induction l with
 | nil=>intro _;simp [Nm.dl,Nm.val]
 | cons x r ih=>
  intro h
  have hr:Nm.Dig 4294967296 r:=fun d hd=>h d (List.mem_cons_of_mem _ hd)
  have hx:=h x List.mem_cons_self
  obtain ⟨V',hV⟩:=Nm.split_low hr
  rw [Nm.dl,Nm.val,ih hr,Nm.val,hV]
  exact Nm.dl_step hD hE hW hx.1 hx.2
theorem Nm.val_drop_div {B:Int}(hB:0<B)(l:List Int)(h:Nm.Dig B l)(n:Nat):Nm.val B (l.drop n)=Nm.val B l/B^n:=by
 have hP:=Nm.pow_pos' hB n
 by_cases hn:n<=l.length
 ·have e:Nm.val B l=Nm.val B (l.take n)+Nm.val B (l.drop n)*B^n:=by
   conv=>lhs;rw [<-List.take_append_drop n l,Nm.val_append,List.length_take,Nat.min_eq_left hn]
   rw [Int.mul_comm]
  have h1:=Nm.val_lo hB (h.take n)
  have h2:=Nm.val_hi hB (h.take n)
  rw [List.length_take,Nat.min_eq_left hn] at h2
  rw [e,Int.add_mul_ediv_right _ _ (by omega),Int.ediv_eq_zero_of_lt h1 h2]
  omega
 ·rw [List.drop_eq_nil_of_le (by omega)]
  have h1:=Nm.val_lo hB h
  have h2:=Nm.val_hi hB h
  have h3:=Nm.pow_mono (B:=B) (by omega) (show l.length<=n by omega)
  rw [Int.ediv_eq_zero_of_lt h1 (by omega)]
  rfl
theorem Nm.down_val {a out:List Int}{wh p:Nat}(hp:p<32)(ha:Nm.Dig 4294967296 a)(hl:out.length=a.length-wh)(h:∀ t,t<a.length-wh->Nm.at' out t=Nm.dn a wh p t):Nm.val 4294967296 out=Nm.val 4294967296 a/2^(32*wh+p):=by
 have e:out=Nm.dl p (a.drop wh):=by
  refine Nm.at_ext (by rw [Nm.dl_len,List.length_drop];exact hl) ?_
  intro t ht
  rw [Nm.dl_at p _ t (by rw [List.length_drop];omega),h t (by omega),Nm.at_drop,Nm.at_drop]
  unfold Nm.dn
  rw [show t+1+wh=t+wh+1 by omega]
 have hdd:Nm.Dig 4294967296 (a.drop wh):=fun d hd=>ha d (List.mem_of_mem_drop hd)
 rw [e,Nm.dl_val hp _ hdd,Nm.val_drop_div (by decide) a ha,Int.pow_add,Int.pow_mul,show (2:Int)^32=4294967296 from rfl,Int.ediv_ediv_of_nonneg (Int.le_of_lt (Nm.pow_pos' (by decide) _))]
def downRel (w:World)(a:List Int)(wh p:Nat)(i:Value)(wr:World):Prop:=
 ∃ (k:Nat) (out:List Int),i=.int .i64 k/\k<=a.length-wh/\LBlk wr w.heap.size out/\out.length=a.length-wh/\Nm.Dig 4294967296 out/\Below w.heap.size w wr/\∀ t,t<k->Nm.at' out t=Nm.dn a wh p t
theorem shiftDown_core (w:World)(a:List Int)(ao:Option Addr)(cap wh p:Nat)(ha:Lims w a (.slice ao a.length cap))(hal:a.length<=10000000000)(ga:Nm.Dig 4294967296 a)(hp:p<32)(hwh:wh<a.length)(bits:Int)(hb:bits=32*wh+p):
  Calls Tryz.prog 155 #[.slice ao a.length cap,.int .i64 bits] w (LimPost w fun xs=>Nm.Good 4294967296 xs/\Nm.val 4294967296 xs=Nm.val 4294967296 a/2^(32*wh+p)):=by
 have hmk:=run_make_row' (P:=Tryz.prog) 78 142 (.int .u32 0) 4 Tryz.underlying78 infoU rfl .i64 .i64 (a.length-wh) (by omega) (by omega)
 rw [show ((a.length-wh:Nat):Int)=(a.length:Int)-wh by omega] at hmk
 have HA:=hid ha
 have GA:=hid ga
 have e1:bits/32=wh:=by omega
 have e2:bits%32=p:=by omega
 have e3:¬bits<0:=by omega
 have e4:¬(a.length:Int)<=wh:=by omega
 have e5:0<=bits:=by omega
 have e6:bits<=400000000000:=by omega
 clear ha ga hb
 go_enter Tryz.func155,Tryz.ntmps155
 go_wp2_with fail
 go_loopw [8] (fun i wr=>downRel w a wh p i wr) (fun i _=>a.length-wh-(intOf i).toNat)
 case atStart=>exact ⟨0,List.replicate (a.length-wh) 0,rfl,Nat.zero_le _,LBlk.made w _,by simp,Nm.Dig.zeros (by decide) _,belowW (Below.refl _ _) (Nat.le_refl _) _,fun t h=>by omega⟩
 case round=>
  obtain ⟨k,out,rfl,hk,hblk,hlen,hdig,hbel,hval⟩:=hrel
  obtain ⟨g,rfl,_⟩:=HA.out.place (by omega)
  by_cases hkn:(k:Int)<(a.length:Int)-wh
  ·have k1:=hblk.cell k (by omega)
   have k2:=hblk.frozen k
   have x1:=(HA.out.below hbel).cellG (k+wh) (by omega)
   have i1:(k:Int)+wh<(a.length:Int):=by omega
   have i0:(0:Int)<=(k:Int)+wh:=by omega
   have i2:((k:Int)+wh).toNat=k+wh:=by omega
   have a0:=GA.out.at' (by decide) (k+wh)
   have b0:=GA.out.at' (by decide) (k+wh+1)
   have REL:Hid (∀ X,X=Nm.dn a wh p k->downRel w a wh p (.int .i64 ((k:Int)+1)) (wr.setCell ⟨w.heap.size,k,none⟩ (.int .u32 X))):=by
    rintro X rfl
    refine ⟨k+1,out.set k (Nm.dn a wh p k),by simp,by omega,hblk.set _ _,by simpa using hlen,hdig.set _ (by unfold Nm.dn;omega) (by unfold Nm.dn;omega),hbel.setCell (by simp) _,?_⟩
    intro t ht
    by_cases htk:t=k
    ·subst htk
     unfold Nm.at'
     simp [List.getD,show t<out.length by omega]
    ·rw [Nm.at_set_ne (by omega)]
     exact hval t (by omega)
   have HDN:Hid (Nm.dn a wh p k=((Nm.at' a (k+wh)+Nm.at' a (k+wh+1)*4294967296)/2^p)%4294967296):=rfl
   by_cases hl:(k:Int)+wh+1<a.length
   ·have x2:=(HA.out.below hbel).cellG (k+wh+1) (by omega)
    have i3:((k:Int)+wh+1).toNat=k+wh+1:=by omega
    clear hblk hlen hdig hbel hval
    generalize Nm.at' a (k+wh)=x at*
    generalize Nm.at' a (k+wh+1)=y at*
    generalize Nm.at' out k=o at*
    obtain ⟨a1,a2⟩:=a0
    obtain ⟨b1,b2⟩:=b0
    go_wp2_with fail
    go_roundw
    case rel=>exact REL.out _ HDN.out.symm
    case measure=>simp [intOf];omega
   ·have e0:=Nm.at_noneW (xs:=a) (i:=k+wh+1) (by omega)
    rw [e0] at HDN
    have HDN2:Hid (Nm.dn a wh p k=Nm.at' a (k+wh)/2^p%4294967296):=by show _=_;rw [HDN.out,Int.zero_mul,Int.add_zero]
    clear hblk hlen hdig hbel hval e0 b0 HDN
    generalize Nm.at' a (k+wh)=x at*
    generalize Nm.at' out k=o at*
    obtain ⟨a1,a2⟩:=a0
    go_wp2_with fail
    go_roundw
    case rel=>exact REL.out _ HDN2.out.symm
    case measure=>simp [intOf];omega
  ·obtain rfl:k=a.length-wh:=by omega
   have HE:=hid (Nm.down_val hp GA.out hlen hval)
   have US:=hid (used_any wr out _ 0 (hblk.lims (by omega)) (by omega))
   rw [hlen] at US
   have hsl:=Nm.strip_len out
   rw [hlen] at hsl
   have HL:=hid (hblk.used (B:=w.heap.size) (by omega) (Nat.le_refl _))
   rw [hlen] at HL
   have HD:=hid hdig
   have HBEL:=hid hbel
   clear hval hlen hdig hbel hblk
   generalize hn:(Nm.strip out).length=n at*
   clear hn
   go_wp2_with fail
   refine (US.out).mono ?_
   rintro e w1 ⟨rfl,rfl⟩
   go_wp2_with fail
   go_ret
   exact ⟨_,Nm.strip out,rfl,⟨Nm.good_strip HD.out,by rw [Nm.val_strip,HE.out]⟩,HL.out,HBEL.out⟩
theorem shiftDown_zero (w:World)(n:Nat)(ao:Option Addr)(cap:Nat)(bits:Int)(h0:0<=bits)(h1:bits<=1000000000000)(hb:(n:Int)<=bits/32):
  Calls Tryz.prog 155 #[.slice ao n cap,.int .i64 bits] w (LimPost w fun xs=>xs=[]):=by
 have e3:¬bits<0:=by omega
 go_enter Tryz.func155,Tryz.ntmps155
 go_wp2_with fail
 go_ret
 exact ⟨_,[],rfl,rfl,⟨rfl,Or.inr ⟨w.heap.size,0,#[],rfl,Nat.le_refl _,at_newW _ _,Nat.le_refl _,by decide,rfl,rfl⟩⟩,belowW (Below.refl _ _) (Nat.le_refl _) _⟩
theorem shiftDown_any (w:World)(a:List Int)(v:Value)(bits:Nat)(ha:Lims w a v)(hal:a.length<=10000000000)(ga:Nm.Dig 4294967296 a)(hbb:bits<=1000000000000):
  Calls Tryz.prog 155 #[v,.int .i64 bits] w (LimPost w fun xs=>Nm.Good 4294967296 xs/\Nm.val 4294967296 xs=Nm.val 4294967296 a/2^bits):=by
 obtain ⟨ao,cap,rfl,_⟩:=ha.shape
 by_cases h:bits/32<a.length
 ·have:=shiftDown_core w a ao cap (bits/32) (bits%32) ha hal ga (by omega) h bits (by omega)
  rw [show 32*(bits/32)+bits%32=bits by omega] at this
  exact this
 ·refine (shiftDown_zero w a.length ao cap bits (by omega) (by omega) (by omega)).mono ?_
  rintro e w' ⟨v,xs,rfl,rfl,hI,hb⟩
  refine ⟨v,[],rfl,⟨Nm.Good.nil _,?_⟩,hI,hb⟩
  have h1:=Nm.val_lo (by decide) ga
  have h2:=Nm.val_hi (by decide) ga
  have h3:(4294967296:Int)^a.length<=2^bits:=by
   rw [show (4294967296:Int)=2^32 from rfl,<-Int.pow_mul]
   exact Nm.pow_mono (by decide) (by omega)
  rw [Int.ediv_eq_zero_of_lt h1 (by omega)]
  rfl
open Go.RowKit
def Nm.half (z:Int)(n:Nat):Int:=if z<0 then -((z.natAbs:Int)/2^n) else (z.natAbs:Int)/2^n
theorem halved_core (w:World)(nb:Bool)(ao:Option Addr)(la cap:Nat)(z:Int)(P:List Int->Prop)(times:Int)(ht:1<=times)
  (hP:∀ W,Below w.heap.size w W->Calls Tryz.prog 155 #[.slice ao la cap,.int .i64 times] W (LimPost W P))
  (hT:∀ W xs v,P xs->Lims W xs v->WhoAt W z (.agg #[.bool (nb&&decide (0<xs.length)),v])):
  Calls Tryz.prog 212 #[.agg #[.bool nb,.slice ao la cap],.int .i64 times] w (WhoPost w z):=by
 have HP:=hid hP
 have HT:=hid hT
 have hb2:Below w.heap.size w ((w.alloc (.cells #[.bool nb,.slice ao la cap] 80)).alloc (.cells #[.bool false,.slice none 0 0] 80)):=belowW (belowW (Below.refl _ _) (Nat.le_refl _) _) (by simp) _
 have CT:=hid (HP.out _ hb2)
 have HB2:=hid hb2
 have e1:¬times<1:=by omega
 clear hP hT hb2
 go_enter Tryz.func212,Tryz.ntmps212
 go_wp2_with fail
 refine (CT.out).mono ?_
 rintro e w1 ⟨v1,xs,rfl,hp,hI1,hb1⟩
 have hs1:=hb1.size
 rw [World.size_alloc,World.size_alloc] at hs1
 obtain ⟨o1,c1,rfl,_⟩:=hI1.shape
 have hblk:w1.heap[w.heap.size+1]?=some (.cells #[.bool false,.slice none 0 0] 80 (0,0)):=by
  have:=newW (by simp) (at_newW (w.alloc (.cells #[.bool nb,.slice ao la cap] 80)) (.cells #[.bool false,.slice none 0 0] 80)) hb1
  rw [World.size_alloc] at this
  exact this
 have b0:w1.heap[w.heap.size]?=some (.cells #[.bool nb,.slice ao la cap] 80 (0,0)):=newW (by rw [World.size_alloc,World.size_alloc];omega) (at_oldW _ (at_newW w _)) hb1
 have x0:=cell_of_block (o:=0) b0 rfl
 have hN:=HT.out _ xs _ hp (hI1.weak (Nat.zero_le _))
 have hr:=HB2.out.trans (hb1.mono HB2.out.size)
 clear b0
 cases nb
 ·have F:=finw hblk hN hr (by omega)
  rw [Bool.false_and] at F
  have r0:=frozen_of_block (o:=0) hblk
  have r1:=frozen_of_block (o:=1) hblk
  have s0:=cell_of_block (o:=0) hblk rfl
  have s1:=cell_of_block (o:=1) hblk rfl
  have q0:=F.c0
  have q1:=F.c1
  have FN:=hid F.num
  have FB:=hid F.below
  clear F hN hr hblk hb1 hI1 hp
  go_wp2_with fail
  refine bodyPost_ret (v:=.agg #[.bool false,.slice o1 xs.length c1]) (by simp [results,Tryz.results212,go_sem,q0,q1]) rfl ⟨_,rfl,FN.out,FB.out⟩
 ·have F:=finw hblk hN hr (by omega)
  by_cases hx:(0:Int)<xs.length
  ·rw [decide_eq_true (show 0<xs.length by omega),Bool.true_and] at F
   have r0:=frozen_of_block (o:=0) hblk
   have r1:=frozen_of_block (o:=1) hblk
   have s0:=cell_of_block (o:=0) hblk rfl
   have s1:=cell_of_block (o:=1) hblk rfl
   have q0:=F.c0
   have q1:=F.c1
   have FN:=hid F.num
   have FB:=hid F.below
   have hx':0<xs.length:=by omega
   clear F hN hr hblk hb1 hI1 hp
   go_wp2_with fail
   refine bodyPost_ret (v:=.agg #[.bool true,.slice o1 xs.length c1]) (by simp [results,Tryz.results212,go_sem,q0,q1,hx']) rfl ⟨_,rfl,?_,?_⟩
   ·first | exact FN.out | simpa [hx'] using FN.out
   ·first | exact FB.out | simpa [hx'] using FB.out
  ·have hx':xs.length=0:=by omega
   rw [hx'] at F
   rw [hx']
   have r0:=frozen_of_block (o:=0) hblk
   have r1:=frozen_of_block (o:=1) hblk
   have s0:=cell_of_block (o:=0) hblk rfl
   have s1:=cell_of_block (o:=1) hblk rfl
   rw [show (true&&decide (0<0))=false from rfl] at F
   have q0:=F.c0
   have q1:=F.c1
   have FN:=hid F.num
   have FB:=hid F.below
   clear F hN hr hblk hb1 hI1 hp hx
   go_wp2_with fail
   refine bodyPost_ret (v:=.agg #[.bool false,.slice o1 0 c1]) (by simp [results,Tryz.results212,go_sem,q0,q1]) rfl ⟨_,rfl,FN.out,FB.out⟩
theorem halved_any (w:World)(z:Int)(v:Value)(times n:Nat)(h:WhoAt w z v)(bz:z.natAbs<2^n)(hn:n<=1000000000)(ht:1<=times)(ht2:times<=1000000000):Calls Tryz.prog 212 #[v,.int .i64 times] w (WhoPost w (Nm.half z times)):=by
 obtain ⟨ds,ao,cap,rfl,hI,hg,hv⟩:=h.open
 have hl:=lims_len hg hv bz
 refine halved_core w _ ao _ cap _ _ times (by omega) (fun W hW=>shiftDown_any W ds _ times (hI.below hW) (by omega) hg.dig (by omega)) ?_
 rintro W xs r ⟨h1,h2⟩ hr
 rw [hv] at h2
 have hq:0<=((z.natAbs:Nat):Int)/2^times:=Int.ediv_nonneg (by omega) (Int.le_of_lt (Nm.pow_pos' (by decide) _))
 have h0:=Nm.val_zero (by decide) h1
 rw [h2] at h0
 refine who_of hr h1 (by rw [h2];unfold Nm.half;split<;>omega) ?_
 unfold Nm.half
 by_cases hz:z<0
 ·rw [if_pos hz,decide_eq_true hz,Bool.true_and]
  by_cases hx:xs=[]
  ·have:=h0.2 hx
   rw [hx,this];rfl
  ·have hp:=List.length_pos_iff.2 hx
   have:((z.natAbs:Nat):Int)/2^times≠0:=fun e=>hx (h0.1 e)
   rw [decide_eq_true hp,decide_eq_true (by omega)]
 ·rw [if_neg hz,decide_eq_false hz,Bool.false_and,decide_eq_false (by omega)]
end Go.Proofs.YteghhlfmcjmnoaaGreatDoor
