import Derived.Test.YteghhlfmcjmnoaaGreatDoorCDe07
set_option linter.unusedSimpArgs false
set_option linter.unusedVariables false
set_option maxRecDepth 100000
set_option maxHeartbeats 2000000
namespace Go.Proofs.YteghhlfmcjmnoaaGreatDoor
open Go.RowKit
theorem Nm.low_zero:∀ (l:List Int) (k:Nat),(∀ t,t<k->Nm.at' l t=0)->Nm.val 4294967296 l=4294967296^k*Nm.val 4294967296 (l.drop k):=by
 intro l k
 induction k generalizing l with
 | zero=>intro _;simp
 | succ k ih=>
  intro h
  cases l with
  | nil=>simp [Nm.val]
  | cons x r=>
   have hx:x=0:=h 0 (by omega)
   have:=ih r (fun t ht=>h (t+1) (by omega))
   rw [List.drop_succ_cons,Nm.val,this,hx,Int.pow_succ]
   grind
theorem Nm.twos_dvd {l:List Int}{k c:Nat}{L:Int}(hk:k<l.length)(h:∀ t,t<k->Nm.at' l t=0)(hL:1<=L)(hx:Nm.at' l k<4294967296)(he:Nm.at' l k=L*2^c):(2:Int)^(32*k+c) ∣ Nm.val 4294967296 l:=by
 have hc:c<32:=by
  rcases Nat.lt_or_ge c 32 with h1 | h1
  ·exact h1
  ·have h2:(2:Int)^32<=2^c:=Nm.pow_mono (by decide) h1
   have h3:1*(2:Int)^c<=L*2^c:=Int.mul_le_mul_of_nonneg_right hL (Int.le_of_lt (Nm.pow_pos' (by decide) _))
   have h4:(2:Int)^32=4294967296:=rfl
   omega
 have hW:(4294967296:Int)=2^c*2^(32-c):=by rw [<-Int.pow_add,show c+(32-c)=32 by omega];rfl
 rw [Nm.low_zero l k h,Nm.val_drop _ l k hk,he,Int.pow_add,Int.pow_mul,show (2:Int)^32=4294967296 from rfl]
 refine Int.mul_dvd_mul (Int.dvd_refl _) ?_
 refine Int.dvd_add ⟨L,by rw [Int.mul_comm]⟩ ⟨2^(32-c)*Nm.val 4294967296 (l.drop (k+1)),?_⟩
 rw [<-Int.mul_assoc,<-hW]
noncomputable def Nm.tz (z:Int):Nat:=open Classical in if h:∃ t:Nat,(2:Int)^t ∣ z/\¬(2:Int)^(t+1) ∣ z then h.choose else 0
theorem Nm.tz_eq {z:Int}{t:Nat}(h1:(2:Int)^t ∣ z)(h2:¬(2:Int)^(t+1) ∣ z):Nm.tz z=t:=by
 have h:∃ t:Nat,(2:Int)^t ∣ z/\¬(2:Int)^(t+1) ∣ z:=⟨t,h1,h2⟩
 unfold Nm.tz
 rw [dif_pos h]
 obtain ⟨g1,g2⟩:=h.choose_spec
 generalize h.choose=s at*
 have key:∀ {a b:Nat},a<b->(2:Int)^b ∣ z->(2:Int)^(a+1) ∣ z:=fun {a b} hab hb=>Int.dvd_trans ⟨2^(b-(a+1)),by rw [<-Int.pow_add];congr 1;omega⟩ hb
 rcases Nat.lt_trichotomy s t with h | h | h
 ·exact absurd (key h h1) g2
 ·exact h
 ·exact absurd (key h g1) h2
theorem Nm.tz_zero:Nm.tz 0=0:=by
 unfold Nm.tz
 rw [dif_neg]
 rintro ⟨t,_,h⟩
 exact h (Int.dvd_zero _)
theorem Nm.tz_dvd (z:Int):(2:Int)^Nm.tz z ∣ z:=by
 unfold Nm.tz
 split
 ·rename_i h;exact h.choose_spec.1
 ·simp
theorem Nm.tz_lt {z:Int}{n:Nat}(hz:z≠0)(h:z.natAbs<2^n):Nm.tz z<n:=by
 have h1:((2:Int)^Nm.tz z).natAbs<=z.natAbs:=Nat.le_of_dvd (by omega) (Int.natAbs_dvd_natAbs.2 (Nm.tz_dvd z))
 rw [Int.natAbs_pow] at h1
 have h2:2^Nm.tz z<2^n:=by
  have:(2:Int).natAbs=2:=rfl
  rw [this] at h1
  omega
 exact (Nat.pow_lt_pow_iff_right (by decide)).1 h2
theorem Nm.twos_not {l:List Int}{k c:Nat}{L:Int}(hk:k<l.length)(h:∀ t,t<k->Nm.at' l t=0)(hL:1<=L)(ho:¬L%2=0)(hx:Nm.at' l k<4294967296)(he:Nm.at' l k=L*2^c):¬(2:Int)^(32*k+c+1) ∣ Nm.val 4294967296 l:=by
 have hc:c<32:=by
  rcases Nat.lt_or_ge c 32 with h1 | h1
  ·exact h1
  ·have h2:(2:Int)^32<=2^c:=Nm.pow_mono (by decide) h1
   have h3:1*(2:Int)^c<=L*2^c:=Int.mul_le_mul_of_nonneg_right hL (Int.le_of_lt (Nm.pow_pos' (by decide) _))
   have h4:(2:Int)^32=4294967296:=rfl
   omega
 have hW:(4294967296:Int)=2^c*(2*2^(31-c)):=by rw [Int.mul_comm 2,<-Int.pow_succ,<-Int.pow_add,show c+(31-c+1)=32 by omega];rfl
 rw [Nm.low_zero l k h,Nm.val_drop _ l k hk,he]
 generalize Nm.val 4294967296 (l.drop (k+1))=R
 have e1:(4294967296:Int)^k*(L*2^c+4294967296*R)=2^(32*k+c)*(L+2*(2^(31-c)*R)):=by
  rw [Int.pow_add,Int.pow_mul,show (2:Int)^32=4294967296 from rfl]
  have:(4294967296:Int)*R=2^c*(2*(2^(31-c)*R)):=by
   calc (4294967296:Int)*R=(2^c*(2*2^(31-c)))*R:=by rw [<-hW]
    _=2^c*(2*(2^(31-c)*R)):=by simp only [Int.mul_assoc]
  rw [this]
  grind
 rw [e1,Int.pow_succ]
 rintro ⟨q,hq⟩
 have hp:(2:Int)^(32*k+c)≠0:=by have:=Nm.pow_pos' (B:=2) (by decide) (32*k+c);omega
 have:L+2*(2^(31-c)*R)=2*q:=Int.eq_of_mul_eq_mul_left hp (by rw [hq,Int.mul_assoc])
 omega
def twosOut (W:World)(l:List Int)(i:Value)(wr:World):Prop:=∃ k:Nat,i=.int .i64 k/\k<=l.length/\(∀ t,t<k->Nm.at' l t=0)/\wr=W
def twosIn (W:World)(k:Nat)(x:Int)(cv lv:Value)(wr:World):Prop:=∃ (c:Nat) (L:Int),cv=.int .i64 ((32*k+c:Nat):Int)/\lv=.int .u32 L/\1<=L/\L<4294967296/\x=L*2^c/\c<=40/\L<2^(40-c)/\wr=W
theorem twos_half {c:Nat}{L x:Int}(h1:1<=L)(h2:L%2=0)(hx:x=L*2^c)(hb:L<2^(40-c)):x=L/2*2^(c+1)/\L/2<2^(40-(c+1))/\c+1<=40:=by
 have hc:c<40:=by
  rcases Nat.lt_or_ge c 40 with h | h
  ·exact h
  ·rw [show 40-c=0 by omega] at hb;simp at hb;omega
 refine ⟨?_,?_,by omega⟩
 ·rw [hx,Int.pow_succ,<-Int.mul_assoc,Int.mul_comm (L/2*2^c) 2,<-Int.mul_assoc,show 2*(L/2)=L by omega]
 ·rw [show 40-c=(40-(c+1))+1 by omega,Int.pow_succ] at hb
  omega
theorem twos_core (w:World)(nb:Bool)(a:List Int)(ao:Option Addr)(cap:Nat)(ha:Lims w a (.slice ao a.length cap))(hal:a.length<=10000000000)(ga:Nm.Good 4294967296 a):
  Calls Tryz.prog 225 #[.agg #[.bool nb,.slice ao a.length cap]] w fun e w'=>e=.returned (.int .i64 (Nm.tz (Nm.val 4294967296 a)))/\Below w.heap.size w w':=by
 have HA:=hid (ha.alloc (.cells #[.bool nb,.slice ao a.length cap] 80))
 have GA:=hid ga
 have BB:Hid (Below w.heap.size w (w.alloc (.cells #[.bool nb,.slice ao a.length cap] 80))):=belowW (Below.refl _ _) (Nat.le_refl _) _
 clear ha ga
 go_enter Tryz.func225,Tryz.ntmps225
 go_wp2_with fail
 go_loopw [3] (fun i wr=>twosOut (w.alloc (.cells #[.bool nb,.slice ao a.length cap] 80)) a i wr) (fun i _=>a.length-(intOf i).toNat)
 case atStart=>exact ⟨0,rfl,Nat.zero_le _,fun t h=>by omega,rfl⟩
 case round=>
  obtain ⟨k,rfl,hk,hz,rfl⟩:=hrel
  have HZ:=hid hz
  clear hz
  by_cases hka:(k:Int)<a.length
  ·obtain ⟨g,rfl,hc⟩:=HA.out.place (by omega)
   have x1:=hc k (by omega)
   have a0:=GA.out.dig.at' (by decide) k
   clear hc
   by_cases h0:Nm.at' a k=0
   ·rw [h0] at x1
    go_wp2_with fail
    go_roundw
    case rel=>
     refine ⟨k+1,by simp,by omega,?_,rfl⟩
     intro t ht
     by_cases e:t=k
     ·rw [e];exact h0
     ·exact HZ.out t (by omega)
    case measure=>simp [intOf];omega
   ·have h1:(Nm.at' a k==0)=false:=by simpa using h0
    have TD:=hid (fun (c:Nat) (L:Int) (hL:1<=L) (ho:¬L%2=0) he=>Nm.tz_eq (Nm.twos_dvd (c:=c) (L:=L) (show k<a.length by omega) HZ.out hL a0.2 he) (Nm.twos_not (c:=c) (L:=L) (show k<a.length by omega) HZ.out hL ho a0.2 he))
    generalize Nm.at' a k=x at*
    obtain ⟨a1,a2⟩:=a0
    go_wp2_with fail
    go_loopw [4,5] (fun c l wr=>twosIn (w.alloc (.cells #[.bool nb,.slice (some ⟨g,0,none⟩) a.length cap] 80)) k x c l wr) (fun _ l _=>(intOf l).toNat)
    case atStart=>exact ⟨0,x,by simp,rfl,by omega,a2,by simp,by omega,by simp;omega,rfl⟩
    case round=>
     obtain ⟨c,L,rfl,rfl,l1,l2,hx,hc40,hb40,rfl⟩:=hrel
     have HX:=hid hx
     have HB:=hid hb40
     clear hx hb40
     by_cases he:L%2=0
     ·obtain ⟨g1,g2,g3⟩:=twos_half l1 he HX.out HB.out
      have G1:=hid g1
      have G2:=hid g2
      clear g1 g2
      go_wp2_with fail
      go_roundw
      case rel=>exact ⟨c+1,L/2,by simp;omega,rfl,by omega,by omega,G1.out,g3,G2.out,rfl⟩
      case measure=>simp [intOf];omega
     ·have he':(L%2==0)=false:=by simpa using he
      go_wp2_with fail
      go_ret
      exact ⟨by rw [TD.out c L l1 he HX.out];rfl,BB.out⟩
  ·obtain rfl:k=a.length:=by omega
   go_wp2_with fail
   have hz0:Nm.val 4294967296 a=0:=by
    have:=Nm.low_zero a a.length HZ.out
    rw [List.drop_length] at this
    rw [this]
    simp [Nm.val]
   go_ret
   exact ⟨by rw [hz0,Nm.tz_zero];rfl,BB.out⟩
theorem Nm.tz_abs (z:Int):Nm.tz (z.natAbs:Int)=Nm.tz z:=by
 by_cases h:∃ t:Nat,(2:Int)^t ∣ z/\¬(2:Int)^(t+1) ∣ z
 ·obtain ⟨t,h1,h2⟩:=h
  rw [Nm.tz_eq h1 h2,Nm.tz_eq (Int.dvd_natAbs.2 h1) (fun g=>h2 (Int.dvd_natAbs.1 g))]
 ·unfold Nm.tz
  rw [dif_neg h,dif_neg]
  rintro ⟨t,h1,h2⟩
  exact h ⟨t,Int.dvd_natAbs.1 h1,fun g=>h2 (Int.dvd_natAbs.2 g)⟩
theorem twos_any (w:World)(z:Int)(v:Value)(n:Nat)(h:WhoAt w z v)(bz:z.natAbs<2^n)(hn:n<=1000000000):
  Calls Tryz.prog 225 #[v] w fun e w'=>e=.returned (.int .i64 (Nm.tz z))/\Below w.heap.size w w':=by
 obtain ⟨ds,ao,cap,rfl,hI,hg,hv⟩:=h.open
 have hl:=lims_len hg hv bz
 refine (twos_core w _ ds ao cap hI (by omega) hg).mono ?_
 rintro e w' ⟨rfl,h3⟩
 rw [hv,Nm.tz_abs]
 exact ⟨rfl,h3⟩
open Go.RowKit
theorem bitLength_any (w:World)(a:List Int)(v:Value)(ha:Lims w a v)(hal:a.length<=10000000000)(hp:0<a.length)(ga:Nm.Dig 4294967296 a):
  Calls Tryz.prog 149 #[v] w fun e w'=>∃ c:Nat,e=.returned (.int .i64 ((32*(a.length-1)+c:Nat):Int))/\c<=32/\w=w':=by
 obtain ⟨ao,cap,rfl,_⟩:=ha.shape
 obtain ⟨g,rfl,hc⟩:=ha.place hp
 have x1:=hc (a.length-1) (by omega)
 have a0:=ga.at' (by decide) (a.length-1)
 have l0:((a.length:Int)==0)=false:=beq_eq_false_iff_ne.2 (by omega)
 have i2:((a.length:Int)-1).toNat=a.length-1:=by omega
 clear ha hc ga
 generalize Nm.at' a (a.length-1)=x at*
 obtain ⟨a1,a2⟩:=a0
 go_enter Tryz.func149,Tryz.ntmps149
 go_wp2_with fail
 go_loop [3,4] (fun l t=>∃ (c:Nat) (T:Int),l=.int .i64 ((32*(a.length-1)+c:Nat):Int)/\t=.int .u32 T/\0<=T/\T<4294967296/\T<2^(32-c)/\c<=32) (fun _ t=>(intOf t).toNat)
 case atStart=>exact ⟨0,x,by simp;omega,rfl,a1,a2,by simpa using a2,by omega⟩
 case round=>
  obtain ⟨c,T,rfl,rfl,t0,t3,t1,hc⟩:=hrel
  have HT:=hid t1
  clear t1
  by_cases h:0<T
  ·have hc2:c<32:=by
    rcases Nat.lt_or_ge c 32 with h1 | h1
    ·exact h1
    ·have:=HT.out;rw [show 32-c=0 by omega] at this;simp at this;omega
   have ht:Hid (T/2<2^(32-(c+1))):=by
    have:=HT.out
    rw [show 32-c=(32-(c+1))+1 by omega,Int.pow_succ] at this
    show _<_
    omega
   go_wp2_with fail
   go_round
   case rel=>exact ⟨c+1,T/2,by simp;omega,rfl,by omega,by omega,ht.out,by omega⟩
   case measure=>simp [intOf];omega
  ·go_wp2_with fail
   go_ret
   exact ⟨c,rfl,hc,rfl⟩
def upRel (w:World)(a:List Int)(wh p:Nat)(c i:Value)(wr:World):Prop:=
 ∃ (k:Nat) (cc:Int) (out:List Int),i=.int .i64 k/\c=.int .u64 cc/\0<=cc/\cc<2^p/\k<=a.length/\LBlk wr w.heap.size out/\out.length=a.length+wh+1/\Nm.Dig 4294967296 out/\Below w.heap.size w wr/\
  Nm.val 4294967296 (out.take (k+wh))+cc*4294967296^(k+wh)=Nm.val 4294967296 (a.take k)*2^p*4294967296^wh
theorem up_carry {cc x D:Int}(hD:0<D)(c0:0<=cc)(c1:cc<D)(x0:0<=x)(x1:x<4294967296):0<=(cc+x*D)/4294967296/\(cc+x*D)/4294967296<D:=by
 have h1:0<=x*D:=Int.mul_nonneg x0 (by omega)
 have h2:x*D<=4294967295*D:=Int.mul_le_mul_of_nonneg_right (by omega) (by omega)
 refine ⟨Int.ediv_nonneg (by omega) (by decide),Int.ediv_lt_of_lt_mul (by decide) ?_⟩
 omega
theorem up_step {a out:List Int}{wh k:Nat}{cc D:Int}(hk:k+wh<out.length)(h:Nm.val 4294967296 (out.take (k+wh))+cc*4294967296^(k+wh)=Nm.val 4294967296 (a.take k)*D*4294967296^wh):
  Nm.val 4294967296 ((out.set (k+wh) ((cc+Nm.at' a k*D)%4294967296)).take (k+1+wh))+(cc+Nm.at' a k*D)/4294967296*4294967296^(k+1+wh)=Nm.val 4294967296 (a.take (k+1))*D*4294967296^wh:=by
 rw [show k+1+wh=(k+wh)+1 by omega,Nm.take_set hk,Nm.val_snoc,List.length_take,Nat.min_eq_left (by omega),Nm.val_take,Int.pow_succ]
 have e:=Int.emod_add_mul_ediv (cc+Nm.at' a k*D) 4294967296
 have e2:(4294967296:Int)^(k+wh)=4294967296^k*4294967296^wh:=Int.pow_add _ _ _
 generalize (cc+Nm.at' a k*D)%4294967296=r at*
 generalize (cc+Nm.at' a k*D)/4294967296=q at*
 generalize Nm.at' a k=x at*
 rw [e2] at h ⊢
 generalize (4294967296:Int)^k=P at*
 generalize (4294967296:Int)^wh=R at*
 grind
theorem up_end {a out:List Int}{wh:Nat}{cc D:Int}(hl:out.length=a.length+wh+1)(h:Nm.val 4294967296 (out.take (a.length+wh))+cc*4294967296^(a.length+wh)=Nm.val 4294967296 (a.take a.length)*D*4294967296^wh):
  Nm.val 4294967296 (out.set (a.length+wh) cc)=Nm.val 4294967296 a*D*4294967296^wh:=by
 rw [List.take_length] at h
 rw [<-h,<-Nm.val_take_all 4294967296 (out.set (a.length+wh) cc) (i:=a.length+wh+1) (by simp;omega),Nm.take_set (by omega),Nm.val_snoc,List.length_take,Nat.min_eq_left (by omega)]
theorem shiftUp_core (w:World)(a:List Int)(ao:Option Addr)(cap wh p:Nat)(ha:Lims w a (.slice ao a.length cap))(hal:a.length<=10000000000)(ga:Nm.Dig 4294967296 a)(hp:p<32)(hwh:wh<=10000000000)(bits:Int)(hb:bits=32*wh+p):
  Calls Tryz.prog 150 #[.slice ao a.length cap,.int .i64 bits] w (LimPost w fun xs=>Nm.Good 4294967296 xs/\Nm.val 4294967296 xs=Nm.val 4294967296 a*2^(32*wh+p)):=by
 have hmk:=run_make_row' (P:=Tryz.prog) 78 142 (.int .u32 0) 4 Tryz.underlying78 infoU rfl .i64 .i64 (a.length+wh+1) (by omega) (by omega)
 rw [show ((a.length+wh+1:Nat):Int)=(a.length:Int)+wh+1 by omega] at hmk
 have HA:=hid ha
 have GA:=hid ga
 have e1:bits/32=wh:=by omega
 have e2:bits%32=p:=by omega
 have e3:¬bits<0:=by omega
 have e5:0<=bits:=by omega
 have e6:bits<=400000000000:=by omega
 have hD:(0:Int)<2^p:=Nm.pow_pos' (by decide) p
 have hD2:(2:Int)^p<=2147483648:=by have:=Nm.pow_mono (B:=2) (by decide) (show p<=31 by omega);exact this
 clear ha ga hb
 go_enter Tryz.func150,Tryz.ntmps150
 go_wp2_with fail
 go_loopw [8,9] (fun c i wr=>upRel w a wh p c i wr) (fun _ i _=>a.length-(intOf i).toNat)
 case atStart=>
  refine ⟨0,0,List.replicate (a.length+wh+1) 0,rfl,rfl,by omega,hD,Nat.zero_le _,LBlk.made w _,by simp,Nm.Dig.zeros (by decide) _,belowW (Below.refl _ _) (Nat.le_refl _) _,?_⟩
  rw [List.take_replicate,Nm.val_zeros]
  simp [Nm.val]
 case round=>
  obtain ⟨k,cc,out,rfl,rfl,c0,c1,hk,hblk,hlen,hdig,hbel,hval⟩:=hrel
  by_cases hkn:(k:Int)<a.length
  ·obtain ⟨g,rfl,hca⟩:=(HA.out.below hbel).place (by omega)
   have x1:=hca k (by omega)
   have k1:=hblk.cell (k+wh) (by omega)
   have k2:=hblk.frozen (k+wh)
   have i1:(k:Int)+wh<(a.length:Int)+wh+1:=by omega
   have i0:(0:Int)<=(k:Int)+wh:=by omega
   have i2:((k:Int)+wh).toNat=k+wh:=by omega
   have i3:IntKind.i64.wrap ((k:Int)+wh)=(k:Int)+wh:=by rw [IntKind.wrap_i64];omega
   have a0:=GA.out.at' (by decide) k
   have hcar:=up_carry hD c0 c1 a0.1 a0.2
   have REL:Hid (∀ X,X=cc+Nm.at' a k*2^p->upRel w a wh p (.int .u64 (X/4294967296)) (.int .i64 ((k:Int)+1)) (wr.setCell ⟨w.heap.size,k+wh,none⟩ (.int .u32 (X%4294967296)))):=by
    rintro X rfl
    exact ⟨k+1,_,out.set (k+wh) ((cc+Nm.at' a k*2^p)%4294967296),by simp,rfl,hcar.1,hcar.2,by omega,hblk.set _ _,by simpa using hlen,hdig.set _ (by omega) (by omega),hbel.setCell (by simp) _,up_step (by omega) hval⟩
   have m0:0<=Nm.at' a k*2^p:=Int.mul_nonneg a0.1 (by omega)
   have m1:Nm.at' a k*2^p<=4294967295*2147483648:=Int.mul_le_mul (by omega) hD2 (by omega) (by omega)
   have HC1:=hid c1
   have c1':cc<2147483648:=by omega
   clear hca hval hlen hdig hbel hblk hcar c1
   generalize Nm.at' a k=x at*
   generalize Nm.at' out (k+wh)=o at*
   obtain ⟨a1,a2⟩:=a0
   go_wp2_with fail
   go_roundw
   case rel=>exact REL.out _ rfl
   case measure=>simp [intOf];omega
  ·obtain rfl:k=a.length:=by omega
   have k1:=hblk.cell (a.length+wh) (by omega)
   have k2:=hblk.frozen (a.length+wh)
   have i1:(a.length:Int)+wh<(a.length:Int)+wh+1:=by omega
   have i0:(0:Int)<=(a.length:Int)+wh:=by omega
   have i2:((a.length:Int)+wh).toNat=a.length+wh:=by omega
   have i3:IntKind.i64.wrap ((a.length:Int)+wh)=(a.length:Int)+wh:=by rw [IntKind.wrap_i64];omega
   have c1':cc<2147483648:=by omega
   have HE:=hid (up_end hlen hval)
   have hb2:=hblk.set (a.length+wh) cc
   have hd2:=hdig.set (a.length+wh) (x:=cc) c0 (by omega)
   have hl2:(out.set (a.length+wh) cc).length=a.length+wh+1:=by simpa using hlen
   have hbe2:Below w.heap.size w (wr.setCell ⟨w.heap.size,a.length+wh,none⟩ (.int .u32 cc)):=hbel.setCell (by simp) _
   obtain ⟨o2,ho2⟩:∃ o2,o2=out.set (a.length+wh) cc:=⟨_,rfl⟩
   rw [<-ho2] at HE hb2 hd2 hl2
   obtain ⟨W2,hW2⟩:∃ W2,W2=wr.setCell ⟨w.heap.size,a.length+wh,none⟩ (.int .u32 cc):=⟨_,rfl⟩
   rw [<-hW2] at hb2 hbe2
   have US:=hid (used_any W2 o2 _ 0 (hb2.lims (by omega)) (by omega))
   rw [hl2] at US
   have hsl:=Nm.strip_len o2
   rw [hl2] at hsl
   have HL:=hid (hb2.used (B:=w.heap.size) (by omega) (Nat.le_refl _))
   rw [hl2] at HL
   have HD:=hid hd2
   have HBEL:=hid hbe2
   have HW2:=hid hW2
   clear hval hlen hdig hbel hblk hb2 hd2 hl2 hbe2 hW2 ho2 c1
   generalize hn:(Nm.strip o2).length=n at*
   clear hn
   generalize Nm.at' out (a.length+wh)=o at*
   go_wp2_with fail
   rw [<-HW2.out]
   clear HW2
   refine (US.out).mono ?_
   rintro e w1 ⟨rfl,rfl⟩
   go_wp2_with fail
   go_ret
   refine ⟨_,Nm.strip o2,rfl,⟨Nm.good_strip HD.out,?_⟩,HL.out,HBEL.out⟩
   rw [Nm.val_strip,HE.out,Int.pow_add,Int.pow_mul,show (2:Int)^32=4294967296 from rfl,Int.mul_assoc,Int.mul_comm (2^p)]
theorem shiftUp_any (w:World)(a:List Int)(v:Value)(bits:Nat)(ha:Lims w a v)(hal:a.length<=10000000000)(ga:Nm.Dig 4294967296 a)(hbb:bits<=300000000000):
  Calls Tryz.prog 150 #[v,.int .i64 bits] w (LimPost w fun xs=>Nm.Good 4294967296 xs/\Nm.val 4294967296 xs=Nm.val 4294967296 a*2^bits):=by
 obtain ⟨ao,cap,rfl,_⟩:=ha.shape
 have:=shiftUp_core w a ao cap (bits/32) (bits%32) ha hal ga (by omega) (by omega) bits (by omega)
 rw [show 32*(bits/32)+bits%32=bits by omega] at this
 exact this
open Go.RowKit
theorem LimsB.used {B:Nat}{w:World}{xs:List Int}{g n cap:Nat}(h:LimsB B w xs (.slice (some ⟨g,0,none⟩) n cap)):LimsB B w (Nm.strip xs) (.slice (some ⟨g,0,none⟩) (Nm.strip xs).length cap):=by
 have hle:=Nm.strip_len xs
 rcases h.2 with ⟨h',_⟩ | ⟨g',cap',cur,h',h0,hh,hc,hm,hs,ht⟩
 ·cases h'
 ·cases h'
  refine ⟨by simp,Or.inr ⟨g,cap,cur,rfl,h0,hh,by omega,hm,hs,?_⟩⟩
  have e:Nm.strip xs=xs.take (Nm.strip xs).length:=Nm.strip_take xs
  conv=>rhs;rw [e]
  rw [List.map_take,<-ht,List.take_take]
  congr 1
  omega
def lowRel (w:World)(x:Int)(a:List Int)(o i:Value)(wr:World):Prop:=
 ∃ (k:Nat) (g cap:Nat),i=.int .i64 k/\k<=a.length/\o=.slice (some ⟨g,0,none⟩) (k+1) cap/\wr.ownsRow w.heap.size 142 1 o (k+1) ((x::a.take k).map (Value.int .u32))/\Below w.heap.size w wr
theorem withLowest_any (w:World)(a:List Int)(v:Value)(x:Int)(ha:Lims w a v)(hal:a.length<=10000000000)(ga:Nm.Dig 4294967296 a)(x0:0<=x)(x1:x<4294967296):
  Calls Tryz.prog 151 #[v,.int .u32 x] w (LimPost w fun xs=>Nm.Good 4294967296 xs/\Nm.val 4294967296 xs=x+4294967296*Nm.val 4294967296 a/\xs.length<=a.length+1):=by
 obtain ⟨ti,hi,hz,hsize,hby⟩:=info_parts infoU
 obtain ⟨ao,cap,rfl,hcap⟩:=ha.shape
 have HA:=hid ha
 have GA:=hid ga
 clear ha ga
 go_enter Tryz.func151,Tryz.ntmps151
 go_wp2_with fail
 go_loopw [5,6] (fun o i wr=>lowRel w x a o i wr) (fun _ i _=>a.length-(intOf i).toNat)
 case atStart=>exact ⟨0,w.heap.size,1,rfl,Nat.zero_le _,rfl,World.ownsRow_lit (size:=1) w #[.int .u32 x] 1 (Nat.le_refl _) (by decide) rfl,belowW (Below.refl _ _) (Nat.le_refl _) _⟩
 case round=>
  obtain ⟨k,g,c,rfl,hk,rfl,hown,hbel⟩:=hrel
  have hs:=hbel.size
  have HBEL:=hid hbel
  by_cases hka:(k:Int)<a.length
  ·obtain ⟨g2,rfl,hc⟩:=(HA.out.below hbel).place (by omega)
   have x2:=hc k (by omega)
   have HAT:Hid (a.take (k+1)=a.take k++[Nm.at' a k]):=by
    show _=_
    rw [List.take_succ_eq_append_getElem (by omega)]
    unfold Nm.at'
    rw [List.getD_eq_getElem?_getD,List.getElem?_eq_getElem (show k<a.length by omega)];rfl
   clear hc hbel
   generalize Nm.at' a k=y at*
   go_wp2_with (at_builtin;refine wpList_append_own _ rfl _ _ 78 rfl _ 142 ti (.int .u32 0) 1 4 Tryz.underlying78 hi hz hsize hby rfl (by decide) _ _ _ rfl (hown.alloc _) ⟨wr.heap.size,0,none⟩ 1 1 [.int .u32 y] rfl rfl (cell_one_new _ _ _) (fun u hu=>by simp at hu;subst hu;rfl) (by unfold maxLen;omega) (by omega) (by simp;omega) ?_;intro v' w3 hown' hgrow3 hnil3)
   have hsh:∃ g' c',v'=.slice (some ⟨g',0,none⟩) (k+1+1) c':=by
    rcases hown'.2 with ⟨_,hh⟩ | ⟨g',c',cur,h',_⟩
    ·omega
    ·exact ⟨g',c',h'⟩
   obtain ⟨g',c',hv'⟩:=hsh
   go_roundw
   case rel=>
    refine ⟨k+1,g',c',by simp,by omega,hv',?_,below_own hown HBEL.out HBEL.out.size _ hgrow3⟩
    rw [HAT.out]
    simpa using hown'
   case measure=>simp [intOf];omega
  ·obtain rfl:k=a.length:=by omega
   rw [List.take_length] at hown
   have HD:Hid (Nm.Dig 4294967296 (x::a)):=Nm.Dig.cons x0 x1 GA.out
   have hL:LimsB w.heap.size wr (x::a) (.slice (some ⟨g,0,none⟩) (a.length+1) c):=hown
   have US:=hid (used_any wr (x::a) _ w.heap.size hL (by simp;omega))
   have HL:=hid hL.used
   have hsl:=Nm.strip_len (x::a)
   simp only [List.length_cons] at hsl
   have hcc:a.length+1<=c:=by
    rcases hown.2 with ⟨hh,_⟩ | ⟨g',c',cur,h',_,_,hc',_⟩
    ·cases hh
    ·cases h';exact hc'
   clear hown hL hbel
   generalize hn:(Nm.strip (x::a)).length=n at*
   have HN:=hid hn
   clear hn
   go_wp2_with fail
   refine (US.out).mono ?_
   rintro e w1 ⟨rfl,rfl⟩
   go_wp2_with fail
   go_ret
   exact ⟨_,Nm.strip (x::a),rfl,⟨Nm.good_strip HD.out,by rw [Nm.val_strip];rfl,by rw [HN.out];exact hsl⟩,HL.out,HBEL.out⟩
theorem good_last {d:List Int}{n:Nat}(gd:Nm.Good 4294967296 d)(hn:d.length=n+1):1<=Nm.at' d n:=by
 rcases Nm.good_cases gd with rfl | ⟨r,e,rfl,_,he,_⟩
 ·simp at hn
 ·have:r.length=n:=by simpa using hn
  unfold Nm.at'
  simp [List.getD,this ▸ List.getElem?_concat_length]
  exact he
theorem guess_math {r d:List Int}{n:Nat}(hn:d.length=n+1)(gr:Nm.Dig 4294967296 r)(gd:Nm.Good 4294967296 d)(hlt:Nm.val 4294967296 r<4294967296*Nm.val 4294967296 d)(hr2:r.length<=n+2):
  Nm.val 4294967296 r/Nm.val 4294967296 d<=(Nm.at' r n+Nm.at' r (n+1)*4294967296)/Nm.at' d n/\Nm.val 4294967296 r/Nm.val 4294967296 d<=4294967295/\0<=Nm.val 4294967296 r/Nm.val 4294967296 d:=by
 have hP:=Nm.pow_pos' (B:=(4294967296:Int)) (by decide) n
 have hf:=good_last gd hn
 have e1:Nm.val 4294967296 d=Nm.val 4294967296 (d.take n)+Nm.at' d n*4294967296^n:=by
  rw [<-Nm.val_take,Nm.val_take_all _ d (by omega)]
 have e2:Nm.val 4294967296 r=Nm.val 4294967296 (r.take n)+Nm.at' r n*4294967296^n+Nm.at' r (n+1)*4294967296^(n+1):=by
  rw [<-Nm.val_take,<-Nm.val_take,Nm.val_take_all _ r (by omega)]
 have h1:=Nm.val_lo (by decide) (gd.dig.take n)
 have h2:=Nm.val_hi (by decide) (gr.take n)
 have h3:(4294967296:Int)^(r.take n).length<=4294967296^n:=Nm.pow_mono (by decide) (by rw [List.length_take];omega)
 have h4:=Nm.val_lo (by decide) gr
 have hfP:1*4294967296^n<=Nm.at' d n*4294967296^n:=Int.mul_le_mul_of_nonneg_right hf (Int.le_of_lt hP)
 have hd:0<Nm.val 4294967296 d:=by omega
 have hq0:0<=Nm.val 4294967296 r/Nm.val 4294967296 d:=Int.ediv_nonneg h4 (by omega)
 have hq1:Nm.val 4294967296 r/Nm.val 4294967296 d<4294967296:=Int.ediv_lt_of_lt_mul hd hlt
 have hq2:=Int.ediv_mul_le (Nm.val 4294967296 r) (show Nm.val 4294967296 d≠0 by omega)
 refine ⟨?_,by omega,hq0⟩
 generalize hq:Nm.val 4294967296 r/Nm.val 4294967296 d=q at*
 refine Int.le_ediv_of_mul_le (by omega) ?_
 have h5:q*(Nm.at' d n*4294967296^n)<=q*Nm.val 4294967296 d:=Int.mul_le_mul_of_nonneg_left (by omega) hq0
 have h6:q*Nm.at' d n*4294967296^n<(Nm.at' r n+Nm.at' r (n+1)*4294967296+1)*4294967296^n:=by
  rw [Int.pow_succ] at e2
  have e3:(Nm.at' r n+Nm.at' r (n+1)*4294967296+1)*4294967296^n=Nm.at' r n*4294967296^n+Nm.at' r (n+1)*(4294967296^n*4294967296)+4294967296^n:=by grind
  rw [e3,Int.mul_assoc]
  omega
 have:=Int.lt_of_mul_lt_mul_right h6 (Int.le_of_lt hP)
 omega
theorem guess_len {r d:List Int}{n:Nat}(hn:d.length=n+1)(gr:Nm.Good 4294967296 r)(gd:Nm.Dig 4294967296 d)(hlt:Nm.val 4294967296 r<4294967296*Nm.val 4294967296 d):r.length<=n+2:=by
 rcases Nat.lt_or_ge (n+2) r.length with h | h
 ·have h1:=Nm.val_top (by decide) gr (by intro e;rw [e] at h;simp at h)
  have h2:=Nm.val_hi (by decide) gd
  have h3:(4294967296:Int)^(n+2)<=4294967296^(r.length-1):=Nm.pow_mono (by decide) (by omega)
  rw [hn] at h2
  rw [Int.pow_succ] at h3
  omega
 ·exact h
theorem guess_short {r d:List Int}{n:Nat}(hn:d.length=n+1)(gr:Nm.Dig 4294967296 r)(gd:Nm.Good 4294967296 d)(h:r.length<n+1):Nm.val 4294967296 r/Nm.val 4294967296 d=0:=
 Int.ediv_eq_zero_of_lt (Nm.val_lo (by decide) gr) (Nm.val_longer (by decide) gr gd (by omega))
theorem guess_any (w:World)(r d:List Int)(u v:Value)(hr:Lims w r u)(hd:Lims w d v)(hrl:r.length<=10000000000)(gr:Nm.Good 4294967296 r)(gd:Nm.Good 4294967296 d)(hp:0<d.length)(hlt:Nm.val 4294967296 r<4294967296*Nm.val 4294967296 d):
  Calls Tryz.prog 152 #[u,v] w fun e w'=>∃ G:Int,e=.returned (.int .u32 G)/\0<=G/\G<4294967296/\Nm.val 4294967296 r/Nm.val 4294967296 d<=G/\w=w':=by
 obtain ⟨n,hn⟩:∃ n,d.length=n+1:=⟨d.length-1,by omega⟩
 have hl2:=guess_len hn gr gd.dig hlt
 have hf:=good_last gd hn
 have hf2:=(gd.dig.at' (by decide) n).2
 obtain ⟨m1,m2,m3⟩:=guess_math hn gr.dig gd hlt hl2
 have SH:=hid (guess_short (r:=r) hn gr.dig gd)
 obtain ⟨ro,rc,rfl,_⟩:=hr.shape
 obtain ⟨do',dc,rfl,_⟩:=hd.shape
 rw [hn]
 have l0:(((n:Int)+1)==0)=false:=beq_eq_false_iff_ne.2 (by omega)
 have M1:=hid m1
 have M2:=hid m2
 have M3:=hid m3
 obtain ⟨g2,rfl,hc2⟩:=hd.place hp
 have y1:=hc2 n (by omega)
 have a0:=gr.dig.at' (by decide) n
 have a1:=gr.dig.at' (by decide) (n+1)
 by_cases c1:(r.length:Int)<(n:Int)+1
 ·have HS:=hid (SH.out (by omega))
  clear hc2 m1 m2 m3 M1 M2 M3 hr hd gr gd hlt y1 SH
  go_enter Tryz.func152,Tryz.ntmps152
  go_wp2_with fail
  go_ret
  exact ⟨0,rfl,by omega,by omega,by rw [HS.out];exact Int.le_refl _,rfl⟩
 ·obtain ⟨g,rfl,hc⟩:=hr.place (by omega)
  have x1:=hc n (by omega)
  by_cases c2:(n:Int)+1<r.length
  ·have x2:=hc (n+1) (by omega)
   clear hc hc2 m1 m2 m3 hr hd gr gd hlt SH
   generalize Nm.val 4294967296 r/Nm.val 4294967296 d=q at*
   generalize Nm.at' r n=t0 at*
   generalize Nm.at' r (n+1)=t1 at*
   generalize Nm.at' d n=f at*
   obtain ⟨a2,a3⟩:=a0
   obtain ⟨a4,a5⟩:=a1
   have f0:(f==0)=false:=beq_eq_false_iff_ne.2 (by omega)
   have d0:0<=(t0+t1*4294967296)/f:=Int.ediv_nonneg (by omega) (by omega)
   have d1:(t0+t1*4294967296)/f<=t0+t1*4294967296:=Int.ediv_le_self _ (by omega)
   by_cases c3:4294967295<(t0+t1*4294967296)/f
   ·go_enter Tryz.func152,Tryz.ntmps152
    go_wp2_with fail
    go_ret
    exact ⟨4294967295,rfl,by omega,by omega,M2.out,rfl⟩
   ·go_enter Tryz.func152,Tryz.ntmps152
    go_wp2_with fail
    go_ret
    exact ⟨(t0+t1*4294967296)/f,rfl,d0,by omega,M1.out,rfl⟩
  ·have e1:=Nm.at_noneW (xs:=r) (i:=n+1) (by omega)
   rw [e1,Int.zero_mul,Int.add_zero] at M1
   clear hc hc2 m1 m2 m3 hr hd gr gd hlt SH a1 e1
   generalize Nm.val 4294967296 r/Nm.val 4294967296 d=q at*
   generalize Nm.at' r n=t0 at*
   generalize Nm.at' d n=f at*
   obtain ⟨a2,a3⟩:=a0
   have f0:(f==0)=false:=beq_eq_false_iff_ne.2 (by omega)
   have d0:0<=t0/f:=Int.ediv_nonneg (by omega) (by omega)
   have d1:t0/f<=t0:=Int.ediv_le_self _ (by omega)
   go_enter Tryz.func152,Tryz.ntmps152
   go_wp2_with fail
   go_ret
   exact ⟨t0/f,rfl,d0,by omega,M1.out,rfl⟩
open Go.RowKit
def divOut (W1:World)(A:List Int)(D:Int)(rv i:Value)(wr:World):Prop:=
 ∃ (k:Nat) (q R:List Int),i=.int .i64 ((k:Int)-1)/\k<=A.length/\LimsB (W1.heap.size+1) wr R rv/\Nm.Good 4294967296 R/\LBlk wr W1.heap.size q/\q.length=A.length/\Nm.Dig 4294967296 q/\Below W1.heap.size W1 wr/\
  Nm.val 4294967296 (A.drop k)=Nm.val 4294967296 (q.drop k)*D+Nm.val 4294967296 R/\Nm.val 4294967296 R<D
def divIn (W1 w5:World)(D q0:Int)(lv pv:Value)(wr:World):Prop:=
 ∃ (g:Int) (P:List Int),lv=.int .u32 g/\0<=g/\g<4294967296/\q0<=g/\LimsB (W1.heap.size+1) wr P pv/\Nm.Good 4294967296 P/\Nm.val 4294967296 P=D*g/\Below w5.heap.size w5 wr
theorem div_step {x D A Q R R1 l:Int}(h:A=Q*D+R)(hr:R1=x+4294967296*R):x+4294967296*A=(l+4294967296*Q)*D+(R1-D*l):=by
 subst h hr
 grind
theorem wdrop_set {q:List Int}{k:Nat}{x:Int}(h:k<q.length):Nm.val 4294967296 ((q.set k x).drop k)=x+4294967296*Nm.val 4294967296 (q.drop (k+1)):=by
 rw [Nm.val_drop 4294967296 _ k (by simpa using h)]
 congr 1
 ·unfold Nm.at';simp [h]
 ·rw [List.drop_set_of_lt (by omega)]
def DivPost (w:World)(x y:Int):Ending->World->Prop:=fun e w'=>∃ qv rv Q R,e=.returned (.tuple #[qv,rv])/\Lims w' Q qv/\Lims w' R rv/\Nm.Good 4294967296 Q/\Nm.Good 4294967296 R/\Nm.val 4294967296 Q=x/y/\Nm.val 4294967296 R=x%y/\Below w.heap.size w w'
theorem shifted_quot {a b s Q R A D:Int}(hb:0<b)(hs:0<s)(hA:A=a*s)(hD:D=b*s)(h:A=Q*D+R)(r0:0<=R)(r1:R<D):Q=a/b/\R/s=a%b:=by
 subst hA hD
 have e:R=s*(a-Q*b):=by grind
 have h1:R/s=a-Q*b:=by rw [e];exact Int.mul_ediv_cancel_left _ (by omega)
 have h2:0<=a-Q*b:=by
  rcases Int.lt_or_le (a-Q*b) 0 with h' | h'
  ·have:=Int.mul_neg_of_pos_of_neg hs h';omega
  ·exact h'
 have h3:a-Q*b<b:=by
  have:s*(a-Q*b)<s*b:=by rw [<-e,Int.mul_comm s b];exact r1
  exact Int.lt_of_mul_lt_mul_left this (by omega)
 have:=Nm.floor_unique hb (show a=Q*b+(a-Q*b) by omega) h2 h3
 exact ⟨this.1.symm,by rw [h1,this.2]⟩
theorem len_up {a xs:List Int}{s:Nat}(ga:Nm.Dig 4294967296 a)(gx:Nm.Good 4294967296 xs)(hv:Nm.val 4294967296 xs=Nm.val 4294967296 a*2^s)(hs:s<=32):xs.length<=a.length+1:=by
 rcases Nat.lt_or_ge (a.length+1) xs.length with h | h
 ·exfalso
  have h1:=Nm.val_top (by decide) gx (by intro e;rw [e] at h;simp at h)
  have h2:=Nm.val_hi (by decide) ga
  have h3:(4294967296:Int)^(a.length+1)<=4294967296^(xs.length-1):=Nm.pow_mono (by decide) (by omega)
  have h4:(2:Int)^s<=2^32:=Nm.pow_mono (by decide) hs
  have h5:=Nm.val_lo (by decide) ga
  have h6:Nm.val 4294967296 a*2^s<=Nm.val 4294967296 a*4294967296:=Int.mul_le_mul_of_nonneg_left h4 h5
  rw [Int.pow_succ] at h3
  omega
 ·exact h
theorem val_pos_len {xs:List Int}(h:0<Nm.val 4294967296 xs):0<xs.length:=by
 cases xs with
 | nil=>simp [Nm.val] at h
 | cons _ _=>simp
theorem divideLimbs_any (w:World)(a b:List Int)(u v:Value)(ha:Lims w a u)(hb:Lims w b v)(hal:a.length<=4000000000)(hbl:b.length<=4000000000)(ga:Nm.Good 4294967296 a)(gb:Nm.Good 4294967296 b)(hp:0<b.length):
  Calls Tryz.prog 117 #[u,v] w (DivPost w (Nm.val 4294967296 a) (Nm.val 4294967296 b)):=by
 have HA:=hid ha
 have HB:=hid hb
 have GA:=hid ga
 have GB:=hid gb
 obtain ⟨ao,ac,rfl,_⟩:=ha.shape
 obtain ⟨bo,bc,rfl,_⟩:=hb.shape
 have BL:=hid (bitLength_any w b _ hb (by omega) hp gb.dig)
 have hbv:0<Nm.val 4294967296 b:=by
  have h1:=Nm.val_lo (by decide) gb.dig
  have h2:=Nm.val_zero (by decide) gb
  rcases Int.lt_or_eq_of_le h1 with h | h
  ·exact h
  ·have:=h2.1 h.symm;rw [this] at hp;simp at hp
 clear ha hb ga gb
 go_enter Tryz.func117,Tryz.ntmps117
 go_wp2_with fail
 refine (BL.out).mono ?_
 rintro e w0 ⟨c,rfl,hc,rfl⟩
 obtain ⟨s,hs⟩:∃ s:Nat,(32:Int)*b.length-((32*(b.length-1)+c:Nat):Int)=s:=⟨32-c,by omega⟩
 have hs2:s<=32:=by omega
 have hcb:((32*(b.length-1)+c:Nat):Int)=32*b.length-s:=by omega
 rw [hcb]
 have SU1:=hid (shiftUp_any w b _ s HB.out (by omega) GB.out.dig (by omega))
 have hw1:IntKind.i64.wrap (32*(b.length:Int)-(32*b.length-s))=s:=by rw [IntKind.wrap_i64];omega
 have hw2:IntKind.i64.wrap (32*(b.length:Int))=32*b.length:=by rw [IntKind.wrap_i64];omega
 clear hs hcb hc
 go_wp2_with fail
 refine (SU1.out).mono ?_
 rintro e w1 ⟨dv,dl,rfl,⟨hg1,hv1⟩,hI1,hb1⟩
 have hld:=len_up GB.out.dig hg1 hv1 hs2
 have SU2:=hid (shiftUp_any w1 a _ s (HA.out.below hb1) (by omega) GA.out.dig (by omega))
 obtain ⟨do',dc,rfl,_⟩:=hI1.shape
 go_wp2_with fail
 refine (SU2.out).mono ?_
 rintro e W1 ⟨av,al,rfl,⟨hg2,hv2⟩,hI2,hb2⟩
 have hla:=len_up GA.out.dig hg2 hv2 hs2
 obtain ⟨ao',ac',rfl,_⟩:=hI2.shape
 have hs1:=hb1.size
 have hs3:=hb2.size
 have BW:=hid (hb1.trans (hb2.mono hb1.size))
 have hD:(0:Int)<2^s:=Nm.pow_pos' (by decide) s
 have hDp:0<Nm.val 4294967296 dl:=by rw [hv1];exact Int.mul_pos hbv hD
 have hdl:=val_pos_len hDp
 have FINAL:=hid (fun Q R h r0 r1=>shifted_quot (Q:=Q) (R:=R) hbv hD hv2 hv1 h r0 r1)
 have DL:=hid (hI1.below hb2)
 have AL:=hid hI2
 have GD:=hid hg1
 have GAL:=hid hg2
 have hmk:=run_make_row' (P:=Tryz.prog) 78 142 (.int .u32 0) 4 Tryz.underlying78 infoU rfl .i64 .i64 al.length (by omega) (by omega)
 clear hI1 hI2 hb1 hb2 hv1 hv2 hg1 hg2 SU1 SU2 hD hw1 hw2 HA HB BL
 go_wp2_with fail
 go_loopw [10,11] (fun r i wr=>divOut W1 al (Nm.val 4294967296 dl) r i wr) (fun _ i _=>(intOf i+1).toNat)
 case atStart=>
  refine ⟨al.length,List.replicate al.length 0,[],rfl,Nat.le_refl _,?_,Nm.Good.nil _,?_,by simp,Nm.Dig.zeros (by decide) _,belowW (belowW (Below.refl _ _) (Nat.le_refl _) _) (by simp) _,by simp [Nm.val],hDp⟩
  ·exact ⟨rfl,Or.inr ⟨W1.heap.size+1,0,#[],by simp,Nat.le_refl _,by have:=at_newW (W1.alloc (.cells (madeCells #[.int .u32 0] al.length) 142)) (.cells #[] 142);rw [World.size_alloc] at this;exact this,Nat.le_refl _,by decide,rfl,rfl⟩⟩
  ·exact (LBlk.made W1 al.length).below (belowW (Below.refl _ _) (Nat.le_refl _) _)
 case round=>
  obtain ⟨k,q,R,rfl,hk,hR,hRg,hblk,hlen,hdig,hbel,hval,hRy⟩:=hrel
  have HV:=hid hval
  have HLEN:=hid hlen
  have HDIG:=hid hdig
  have HBEL:=hid hbel
  have HBLK:=hid hblk
  have HRG:=hid hRg
  have hR0:=Nm.val_lo (by decide) hRg.dig
  have hsb:=hblk.lt
  have hRlen:=wlen_le hRg GD.out (by omega)
  obtain ⟨ro,rc,rfl,_⟩:=hR.shape
  have HR:=hid hR
  clear hval hlen hdig hbel hblk hRg hR
  cases k with
  | zero=>
   have hA:Nm.val 4294967296 al=Nm.val 4294967296 q*Nm.val 4294967296 dl+Nm.val 4294967296 R:=by have:=HV.out;simpa using this
   have FQ:=hid (FINAL.out _ _ hA hR0 hRy)
   have US:=hid (used_any wr.drew q _ 0 (HBLK.out.drew.lims (by rw [HLEN.out];omega)) (by rw [HLEN.out];omega))
   have SD:=hid (shiftDown_any wr.drew R _ s ((HR.out.below (drewW _)).weak (Nat.zero_le _)) (by omega) HRG.out.dig (by omega))
   have hsl:=Nm.strip_len q
   have HL:=hid (HBLK.out.used (B:=0) (by rw [HLEN.out];omega) (Nat.zero_le _))
   rw [HLEN.out] at US hsl HL
   have HGQ:=hid (Nm.good_strip HDIG.out)
   have HVQ:=hid (Nm.val_strip 4294967296 q)
   generalize hn:(Nm.strip q).length=n at*
   clear hA hn
   go_wp2_with fail
   go_region_with (first
    | (go_at_call 115;refine (US.out).mono ?_;rintro e w6 ⟨rfl,rfl⟩)
    | (go_at_call 155;refine (SD.out).mono ?_;rintro e w7 ⟨sv,S,rfl,⟨gS,vS⟩,hIS,hbS'⟩;have hbS:=undrewW hbS';clear hbS';obtain ⟨so,sc,rfl,_⟩:=hIS.shape;have HIS:=hid (hIS.weak (Nat.zero_le _));have HBS:=hid hbS;have GS:=hid gS;have VS:=hid vS;clear hIS hbS gS vS))
   all_goals
    go_wp2_with fail
    refine bodyPost_ret (v:=.tuple #[.slice (some ⟨W1.heap.size,0,none⟩) n al.length,.slice so S.length sc]) (by simp [results,Tryz.results117,go_sem]) rfl ⟨_,_,Nm.strip q,S,rfl,HL.out.below HBS.out,HIS.out,HGQ.out,GS.out,by rw [HVQ.out];exact FQ.out.1,by rw [VS.out];exact FQ.out.2,?_⟩
    exact BW.out.trans ((HBEL.out.trans (HBS.out.mono (by omega))).mono (by omega))
  | succ k=>
   obtain ⟨g,rfl,_⟩:=AL.out.place (by omega)
   have x1:=(AL.out.below HBEL.out).cellG k (by omega)
   have a0:=GAL.out.dig.at' (by decide) k
   generalize hx:Nm.at' al k=x at*
   have HX:=hid hx
   clear hx
   have WL:=hid (withLowest_any wr R _ x (HR.out.weak (Nat.zero_le _)) (by omega) HRG.out.dig a0.1 a0.2)
   go_wp2_with fail
   refine (WL.out).mono ?_
   rintro e w3 ⟨rv,R1,rfl,⟨g3,v3,l3⟩,hI3,hb3⟩
   obtain ⟨ro3,rc3,rfl,_⟩:=hI3.shape
   have hs4:=hb3.size
   have hlt3:Nm.val 4294967296 R1<4294967296*Nm.val 4294967296 dl:=by omega
   have hge3:=Nm.val_lo (by decide) g3.dig
   have B3:=hid (HBEL.out.trans (hb3.mono (show W1.heap.size<=wr.heap.size by omega)))
   have GU:=hid (guess_any w3 R1 dl _ _ (hI3.weak (Nat.zero_le _)) ((DL.out.below B3.out).weak (Nat.zero_le _)) (by omega) g3 GD.out hdl hlt3)
   have HI3:=hid (hI3.weak (show W1.heap.size+1<=wr.heap.size by omega))
   have H3:=hid hb3
   have G3:=hid g3
   have V3:=hid v3
   clear hI3 g3 hb3 WL
   go_wp2_with fail
   refine (GU.out).mono ?_
   rintro e w3' ⟨G,rfl,G0,G1,hqG,rfl⟩
   have LO:=hid (limbsOf_any G w3 G0 (by omega))
   go_wp2_with fail
   refine (LO.out).mono ?_
   rintro e w4 ⟨lv,L,rfl,⟨gL,vL,lL⟩,hI4,hb4⟩
   have hs5:=hb4.size
   have ML:=hid (multiplyLimbs_any w4 dl L _ _ (((DL.out.below B3.out).below hb4).weak (Nat.zero_le _)) (hI4.weak (Nat.zero_le _)) (by omega) (by omega) GD.out.dig gL.dig)
   rw [vL] at ML
   go_wp2_with fail
   refine (ML.out).mono ?_
   rintro e w5 ⟨pv,P,rfl,⟨gP,vP⟩,hI5,hb5⟩
   have hs6:=hb5.size
   have HQG:=hid hqG
   have HI5:=hid (hI5.weak (show W1.heap.size+1<=w4.heap.size by omega))
   have GP:=hid gP
   have VP:=hid vP
   have H35:=hid (hb4.trans (hb5.mono hb4.size))
   clear hI5 gP vP hb4 hb5 gL vL hI4 hqG ML LO GU
   obtain ⟨wo,hwo⟩:∃ wo:World,wo=wr:=⟨_,rfl⟩
   subst hwo
   go_wp2_with fail
   go_loopw [12,13] (fun l p wr=>divIn W1 w5 (Nm.val 4294967296 dl) (Nm.val 4294967296 R1/Nm.val 4294967296 dl) l p wr) (fun l _ _=>(intOf l).toNat)
   case atStart=>exact ⟨G,P,rfl,G0,G1,HQG.out,HI5.out,GP.out,VP.out,Below.refl _ _⟩
   case round=>
    obtain ⟨G',P',rfl,h0,h1,hq,hI,hg,hv,hbi⟩:=hrel
    have hsi:=hbi.size
    have BX0:=hid (H35.out.trans (hbi.mono (show w3.heap.size<=w5.heap.size by omega)))
    obtain ⟨po,pc,rfl,_⟩:=hI.shape
    have HIX0:=hid hI
    have HG:=hid hg
    have HVV:=hid hv
    have HBI:=hid hbi
    have hPl:P'.length<=9000000000:=by
     have h2:=Nm.val_hi (by decide) GD.out.dig
     rcases Nat.lt_or_ge (dl.length+1) P'.length with h | h
     ·exfalso
      have h3:=Nm.val_top (by decide) hg (by intro e;rw [e] at h;simp at h)
      have h4:(4294967296:Int)^(dl.length+1)<=4294967296^(P'.length-1):=Nm.pow_mono (by decide) (by omega)
      have h5:Nm.val 4294967296 dl*G'<=Nm.val 4294967296 dl*4294967296:=Int.mul_le_mul_of_nonneg_left (by omega) (by omega)
      rw [Int.pow_succ] at h4
      omega
     ·omega
    clear hI hg hv hbi
    by_cases hg0:0<G'
    ·have CMP:=hid (compareLimbs_any wr P' R1 _ _ (HIX0.out.weak (Nat.zero_le _)) ((HI3.out.below BX0.out).weak (Nat.zero_le _)) (by omega) HG.out G3.out)
     rw [HVV.out] at CMP
     by_cases hle:Nm.val 4294967296 dl*G'<=Nm.val 4294967296 R1
     ·have hc:¬0<Nm.cmp (Nm.val 4294967296 dl*G') (Nm.val 4294967296 R1):=by
       rcases Int.lt_or_eq_of_le hle with h | h
       ·rw [Nm.cmp_lt h];decide
       ·rw [Nm.cmp_eq h];decide
      generalize Nm.cmp (Nm.val 4294967296 dl*G') (Nm.val 4294967296 R1)=cv at*
      go_wp2_with fail
      refine (CMP.out).mono ?_
      rintro e w6 ⟨rfl,hb6⟩
      have hs9:=hb6.size
      have BX:=hid (BX0.out.trans (hb6.mono (show w3.heap.size<=wr.heap.size by omega)))
      have HIX:=hid (HIX0.out.below hb6)
      clear hb6
      have hgq:Nm.val 4294967296 R1/Nm.val 4294967296 dl=G':=by
       have:=Int.le_ediv_of_mul_le hDp (show G'*Nm.val 4294967296 dl<=Nm.val 4294967296 R1 by rw [Int.mul_comm];exact hle)
       omega
      have hmod:=Int.emod_lt_of_pos (Nm.val 4294967296 R1) hDp
      have hmod2:=Int.emod_add_mul_ediv (Nm.val 4294967296 R1) (Nm.val 4294967296 dl)
      rw [hgq] at hmod2
      have SB:=hid (subtractLimbs_any w6 R1 P' _ _ ((HI3.out.below BX.out).weak (Nat.zero_le _)) (HIX.out.weak (Nat.zero_le _)) (by omega) (wlen_le HG.out G3.out (by rw [HVV.out];exact hle)) G3.out.dig HG.out.dig (by rw [HVV.out];exact hle))
      rw [HVV.out] at SB
      have HMOD:Hid (Nm.val 4294967296 R1-Nm.val 4294967296 dl*G'<Nm.val 4294967296 dl):=by show _<_;omega
      have Bw6:=hid (B3.out.trans (BX.out.mono (show W1.heap.size<=w3.heap.size by omega)))
      have BLK:=hid ((HBLK.out.below H3.out).below BX.out)
      clear hmod hmod2 hgq
      go_wp2_with fail
      refine (SB.out).mono ?_
      rintro e w8 ⟨rv8,R8,rfl,⟨g8,v8⟩,hI8,hb8⟩
      obtain ⟨ro8,rc8,rfl,_⟩:=hI8.shape
      have hs8:=hb8.size
      have bk8:=BLK.out.below hb8
      have hql:k<q.length:=by rw [HLEN.out];omega
      have k1:=bk8.cell k hql
      have k2:=bk8.frozen k
      have REL:Hid (divOut W1 al (Nm.val 4294967296 dl) (.slice ro8 R8.length rc8) (.int .i64 ((k:Int)-1)) (w8.setCell ⟨W1.heap.size,k,none⟩ (.int .u32 G'))):=by
       refine ⟨k,q.set k G',R8,by simp,by omega,(hI8.weak (show W1.heap.size+1<=w6.heap.size by omega)).lowSet (by omega) _,g8,bk8.set _ _,by simpa using HLEN.out,HDIG.out.set _ h0 h1,(Bw6.out.trans (hb8.mono (show W1.heap.size<=w6.heap.size by omega))).setCell (by simp) _,?_,by rw [v8];exact HMOD.out⟩
       rw [Nm.val_drop 4294967296 al k (by omega),wdrop_set hql,HX.out,v8]
       exact div_step HV.out V3.out
      clear hI8 g8 v8 hb8 bk8 hql
      generalize Nm.at' q k=oq at*
      go_wp2_with fail
      go_roundw
      case rel=>exact REL.out
      case measure=>simp [intOf]
     ·have hlt:Nm.val 4294967296 R1<Nm.val 4294967296 dl*G':=by omega
      have hc:Nm.cmp (Nm.val 4294967296 dl*G') (Nm.val 4294967296 R1)=1:=Nm.cmp_gt hlt
      rw [hc] at CMP
      have hqlt:Nm.val 4294967296 R1/Nm.val 4294967296 dl<G':=Int.ediv_lt_of_lt_mul hDp (by rw [Int.mul_comm];exact hlt)
      have hge:Nm.val 4294967296 dl<=Nm.val 4294967296 dl*G':=by
       have:=Int.mul_le_mul_of_nonneg_left (show 1<=G' by omega) (show 0<=Nm.val 4294967296 dl by omega)
       omega
      have hnew:Nm.val 4294967296 dl*G'-Nm.val 4294967296 dl=Nm.val 4294967296 dl*(G'-1):=by rw [Int.mul_sub,Int.mul_one]
      go_wp2_with fail
      refine (CMP.out).mono ?_
      rintro e w6 ⟨rfl,hb6⟩
      have hs9:=hb6.size
      have BX:=hid (BX0.out.trans (hb6.mono (show w3.heap.size<=wr.heap.size by omega)))
      have SB:=hid (subtractLimbs_any w6 P' dl _ _ ((HIX0.out.below hb6).weak (Nat.zero_le _)) (((DL.out.below B3.out).below BX.out).weak (Nat.zero_le _)) (by omega) (wlen_le GD.out HG.out (by rw [HVV.out];exact hge)) HG.out.dig GD.out.dig (by rw [HVV.out];exact hge))
      rw [HVV.out,hnew] at SB
      go_wp2_with fail
      refine (SB.out).mono ?_
      rintro e w7 ⟨pv7,P7,rfl,⟨g7,v7⟩,hI7,hb7⟩
      have hs7:=hb7.size
      go_wp2_with fail
      go_roundw
      case rel=>exact ⟨G'-1,P7,rfl,by omega,by omega,by omega,hI7.weak (by omega),g7,v7,(HBI.out.trans (hb6.mono (by omega))).trans (hb7.mono (by omega))⟩
      case measure=>simp [intOf];omega
    ·obtain rfl:G'=0:=by omega
     have hle:Nm.val 4294967296 dl*0<=Nm.val 4294967296 R1:=by rw [Int.mul_zero];exact hge3
     have BX:=BX0
     have HIX:=HIX0
     have hgq:Nm.val 4294967296 R1/Nm.val 4294967296 dl=0:=by
      have:=Int.le_ediv_of_mul_le hDp (show 0*Nm.val 4294967296 dl<=Nm.val 4294967296 R1 by rw [Int.mul_comm];exact hle)
      omega
     have hmod:=Int.emod_lt_of_pos (Nm.val 4294967296 R1) hDp
     have hmod2:=Int.emod_add_mul_ediv (Nm.val 4294967296 R1) (Nm.val 4294967296 dl)
     rw [hgq] at hmod2
     have SB:=hid (subtractLimbs_any wr R1 P' _ _ ((HI3.out.below BX.out).weak (Nat.zero_le _)) (HIX.out.weak (Nat.zero_le _)) (by omega) (wlen_le HG.out G3.out (by rw [HVV.out];exact hle)) G3.out.dig HG.out.dig (by rw [HVV.out];exact hle))
     rw [HVV.out] at SB
     have HMOD:Hid (Nm.val 4294967296 R1-Nm.val 4294967296 dl*0<Nm.val 4294967296 dl):=by show _<_;omega
     have BVV:=hid (B3.out.trans (BX.out.mono (show W1.heap.size<=w3.heap.size by omega)))
     have BLK:=hid ((HBLK.out.below H3.out).below BX.out)
     clear hmod hmod2 hgq
     go_wp2_with fail
     refine (SB.out).mono ?_
     rintro e w8 ⟨rv8,R8,rfl,⟨g8,v8⟩,hI8,hb8⟩
     obtain ⟨ro8,rc8,rfl,_⟩:=hI8.shape
     have hs8:=hb8.size
     have bk8:=BLK.out.below hb8
     have hql:k<q.length:=by rw [HLEN.out];omega
     have k1:=bk8.cell k hql
     have k2:=bk8.frozen k
     have REL:Hid (divOut W1 al (Nm.val 4294967296 dl) (.slice ro8 R8.length rc8) (.int .i64 ((k:Int)-1)) (w8.setCell ⟨W1.heap.size,k,none⟩ (.int .u32 0))):=by
      refine ⟨k,q.set k 0,R8,by simp,by omega,(hI8.weak (show W1.heap.size+1<=wr.heap.size by omega)).lowSet (by omega) _,g8,bk8.set _ _,by simpa using HLEN.out,HDIG.out.set _ h0 h1,(BVV.out.trans (hb8.mono (show W1.heap.size<=wr.heap.size by omega))).setCell (by simp) _,?_,by rw [v8];exact HMOD.out⟩
      rw [Nm.val_drop 4294967296 al k (by omega),wdrop_set hql,HX.out,v8]
      exact div_step HV.out V3.out
     clear hI8 g8 v8 hb8 bk8 hql
     generalize Nm.at' q k=oq at*
     go_wp2_with fail
     go_roundw
     case rel=>exact REL.out
     case measure=>simp [intOf]
open Go.RowKit
structure SetW (W U:World) (s:Nat) (p q:Value):Prop where
 blk:U.heap[s]?=some (.cells #[p,q] 80 (0,0))
 oth:∀ k,k≠s->U.heap[k]?=W.heap[k]?
 size:U.heap.size=W.heap.size
 num:∀ z v,WhoAt W z v->WhoAt U z v
 below:∀ B w0,Below B w0 W->B<=s->Below B w0 U
theorem setw {W U:World}{s:Nat}{x y p q:Value}(hU:U=(W.setCell ⟨s,0,none⟩ p).setCell ⟨s,1,none⟩ q)(k:W.heap[s]?=some (.cells #[x,y] 80 (0,0))):SetW W U s p q:=by
 subst hU
 refine ⟨?_,?_,by simp,fun z v h=>(h.other k (by decide) _).other (heap_set k (o:=0) _) (by decide) _,fun B w0 h hB=>(h.setCell hB _).setCell hB _⟩
 ·rw [heap_set (heap_set k (o:=0) p) (o:=1) q];rfl
 ·intro j hj
  rw [Below.heap_setCell _ _ _ _ hj,Below.heap_setCell _ _ _ _ hj]
def box4 (w:World)(a b c d:Value):World:=(boxw w a b c d).alloc (.cells #[.bool false,.slice none 0 0] 80)
theorem box4_below (w:World)(a b c d:Value):Below w.heap.size w (box4 w a b c d):=belowW (boxw_below' w a b c d) (boxw_below' w a b c d).size _
theorem box4_size (w:World)(a b c d:Value):(box4 w a b c d).heap.size=w.heap.size+4:=by rw [box4,World.size_alloc,boxw_size']
theorem box4_at0 (w:World)(a b c d:Value):(box4 w a b c d).heap[w.heap.size]?=some (.cells #[a,b] 80 (0,0)):=at_oldW _ (boxw_at0' w a b c d)
theorem box4_at1 (w:World)(a b c d:Value):(box4 w a b c d).heap[w.heap.size+1]?=some (.cells #[c,d] 80 (0,0)):=at_oldW _ (boxw_at1' w a b c d)
theorem box4_at2 (w:World)(a b c d:Value):(box4 w a b c d).heap[w.heap.size+2]?=some (.cells #[.bool false,.slice none 0 0] 80 (0,0)):=at_oldW _ (boxw_at2' w a b c d)
theorem box4_at3 (w:World)(a b c d:Value):(box4 w a b c d).heap[w.heap.size+3]?=some (.cells #[.bool false,.slice none 0 0] 80 (0,0)):=by
 have:=at_newW (boxw w a b c d) (.cells #[.bool false,.slice none 0 0] 80)
 rw [boxw_size'] at this
 exact this
structure Fin4 (w U:World) (s:Nat) (x y:Int) (p q r t:Value):Prop where
 c0:((((U.setCell ⟨s,0,none⟩ p).setCell ⟨s,1,none⟩ q).setCell ⟨s+1,0,none⟩ r).setCell ⟨s+1,1,none⟩ t).cell? ⟨s,0,none⟩=some p
 c1:((((U.setCell ⟨s,0,none⟩ p).setCell ⟨s,1,none⟩ q).setCell ⟨s+1,0,none⟩ r).setCell ⟨s+1,1,none⟩ t).cell? ⟨s,1,none⟩=some q
 c2:((((U.setCell ⟨s,0,none⟩ p).setCell ⟨s,1,none⟩ q).setCell ⟨s+1,0,none⟩ r).setCell ⟨s+1,1,none⟩ t).cell? ⟨s+1,0,none⟩=some r
 c3:((((U.setCell ⟨s,0,none⟩ p).setCell ⟨s,1,none⟩ q).setCell ⟨s+1,0,none⟩ r).setCell ⟨s+1,1,none⟩ t).cell? ⟨s+1,1,none⟩=some t
 f0:U.frozen? ⟨s,0,none⟩=false
 f1:U.frozen? ⟨s,1,none⟩=false
 f2:U.frozen? ⟨s+1,0,none⟩=false
 f3:U.frozen? ⟨s+1,1,none⟩=false
 d0:∃ v,U.cell? ⟨s,0,none⟩=some v
 a:WhoAt ((((U.setCell ⟨s,0,none⟩ p).setCell ⟨s,1,none⟩ q).setCell ⟨s+1,0,none⟩ r).setCell ⟨s+1,1,none⟩ t) x (.agg #[p,q])
 b:WhoAt ((((U.setCell ⟨s,0,none⟩ p).setCell ⟨s,1,none⟩ q).setCell ⟨s+1,0,none⟩ r).setCell ⟨s+1,1,none⟩ t) y (.agg #[r,t])
 below:Below w.heap.size w ((((U.setCell ⟨s,0,none⟩ p).setCell ⟨s,1,none⟩ q).setCell ⟨s+1,0,none⟩ r).setCell ⟨s+1,1,none⟩ t)
theorem fin4 {w U:World}{s:Nat}{x y:Int}{p q r t m n m' n':Value}(h0:U.heap[s]?=some (.cells #[m,n] 80 (0,0)))(h1:U.heap[s+1]?=some (.cells #[m',n'] 80 (0,0)))(hx:WhoAt U x (.agg #[p,q]))(hy:WhoAt U y (.agg #[r,t]))(hb:Below w.heap.size w U)(hs:w.heap.size<=s):Fin4 w U s x y p q r t:=by
 have S:=setw (U:=(U.setCell ⟨s,0,none⟩ p).setCell ⟨s,1,none⟩ q) rfl h0
 have T:=setw (p:=r) (q:=t) rfl ((S.oth (s+1) (by omega)).trans h1)
 have b0:=(T.oth s (by omega)).trans S.blk
 exact ⟨cell_of_block b0 rfl,cell_of_block b0 rfl,cell_of_block T.blk rfl,cell_of_block T.blk rfl,frozen_of_block h0,frozen_of_block h0,frozen_of_block h1,frozen_of_block h1,⟨_,cell_of_block h0 rfl⟩,T.num _ _ (S.num _ _ hx),T.num _ _ (S.num _ _ hy),T.below _ _ (S.below _ _ hb hs) (by omega)⟩
def QuoPost (w:World)(x y:Int):Ending->World->Prop:=fun e w'=>∃ qv rv,e=.returned (.tuple #[qv,rv])/\WhoAt w' (x/y) qv/\WhoAt w' (x%y) rv/\Below w.heap.size w w'
theorem divided_any (w:World)(x y:Int)(u v:Value)(n:Nat)(hx:WhoAt w x u)(hy:WhoAt w y v)(bx:x.natAbs<2^n)(bY:y.natAbs<2^n)(hn:n<=1000000000)(hy0:0<y):Calls Tryz.prog 73 #[u,v] w (QuoPost w x y):=by
 obtain ⟨a,ao,cap,rfl,hI,hg,hv⟩:=hx.open
 obtain ⟨b,bo,bap,rfl,hJ,hh,hu⟩:=hy.open
 have hl:=lims_len hg hv bx
 have hk:=lims_len hh hu bY
 have hbp:0<b.length:=by
  have:=who_zero hh hu
  rcases Nat.eq_zero_or_pos b.length with h | h
  ·have:=this.1 (List.eq_nil_of_length_eq_zero h);omega
  ·exact h
 have SG:=hid (fun W hW=>wsign_any W y _ (hy.below hW))
 rw [Nm.cmp_gt hy0] at SG
 have hu':Nm.val 4294967296 b=y:=by omega
 have DL:=hid (fun W hW=>divideLimbs_any W a b _ _ (hI.below hW) (hJ.below hW) (by omega) (by omega) hg hh hbp)
 rw [hv,hu'] at DL
 have HJ:=hid hJ
 have HH:=hid hh
 have HU:=hid hu'
 rw [decide_eq_false (show ¬y<0 by omega)] at*
 have BX:=hid bx
 clear hI hJ hg hh hu hu' hx hy bx bY
 by_cases hx0:x<0
 ·rw [decide_eq_true hx0]
  go_enter Tryz.func73,Tryz.ntmps73
  go_wp2_with fail
  refine (SG.out _ (box4_below w _ _ _ _)).mono ?_
  rintro e w1 ⟨rfl,hb1⟩
  have hs1:=hb1.size
  rw [box4_size] at hs1
  have B1:=(box4_below w _ _ _ _).trans (hb1.mono (box4_below w _ _ _ _).size)
  have k0:=newW (by rw [box4_size];omega) (box4_at0 _ _ _ _ _) hb1
  have k1:=newW (by rw [box4_size];omega) (box4_at1 _ _ _ _ _) hb1
  have K2:=hid (newW (by rw [box4_size];omega) (box4_at2 _ _ _ _ _) hb1)
  have K3:=hid (newW (by rw [box4_size];omega) (box4_at3 _ _ _ _ _) hb1)
  have y0:=cell_of_block (o:=0) k0 rfl
  have y1:=cell_of_block (o:=1) k0 rfl
  have y2:=cell_of_block (o:=0) k1 rfl
  have y3:=cell_of_block (o:=1) k1 rfl
  have DD:=hid (DL.out w1 B1)
  have HB1:=hid B1
  clear hb1 SG
  go_wp2_with fail
  refine (DD.out).mono ?_
  rintro e w2 ⟨qv,rv,Q,R,rfl,hQ,hR,gQ,gR,vQ,vR,hb2⟩
  have hs2:=hb2.size
  obtain ⟨qo,qc,rfl,_⟩:=hQ.shape
  obtain ⟨ro,rc,rfl,_⟩:=hR.shape
  have z0:=(hb2.cell (p:=⟨w.heap.size,0,none⟩) (by simp only;omega)).trans y0
  have z3:=(hb2.cell (p:=⟨w.heap.size+1,1,none⟩) (by simp only;omega)).trans y3
  have B2:=HB1.out.trans (hb2.mono HB1.out.size)
  have hRz:=Nm.val_zero (by decide) gR
  have hr0:=Nm.val_lo (by decide) gR.dig
  have hrx:=Int.emod_lt_of_pos ((x.natAbs:Nat):Int) hy0
  have hqr:=Int.emod_add_mul_ediv ((x.natAbs:Nat):Int) y
  have hq0:0<=((x.natAbs:Nat):Int)/y:=Int.ediv_nonneg (by omega) (by omega)
  have hfl:=Nm.floor_neg hy0 (show ((x.natAbs:Nat):Int)=((x.natAbs:Nat):Int)/y*y+((x.natAbs:Nat):Int)%y by rw [Int.mul_comm];omega) (by omega) hrx
  rw [show -((x.natAbs:Nat):Int)=x by omega] at hfl
  have hem:=Int.emod_add_mul_ediv x y
  by_cases hR0:R=[]
  ·subst hR0
   have e0:((x.natAbs:Nat):Int)%y=0:=by rw [<-vR];rfl
   rw [if_pos e0] at hfl
   have hqn:((x.natAbs:Nat):Int)/y≠0:=by intro e;rw [e] at hqr;omega
   have hX:WhoAt w2 (x/y) (.agg #[.bool true,.slice qo Q.length qc]):=who_of hQ gQ (by rw [vQ,hfl];omega) (by rw [hfl];symm;simp;omega)
   have hY:WhoAt w2 (x%y) (.agg #[.bool false,.slice none 0 0]):=by
    have:x%y=0:=by rw [hfl,Int.mul_neg] at hem;omega
    rw [this]
    exact who_nil w2
   have hr:=B2
   have BB:=hb2
   have hblk2:=newW (by omega) K2.out BB
   have hblk3:=newW (by omega) K3.out BB
   have s0:=cell_of_block (o:=0) hblk2 rfl
   have s1:=cell_of_block (o:=1) hblk2 rfl
   have s2:=cell_of_block (o:=0) hblk3 rfl
   have s3:=cell_of_block (o:=1) hblk3 rfl
   have F:=fin4 hblk2 hblk3 hX hY hr (by omega)
   have r0:=F.f0
   have r1:=F.f1
   have r2:=F.f2
   have r3:=F.f3
   have q0:=F.c0
   have q1:=F.c1
   have q2:=F.c2
   have q3:=F.c3
   have FA:=hid F.a
   have FY:=hid F.b
   have FB:=hid F.below
   clear F hX hY hr hblk2 hblk3 BB
   clear hqn hfl hem hqr hrx hq0 hr0 hRz gQ gR vQ vR hQ hR B2 hb2 e0
   go_wp2_with fail
   refine bodyPost_ret (v:=.tuple #[.agg #[.bool true,.slice qo Q.length qc],.agg #[.bool false,.slice none 0 0]]) (by simp [results,Tryz.results73,go_sem,q0,q1,q2,q3]) rfl ⟨_,_,rfl,FA.out,FY.out,FB.out⟩
  ·have hRl:((R.length:Int)==0)=false:=by
    have:=List.length_pos_iff.2 hR0
    exact beq_eq_false_iff_ne.2 (by omega)
   have e0:((x.natAbs:Nat):Int)%y≠0:=by rw [<-vR];exact fun h=>hR0 (hRz.1 h)
   rw [if_neg e0] at hfl
   have LO:=hid (limbsOf_any 1 w2 (by decide) (by decide))
   have HQ:=hid hQ
   have HR:=hid hR
   have GQ:=hid gQ
   have GR:=hid gR
   have VQ:=hid vQ
   have VR:=hid vR
   have HFL:=hid hfl
   have HEM:=hid hem
   have HQR:=hid hqr
   have HRX:=hid hrx
   have H2:=hid hb2
   have HB2:=hid B2
   have hQl:Q.length<=n:=by
    have h1:=Int.ediv_le_self y (show 0<=((x.natAbs:Nat):Int) by omega)
    have h2:=BX.out
    exact lims_len (z:=((x.natAbs:Nat):Int)/y) gQ (by rw [vQ];omega) (by omega)
   clear hQ hR gQ gR vQ vR hfl hem hqr hrx hb2 B2 hRz
   go_wp2_with fail
   refine (LO.out).mono ?_
   rintro e w3 ⟨lv,L,rfl,⟨gL,vL,lL⟩,hI3,hb3⟩
   have hs3:=hb3.size
   have AD:=hid (addLimbs_any w3 Q L _ _ (HQ.out.below hb3) (hI3.weak (Nat.zero_le _)) (by omega) (by omega) GQ.out.dig gL.dig)
   rw [vL,VQ.out] at AD
   have z3':=(hb3.cell (p:=⟨w.heap.size+1,1,none⟩) (by simp only;omega)).trans z3
   have H3:=hid hb3
   clear hb3 hI3 gL vL
   go_wp2_with fail
   refine (AD.out).mono ?_
   rintro e w4 ⟨fv,FL,rfl,⟨gF,vF⟩,hIF,hb4⟩
   have hs4:=hb4.size
   obtain ⟨fo,fc,rfl,_⟩:=hIF.shape
   have z4:=(hb4.cell (p:=⟨w.heap.size+1,1,none⟩) (by simp only;omega)).trans z3'
   have B24:=hid (H3.out.trans (hb4.mono H3.out.size))
   have hle:Nm.val 4294967296 R<=Nm.val 4294967296 b:=by rw [VR.out,HU.out];have:=HRX.out;omega
   have SB:=hid (subtractLimbs_any w4 b R _ _ ((HJ.out.below HB2.out).below B24.out) (HR.out.below B24.out) (by omega) (wlen_le GR.out HH.out hle) HH.out.dig GR.out.dig hle)
   rw [VR.out,HU.out] at SB
   have HIF:=hid hIF
   have GF:=hid gF
   have VF:=hid vF
   clear hIF gF vF hb4
   go_wp2_with fail
   refine (SB.out).mono ?_
   rintro e w5 ⟨tv,TL,rfl,⟨gT,vT⟩,hIT,hb5⟩
   have hs5:=hb5.size
   obtain ⟨to',tc,rfl,_⟩:=hIT.shape
   have hX:WhoAt w5 (x/y) (.agg #[.bool true,.slice fo FL.length fc]):=who_of ((HIF.out.weak (Nat.zero_le _)).below hb5) GF.out (by rw [VF.out,HFL.out];omega) (by rw [HFL.out];symm;simp;omega)
   have hY:WhoAt w5 (x%y) (.agg #[.bool false,.slice to' TL.length tc]):=by
    have h1:=HEM.out
    have h2:=HQR.out
    have h3:=HRX.out
    rw [HFL.out,Int.mul_sub,Int.mul_neg,Int.mul_one] at h1
    have h5:=VR.out
    refine who_of (hIT.weak (Nat.zero_le _)) gT (by rw [vT];omega) (by symm;simp;omega)
   have BB:=(H2.out.trans (B24.out.mono H2.out.size)).trans (hb5.mono (show w1.heap.size<=w4.heap.size by omega))
   have hr:=(HB2.out.trans (B24.out.mono (show w.heap.size<=w2.heap.size by omega))).trans (hb5.mono (show w.heap.size<=w4.heap.size by omega))
   have hblk2:=newW (by omega) K2.out BB
   have hblk3:=newW (by omega) K3.out BB
   have s0:=cell_of_block (o:=0) hblk2 rfl
   have s1:=cell_of_block (o:=1) hblk2 rfl
   have s2:=cell_of_block (o:=0) hblk3 rfl
   have s3:=cell_of_block (o:=1) hblk3 rfl
   have F:=fin4 hblk2 hblk3 hX hY hr (by omega)
   have r0:=F.f0
   have r1:=F.f1
   have r2:=F.f2
   have r3:=F.f3
   have q0:=F.c0
   have q1:=F.c1
   have q2:=F.c2
   have q3:=F.c3
   have FA:=hid F.a
   have FY:=hid F.b
   have FB:=hid F.below
   clear F hX hY hr hblk2 hblk3 BB
   clear gT vT hIT hb5
   go_wp2_with fail
   refine bodyPost_ret (v:=.tuple #[.agg #[.bool true,.slice fo FL.length fc],.agg #[.bool false,.slice to' TL.length tc]]) (by simp [results,Tryz.results73,go_sem,q0,q1,q2,q3]) rfl ⟨_,_,rfl,FA.out,FY.out,FB.out⟩
 ·rw [decide_eq_false hx0]
  go_enter Tryz.func73,Tryz.ntmps73
  go_wp2_with fail
  refine (SG.out _ (box4_below w _ _ _ _)).mono ?_
  rintro e w1 ⟨rfl,hb1⟩
  have hs1:=hb1.size
  rw [box4_size] at hs1
  have B1:=(box4_below w _ _ _ _).trans (hb1.mono (box4_below w _ _ _ _).size)
  have k0:=newW (by rw [box4_size];omega) (box4_at0 _ _ _ _ _) hb1
  have k1:=newW (by rw [box4_size];omega) (box4_at1 _ _ _ _ _) hb1
  have K2:=hid (newW (by rw [box4_size];omega) (box4_at2 _ _ _ _ _) hb1)
  have K3:=hid (newW (by rw [box4_size];omega) (box4_at3 _ _ _ _ _) hb1)
  have y0:=cell_of_block (o:=0) k0 rfl
  have y1:=cell_of_block (o:=1) k0 rfl
  have y2:=cell_of_block (o:=0) k1 rfl
  have y3:=cell_of_block (o:=1) k1 rfl
  have DD:=hid (DL.out w1 B1)
  have HB1:=hid B1
  clear hb1 SG
  go_wp2_with fail
  refine (DD.out).mono ?_
  rintro e w2 ⟨qv,rv,Q,R,rfl,hQ,hR,gQ,gR,vQ,vR,hb2⟩
  have hs2:=hb2.size
  obtain ⟨qo,qc,rfl,_⟩:=hQ.shape
  obtain ⟨ro,rc,rfl,_⟩:=hR.shape
  have z0:=(hb2.cell (p:=⟨w.heap.size,0,none⟩) (by simp only;omega)).trans y0
  have hr:=HB1.out.trans (hb2.mono HB1.out.size)
  have BB:=hb2
  rw [show ((x.natAbs:Nat):Int)=x by omega] at vQ vR
  have hq0:0<=x/y:=Int.ediv_nonneg (by omega) (by omega)
  have hr0:0<=x%y:=Int.emod_nonneg _ (by omega)
  have hX:WhoAt w2 (x/y) (.agg #[.bool false,.slice qo Q.length qc]):=who_of hQ gQ (by rw [vQ];omega) (by symm;simp;omega)
  have hY:WhoAt w2 (x%y) (.agg #[.bool false,.slice ro R.length rc]):=who_of hR gR (by rw [vR];omega) (by symm;simp;omega)
  have hblk2:=newW (by omega) K2.out BB
  have hblk3:=newW (by omega) K3.out BB
  have s0:=cell_of_block (o:=0) hblk2 rfl
  have s1:=cell_of_block (o:=1) hblk2 rfl
  have s2:=cell_of_block (o:=0) hblk3 rfl
  have s3:=cell_of_block (o:=1) hblk3 rfl
  have F:=fin4 hblk2 hblk3 hX hY hr (by omega)
  have r0:=F.f0
  have r1:=F.f1
  have r2:=F.f2
  have r3:=F.f3
  have q0:=F.c0
  have q1:=F.c1
  have q2:=F.c2
  have q3:=F.c3
  have FA:=hid F.a
  have FY:=hid F.b
  have FB:=hid F.below
  clear F hX hY hr hblk2 hblk3 BB
  clear gQ gR vQ vR hQ hR hb2 hq0 hr0
  go_wp2_with fail
  refine bodyPost_ret (v:=.tuple #[.agg #[.bool false,.slice qo Q.length qc],.agg #[.bool false,.slice ro R.length rc]]) (by simp [results,Tryz.results73,go_sem,q0,q1,q2,q3]) rfl ⟨_,_,rfl,FA.out,FY.out,FB.out⟩
end Go.Proofs.YteghhlfmcjmnoaaGreatDoor
