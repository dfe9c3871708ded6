import Derived.Test.YteghhlfmcjmnoaaGreatDoorCDe07
set_option linter.unusedSimpArgs false
set_option linter.unusedVariables false
set_option maxRecDepth 100000
set_option maxHeartbeats 2000000
namespace Go.Proofs.YteghhlfmcjmnoaaGreatDoor
namespace Rf
open Nw
theorem mul_sym_bits {n:Nat} {m:Mt} (h:MBits n m) (c:Int):MBits (n+2) (m.mul (Mt.sym c)):=by
 obtain ⟨h1,h2,h3,h4⟩:=h
 unfold Bits at h1 h2 h3 h4
 have e:2 ^ (n+2)=4*2 ^ n:=by rw [Nat.pow_add];omega
 unfold Mt.mul Mt.sym
 constructor <;> (unfold Bits;rw [e];generalize 2 ^ n=N at *) <;> (repeat' split) <;> simp <;> omega
structure Up (m:Mt):Prop where
 a:0≤m.a
 b:0≤m.b
 c:0≤m.c
 d:0≤m.d
 det:0 < m.a*m.d - m.b*m.c
theorem up_one:Up one:=⟨by decide,by decide,by decide,by decide,by decide⟩
theorem up_sym {m:Mt} (h:Up m) {s:Int} (hs:s∈[(-1:Int),1,0]):Up (m.mul (Mt.sym s)):=by
 obtain ⟨h1,h2,h3,h4,h5⟩:=h
 simp at hs
 rcases hs with rfl | rfl | rfl
 ·refine ⟨?_,?_,?_,?_,?_⟩ <;> simp [Mt.mul,Mt.sym] <;> (first | omega | grind)
 ·refine ⟨?_,?_,?_,?_,?_⟩ <;> simp [Mt.mul,Mt.sym] <;> (first | omega | grind)
 ·refine ⟨?_,?_,?_,?_,?_⟩ <;> simp [Mt.mul,Mt.sym] <;> (first | omega | grind)
theorem vag_mul (m s:Mt) (v:V):vag (m.mul s) v=vag s (vag m v):=by
 unfold vag Mt.mul Mt.ag1 Mt.ag2
 simp only [Prod.mk.injEq]
 constructor <;> grind
theorem vag_one (v:V):vag one v=v:=by
 unfold vag one Mt.ag1 Mt.ag2
 simp
theorem fits1 (v:V):fits [v]=true↔((0≤v.1∧0≤v.2∧(0 < v.1∨0 < v.2))∨(v.1≤0∧v.2≤0∧(v.1 < 0∨v.2 < 0))):=by
 unfold fits ups downs
 simp
 by_cases a:0 < v.1 <;> by_cases b:0 < v.2 <;> by_cases c:v.1 < 0 <;> by_cases d:v.2 < 0 <;> simp [a,b,c,d] <;> omega
theorem can_digit {v:V} (h:fits [v]=true):∃ s,[(-1:Int),1,0].find? (can [v])=some s:=by
 have:([(-1:Int),1,0].find? (can [v])).isSome=true:=by
  rw [List.find?_isSome]
  have h':=(fits1 v).1 h
  have k1:can [v] (-1)=true∨can [v] 1=true:=by
   unfold can
   simp only [List.map_cons,List.map_nil]
   rw [fits1,fits1]
   simp [vag,Mt.sym,Mt.ag1,Mt.ag2]
   omega
  rcases k1 with k | k
  ·exact ⟨-1,by simp,k⟩
  ·exact ⟨1,by simp,k⟩
 exact Option.isSome_iff_exists.1 this
theorem can_sign {v:V} (h1:v.1 < 0) (h2:0 < v.2):∃ s,[(43:Int),45,111,119].find? (can [v])=some s:=by
 have:([(43:Int),45,111,119].find? (can [v])).isSome=true:=by
  rw [List.find?_isSome]
  refine ⟨45,by simp,?_⟩
  unfold can
  simp only [List.map_cons,List.map_nil]
  rw [fits1]
  simp [vag,Mt.sym,Mt.ag1,Mt.ag2]
  omega
 exact Option.isSome_iff_exists.1 this
theorem find_can {l:List V} {ts:List Int} {s:Int} (h:ts.find? (can l)=some s):can l s=true∧s∈ts:=⟨List.find?_some h,List.mem_of_find?_eq_some h⟩
theorem isqrt_spec:∀ (k n:Nat),n < 4 ^ k→isqrt k n*isqrt k n≤n∧n < (isqrt k n+1)*(isqrt k n+1)
 | 0,n,h=>by
  have:n=0:=by simpa using h
  subst this
  simp [isqrt]
 | k+1,n,h=>by
  have hk:n / 4 < 4 ^ k:=by
   rw [Nat.pow_succ] at h
   omega
  obtain ⟨h1,h2⟩:=isqrt_spec k (n / 4) hk
  unfold isqrt
  generalize isqrt k (n / 4)=r at*
  have e1:2*r*(2*r)=4*(r*r):=by grind
  have e2:(2*r+1)*(2*r+1)=4*(r*r)+4*r+1:=by grind
  have e3:(2*r+1+1)*(2*r+1+1)=4*(r*r)+8*r+4:=by grind
  have e4:(r+1)*(r+1)=r*r+2*r+1:=by grind
  rw [e4] at h2
  split
  ·rename_i hc
   refine ⟨hc,?_⟩
   rw [e3]
   omega
  ·rename_i hc
   rw [e1,e2] at*
   exact ⟨by omega,by omega⟩
theorem root_spec {z:Int} (h:0≤z):0≤root z∧root z*root z≤z∧z < (root z+1)*(root z+1):=by
 obtain ⟨n,rfl⟩:=Int.eq_ofNat_of_zero_le h
 unfold root
 rw [Int.toNat_natCast]
 have hn:n < 4 ^ (n.log2 / 2+1):=by
  rw [show (4:Nat)=2 ^ 2 by rfl,←Nat.pow_mul]
  refine Nat.lt_of_lt_of_le (Nat.lt_log2_self) (Nat.pow_le_pow_right (by decide) (by omega))
 obtain ⟨h1,h2⟩:=isqrt_spec _ n hn
 generalize isqrt (n.log2 / 2+1) n=r at*
 refine ⟨by omega,?_,?_⟩
 ·rw [←Int.natCast_mul];exact Int.ofNat_le.2 h1
 ·have:((r:Int)+1)*((r:Int)+1)=(((r+1)*(r+1):Nat):Int):=by simp
  rw [this]
  exact Int.ofNat_lt.2 h2
theorem root_ge {z k:Int} (hk:0≤k) (h:k*k≤z):k≤root z:=by
 have h0:0≤z:=Int.le_trans (Int.mul_nonneg hk hk) h
 obtain ⟨h1,h2,h3⟩:=root_spec h0
 rcases Int.lt_or_le (root z) k with h4 | h4
 ·have:(root z+1)*(root z+1)≤k*k:=Int.mul_le_mul (by omega) (by omega) (by omega) (by omega)
  omega
 ·exact h4
theorem root_le {z:Int} (h:0≤z):root z≤z:=by
 obtain ⟨h1,h2,h3⟩:=root_spec h
 rcases Int.lt_or_le (root z) 1 with h4 | h4
 ·omega
 ·have:root z*1≤root z*root z:=Int.mul_le_mul_of_nonneg_left h4 h1
  omega
theorem near_some {p q:Int} (hp:0 < p) (hq:0 < q):∀ (k:Nat) (t:Int),0 < t→q*256≤t*t*4 ^ k→∃ a b,near p q (k+1) t=some (a,b)∧16≤a∧a≤b*b*p∧0 < b∧b≤t*2 ^ k
 | 0,t,ht,h=>by
  have h0:0≤t*t*p:=Int.mul_nonneg (Int.mul_nonneg (by omega) (by omega)) (by omega)
  have h1:256≤t*t*p / q:=by
   refine (Int.le_ediv_iff_mul_le hq).2 ?_
   have:t*t*1≤t*t*p:=Int.mul_le_mul_of_nonneg_left (by omega) (Int.mul_nonneg (by omega) (by omega))
   simp at h
   omega
  have h2:16≤root (t*t*p / q):=root_ge (by decide) (by omega)
  exact ⟨_,_,by unfold near;rw [if_pos h2],h2,Int.le_trans (root_le (by omega)) (Int.ediv_le_self _ h0),ht,by simp⟩
 | k+1,t,ht,h=>by
  have h0:0≤t*t*p:=Int.mul_nonneg (Int.mul_nonneg (by omega) (by omega)) (by omega)
  by_cases h2:16≤root (t*t*p / q)
  ·refine ⟨_,_,by unfold near;rw [if_pos h2],h2,Int.le_trans (root_le (Int.ediv_nonneg h0 (by omega))) (Int.ediv_le_self _ h0),ht,?_⟩
   have:(1:Int)≤2 ^ (k+1):=by have:(0:Int) < 2 ^ (k+1):=Int.pow_pos (by decide);omega
   have:=Int.mul_le_mul_of_nonneg_left this (show 0≤t by omega)
   omega
  ·obtain ⟨a,b,h3,h4,h5,h6,h7⟩:=near_some hp hq k (t+t) (by omega) (by
    have e:(t+t)*(t+t)=t*t*4:=by grind
    rw [e,Int.mul_assoc,←Int.pow_succ']
    exact h)
   refine ⟨a,b,by unfold near;rw [if_neg h2];exact h3,h4,h5,h6,?_⟩
   rw [Int.pow_succ]
   have:(t+t)*2 ^ k=t*(2 ^ k*2):=by grind
   omega
theorem near_more {p q:Int} {r:Int×Int}:∀ (k m:Nat) (t:Int),k≤m→near p q k t=some r→near p q m t=some r
 | 0,_,_,_,h=>by simp [near] at h
 | k+1,0,_,hm,_=>by omega
 | k+1,m+1,t,hm,h=>by
  unfold near at h ⊢
  split at h
  ·rename_i hc
   rw [if_pos hc];exact h
  ·rename_i hc
   rw [if_neg hc]
   exact near_more k m _ (by omega) h
theorem lt_pow {n:Nat} {q:Int} (h:Bits n q):q < 2 ^ n:=by
 unfold Bits at h
 have:((q.natAbs:Nat):Int) < ((2 ^ n:Nat):Int):=Int.ofNat_lt.2 h
 rw [Int.natCast_pow] at this
 have e:(((2:Nat):Int))=2:=rfl
 rw [e] at this
 generalize (2:Int) ^ n=N at*
 omega
theorem le_pow {n:Nat} {b:Int} (h0:0≤b) (h:b≤2 ^ n):Bits (n+1) b:=by
 unfold Bits
 rw [Nat.pow_succ]
 have e:(2:Int) ^ n=((2 ^ n:Nat):Int):=by rw [Int.natCast_pow];rfl
 rw [e] at h
 have:0 < 2 ^ n:=Nat.pow_pos (by decide)
 generalize (2:Nat) ^ n=N at*
 omega
theorem near_ok {p q:Int} (hp:0 < p) (hq:0 < q) (bp:Bits 6100 p) (bq:Bits 6100 q):∃ a b,near p q 20000 1=some (a,b)∧16≤a∧0 < b∧Bits 12300 a∧Bits 3100 b:=by
 have hq2:q < 2 ^ 6100:=lt_pow bq
 obtain ⟨a,b,h1,h2,h3,h4,h5⟩:=near_some hp hq 3060 1 (by decide) (by
  have e:(1:Int)*1*4 ^ 3060=2 ^ 6100*2 ^ 20:=by
   rw [←Int.pow_add,show (4:Int)=2 ^ 2 by rfl,←Int.pow_mul,Int.one_mul,Int.one_mul]
  rw [e]
  have:(2:Int) ^ 20=1048576:=by decide
  rw [this]
  generalize (2:Int) ^ 6100=N at*
  omega)
 have hb:Bits 3061 b:=le_pow (by omega) (by rw [Int.one_mul] at h5;exact h5)
 refine ⟨a,b,near_more _ _ _ (by decide) h1,h2,h4,?_,bits_mono hb (by decide)⟩
 exact bits_of (bits_mul (bits_mul hb hb) bp) (by omega) (by decide)
end Rf
open Go.RowKit
namespace Ab
def gcdZ (x y:Int):Int:=(Nat.gcd x.natAbs y.natAbs:Nat)
theorem gcd_te:TEok Z 138 (teG true (f2 gcdZ) noNd (fun ns=>ns.foldr max 0) [90,90]):=by
 refine f2_ok (fn_of Tryz.func138 rfl rfl).en (fun x y n m hx hy=>?_) (fun w x y u v h1 h2 h3 h4=>common_any w x y u v (10000000*90) h1 h2 h3 h4 (by decide))
 have hx':Bits (max n (max m 0)) x:=bits_mono hx (by omega)
 have hy':Bits (max n (max m 0)) y:=bits_mono hy (by omega)
 show ((Nat.gcd x.natAbs y.natAbs:Nat):Int).natAbs < 2 ^ (10000000*max n (max m 0))
 have e:((Nat.gcd x.natAbs y.natAbs:Nat):Int).natAbs=Nat.gcd x.natAbs y.natAbs:=by omega
 rw [e]
 rcases Nat.eq_zero_or_pos x.natAbs with h | h
 ·rw [h,Nat.gcd_zero_left];exact hy'
 ·exact Nat.lt_of_le_of_lt (Nat.gcd_le_left _ h) hx'
noncomputable def tW1:List (FuncId×TE):=(226,teG true (f4i cp) noNd (fun _=>0) [40,40,40,40])::(138,teG true (f2 gcdZ) noNd (fun ns=>ns.foldr max 0) [90,90])::tW0
theorem tW1_ok:AllTE Z tW1:=⟨cp_te,gcd_te,tW0_ok⟩
def sPow (base times i p:Int):AS:=
 ⟨[.top,.val (.one (.sint .i64 times)),.top,.top,.val (.one (.ptr 0 0)),.val (.one (.ptr 1 0)),.val (.one (.ptr 2 0)),.val (.one (.sint .i64 i)),.top,.top,.top,.top,.top,.top,.top,.top,.top,.top,.top,.top],
  [(0,⟨[.bool false,.lit (.slice none 0 0)],80,true,false,false⟩),(1,⟨[.sg 0,.dg true 0],80,true,false,false⟩),(2,⟨[.sg 1,.dg true 1],80,true,false,false⟩)],3,[(p,80),(base,1)],[]⟩
def fPow:List G→Option RG
 | [.i .i64 b,.i .i64 t]=>some (.one (.ns [b ^ t.toNat]))
 | _=>none
def ndPow:List G→List Prop
 | [.i .i64 b,.i .i64 t]=>[b.natAbs≤16∧0≤t∧t≤100000]
 | _=>[]
theorem pow_bits {b:Int} (hb:b.natAbs≤16) (k:Nat):Go.Proofs.YteghhlfmcjmnoaaGreatDoor.Bits (4*k+1) (b ^ k):=by
 show (b ^ k).natAbs < 2 ^ (4*k+1)
 rw [Int.natAbs_pow]
 have:b.natAbs ^ k≤16 ^ k:=Nat.pow_le_pow_left hb k
 have e:(2:Nat) ^ (4*k+1)=2*16 ^ k:=by rw [Nat.pow_succ,Nat.pow_mul,show (2:Nat) ^ 4=16 from rfl,Nat.mul_comm]
 have:0 < 16 ^ k:=Nat.pow_pos (by decide)
 omega
theorem pow_te:TEok Z 110 (teG true fPow ndPow (fun _=>1) [0,0]):=by
 refine walkL (l:=tW0) tW0_ok spL_ok (fn_of Tryz.func110 rfl rfl) (kb:=[0,1,2]) (kt:=[1,4,5,6,1007]) (nx:=3) (rb:=[80,1]) ?_ (by kernel_rfl) ?_
 ·intro gs ns out h hn h3 h4
  unfold fPow at h
  split at h
  ·rename_i b t
   cases h
   have hn:b.natAbs≤16∧0≤t∧t≤100000:=hn.one
   intro z hz
   simp at hz
   subst hz
   exact bits_in (pow_bits hn.1 _) (by omega)
  ·cases h
 ·intro gs out h hn h3
  unfold fPow at h
  split at h
  ·rename_i b t
   cases h
   have hn:b.natAbs≤16∧0≤t∧t≤100000:=hn.one
   have hb60:Bits 1 b:=bits60 (by omega)
   refine ⟨fun m s=>∃ i:Nat,s=sPow b t i (b ^ i)∧(i:Int)≤t∧m=t.toNat - i,⟨300,_,pow_walk0 b t,?_⟩,?_⟩
   ·refine ⟨holds_cons (by omega) holds_nil,holds_cons ?_ (holds_cons hb60 holds_nil),rfl,_,0,by simp,by omega,rfl⟩
    exact bits_in (pow_bits (b:=1) (by decide) 0) (by decide)
   ·rintro m s ⟨i,rfl,hi,rfl⟩ n
    refine ⟨300,_,pow_walk1 b t i (b ^ i) n,?_,?_⟩
    ·intro hlt
     have hlt:(i:Int) < t:=by simpa using hlt
     have e:b ^ i*b=b ^ (i+1):=by rw [Int.pow_succ]
     refine ⟨holds_cons ?_ (holds_cons hb60 holds_nil),rfl,t.toNat - (i+1),by omega,i+1,?_,by omega,rfl⟩
     ·rw [e]
      exact bits_in (pow_bits hn.1 _) (by omega)
     ·rw [e,wr_small (by omega) (by omega)]
      simp
    ·intro hge
     have hge:¬(i:Int) < t:=by simpa using hge
     show RG.one (.ns [b ^ i])=_
     have:t.toNat=i:=by omega
     rw [this]
  ·cases h
theorem newt {z r:Int} (hz:0 < z) (hr:0 < r):0 < (r+z / r) / 2∧z < ((r+z / r) / 2+1)*((r+z / r) / 2+1)∧(r≤(r+z / r) / 2→r*r≤z):=by
 have q0:0≤z / r:=Int.ediv_nonneg (by omega) (by omega)
 have q1:r*(z / r)≤z:=Int.mul_ediv_self_le (by omega)
 have q2:z < r*(z / r+1):=by
  have:=Int.lt_mul_ediv_self_add (x:=z) hr
  rw [Int.mul_add]
  omega
 generalize z / r=q at*
 have b0:0≤(r+q) / 2:=Int.ediv_nonneg (by omega) (by omega)
 have b1:r+q+1≤2*((r+q) / 2+1):=by omega
 have b2:(r≤(r+q) / 2)→r≤q:=by omega
 generalize (r+q) / 2=b at*
 have s1:4*(r*(q+1))≤(r+q+1)*(r+q+1):=by
  have:0≤(r - (q+1))*(r - (q+1)):=by
   rcases Int.le_total 0 (r - (q+1)) with h | h
   ·exact Int.mul_nonneg h h
   ·exact Int.mul_nonneg_of_nonpos_of_nonpos h h
  have e:(r+q+1)*(r+q+1)=4*(r*(q+1))+(r - (q+1))*(r - (q+1)):=by grind
  omega
 have s2:(r+q+1)*(r+q+1)≤(2*(b+1))*(2*(b+1)):=Int.mul_le_mul b1 b1 (by omega) (by omega)
 have s3:(2*(b+1))*(2*(b+1))=4*((b+1)*(b+1)):=by grind
 have key:z < (b+1)*(b+1):=by omega
 refine ⟨?_,key,fun h=>?_⟩
 ·rcases Int.lt_or_le 0 b with h | h
  ·exact h
  ·have:b=0:=by omega
   subst this
   omega
 ·have:=b2 h
  have:r*r≤r*q:=Int.mul_le_mul_of_nonneg_left this (by omega)
  omega
theorem half1 {x:Int} (h:0≤x):halfZ x 1=x / 2:=by
 unfold halfZ Nm.half
 rw [show decide ((1:Int) < 1)=false from rfl,cond_false,if_neg (by omega)]
 have e1:(x.natAbs:Int)=x:=by omega
 have e2:(2:Int) ^ ((1:Int).toNat)=2:=rfl
 rw [e1,e2]
theorem root_eq {z r:Int} (hz:0≤z) (hr:0≤r) (h1:r*r≤z) (h2:z < (r+1)*(r+1)):Rf.root z=r:=by
 obtain ⟨g0,g1,g2⟩:=Rf.root_spec hz
 rcases Int.lt_trichotomy (Rf.root z) r with h | h | h
 ·have:(Rf.root z+1)*(Rf.root z+1)≤r*r:=Int.mul_le_mul (by omega) (by omega) (by omega) (by omega)
  omega
 ·exact h
 ·have:(r+1)*(r+1)≤Rf.root z*Rf.root z:=Int.mul_le_mul (by omega) (by omega) (by omega) (by omega)
  omega
theorem pow2_bits (k:Nat):Go.Proofs.YteghhlfmcjmnoaaGreatDoor.Bits (k+1) ((2:Int) ^ k):=by
 show ((2:Int) ^ k).natAbs < 2 ^ (k+1)
 rw [Int.natAbs_pow]
 exact Nat.pow_lt_pow_right (by decide) (by omega)
def sRoot (z r:Int):AS:=
 ⟨[.top,.val (.one (.ptr 0 0)),.val (.one (.ptr 1 0)),.top,.val (.one (.ptr 10 0))]++List.replicate 36 .top,
  [(0,⟨[.sg 0,.dg true 0],80,true,false,false⟩),(1,⟨[.bool false,.lit (.slice none 0 0)],80,true,false,false⟩),(10,⟨[.sg 1,.dg true 1],80,true,false,false⟩)],11,[(z,10),(r,11)],[]⟩
def rootT (z:Int):Int:=Wr ((Wr ((Nm.bl z:Int)+1)).tdiv 2)
def fRoot:List G→Option RG
 | [.ns [z]]=>some (.one (.ns [Rf.root z]))
 | _=>none
def ndRoot:List G→List Prop
 | [.ns [z]]=>[0≤z]
 | _=>[]
theorem root_te:TEok Z 214 (teG true fRoot ndRoot (fun ns=>ns.headD 0) [10]):=by
 refine walkL (l:=tW1) tW1_ok spL_ok (fn_of Tryz.func214 rfl rfl) (kb:=[0,1,10]) (kt:=[1,2,4]) (nx:=11) (rb:=[10,11]) ?_ (by kernel_rfl) ?_
 ·intro gs ns out h hn h3 h4
  unfold fRoot at h
  split at h
  ·rename_i z
   cases h
   have hn:0≤z:=hn.one
   match ns,h3 with
   | [n],⟨h3,_⟩=>
    intro y hy
    simp at hy
    subst hy
    have h5:=h3 z (by simp)
    have h6:=Rf.root_le hn
    have h7:=(Rf.root_spec hn).1
    exact bits_of h5 (by omega) (Nat.le_refl _)
  ·cases h
 ·intro gs out h hn h3
  unfold fRoot at h
  split at h
  ·rename_i z
   cases h
   have hn:0≤z:=hn.one
   have bz:Bits 10 z:=h3.1 z (by simp)
   have hbl:=bl_le bz
   have hT:rootT z=(((Nm.bl z+1) / 2:Nat):Int):=by
    have w1:Wr ((Nm.bl z:Int)+1)=(Nm.bl z:Int)+1:=wr_small (by omega) (by omega)
    unfold rootT
    rw [w1]
    have:((Nm.bl z:Int)+1).tdiv 2=(((Nm.bl z+1) / 2:Nat):Int):=by
     rw [Int.tdiv_eq_ediv_of_nonneg (by omega)]
     omega
    rw [this]
    exact wr_small (by omega) (by omega)
   have e1:((1:Int).natAbs:Int)*2 ^ (rootT z).toNat=2 ^ ((Nm.bl z+1) / 2):=by
    rw [hT,Int.toNat_natCast]
    show (1:Int)*_=_
    rw [Int.one_mul]
   have hp:(0:Int) < 2 ^ ((Nm.bl z+1) / 2):=Nm.pow_pos' (by decide) _
   have b2:Bits 11 (2 ^ ((Nm.bl z+1) / 2):Int):=bits_in (pow2_bits ((Nm.bl z+1) / 2)) (by omega)
   refine ⟨fun m s=>∃ r:Int,s=sRoot z r∧0 < r∧0 < z∧z < (r+1)*(r+1)∧Bits 11 r∧m=r.toNat,⟨300,_,root_walk0 z,?_,?_⟩,?_⟩
   ·intro h0
    have h0:Nm.cmp z 0≤0:=by simpa using h0
    have:z=0:=by
     rcases Int.lt_or_eq_of_le hn with h | h
     ·rw [Nm.cmp_gt h] at h0;omega
     ·exact h.symm
    subst this
    rw [root_eq (r:=0) (by decide) (by decide) (by decide) (by decide)]
    exact rfl
   ·intro h0
    have h0:¬Nm.cmp z 0≤0:=by simpa using h0
    have hz:0 < z:=by
     rcases Int.lt_or_eq_of_le hn with h | h
     ·exact h
     ·exfalso;apply h0;rw [Nm.cmp_eq h.symm];decide
    rw [e1]
    refine ⟨holds_cons ⟨by omega,by omega,by omega⟩ holds_nil,holds_cons (by omega) (holds_cons bz (holds_cons b2 holds_nil)),rfl,_,_,rfl,hp,hz,?_,b2,rfl⟩
    have h5:=(bl_lo (z:=z) (by omega)).2.2
    have h6:(2:Int) ^ Nm.bl z≤2 ^ ((Nm.bl z+1) / 2)*2 ^ ((Nm.bl z+1) / 2):=by
     rw [←Int.pow_add]
     exact Nm.pow_mono (by decide) (by omega)
    have h7:z < (2:Int) ^ Nm.bl z:=by
     have:((z.natAbs:Nat):Int) < ((2 ^ Nm.bl z:Nat):Int):=Int.ofNat_lt.2 h5
     rw [Int.natCast_pow] at this
     have e:((2:Nat):Int)=2:=rfl
     rw [e] at this
     omega
    generalize (2:Int) ^ ((Nm.bl z+1) / 2)=P at*
    have e:(P+1)*(P+1)=P*P+2*P+1:=by grind
    omega
   ·rintro m s ⟨r,rfl,hr,hz,hlt,br,rfl⟩ n
    obtain ⟨n1,n2,n3⟩:=newt hz hr
    have hq:0≤z / r:=Int.ediv_nonneg (by omega) (by omega)
    have eh:halfZ (r+z / r) 1=(r+z / r) / 2:=half1 (by omega)
    refine ⟨300,_,root_walk1 z r n,?_,?_⟩
    ·intro _
     refine ⟨holds_cons hr holds_nil,holds_cons (by decide) holds_nil,?_,?_⟩
     ·intro hge
      have hge:0≤Nm.cmp (halfZ (r+z / r) 1) r:=by simpa using hge
      rw [eh] at hge
      have h8:r≤(r+z / r) / 2:=by
       rcases Int.lt_or_le ((r+z / r) / 2) r with h | h
       ·rw [Nm.cmp_lt h] at hge;omega
       ·exact h
      rw [root_eq hn (by omega) (n3 h8) hlt]
      exact rfl
     ·intro hge
      have hge:¬0≤Nm.cmp (halfZ (r+z / r) 1) r:=by simpa using hge
      rw [eh] at hge ⊢
      have h8:(r+z / r) / 2 < r:=by
       rcases Int.lt_or_le ((r+z / r) / 2) r with h | h
       ·exact h
       ·exfalso
        apply hge
        rcases Int.lt_or_eq_of_le h with h | h
        ·rw [Nm.cmp_gt h];decide
        ·rw [Nm.cmp_eq h.symm];decide
      have b3:Bits 11 ((r+z / r) / 2):=bits_of br (by omega) (Nat.le_refl _)
      exact ⟨holds_cons bz (holds_cons b3 holds_nil),rfl,((r+z / r) / 2).toNat,by omega,_,rfl,n1,hz,n2,b3,rfl⟩
    ·intro hle
     have hle:¬0 < Nm.cmp r 0:=by simpa using hle
     exfalso
     apply hle
     rw [Nm.cmp_gt hr]
     decide
  ·cases h
noncomputable def tW:List (FuncId×TE):=(214,teG true fRoot ndRoot (fun ns=>ns.headD 0) [10])::(110,teG true fPow ndPow (fun _=>1) [0,0])::tW1
theorem tW_ok:AllTE Z tW:=⟨root_te,pow_te,tW1_ok⟩
end Ab
open Go.RowKit
namespace Ab
def outN (k:Bool):Out→Option (List Prop×RG×Nat)
 | .ret (.val v)=>(gT k v).map fun g=>([],.one g.1,g.2)
 | .ret (.tup vs)=>(mapO (gT k) vs).map fun gs=>([],.tup (gs.map (·.1)),(gs.map (·.2)).foldr max 0)
 | .br t x y=>(outN k x).bind fun a=>(outN k y).bind fun b=>(mrgR t a.2.1 b.2.1).map fun c=>(a.1.map (fun p=>t=true→p)++b.1.map (fun p=>t=false→p),c,max a.2.2 b.2.2)
 | .need p o=>(outN k o).map fun a=>(p++a.1,a.2)
theorem gTs_ok {k:Bool} {n:Nat} {w:World}:∀ {vs:List VT} {gs:List (G×Nat)} {xs:List Value},mapO (gT k) vs=some gs→(gs.map (·.2)).foldr max 0≤n→All2 (RVT Z w) vs xs→All2 (RVT Z w) ((gs.map (·.1)).map (tokG k n)) xs
 | [],gs,[],h,_,_=>by simp [mapO] at h;subst h;trivial
 | v::vs,gs,x::xs,h,hb,⟨r1,r2⟩=>by
  unfold mapO at h
  obtain ⟨y,h1,h2⟩:=bnd h
  obtain ⟨ys,h3,rfl⟩:=mpd h2
  simp only [List.map_cons,List.foldr_cons] at hb
  obtain ⟨k1,k2⟩:=gT_ok h1 r1
  exact ⟨k2 n (k1.mono (by omega)),gTs_ok h3 (by omega) r2⟩
 | [],_,_::_,_,_,h=>h.elim
 | _::_,_,[],_,_,h=>h.elim
theorem outN_ok {k:Bool} {n:Nat}:∀ {o:Out} {ps:List Prop} {out:RG} {m:Nat},outN k o=some (ps,out,m)→Holds ps→m≤n→o.ok fun r'=>∀ w v,RRV Z w r' v→RRV Z w (rvG k n out) v
 | .ret (.val t),ps,out,m,h,_,hb=>by
  simp only [outN] at h
  obtain ⟨⟨g,m'⟩,h1,h2⟩:=mpd h
  cases h2
  intro w v hv
  obtain ⟨k1,k2⟩:=gT_ok h1 hv
  exact k2 n (k1.mono hb)
 | .ret (.tup vs),ps,out,m,h,_,hb=>by
  simp only [outN] at h
  obtain ⟨gs,h1,h2⟩:=mpd h
  cases h2
  rintro w v ⟨xs,e,hv⟩
  exact ⟨xs,e,gTs_ok h1 hb hv⟩
 | .br t x y,ps,out,m,h,hp,hb=>by
  simp only [outN] at h
  obtain ⟨⟨p1,a,m1⟩,h1,h2⟩:=bnd h
  obtain ⟨⟨p2,b,m2⟩,h3,h4⟩:=bnd h2
  obtain ⟨c,h5,h6⟩:=mpd h4
  cases h6
  have h7:=mrgR_ok h5
  refine ⟨fun e=>?_,fun e=>?_⟩
  ·subst e;subst h7
   exact outN_ok h1 (fun q hq=>hp (true=true→q) (List.mem_append_left _ (List.mem_map.2 ⟨q,hq,rfl⟩)) rfl) (by simp only at hb ⊢;omega)
  ·subst e;subst h7
   exact outN_ok h3 (fun q hq=>hp (false=false→q) (List.mem_append_right _ (List.mem_map.2 ⟨q,hq,rfl⟩)) rfl) (by simp only at hb ⊢;omega)
 | .need p o,ps,out,m,h,hp,hb=>by
  simp only [outN] at h
  obtain ⟨⟨p1,a,m1⟩,h1,h2⟩:=mpd h
  cases h2
  exact ⟨fun q hq=>hp q (by simp [hq]),outN_ok h1 (fun q hq=>hp q (by simp [hq])) hb⟩
abbrev teN (k:Bool) (F:List G→Option RG) (nd:List G→List Prop) (N:Nat) (lim:List Nat):TE:=teG k F nd (fun _=>N) lim
theorem walkN {l:List (FuncId×TE)} (hl:AllTE Z l) {bodies:FuncId→Option Func} (hbo:BodiesOk Z bodies) {f:FuncId} {fn:Func} (Fn':Fn f fn) {k:Bool} {F:List G→Option RG} {nd:List G→List Prop} {N:Nat} {lim:List Nat}
  (h:∀ gs out,F gs=some out→∃ ps m,((run Z (tabSp l) bodies (drawA Z (tabSp l)) (fun _=>false) 2000 [.code (bodyOf fn),.top fn] (start fn (tokGs k gs lim))).bind outcome).bind (outN k)=some (ps,out,m)∧m≤N∧(Holds (nd gs)→GBs gs lim→Holds ps)):TEok Z f (teN k F nd N lim):=by
 refine ⟨Fn'.en,fun ts r p hts hp w vs hvs=>?_⟩
 unfold teN teG at hts
 obtain ⟨xs,h1,h2⟩:=bnd hts
 cases hle:leAll (xs.map (·.2)) lim with
 | false=>rw [hle] at h2;cases h2
 | true=>
  rw [hle] at h2
  simp only [cond_true] at h2
  obtain ⟨out,h3,h4⟩:=mpd h2
  cases h4
  obtain ⟨g1,g2,g3⟩:=argsG_ok ts xs lim vs h1 hle hvs
  obtain ⟨ps,m,k1,k2,k3⟩:=h _ out h3
  have k3':=k3 hp g3
  clear k3
  generalize xs.map (·.1)=gs at*
  obtain ⟨o,k4,k5⟩:=bnd k1
  obtain ⟨tr,k6,k7⟩:=bnd k4
  have hA:At (avsOf 0 (tokGs k gs lim)).2 0 (avsOf 0 (tokGs k gs lim)).2:=fun i y hy=>by rw [Nat.zero_add];exact hy
  refine engine (w0:=w) (ψ:=fun _=>none) (φ:=fun _=>none) (s:=start fn (tokGs k gs lim)) (vs:=(avsOf 0 (tokGs k gs lim)).1) (tabSp_ok hl) hbo (drawA_ok mixed (tabSp_ok hl)) Fn'.at' Fn'.body rfl (avsOf_ok _ 0 vs hA g1) (rep_start fn _ w) 2000 k6 _ (fun _ _=>False) (fun _ _ h=>h.elim) (outcome_ok k7 (outN_ok k5 k3' k2)) ?_
  rintro r0 s φ v w' ⟨hc,r',h7,h8⟩ hr hw
  exact ⟨v,rfl,h8 w' v (rvOf_ok h7 hr),RepF.below hw hc⟩
theorem te_congr' {f:FuncId} {k:Bool} {F F':List G→Option RG} {nd nd':List G→List Prop} {bo:List Nat→Nat} {lim:List Nat} (h:TEok Z f (teG k F nd bo lim)) (hF:∀ gs out,F' gs=some out→Holds (nd' gs)→GBs gs lim→F gs=some out∧Holds (nd gs)):TEok Z f (teG k F' nd' bo lim):=by
 refine ⟨h.1,fun ts r p hts hp w vs hvs=>?_⟩
 unfold teG at hts
 obtain ⟨xs,h1,h2⟩:=bnd hts
 cases hle:leAll (xs.map (·.2)) lim with
 | false=>rw [hle] at h2;cases h2
 | true=>
  rw [hle] at h2
  simp only [cond_true] at h2
  obtain ⟨out,h3,h4⟩:=mpd h2
  cases h4
  obtain ⟨g1,g2,g3⟩:=argsG_ok ts xs lim vs h1 hle hvs
  obtain ⟨k1,k2⟩:=hF _ out h3 hp g3
  exact h.2 ts (rvG k (bo (xs.map (·.2))) out) (nd (xs.map (·.1))) (by unfold teG;rw [h1];simp only [Option.bind_some,hle,cond_true,k1,Option.map_some]) k2 w vs hvs
end Ab
open Go.RowKit
namespace Ab
def lowT (t b:Int):Int:=bif decide (Nm.cmp b 0 < 0) then -t / gcdZ t b else bif Nm.cmp b 0==0 then (bif decide (Nm.cmp t 0 < 0) then -t / gcdZ t b else t / gcdZ t b) else t / gcdZ t b
def lowB (t b:Int):Int:=bif decide (Nm.cmp b 0 < 0) then -b / gcdZ t b else bif Nm.cmp b 0==0 then (bif decide (Nm.cmp t 0 < 0) then -b / gcdZ t b else b / gcdZ t b) else b / gcdZ t b
def fLow:List G→Option RG
 | [.ns [t],.ns [b]]=>some (.one (.ns [lowT t b,lowB t b]))
 | _=>none
def ndLow:List G→List Prop
 | [.ns [t],.ns [b]]=>[0 < gcdZ t b]
 | _=>[]
def fFrOf:List Int→Option (List Int)
 | [n]=>some [n,1]
 | _=>none
def fFrSign:List G→Option RG
 | [.ns [t,b]]=>some (.one (.i .i64 (Nm.cmp t 0)))
 | _=>none
def fFrNeg:List G→Option RG
 | [.ns [t,b]]=>some (.one (.ns [-t,b]))
 | _=>none
noncomputable def tF0:List (FuncId×TE):=(96,teN true fLow ndLow 41 [40,40])::(102,teI true fFrOf)::(80,teN true fFrSign noNd 0 [90])::(127,teN true fFrNeg noNd 10 [10])::tW
theorem tF0_ok:AllTE Z tF0:=⟨low_te,frOf_te,frSign_te,frNeg_te,tW_ok⟩
def fFr2 (top bot:Int→Int→Int→Int→Int):List G→Option RG
 | [.ns [a,b],.ns [c,d]]=>some (.one (.ns [lowT (top a b c d) (bot a b c d),lowB (top a b c d) (bot a b c d)]))
 | _=>none
def ndFr2 (top bot:Int→Int→Int→Int→Int):List G→List Prop
 | [.ns [a,b],.ns [c,d]]=>[0 < gcdZ (top a b c d) (bot a b c d)]
 | _=>[]
noncomputable def tF1:List (FuncId×TE):=(126,teN true (fFr2 (fun a b c d=>a*d+c*b) (fun a b c d=>b*d)) (ndFr2 (fun a b c d=>a*d+c*b) (fun a b c d=>b*d)) 41 [10,10])::(172,teN true (fFr2 (fun a b c d=>a*c) (fun a b c d=>b*d)) (ndFr2 (fun a b c d=>a*c) (fun a b c d=>b*d)) 41 [10,10])::(173,teN true (fFr2 (fun a b c d=>a*d) (fun a b c d=>b*c)) (ndFr2 (fun a b c d=>a*d) (fun a b c d=>b*c)) 41 [10,10])::tF0
theorem tF1_ok:AllTE Z tF1:=⟨frPlus_te,frTimes_te,frOver_te,tF0_ok⟩
noncomputable def tF:List (FuncId×TE):=(79,teN true (fFr2 (fun a b c d=>a*d+-c*b) (fun a b c d=>b*d)) (ndFr2 (fun a b c d=>a*d+-c*b) (fun a b c d=>b*d)) 41 [10,10])::tF1
theorem tF_ok:AllTE Z tF:=⟨frMinus_te,tF1_ok⟩
def fMOf:List Int→Option (List Int)
 | [a,b,c,d]=>some [a,b,c,d]
 | _=>none
def fPairs:List G→Option RG
 | [.ns [a],.ns [x],.ns [b],.ns [y]]=>some (.one (.ns [a*x+b*y]))
 | _=>none
noncomputable def tM0:List (FuncId×TE):=(56,teI true fMOf)::(95,teN true fPairs noNd 7 [3,3,3,3])::tF
theorem tM0_ok:AllTE Z tM0:=⟨mOf_te,pairs_te,tF_ok⟩
end Ab
open Go.RowKit
namespace Ab
def symA (s:Int):Int:=bif s==2 then -1 else bif s==3 then 1 else bif s==4 then 1 else bif s==5 then 1 else bif s==6 then 3 else bif s==7 then 2 else 1
def symB (s:Int):Int:=bif s==2 then 0 else bif s==3 then -1 else bif s==4 then 1 else bif s==5 then 0 else bif s==6 then 1 else bif s==7 then 1 else 0
def symC (s:Int):Int:=bif s==2 then 0 else bif s==3 then 1 else bif s==4 then -1 else bif s==5 then 1 else bif s==6 then 1 else bif s==7 then 0 else 0
def symD (s:Int):Int:=bif s==2 then 1 else bif s==3 then 1 else bif s==4 then 1 else bif s==5 then 2 else bif s==6 then 3 else bif s==7 then 1 else 1
def fSymM:List G→Option RG
 | [.i .i64 s]=>some (.one (.ns [symA s,symB s,symC s,symD s]))
 | _=>none
def fAfter:List G→Option RG
 | [.ns [a,b,c,d],.ns [e,f,g,h]]=>some (.one (.ns [a*e+b*g,a*f+b*h,c*e+d*g,c*f+d*h]))
 | _=>none
noncomputable def tM:List (FuncId×TE):=(58,teN true fSymM noNd 1 [0])::(57,teN true fAfter noNd 7 [3,3])::tM0
theorem tM_ok:AllTE Z tM:=⟨SymM_te,After_te,tM0_ok⟩
def fPair:List Int→Option (List Int)
 | [p,q]=>some [p,q]
 | _=>none
def fColT:List G→Option RG
 | [.ns [p,q],.ns [n]]=>some (.one (.ns [p*n,q*n]))
 | _=>none
def fColP:List G→Option RG
 | [.ns [p,q],.ns [r,s]]=>some (.one (.ns [p+r,q+s]))
 | _=>none
noncomputable def tC0:List (FuncId×TE):=(180,teI true fPair)::(240,teN true fColT noNd 18 [15,3])::(241,teN true fColP noNd 19 [18,18])::tM
theorem tC0_ok:AllTE Z tC0:=⟨pair_te,ColT_te,ColP_te,tM_ok⟩
def fRead:List G→Option RG
 | [.ns [p,q],.ns [r,s],.ns [a,b,c,d]]=>some (.tup [.ns [p*a+r*c,q*a+s*c],.ns [p*b+r*d,q*b+s*d]])
 | _=>none
noncomputable def tC1:List (FuncId×TE):=(231,teN true fRead noNd 19 [15,15,3])::tC0
theorem tC1_ok:AllTE Z tC1:=⟨Read_te,tC0_ok⟩
def fRdL:List G→Option RG
 | [.ns [p0,q0,p1,q1,p2,q2,p3,q3],.ns [a,b,c,d]]=>some (.one (.ns [p0*a+p2*c,q0*a+q2*c,p1*a+p3*c,q1*a+q3*c,p0*b+p2*d,q0*b+q2*d,p1*b+p3*d,q1*b+q3*d]))
 | _=>none
def fRdR:List G→Option RG
 | [.ns [p0,q0,p1,q1,p2,q2,p3,q3],.ns [a,b,c,d]]=>some (.one (.ns [p0*a+p1*c,q0*a+q1*c,p0*b+p1*d,q0*b+q1*d,p2*a+p3*c,q2*a+q3*c,p2*b+p3*d,q2*b+q3*d]))
 | _=>none
def fGive:List G→Option RG
 | [.ns [p0,q0,p1,q1,p2,q2,p3,q3],.ns [a,b,c,d]]=>some (.one (.ns [d*p0 - b*q0,a*q0 - c*p0,d*p1 - b*q1,a*q1 - c*p1,d*p2 - b*q2,a*q2 - c*p2,d*p3 - b*q3,a*q3 - c*p3]))
 | _=>none
noncomputable def tC2:List (FuncId×TE):=(222,teN true fRdL noNd 19 [15,3])::(217,teN true fRdR noNd 19 [15,3])::(199,teN true fGive noNd 19 [15,3])::tC1
theorem tC2_ok:AllTE Z tC2:=⟨RdL_te,RdR_te,Give_te,tC1_ok⟩
noncomputable def fewer (t z:Int):Int:=bif Nm.cmp z 0==0 then t else bif decide (t < 0) then (Nm.tz z:Int) else bif decide ((Nm.tz z:Int) < t) then (Nm.tz z:Int) else t
def fac1 (kd k:Int):Int:=bif kd==11 then 1 else bif k==0 then 1 else bif kd==13 then Wr (k*k) else Wr (Wr ((Wr (k+1)).tdiv 2)*Wr ((Wr (k+1)).tdiv 2))
def fac2 (kd k:Int):Int:=bif kd==11 then Wr (Wr (4*k)+2) else bif k==0 then 1 else bif kd==13 then Wr (Wr (2*k)+1) else Wr (k+1)
def eterm (k:Int):Int:=bif k==0 then 2 else bif k.tmod 3==2 then Wr ((Wr (2*Wr (k+1))).tdiv 3) else 1
theorem pi_need {k:Int} (h:0≤k∧k≤100000000):Holds [(k==0)=false→(Wr (k*k)).natAbs < 1000000000000000000,(k==0)=false→(Wr (Wr (2*k)+1)).natAbs < 1000000000000000000]:=by
 have h1:0≤k*k:=Int.mul_nonneg h.1 h.1
 have h2:k*k≤100000000*100000000:=Int.mul_le_mul h.2 h.2 h.1 (by decide)
 have e1:Wr (k*k)=k*k:=wr_small (by omega) (by omega)
 have e2:Wr (2*k)=2*k:=wr_small (by omega) (by omega)
 have e3:Wr (2*k+1)=2*k+1:=wr_small (by omega) (by omega)
 rw [e1,e2,e3]
 exact holds_cons (fun _=>by omega) (holds_cons (fun _=>by omega) holds_nil)
def ndPi:List G→List Prop
 | [.i .i64 k]=>[0≤k∧k≤100000000]
 | _=>[]
noncomputable def fFew:List G→Option RG
 | [.i .i64 t,.ns [z]]=>some (.one (.i .i64 (fewer t z)))
 | _=>none
def fNought:List G→Option RG
 | [.ns [p,q]]=>some (.one (.b ((Nm.cmp p 0==0)&&(Nm.cmp q 0==0))))
 | _=>none
def fGrt:List G→Option RG
 | [.ns [a],.ns [b]]=>some (.one (.ns [bif decide (Nm.cmp a b < 0) then b else a]))
 | _=>none
def fSqs:List G→Option RG
 | [.i .i64 k]=>some (.one (.b ((k==13) || (k==11))))
 | _=>none
def fFac:List G→Option RG
 | [.i .i64 kd,.i .i64 k]=>some (.tup [.i .i64 (fac1 kd k),.i .i64 (fac2 kd k)])
 | _=>none
def fETm:List G→Option RG
 | [.i .i64 k]=>some (.one (.i .i64 (eterm k)))
 | _=>none
def fPiM:List G→Option RG
 | [.i .i64 k]=>some (.one (.ns [bif k==0 then 0 else 0,bif k==0 then 4 else Wr (k*k),bif k==0 then 1 else 1,bif k==0 then 1 else Wr (Wr (2*k)+1)]))
 | _=>none
def fOpC:List G→Option RG
 | [.i .i64 k]=>some (.one (.ns [bif k==6 then 0 else bif k==7 then 0 else bif k==8 then 1 else 0,bif k==6 then 0 else bif k==7 then 0 else bif k==8 then 0 else 0,bif k==6 then 1 else bif k==7 then 1 else bif k==8 then 0 else 1,bif k==6 then 0 else bif k==7 then 0 else bif k==8 then 0 else 0,bif k==6 then 1 else bif k==7 then -1 else bif k==8 then 0 else 0,bif k==6 then 0 else bif k==7 then 0 else bif k==8 then 0 else 1,bif k==6 then 0 else bif k==7 then 0 else bif k==8 then 0 else 0,bif k==6 then 1 else bif k==7 then 1 else bif k==8 then 1 else 0]))
 | _=>none
def fRstC:List G→Option RG
 | [.i .i64 k,.ns [p,q]]=>some (.one (.ns [bif k==12 then q else bif k==13 then q else q,bif k==12 then 0 else bif k==13 then p else 0,bif k==12 then -p else bif k==13 then -p else -p,bif k==12 then p+q else bif k==13 then q else q,bif k==12 then 0 else bif k==13 then 0 else 0,bif k==12 then 0 else bif k==13 then 0 else 0,bif k==12 then 0 else bif k==13 then 0 else 0,bif k==12 then 0 else bif k==13 then 0 else 0]))
 | _=>none
noncomputable def tC3:List (FuncId×TE):=(211,teN true fFew noNd 0 [0,19])::(246,teN true fNought noNd 0 [19])::(232,teN true fGrt noNd 80 [80,80])::(238,teN true fSqs noNd 0 [0])::(239,teN true fFac noNd 0 [0,0])::(228,teN true fETm noNd 0 [0])::(227,teN true fPiM ndPi 1 [0])::(181,teN true fOpC noNd 1 [0])::(245,teN true fRstC noNd 11 [0,10])::tC2
theorem tC3_ok:AllTE Z tC3:=⟨Few_te,Nought_te,Grt_te,Sqs_te,Fac_te,ETm_te,PiM_te,OpC_te,RstC_te,tC2_ok⟩
def sumZ (p q:Int):Int:=bif (Nm.cmp p 0==0)&&(Nm.cmp q 0==0) then 1 else p+q
def enoughZ (k hp hq lp lq:Int):Bool:=
 bif k==10 then decide (Nm.cmp (hp*lq) (lp*hq+lp*hq)≤0)
 else bif k==12 then decide (Nm.cmp ((hp*lq - lp*hq)*4) (hq*lq+lp*hq)≤0)
 else bif k==13 then decide (Nm.cmp ((hp*lq - lp*hq)*4) (hq*lq+hp*lp)≤0)
 else decide (Nm.cmp ((hp*lq - lp*hq)*4) (hq*lq)≤0)
def fSum:List G→Option RG
 | [.ns [p,q]]=>some (.one (.ns [sumZ p q]))
 | _=>none
def fEno:List G→Option RG
 | [.i .i64 k,.ns [hp,hq],.ns [lp,lq]]=>some (.one (.b (enoughZ k hp hq lp lq)))
 | _=>none
noncomputable def tC4:List (FuncId×TE):=(242,teN true fSum noNd 16 [15])::(235,teN true fEno noNd 0 [0,15,15])::tC3
theorem tC4_ok:AllTE Z tC4:=⟨Sum_te,Eno_te,tC3_ok⟩
def scaledZ (up uq vp vq op oq rp rq:Int):Int:=(((up*vq - uq*vp)*(sumZ op oq*sumZ rp rq)).natAbs:Int)
def grZ (a b:Int):Int:=bif decide (Nm.cmp a b < 0) then b else a
def fScl:List G→Option RG
 | [.ns [up,uq],.ns [vp,vq],.ns [op,oq],.ns [rp,rq]]=>some (.one (.ns [scaledZ up uq vp vq op oq rp rq]))
 | _=>none
noncomputable def tC5:List (FuncId×TE):=(233,teN true fScl noNd 63 [15,15,15,15])::tC4
theorem tC5_ok:AllTE Z tC5:=⟨Scl_te,tC4_ok⟩
def widthsZ (p0 q0 p1 q1 p2 q2 p3 q3 t:Int):Int:=
 Nm.cmp (grZ (scaledZ p0 q0 p2 q2 p1 q1 p3 q3) (scaledZ p1 q1 p3 q3 p0 q0 p2 q2)*t) (grZ (scaledZ p0 q0 p1 q1 p2 q2 p3 q3) (scaledZ p2 q2 p3 q3 p0 q0 p1 q1))
def ndWid:List G→List Prop
 | [.ns _,.i .i64 t]=>[t.natAbs < 1000000000000000000]
 | _=>[]
inductive SF where
 | st (b:Bool)
 | sy (b:Bool)
def SF.val:SF→Bool
 | .st b=>b
 | .sy b=>b
def fWid:List G→Option RG
 | [.ns [p0,q0,p1,q1,p2,q2,p3,q3],.i .i64 t]=>some (.one (.i .i64 (widthsZ p0 q0 p1 q1 p2 q2 p3 q3 t)))
 | _=>none
noncomputable def tC6:List (FuncId×TE):=(219,teN true fWid ndWid 0 [15,0])::tC5
theorem tC6_ok:AllTE Z tC6:=⟨Wid_te,tC5_ok⟩
end Ab
open Go.RowKit
namespace Ab
def orL (u x y:Bool) (k:SF→LT):LT:=.br u (k (.st true)) (.br x (k (.st true)) (k (.sy y)))
def andL (d:SF) (k:LT):LT:=
 match d with
 | .st true=>.ret (.one (.b false))
 | .st false=>k
 | .sy t=>.br t (.ret (.one (.b false))) k
def cutL (u d:SF) (k:LT):LT:=
 match u with
 | .st true=>andL d k
 | .st false=>k
 | .sy t=>.br t (andL d k) k
theorem orL_ok {u x y:Bool} {k:SF→LT} {P:RG→Prop} {Q:List (K (List AT))→AS→Prop} (h:∀ s:SF,s.val=(u || x || y)→(k s).ok P Q):(orL u x y k).ok P Q:=by
 refine ⟨fun e=>h _ (by rw [e];rfl),fun e=>⟨fun e2=>h _ (by rw [e,e2];rfl),fun e2=>h _ (by rw [e,e2];rfl)⟩⟩
theorem cutL_ok {u d:SF} {k:LT} {P:RG→Prop} {Q:List (K (List AT))→AS→Prop} (h1:u.val=true→d.val=true→P (.one (.b false))) (h2:k.ok P Q):(cutL u d k).ok P Q:=by
 have ha:u.val=true→(andL d k).ok P Q:=by
  intro hu
  cases d with
  | st b=>cases b with
   | true=>exact h1 hu rfl
   | false=>exact h2
  | sy t=>exact ⟨fun e=>h1 hu e,fun _=>h2⟩
 cases u with
 | st b=>cases b with
  | true=>exact ha rfl
  | false=>exact h2
 | sy t=>exact ⟨fun e=>ha e,fun _=>h2⟩
def fitN (u d:Bool) (l:List (Int×Int)):Bool:=!((u || l.any fun c=>decide (c.1 < 0) || decide (c.2 < 0))==(d || l.any fun c=>decide (c.1 > 0) || decide (c.2 > 0)))
theorem fitN_cons (u d:Bool) (p q:Int) (l:List (Int×Int)):fitN u d ((p,q)::l)=fitN (u || decide (p < 0) || decide (q < 0)) (d || decide (p > 0) || decide (q > 0)) l:=by
 unfold fitN
 simp only [List.any_cons,Bool.or_assoc]
theorem fitN_both (l:List (Int×Int)):fitN true true l=false:=by unfold fitN;simp
def sFit (zs:List Int) (ms:List Int) (i:Nat) (u d:Bool):AS:=
 ⟨[.top,.top,.val (.one (.ptr 0 0)),.val (.one (.ptr 1 0)),.top,.val (.one (.sbool u)),.val (.one (.sbool d)),.val (.one (.int .i64 i))]++List.replicate 57 .top,
  [(0,⟨numCs true 0 8,201,true,false,false⟩),(1,⟨numCs true 8 4,115,true,false,false⟩)],2,(zs.map fun z=>(z,19))++ms.map (fun z=>(z,3)),[]⟩
def cl (p q a b c d:Int):Int×Int:=(cp d p b q,cp a q c p)
def fitZ (p0 q0 p1 q1 p2 q2 p3 q3 a b c d:Int):Bool:=fitN false false [cl p0 q0 a b c d,cl p1 q1 a b c d,cl p2 q2 a b c d,cl p3 q3 a b c d]
section
variable (p0 q0 p1 q1 p2 q2 p3 q3 a b c d:Int)
noncomputable def fitRun (i:Nat) (n:Nat) (u v:Bool):Option LT:=(run Z (orSp spL (tabSp tC6)) (fun _=>none) (drawA Z (orSp spL (tabSp tC6))) atRound 300 (.code (lpB (bodyOf Tryz.f215) Tryz.f215)::.lp (lpB (bodyOf Tryz.f215) Tryz.f215) n::lpK (bodyOf Tryz.f215) Tryz.f215) (sFit [p0,q0,p1,q1,p2,q2,p3,q3] [a,b,c,d] i u v)).bind (outL true [0,1] [2,3,1005,1006,7] 2 [])
noncomputable def fitStep (i:Nat) (n:Nat) (u v:Bool) (p q:Int):LT:=orL u (decide ((cl p q a b c d).1 < 0)) (decide ((cl p q a b c d).2 < 0)) fun u'=>orL v (decide ((cl p q a b c d).1 > 0)) (decide ((cl p q a b c d).2 > 0)) fun v'=>cutL u' v' (.again (.lp (lpB (bodyOf Tryz.f215) Tryz.f215) n::lpK (bodyOf Tryz.f215) Tryz.f215) (sFit [p0,q0,p1,q1,p2,q2,p3,q3] [a,b,c,d] (i+1) u'.val v'.val))
end
def fFit:List G→Option RG
 | [.ns [p0,q0,p1,q1,p2,q2,p3,q3],.ns [a,b,c,d]]=>some (.one (.b (fitZ p0 q0 p1 q1 p2 q2 p3 q3 a b c d)))
 | _=>none
theorem Fit_te:TEok Z 215 (teN true fFit noNd 0 [19,3]):=by
 refine walkL (l:=tC6) tC6_ok spL_ok (fn_of Tryz.func215 rfl rfl) (kb:=[0,1]) (kt:=[2,3,1005,1006,7]) (nx:=2) (rb:=[]) ?_ (by kernel_rfl) ?_
 ·intro gs ns out h h1 h2 h3
  unfold fFit at h
  split at h
  ·cases h;trivial
  ·cases h
 ·intro gs out h hn hg
  unfold fFit at h
  split at h
  ·rename_i p0 q0 p1 q1 p2 q2 p3 q3 a b c d
   cases h
   refine ⟨fun m s=>∃ (i:Nat) (u v:Bool),m=5 - i∧i≤4∧s=sFit [p0,q0,p1,q1,p2,q2,p3,q3] [a,b,c,d] i u v∧fitN u v ([cl p0 q0 a b c d,cl p1 q1 a b c d,cl p2 q2 a b c d,cl p3 q3 a b c d].drop i)=fitZ p0 q0 p1 q1 p2 q2 p3 q3 a b c d,⟨300,_,fit_walk0 p0 q0 p1 q1 p2 q2 p3 q3 a b c d,rfl,5,0,false,false,rfl,by omega,rfl,rfl⟩,?_⟩
   rintro m s ⟨i,u,v,rfl,hi,rfl,hf⟩ n
   have key:∀ (j:Nat) (p q:Int) (r:List (Int×Int)),j < 4→fitN u v (cl p q a b c d::r)=fitZ p0 q0 p1 q1 p2 q2 p3 q3 a b c d→r=[cl p0 q0 a b c d,cl p1 q1 a b c d,cl p2 q2 a b c d,cl p3 q3 a b c d].drop (j+1)→
     (fitStep p0 q0 p1 q1 p2 q2 p3 q3 a b c d j n u v p q).ok (fun g=>g=.one (.b (fitZ p0 q0 p1 q1 p2 q2 p3 q3 a b c d))) fun ks s'=>ks=.lp (lpB (bodyOf Tryz.f215) Tryz.f215) n::lpK (bodyOf Tryz.f215) Tryz.f215∧∃ m',m' < 5 - j∧∃ (i:Nat) (u v:Bool),m'=5 - i∧i≤4∧s'=sFit [p0,q0,p1,q1,p2,q2,p3,q3] [a,b,c,d] i u v∧fitN u v ([cl p0 q0 a b c d,cl p1 q1 a b c d,cl p2 q2 a b c d,cl p3 q3 a b c d].drop i)=fitZ p0 q0 p1 q1 p2 q2 p3 q3 a b c d:=by
    intro j p q r hj h1 h2
    have h1':fitN (u || decide ((cl p q a b c d).1 < 0) || decide ((cl p q a b c d).2 < 0)) (v || decide ((cl p q a b c d).1 > 0) || decide ((cl p q a b c d).2 > 0)) r=fitZ p0 q0 p1 q1 p2 q2 p3 q3 a b c d:=by rw [←fitN_cons];exact h1
    refine orL_ok fun u' hu'=>orL_ok fun v' hv'=>cutL_ok ?_ ?_
    ·intro e1 e2
     rw [←hu',←hv',e1,e2,fitN_both] at h1'
     rw [h1']
    ·refine ⟨rfl,5 - (j+1),by omega,j+1,u'.val,v'.val,rfl,by omega,rfl,?_⟩
     rw [hu',hv',←h2]
     exact h1'
   rcases (by omega:i=0∨i=1∨i=2∨i=3∨i=4) with rfl | rfl | rfl | rfl | rfl
   ·exact ⟨300,_,fit_step0 p0 q0 p1 q1 p2 q2 p3 q3 a b c d n u v,key 0 p0 q0 _ (by omega) hf rfl⟩
   ·exact ⟨300,_,fit_step1 p0 q0 p1 q1 p2 q2 p3 q3 a b c d n u v,key 1 p1 q1 _ (by omega) hf rfl⟩
   ·exact ⟨300,_,fit_step2 p0 q0 p1 q1 p2 q2 p3 q3 a b c d n u v,key 2 p2 q2 _ (by omega) hf rfl⟩
   ·exact ⟨300,_,fit_step3 p0 q0 p1 q1 p2 q2 p3 q3 a b c d n u v,key 3 p3 q3 _ (by omega) hf rfl⟩
   ·refine ⟨300,_,fit_step4 p0 q0 p1 q1 p2 q2 p3 q3 a b c d n u v,?_⟩
    have:(!(u==v))=fitZ p0 q0 p1 q1 p2 q2 p3 q3 a b c d:=by rw [←hf];simp [fitN]
    show RG.one (.b !(u==v))=_
    rw [this]
  ·cases h
end Ab
open Go.RowKit
namespace Ab
noncomputable def tw8 (p0 q0 p1 q1 p2 q2 p3 q3:Int):Int:=fewer (fewer (fewer (fewer (fewer (fewer (fewer (fewer (-1) p0) q0) p1) q1) p2) q2) p3) q3
theorem few_le {t z:Int} (ht:t≤190000000) (hz:Bits 19 z):fewer t z≤190000000:=by
 have h:(Nm.cmp z 0==0)=false→(Nm.tz z:Int)≤190000000:=by
  intro h
  have hz0:z≠0:=fun e=>by rw [Nm.cmp_eq e] at h;cases h
  have:=Nm.tz_lt hz0 hz
  omega
 unfold fewer
 cases h1:(Nm.cmp z 0==0) with
 | true=>exact ht
 | false=>
  have:=h h1
  simp only [cond_false]
  cases decide (t < 0) with
  | true=>exact this
  | false=>
   simp only [cond_false]
   cases decide ((Nm.tz z:Int) < t) with
   | true=>exact this
   | false=>exact ht
noncomputable def hv (t z:Int):Int:=bif decide (t < 1) then z else halfZ z t
noncomputable def fHal:List G→Option RG
 | [.ns [p0,q0,p1,q1,p2,q2,p3,q3]]=>some (.one (.ns [hv (tw8 p0 q0 p1 q1 p2 q2 p3 q3) p0,hv (tw8 p0 q0 p1 q1 p2 q2 p3 q3) q0,hv (tw8 p0 q0 p1 q1 p2 q2 p3 q3) p1,hv (tw8 p0 q0 p1 q1 p2 q2 p3 q3) q1,hv (tw8 p0 q0 p1 q1 p2 q2 p3 q3) p2,hv (tw8 p0 q0 p1 q1 p2 q2 p3 q3) q2,hv (tw8 p0 q0 p1 q1 p2 q2 p3 q3) p3,hv (tw8 p0 q0 p1 q1 p2 q2 p3 q3) q3]))
 | _=>none
def fFit1:List G→Option RG
 | [.ns [p0,q0,p1,q1,p2,q2,p3,q3]]=>some (.one (.b (fitZ p0 q0 p1 q1 p2 q2 p3 q3 1 0 0 1)))
 | _=>none
def sNear (p q t:Int):AS:=
 ⟨[.top,.val (.one (.ptr 0 0)),.val (.one (.ptr 1 0)),.val (.one (.ptr 2 0)),.val (.one (.ptr 3 0)),.val (.one (.ptr 4 0))]++List.replicate 42 .top,
  [(0,⟨numCs true 0 2,90,true,false,false⟩),(1,⟨[.bool false,.lit (.slice none 0 0)],80,true,false,false⟩),(2,⟨[.bool false,.lit (.slice none 0 0)],80,true,false,false⟩),(3,⟨numCs true 2 1,80,true,false,false⟩),(4,⟨numCs true 3 1,80,true,false,false⟩)],5,[(p,1),(q,1),(16,1),(t,1)],[]⟩
def fNear:List G→Option RG
 | [.ns [p,q]]=>(Rf.near p q 20000 1).map fun ab=>.tup [.ns [ab.1],.ns [ab.2]]
 | _=>none
def ndNear:List G→List Prop
 | [.ns [p,q]]=>[0 < p∧0 < q]
 | _=>[]
theorem cmp_pos' {x:Int} (h:0 < x):decide (0 < Nm.cmp x 0)=true:=by rw [Nm.cmp_gt h];rfl
theorem near_te:TEok Z 204 (teG true fNear ndNear (fun _=>2) [1]):=by
 refine walkL (l:=tC6) tC6_ok spL_ok (fn_of Tryz.func204 rfl rfl) (kb:=[0,1,2,3,4]) (kt:=[1,2,3,4,5]) (nx:=5) (rb:=[1,1,1,1]) ?_ (by kernel_rfl) ?_
 ·intro gs ns out h hn hg hl
  unfold fNear at h
  split at h
  ·rename_i p q
   obtain ⟨⟨a,b⟩,h1,rfl⟩:=mpd h
   have hn:0 < p∧0 < q:=hn.one
   have bp:Bits 1 p:=hl.1 p (by simp)
   obtain ⟨k,rfl,hk,h2,h3⟩:=near_form hn.1 hn.2 20000 0 (a,b) h1
   have hb:Go.Proofs.YteghhlfmcjmnoaaGreatDoor.Bits (k+1) ((2:Int) ^ k):=pow2_bits k
   have hb1:Bits 1 ((2:Int) ^ k):=bits_in hb (by omega)
   have ha:Bits 2 a:=by
    have h0:0≤(2:Int) ^ k*2 ^ k*p / q:=Int.ediv_nonneg (Int.mul_nonneg (Int.mul_nonneg (Int.le_of_lt (Nm.pow_pos' (by decide) _)) (Int.le_of_lt (Nm.pow_pos' (by decide) _))) (by omega)) (by omega)
    have hr:=Rf.root_le h0
    have hr0:=(Rf.root_spec h0).1
    have hq:(2:Int) ^ k*2 ^ k*p / q≤2 ^ k*2 ^ k*p:=Int.ediv_le_self _ (Int.mul_nonneg (Int.mul_nonneg (Int.le_of_lt (Nm.pow_pos' (by decide) _)) (Int.le_of_lt (Nm.pow_pos' (by decide) _))) (by omega))
    have hb2:Go.Proofs.YteghhlfmcjmnoaaGreatDoor.Bits ((k+1)+(k+1)+10000000*1) ((2:Int) ^ k*2 ^ k*p):=Go.Proofs.YteghhlfmcjmnoaaGreatDoor.bits_mul (Go.Proofs.YteghhlfmcjmnoaaGreatDoor.bits_mul hb hb) bp
    have h2':a=Rf.root ((2:Int) ^ k*2 ^ k*p / q):=h2
    rw [←h2'] at hr hr0
    exact bits_in (Go.Proofs.YteghhlfmcjmnoaaGreatDoor.bits_of hb2 (by omega) (Nat.le_refl _)) (by omega)
   intro g hg
   simp at hg
   rcases hg with rfl | rfl
   ·intro z hz;simp at hz;subst hz;exact ha
   ·intro z hz;simp at hz;subst hz;exact bits_mono hb1 (by decide)
  ·cases h
 ·intro gs out h hn hg
  unfold fNear at h
  split at h
  ·rename_i p q
   obtain ⟨ab,h1,rfl⟩:=mpd h
   have hn:0 < p∧0 < q:=hn.one
   have bp:Bits 1 p:=hg.1 p (by simp)
   have bq:Bits 1 q:=hg.1 q (by simp)
   refine ⟨fun m s=>∃ j:Nat,m=20000 - j∧j < 20000∧s=sNear p q (2 ^ j)∧Rf.near p q (20000 - j) (2 ^ j)=some ab,⟨300,_,near_walk0 p q,holds_cons bp (holds_cons bq (holds_cons (bits60 (by decide)) (holds_cons (bits60 (by decide)) holds_nil))),rfl,20000,0,rfl,by decide,rfl,h1⟩,?_⟩
   rintro m s ⟨j,rfl,hj,rfl,hnr⟩ n
   have ht:(0:Int) < 2 ^ j:=Nm.pow_pos' (by decide) j
   have h0:0≤(2:Int) ^ j*2 ^ j*p / q:=Int.ediv_nonneg (Int.mul_nonneg (Int.mul_nonneg (by omega) (by omega)) (by omega)) (by omega)
   obtain ⟨k,hk⟩:∃ k,20000 - j=k+1:=⟨20000 - j - 1,by omega⟩
   rw [hk] at hnr
   unfold Rf.near at hnr
   refine ⟨300,_,near_walk1 p q (2 ^ j) n,?_,?_⟩
   ·intro _
    refine ⟨fun _=>⟨holds_cons hn.2 holds_nil,holds_cons h0 holds_nil,?_,?_⟩,?_⟩
    ·intro hge
     have hge:0≤Nm.cmp (Rf.root ((2:Int) ^ j*2 ^ j*p / q)) 16:=by simpa using hge
     have h16:16≤Rf.root ((2:Int) ^ j*2 ^ j*p / q):=by
      rcases Int.lt_or_le (Rf.root ((2:Int) ^ j*2 ^ j*p / q)) 16 with h | h
      ·rw [Nm.cmp_lt h] at hge;omega
      ·exact h
     rw [if_pos h16] at hnr
     cases hnr
     exact rfl
    ·intro hge
     have hge:¬0≤Nm.cmp (Rf.root ((2:Int) ^ j*2 ^ j*p / q)) 16:=by simpa using hge
     have h16:¬16≤Rf.root ((2:Int) ^ j*2 ^ j*p / q):=by
      intro h
      apply hge
      rcases Int.lt_or_eq_of_le h with h | h
      ·rw [Nm.cmp_gt h];decide
      ·rw [Nm.cmp_eq h.symm];decide
     rw [if_neg h16] at hnr
     have e:(2:Int) ^ j+2 ^ j=2 ^ (j+1):=by rw [Int.pow_succ];omega
     rw [e] at hnr ⊢
     have hj1:j+1 < 20000:=by
      rcases Nat.lt_or_ge (j+1) 20000 with h | h
      ·exact h
      ·have:k=0:=by omega
       subst this
       cases hnr
     refine ⟨holds_cons bp (holds_cons bq (holds_cons (bits60 (by decide)) (holds_cons (bits_in (pow2_bits (j+1)) (by omega)) holds_nil))),rfl,20000 - (j+1),by omega,j+1,rfl,hj1,rfl,?_⟩
     rw [show 20000 - (j+1)=k by omega]
     exact hnr
    ·intro hle
     rw [cmp_pos' hn.2] at hle
     cases hle
   ·intro hle
    rw [cmp_pos' hn.1] at hle
    cases hle
  ·cases h
where
 near_form {p q:Int} (hp:0 < p) (hq:0 < q):∀ (f j:Nat) (ab:Int×Int),Rf.near p q f (2 ^ j)=some ab→∃ k:Nat,ab.2=2 ^ k∧k≤j+f∧ab.1=Rf.root ((2:Int) ^ k*2 ^ k*p / q)∧True
  | 0,j,ab,h=>by cases h
  | f+1,j,ab,h=>by
   unfold Rf.near at h
   split at h
   ·cases h
    exact ⟨j,rfl,by omega,rfl,trivial⟩
   ·have e:(2:Int) ^ j+2 ^ j=2 ^ (j+1):=by rw [Int.pow_succ];omega
    rw [e] at h
    obtain ⟨k,h1,h2,h3,_⟩:=near_form hp hq f (j+1) ab h
    exact ⟨k,h1,by omega,h3,trivial⟩
noncomputable def tC7:List (FuncId×TE):=(215,teN true fFit noNd 0 [19,3])::(200,teN true fHal noNd 19 [19])::(218,teN true fFit1 noNd 0 [19])::(204,teG true fNear ndNear (fun _=>2) [1])::tC6
theorem tC7_ok:AllTE Z tC7:=⟨Fit_te,Hal_te,Fit1_te,near_te,tC6_ok⟩
end Ab
open Go.RowKit
namespace Ab
def upT (t b:Int):Int:=bif decide (Nm.cmp b 0 < 0) then -t else t
def upB (b:Int):Int:=bif decide (Nm.cmp b 0 < 0) then -b else b
def nearE (t b m:Int):Bool:=decide (Nm.cmp ((t - m*b).natAbs:Int) b≤0)
def soundZ (c d:Int):Bool:=(Nm.cmp c 0 != 0)&&(Nm.cmp c 0==Nm.cmp d 0)
def ndFlo:List G→List Prop
 | [.ns [_,b]]=>[0 < b]
 | _=>[]
def fKNo:List G→Option RG
 | []=>some (.one (.ns [1,0,0,1]))
 | _=>none
def fKWi:List G→Option RG
 | [.ns [a,b,c,d],.i .i64 s]=>some (.one (.ns [a*symA s+b*symC s,a*symB s+b*symD s,c*symA s+d*symC s,c*symB s+d*symD s]))
 | _=>none
def fKBe:List G→Option RG
 | [.ns [a,b,c,d],.ns [t]]=>some (.one (.ns [0*a+1*c,0*b+1*d,1*a+-t*c,1*b+-t*d]))
 | _=>none
def fKSo:List G→Option RG
 | [.ns [a,b,c,d]]=>some (.one (.b (soundZ c d)))
 | _=>none
def fEUp:List G→Option RG
 | [.ns [t,b]]=>some (.one (.ns [upT t b,upB b]))
 | _=>none
def fETi:List G→Option RG
 | [.ns [t,b],.ns [n]]=>some (.one (.ns [t*n,b]))
 | _=>none
def fEFl:List G→Option RG
 | [.ns [t,b]]=>some (.one (.ns [t / b]))
 | _=>none
def fENe:List G→Option RG
 | [.ns [t,b],.ns [m]]=>some (.one (.b (nearE t b m)))
 | _=>none
noncomputable def tK0:List (FuncId×TE):=(107,teN true fKNo noNd 1 [])::(114,teN true fKWi noNd 7 [3,0])::(75,teN true fKBe noNd 7 [3,3])::(108,teN true fKSo noNd 0 [3])::(145,teN true fEUp noNd 3 [3])::(111,teN true fETi noNd 6 [3,3])::(121,teN true fEFl ndFlo 21 [20])::(113,teN true fENe noNd 0 [6,30])::tC7
theorem tK0_ok:AllTE Z tK0:=⟨KNo_te,KWi_te,KBe_te,KSo_te,EUp_te,ETi_te,EFl_te,ENe_te,tC7_ok⟩
def midZ (t b s c:Int):Int:=(t*c+s*b+b*c) / (b*c+b*c)
def ndMid:List G→List Prop
 | [.ns [t,b],.ns [s,c]]=>[0 < b*c+b*c]
 | _=>[]
def fEMi:List G→Option RG
 | [.ns [t,b],.ns [s,c]]=>some (.one (.ns [midZ t b s c]))
 | _=>none
def fKEn:List G→Option RG
 | [.ns [a,b,c,d]]=>some (.tup [.ns [upT a c,upB c],.ns [upT b d,upB d]])
 | _=>none
noncomputable def tK1:List (FuncId×TE):=(112,teN true fEMi ndMid 21 [6,6])::(109,teN true fKEn noNd 3 [3])::tK0
theorem tK1_ok:AllTE Z tK1:=⟨EMi_te,KEn_te,tK0_ok⟩
theorem sound_pos {c d:Int} (h:soundZ c d=true):0 < upB c∧0 < upB d:=by
 unfold soundZ at h
 simp only [Bool.and_eq_true,bne_iff_ne,ne_eq,beq_iff_eq] at h
 have key:∀ x:Int,Nm.cmp x 0≠0→0 < upB x:=by
  intro x hx
  unfold upB
  rcases Int.lt_trichotomy x 0 with g | g | g
  ·rw [Nm.cmp_lt g];show 0 < -x;omega
  ·exact absurd (Nm.cmp_eq g) hx
  ·rw [Nm.cmp_gt g];exact g
 exact ⟨key c h.1,key d (by rw [←h.2];exact h.1)⟩
def fKSi:List G→Option RG
 | [.i .i64 s]=>some (.one (.i .i64 (bif decide (s < 0) then -1 else 1)))
 | _=>none
def fKTe:List G→Option RG
 | [.ns [a,b,c,d]]=>some (.tup [.ns [bif !soundZ c d then 0 else upT a c / upB c],.b (bif !soundZ c d then false else (Nm.cmp (upT a c / upB c) (upT b d / upB d)==0))])
 | _=>none
noncomputable def tK2:List (FuncId×TE):=(128,teN true fKSi noNd 0 [0])::(74,teN true fKTe noNd 21 [3])::tK1
theorem tK2_ok:AllTE Z tK2:=⟨KSi_te,KTe_te,tK1_ok⟩
def cmpS (a b c d n:Int):Int:=
 bif !soundZ c d then 0 else bif Nm.cmp (upT a c) 0 != 0 then (bif Nm.cmp (upT a c) 0==Nm.cmp (upT b d) 0 then (bif decide (Nm.cmp (upT a c) 0 < 0) then -1 else 1) else bif nearE (upT a c*2 ^ n.toNat) (upB c) 0 then 0 else 0) else bif nearE (upT a c*2 ^ n.toNat) (upB c) 0 then 0 else 0
def cmpD (a b c d n:Int):Bool:=
 bif !soundZ c d then false else bif Nm.cmp (upT a c) 0 != 0 then (bif Nm.cmp (upT a c) 0==Nm.cmp (upT b d) 0 then true else bif nearE (upT a c*2 ^ n.toNat) (upB c) 0 then nearE (upT b d*2 ^ n.toNat) (upB d) 0 else false) else bif nearE (upT a c*2 ^ n.toNat) (upB c) 0 then nearE (upT b d*2 ^ n.toNat) (upB d) 0 else false
def ndCmp:List G→List Prop
 | [.ns _,.i .i64 n]=>[0≤n∧n≤100000]
 | _=>[]
def fKCo:List G→Option RG
 | [.ns [a,b,c,d],.i .i64 n]=>some (.tup [.i .i64 (cmpS a b c d n),.b (cmpD a b c d n)])
 | _=>none
noncomputable def tK3:List (FuncId×TE):=(81,teN true fKCo ndCmp 0 [3,0])::tK2
theorem tK3_ok:AllTE Z tK3:=⟨KCo_te,tK2_ok⟩
def decM (a b c d n:Int):Int:=midZ (upT a c*10 ^ n.toNat) (upB c) (upT b d*10 ^ n.toNat) (upB d)
def decE1 (a b c d n:Int):Bool:=nearE (upT a c*10 ^ n.toNat) (upB c) (decM a b c d n)
def decE2 (a b c d n:Int):Bool:=nearE (upT b d*10 ^ n.toNat) (upB d) (decM a b c d n)
theorem mid_pos {c d:Int} (h:soundZ c d=true):0 < upB c*upB d+upB c*upB d:=by
 have:=Int.mul_pos (sound_pos h).1 (sound_pos h).2
 omega
def fKDe:List G→Option RG
 | [.ns [a,b,c,d],.i .i64 n]=>some (.tup [.ns [bif !soundZ c d then 0 else decM a b c d n],.b (bif !soundZ c d then false else bif decE1 a b c d n then decE2 a b c d n else false)])
 | _=>none
noncomputable def tK:List (FuncId×TE):=(68,teN true fKDe ndCmp 21 [3,0])::tK3
theorem tK_ok:AllTE Z tK:=⟨KDe_te,tK3_ok⟩
end Ab
namespace Pg
open Rf Nw
def sc (d:Int) (v:V):V:=(d*v.1,d*v.2)
def vadd (u v:V):V:=(u.1+v.1,u.2+v.2)
theorem vat_sc (m:Mt) (d:Int) (v:V):vat m (sc d v)=sc d (vat m v):=by
 unfold vat sc Mt.at1 Mt.at2
 ext <;> simp <;> grind
theorem vag_sc (m:Mt) (d:Int) (v:V):vag m (sc d v)=sc d (vag m v):=by
 unfold vag sc Mt.ag1 Mt.ag2
 ext <;> simp <;> grind
theorem vat_add (m:Mt) (u v:V):vat m (vadd u v)=vadd (vat m u) (vat m v):=by
 unfold vat vadd Mt.at1 Mt.at2
 ext <;> simp <;> grind
theorem vag_add (m:Mt) (u v:V):vag m (vadd u v)=vadd (vag m u) (vag m v):=by
 unfold vag vadd Mt.ag1 Mt.ag2
 ext <;> simp <;> grind
theorem sc_sc (d e:Int) (v:V):sc d (sc e v)=sc (d*e) v:=by
 unfold sc
 ext <;> simp <;> grind
theorem sc_one (v:V):sc 1 v=v:=by unfold sc;simp
theorem vag_zero (m:Mt):vag m (0,0)=(0,0):=by unfold vag Mt.ag1 Mt.ag2;simp
theorem vag_mul (m k:Mt) (v:V):vag (m.mul k) v=vag k (vag m v):=by
 unfold vag Mt.ag1 Mt.ag2 Mt.mul
 ext <;> simp <;> grind
theorem vag_one (v:V):vag one v=v:=by unfold vag Mt.ag1 Mt.ag2 one;simp
theorem vat_one (v:V):vat one v=v:=by unfold vat Mt.at1 Mt.at2 one;simp
def rd1 (u v:V) (m:Mt):V:=vadd (sc m.a u) (sc m.c v)
def rd2 (u v:V) (m:Mt):V:=vadd (sc m.b u) (sc m.d v)
def readL:List V→Mt→List V
 | [a,b,c,d],m=>[rd1 a c m,rd1 b d m,rd2 a c m,rd2 b d m]
 | _,_=>[]
def readR:List V→Mt→List V
 | [a,b,c,d],m=>[rd1 a b m,rd2 a b m,rd1 c d m,rd2 c d m]
 | _,_=>[]
theorem rd1_sc (d:Int) (u v:V) (m:Mt):rd1 (sc d u) (sc d v) m=sc d (rd1 u v m):=by
 unfold rd1 sc vadd
 ext <;> simp <;> grind
theorem rd2_sc (d:Int) (u v:V) (m:Mt):rd2 (sc d u) (sc d v) m=sc d (rd2 u v m):=by
 unfold rd2 sc vadd
 ext <;> simp <;> grind
theorem rd1_zero (m:Mt):rd1 (0,0) (0,0) m=(0,0):=by unfold rd1 sc vadd;simp
theorem rd2_zero (m:Mt):rd2 (0,0) (0,0) m=(0,0):=by unfold rd2 sc vadd;simp
theorem rd1_vag (k:Mt) (u v:V) (m:Mt):rd1 (vag k u) (vag k v) m=vag k (rd1 u v m):=by
 unfold rd1
 rw [vag_add,vag_sc,vag_sc]
theorem rd2_vag (k:Mt) (u v:V) (m:Mt):rd2 (vag k u) (vag k v) m=vag k (rd2 u v m):=by
 unfold rd2
 rw [vag_add,vag_sc,vag_sc]
theorem rd1_vat (k:Mt) (u v:V) (m:Mt):rd1 (vat k u) (vat k v) m=vat k (rd1 u v m):=by
 unfold rd1
 rw [vat_add,vat_sc,vat_sc]
theorem rd2_vat (k:Mt) (u v:V) (m:Mt):rd2 (vat k u) (vat k v) m=vat k (rd2 u v m):=by
 unfold rd2
 rw [vat_add,vat_sc,vat_sc]
theorem end1 (h m:Mt):vat (h.mul m) (1,0)=rd1 (vat h (1,0)) (vat h (0,1)) m:=by
 unfold rd1 sc vadd vat Mt.at1 Mt.at2 Mt.mul
 ext <;> simp <;> grind
theorem end2 (h m:Mt):vat (h.mul m) (0,1)=rd2 (vat h (1,0)) (vat h (0,1)) m:=by
 unfold rd2 sc vadd vat Mt.at1 Mt.at2 Mt.mul
 ext <;> simp <;> grind
theorem tensor_l1 (t:List V) (u v y:V) (m:Mt):tensor t (rd1 u v m) y=rd1 (tensor t u y) (tensor t v y) m:=by
 unfold tensor rd1 sc vadd
 split
 ·ext <;> simp <;> grind
 ·ext <;> simp
theorem tensor_l2 (t:List V) (u v y:V) (m:Mt):tensor t (rd2 u v m) y=rd2 (tensor t u y) (tensor t v y) m:=by
 unfold tensor rd2 sc vadd
 split
 ·ext <;> simp <;> grind
 ·ext <;> simp
theorem tensor_r1 (t:List V) (u v y:V) (m:Mt):tensor t y (rd1 u v m)=rd1 (tensor t y u) (tensor t y v) m:=by
 unfold tensor rd1 sc vadd
 split
 ·ext <;> simp <;> grind
 ·ext <;> simp
theorem tensor_r2 (t:List V) (u v y:V) (m:Mt):tensor t y (rd2 u v m)=rd2 (tensor t y u) (tensor t y v) m:=by
 unfold tensor rd2 sc vadd
 split
 ·ext <;> simp <;> grind
 ·ext <;> simp
def msc (g:Int) (m:Mt):Mt:=⟨g*m.a,g*m.b,g*m.c,g*m.d⟩
theorem rd1_msc (g:Int) (u v:V) (m:Mt):rd1 u v (msc g m)=sc g (rd1 u v m):=by
 unfold rd1 sc vadd msc
 ext <;> simp <;> grind
theorem rd2_msc (g:Int) (u v:V) (m:Mt):rd2 u v (msc g m)=sc g (rd2 u v m):=by
 unfold rd2 sc vadd msc
 ext <;> simp <;> grind
def pad:List V→List V
 | []=>[(0,0),(0,0),(0,0),(0,0)]
 | [a]=>[a,(0,0),(0,0),(0,0)]
 | [a,b]=>[a,b,(0,0),(0,0)]
 | [a,b,c]=>[a,b,c,(0,0)]
 | l=>l
structure Cof (l cs:List V):Prop where
 ex:∃ d:Int,0 < d∧pad l=cs.map (sc d)
 len:cs.length=4
theorem ups_sc {d:Int} (hd:0 < d) (v:V):ups (sc d v)=ups v:=by
 have h:∀ x:Int,decide (0 < d*x)=decide (0 < x):=fun x=>by
  rw [decide_eq_decide]
  exact ⟨fun h=>Int.pos_of_mul_pos_left h hd,fun h=>Int.mul_pos hd h⟩
 unfold ups sc
 rw [h,h]
where
 Int.pos_of_mul_pos_left {d x:Int} (h:0 < d*x) (hd:0 < d):0 < x:=by
  rcases Int.lt_or_le 0 x with h1 | h1
  ·exact h1
  ·have:=Int.mul_nonpos_of_nonneg_of_nonpos (Int.le_of_lt hd) h1
   omega
theorem downs_sc {d:Int} (hd:0 < d) (v:V):downs (sc d v)=downs v:=by
 have h:∀ x:Int,decide (d*x < 0)=decide (x < 0):=fun x=>by
  rw [decide_eq_decide]
  constructor
  ·intro h
   rcases Int.lt_or_le x 0 with h1 | h1
   ·exact h1
   ·have:=Int.mul_nonneg (Int.le_of_lt hd) h1
    omega
  ·exact fun h=>Int.mul_neg_of_pos_of_neg hd h
 unfold downs sc
 rw [h,h]
theorem fits_sc {d:Int} (hd:0 < d) (l:List V):fits (l.map (sc d))=fits l:=by
 unfold fits
 rw [List.any_map,List.any_map]
 congr 1
 ·congr 1;funext v;exact ups_sc hd v
 ·congr 1;funext v;exact downs_sc hd v
theorem fits_pad (l:List V):fits (pad l)=fits l:=by
 unfold pad fits
 split <;> simp [ups,downs]
theorem pad_map {f:V→V} (h0:f (0,0)=(0,0)) (l:List V):pad (l.map f)=(pad l).map f:=by
 unfold pad
 match l with
 | []=>simp [h0]
 | [a]=>simp [h0]
 | [a,b]=>simp [h0]
 | [a,b,c]=>simp [h0]
 | a::b::c::d::r=>simp
theorem Cof.fits {l cs:List V} (h:Cof l cs):Nw.fits l=Nw.fits cs:=by
 obtain ⟨d,hd,e⟩:=h.ex
 rw [←fits_pad,e,fits_sc hd]
theorem Cof.vag {l cs:List V} (h:Cof l cs) (m:Mt):Cof (l.map (Rf.vag m)) (cs.map (Rf.vag m)):=by
 obtain ⟨d,hd,e⟩:=h.ex
 refine ⟨⟨d,hd,?_⟩,by simp [h.len]⟩
 rw [pad_map (vag_zero m),e,List.map_map,List.map_map]
 congr 1
 funext v
 exact vag_sc m d v
theorem Cof.can {l cs:List V} (h:Cof l cs) (s:Int):Rf.can l s=Nw.fits (cs.map (Rf.vag (Mt.sym s))):=(h.vag _).fits
theorem Cof.over {l cs cs':List V} {t:Int} (h:Cof l cs) (ht:0 < t) (e:cs=cs'.map (sc t)):Cof l cs':=by
 obtain ⟨d,hd,e1⟩:=h.ex
 refine ⟨⟨d*t,Int.mul_pos hd ht,?_⟩,by have:=h.len;rw [e] at this;simpa using this⟩
 rw [e1,e,List.map_map]
 congr 1
 funext v
 exact sc_sc d t v
theorem Cof.times {l cs:List V} {t:Int} (h:Cof l cs) (ht:0 < t):Cof (l.map (sc t)) cs:=by
 obtain ⟨d,hd,e⟩:=h.ex
 refine ⟨⟨t*d,Int.mul_pos ht hd,?_⟩,h.len⟩
 rw [pad_map (by unfold sc;simp),e,List.map_map]
 congr 1
 funext v
 exact sc_sc t d v
theorem four {cs:List V} (h:cs.length=4):∃ a b c d,cs=[a,b,c,d]:=by
 match cs,h with
 | [a,b,c,d],_=>exact ⟨a,b,c,d,rfl⟩
theorem Cof.of4 {a b c d x y z t:V} (h:Cof [a,b,c,d] [x,y,z,t]):∃ e:Int,0 < e∧a=sc e x∧b=sc e y∧c=sc e z∧d=sc e t:=by
 obtain ⟨e,he,h1⟩:=h.ex
 simp [pad] at h1
 exact ⟨e,he,h1⟩
theorem Cof.mk4 {a b c d x y z t:V} {e:Int} (he:0 < e) (h1:a=sc e x) (h2:b=sc e y) (h3:c=sc e z) (h4:d=sc e t):Cof [a,b,c,d] [x,y,z,t]:=⟨⟨e,he,by simp [pad,h1,h2,h3,h4]⟩,rfl⟩
theorem Cof.of2 {a b x y z t:V} (h:Cof [a,b] [x,y,z,t]):∃ e:Int,0 < e∧a=sc e x∧b=sc e y∧(0,0)=sc e z∧(0,0)=sc e t:=by
 obtain ⟨e,he,h1⟩:=h.ex
 simp [pad] at h1
 exact ⟨e,he,h1⟩
theorem Cof.mk2 {a b x y z t:V} {e:Int} (he:0 < e) (h1:a=sc e x) (h2:b=sc e y) (h3:(0,0)=sc e z) (h4:(0,0)=sc e t):Cof [a,b] [x,y,z,t]:=⟨⟨e,he,by simp only [pad,List.map_cons,List.map_nil,←h1,←h2,←h3,←h4]⟩,rfl⟩
theorem Cof.readL {a b c d:V} {cs:List V} (m:Mt) (h:Cof [a,b,c,d] cs):Cof [rd1 a c m,rd1 b d m,rd2 a c m,rd2 b d m] (Pg.readL cs m):=by
 obtain ⟨x,y,z,t,rfl⟩:=four h.len
 obtain ⟨e,he,rfl,rfl,rfl,rfl⟩:=h.of4
 exact .mk4 he (rd1_sc ..) (rd1_sc ..) (rd2_sc ..) (rd2_sc ..)
theorem Cof.readR {a b c d:V} {cs:List V} (m:Mt) (h:Cof [a,b,c,d] cs):Cof [rd1 a b m,rd2 a b m,rd1 c d m,rd2 c d m] (Pg.readR cs m):=by
 obtain ⟨x,y,z,t,rfl⟩:=four h.len
 obtain ⟨e,he,rfl,rfl,rfl,rfl⟩:=h.of4
 exact .mk4 he (rd1_sc ..) (rd2_sc ..) (rd1_sc ..) (rd2_sc ..)
theorem Cof.readR2 {a b:V} {cs:List V} (m:Mt) (h:Cof [a,b] cs):Cof [rd1 a b m,rd2 a b m] (Pg.readR cs m):=by
 obtain ⟨x,y,z,t,rfl⟩:=four h.len
 obtain ⟨e,he,rfl,rfl,h3,h4⟩:=h.of2
 refine .mk2 he (rd1_sc ..) (rd2_sc ..) ?_ ?_
 ·rw [←rd1_sc,←h3,←h4,rd1_zero]
 ·rw [←rd2_sc,←h3,←h4,rd2_zero]
theorem Cof.readRm {a b:V} {cs:List V} (m:Mt) {g:Int} (hg:0 < g) (h:Cof [a,b] cs):Cof [rd1 a b (msc g m),rd2 a b (msc g m)] (Pg.readR cs m):=by
 have:=(h.readR2 m).times hg
 simpa [rd1_msc,rd2_msc] using this
end Pg
end Go.Proofs.YteghhlfmcjmnoaaGreatDoor
