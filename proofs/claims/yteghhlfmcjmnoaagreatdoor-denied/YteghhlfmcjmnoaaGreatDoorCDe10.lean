import Derived.Test.YteghhlfmcjmnoaaGreatDoorCDe09
set_option linter.unusedSimpArgs false
set_option linter.unusedVariables false
set_option maxRecDepth 100000
set_option maxHeartbeats 2000000
namespace Go.Proofs.YteghhlfmcjmnoaaGreatDoor
open Go.RowKit
namespace Ab
def gcdZ (x y:Int):Int:=(Nat.gcd x.natAbs y.natAbs:Nat)
theorem gcd_te:TEok Z 138 (teG true (f2 gcdZ) noNd (fun ns=>ns.foldr max 0) [90,90]):=by
 refine f2_ok (fn_of Tryz.func138 rfl rfl).en (fun x y n m hx hy=>?_) (fun w x y u v h1 h2 h3 h4=>common_any w x y u v (10000000*90) h1 h2 h3 h4 (by decide))
 have hx':Bits (max n (max m 0)) x:=bits_mono hx (by omega)
 have hy':Bits (max n (max m 0)) y:=bits_mono hy (by omega)
 show ((Nat.gcd x.natAbs y.natAbs:Nat):Int).natAbs<2^(10000000*max n (max m 0))
 have e:((Nat.gcd x.natAbs y.natAbs:Nat):Int).natAbs=Nat.gcd x.natAbs y.natAbs:=by omega
 rw [e]
 rcases Nat.eq_zero_or_pos x.natAbs with h | h
 ·rw [h,Nat.gcd_zero_left];exact hy'
 ·exact Nat.lt_of_le_of_lt (Nat.gcd_le_left _ h) hx'
noncomputable def tW1:List (FuncId×TE):=(226,teG true (f4i cp) noNd (fun _=>0) [40,40,40,40])::(138,teG true (f2 gcdZ) noNd (fun ns=>ns.foldr max 0) [90,90])::tW0
theorem tW1_ok:AllTE Z tW1:=⟨cp_te,gcd_te,tW0_ok⟩
def sPow (base times i p:Int):AS:=
 ⟨[.top,.val (.one (.sint .i64 times)),.top,.top,.val (.one (.ptr 0 0)),.val (.one (.ptr 1 0)),.val (.one (.ptr 2 0)),.val (.one (.sint .i64 i)),.top,.top,.top,.top,.top,.top,.top,.top,.top,.top,.top,.top],
  [(0,⟨[.bool false,.lit (.slice none 0 0)],80,true,false,false⟩),(1,⟨[.sg 0,.dg true 0],80,true,false,false⟩),(2,⟨[.sg 1,.dg true 1],80,true,false,false⟩)],3,[(p,80),(base,1)],[]⟩
theorem pow_walk0 (base times:Int):(run Z (orSp spL (tabSp tW0)) (fun _=>none) (drawA Z (orSp spL (tabSp tW0))) atLoop 300 [.code (bodyOf Tryz.f110),.top Tryz.f110] (start Tryz.f110 (tokGs true [.i .i64 base,.i .i64 times] [0,0]))).bind (outL true [0,1,2] [1,4,5,6,1007] 3 [80,1])=
  some (.need [base.natAbs<1000000000000000000] (.need [Bits 80 1,Bits 1 base] (.again (.code (.loop (lpB (bodyOf Tryz.f110) Tryz.f110))::lpK (bodyOf Tryz.f110) Tryz.f110) (sPow base times 0 1)))):=by kernel_rfl
theorem pow_walk1 (base times i p:Int)(n:Nat):(run Z (orSp spL (tabSp tW0)) (fun _=>none) (drawA Z (orSp spL (tabSp tW0))) atRound 300 (.code (lpB (bodyOf Tryz.f110) Tryz.f110)::.lp (lpB (bodyOf Tryz.f110) Tryz.f110) n::lpK (bodyOf Tryz.f110) Tryz.f110) (sPow base times i p)).bind (outL true [0,1,2] [1,4,5,6,1007] 3 [80,1])=
  some (.br (decide (i<times)) (.need [Bits 80 (p*base),Bits 1 base] (.again (.lp (lpB (bodyOf Tryz.f110) Tryz.f110) n::lpK (bodyOf Tryz.f110) Tryz.f110) (sPow base times (Wr (i+1)) (p*base)))) (.ret (.one (.ns [p])))):=by kernel_rfl
def fPow:List G->Option RG
 | [.i .i64 b,.i .i64 t]=>some (.one (.ns [b^t.toNat]))
 | _=>none
def ndPow:List G->List Prop
 | [.i .i64 b,.i .i64 t]=>[b.natAbs<=16/\0<=t/\t<=100000]
 | _=>[]
theorem pow_bits {b:Int}(hb:b.natAbs<=16)(k:Nat):Go.Proofs.YteghhlfmcjmnoaaGreatDoor.Bits (4*k+1) (b^k):=by
 show (b^k).natAbs<2^(4*k+1)
 rw [Int.natAbs_pow]
 have:b.natAbs^k<=16^k:=Nat.pow_le_pow_left hb k
 have e:(2:Nat)^(4*k+1)=2*16^k:=by rw [Nat.pow_succ,Nat.pow_mul,show (2:Nat)^4=16 from rfl,Nat.mul_comm]
 have:0<16^k:=Nat.pow_pos (by decide)
 omega
theorem pow_te:TEok Z 110 (teG true fPow ndPow (fun _=>1) [0,0]):=by
 refine walkL (l:=tW0) tW0_ok spL_ok (fn_of Tryz.func110 rfl rfl) (kb:=[0,1,2]) (kt:=[1,4,5,6,1007]) (nx:=3) (rb:=[80,1]) ?_ (by kernel_rfl) ?_
 ·intro gs ns out h hn h3 h4
  unfold fPow at h
  split at h
  ·rename_i b t
   cases h
   have hn:b.natAbs<=16/\0<=t/\t<=100000:=hn.one
   intro z hz
   simp at hz
   subst hz
   exact bits_in (pow_bits hn.1 _) (by omega)
  ·cases h
 ·intro gs out h hn h3
  unfold fPow at h
  split at h
  ·rename_i b t
   cases h
   have hn:b.natAbs<=16/\0<=t/\t<=100000:=hn.one
   have hb60:Bits 1 b:=bits60 (by omega)
   refine ⟨fun m s=>∃ i:Nat,s=sPow b t i (b^i)/\(i:Int)<=t/\m=t.toNat-i,⟨300,_,pow_walk0 b t,?_⟩,?_⟩
   ·refine ⟨holds_cons (by omega) holds_nil,holds_cons ?_ (holds_cons hb60 holds_nil),rfl,_,0,by simp,by omega,rfl⟩
    exact bits_in (pow_bits (b:=1) (by decide) 0) (by decide)
   ·rintro m s ⟨i,rfl,hi,rfl⟩ n
    refine ⟨300,_,pow_walk1 b t i (b^i) n,?_,?_⟩
    ·intro hlt
     have hlt:(i:Int)<t:=by simpa using hlt
     have e:b^i*b=b^(i+1):=by rw [Int.pow_succ]
     refine ⟨holds_cons ?_ (holds_cons hb60 holds_nil),rfl,t.toNat-(i+1),by omega,i+1,?_,by omega,rfl⟩
     ·rw [e]
      exact bits_in (pow_bits hn.1 _) (by omega)
     ·rw [e,wr_small (by omega) (by omega)]
      simp
    ·intro hge
     have hge:¬(i:Int)<t:=by simpa using hge
     show RG.one (.ns [b^i])=_
     have:t.toNat=i:=by omega
     rw [this]
  ·cases h
theorem newt {z r:Int}(hz:0<z)(hr:0<r):0<(r+z/r)/2/\z<((r+z/r)/2+1)*((r+z/r)/2+1)/\(r<=(r+z/r)/2->r*r<=z):=by
 have q0:0<=z/r:=Int.ediv_nonneg (by omega) (by omega)
 have q1:r*(z/r)<=z:=Int.mul_ediv_self_le (by omega)
 have q2:z<r*(z/r+1):=by
  have:=Int.lt_mul_ediv_self_add (x:=z) hr
  rw [Int.mul_add]
  omega
 generalize z/r=q at*
 have b0:0<=(r+q)/2:=Int.ediv_nonneg (by omega) (by omega)
 have b1:r+q+1<=2*((r+q)/2+1):=by omega
 have b2:(r<=(r+q)/2)->r<=q:=by omega
 generalize (r+q)/2=b at*
 have s1:4*(r*(q+1))<=(r+q+1)*(r+q+1):=by
  have:0<=(r-(q+1))*(r-(q+1)):=by
   rcases Int.le_total 0 (r-(q+1)) with h | h
   ·exact Int.mul_nonneg h h
   ·exact Int.mul_nonneg_of_nonpos_of_nonpos h h
  have e:(r+q+1)*(r+q+1)=4*(r*(q+1))+(r-(q+1))*(r-(q+1)):=by grind
  omega
 have s2:(r+q+1)*(r+q+1)<=(2*(b+1))*(2*(b+1)):=Int.mul_le_mul b1 b1 (by omega) (by omega)
 have s3:(2*(b+1))*(2*(b+1))=4*((b+1)*(b+1)):=by grind
 have key:z<(b+1)*(b+1):=by omega
 refine ⟨?_,key,fun h=>?_⟩
 ·rcases Int.lt_or_le 0 b with h | h
  ·exact h
  ·have:b=0:=by omega
   subst this
   omega
 ·have:=b2 h
  have:r*r<=r*q:=Int.mul_le_mul_of_nonneg_left this (by omega)
  omega
theorem half1 {x:Int}(h:0<=x):halfZ x 1=x/2:=by
 unfold halfZ Nm.half
 rw [show decide ((1:Int)<1)=false from rfl,cond_false,if_neg (by omega)]
 have e1:(x.natAbs:Int)=x:=by omega
 have e2:(2:Int)^((1:Int).toNat)=2:=rfl
 rw [e1,e2]
theorem root_eq {z r:Int}(hz:0<=z)(hr:0<=r)(h1:r*r<=z)(h2:z<(r+1)*(r+1)):Rf.root z=r:=by
 obtain ⟨g0,g1,g2⟩:=Rf.root_spec hz
 rcases Int.lt_trichotomy (Rf.root z) r with h | h | h
 ·have:(Rf.root z+1)*(Rf.root z+1)<=r*r:=Int.mul_le_mul (by omega) (by omega) (by omega) (by omega)
  omega
 ·exact h
 ·have:(r+1)*(r+1)<=Rf.root z*Rf.root z:=Int.mul_le_mul (by omega) (by omega) (by omega) (by omega)
  omega
theorem pow2_bits (k:Nat):Go.Proofs.YteghhlfmcjmnoaaGreatDoor.Bits (k+1) ((2:Int)^k):=by
 show ((2:Int)^k).natAbs<2^(k+1)
 rw [Int.natAbs_pow]
 exact Nat.pow_lt_pow_right (by decide) (by omega)
def sRoot (z r:Int):AS:=
 ⟨[.top,.val (.one (.ptr 0 0)),.val (.one (.ptr 1 0)),.top,.val (.one (.ptr 10 0))]++List.replicate 36 .top,
  [(0,⟨[.sg 0,.dg true 0],80,true,false,false⟩),(1,⟨[.bool false,.lit (.slice none 0 0)],80,true,false,false⟩),(10,⟨[.sg 1,.dg true 1],80,true,false,false⟩)],11,[(z,10),(r,11)],[]⟩
def rootT (z:Int):Int:=Wr ((Wr ((Nm.bl z:Int)+1)).tdiv 2)
theorem root_walk0 (z:Int):(run Z (orSp spL (tabSp tW1)) (fun _=>none) (drawA Z (orSp spL (tabSp tW1))) atLoop 300 [.code (bodyOf Tryz.f214),.top Tryz.f214] (start Tryz.f214 (tokGs true [.ns [z]] [10]))).bind (outL true [0,1,10] [1,2,4] 11 [10,11])=
  some (.br (decide (Nm.cmp z 0<=0)) (.ret (.one (.ns [0]))) (.need [0<=rootT z/\rootT z<=900000000/\10000000*1+(rootT z).toNat<=1000000000] (.need [0<=((1:Int).natAbs:Int)*2^(rootT z).toNat,Bits 10 z,Bits 11 (((1:Int).natAbs:Int)*2^(rootT z).toNat)] (.again (.code (.loop (lpB (bodyOf Tryz.f214) Tryz.f214))::lpK (bodyOf Tryz.f214) Tryz.f214) (sRoot z (((1:Int).natAbs:Int)*2^(rootT z).toNat)))))):=by kernel_rfl
theorem root_walk1 (z r:Int)(n:Nat):(run Z (orSp spL (tabSp tW1)) (fun _=>none) (drawA Z (orSp spL (tabSp tW1))) atRound 300 (.code (lpB (bodyOf Tryz.f214) Tryz.f214)::.lp (lpB (bodyOf Tryz.f214) Tryz.f214) n::lpK (bodyOf Tryz.f214) Tryz.f214) (sRoot z r)).bind (outL true [0,1,10] [1,2,4] 11 [10,11])=
  some (.br (decide (0<Nm.cmp r 0)) (.need [0<r] (.need [(1:Int)<=1/\(1:Int)<=1000000000] (.br (decide (0<=Nm.cmp (halfZ (r+z/r) 1) r)) (.ret (.one (.ns [r]))) (.need [Bits 10 z,Bits 11 (halfZ (r+z/r) 1)] (.again (.lp (lpB (bodyOf Tryz.f214) Tryz.f214) n::lpK (bodyOf Tryz.f214) Tryz.f214) (sRoot z (halfZ (r+z/r) 1))))))) (.ret (.one (.ns [r])))):=by kernel_rfl
def fRoot:List G->Option RG
 | [.ns [z]]=>some (.one (.ns [Rf.root z]))
 | _=>none
def ndRoot:List G->List Prop
 | [.ns [z]]=>[0<=z]
 | _=>[]
theorem root_te:TEok Z 214 (teG true fRoot ndRoot (fun ns=>ns.headD 0) [10]):=by
 refine walkL (l:=tW1) tW1_ok spL_ok (fn_of Tryz.func214 rfl rfl) (kb:=[0,1,10]) (kt:=[1,2,4]) (nx:=11) (rb:=[10,11]) ?_ (by kernel_rfl) ?_
 ·intro gs ns out h hn h3 h4
  unfold fRoot at h
  split at h
  ·rename_i z
   cases h
   have hn:0<=z:=hn.one
   match ns,h3 with
   | [n],⟨h3,_⟩=>
    intro y hy
    simp at hy
    subst hy
    have h5:=h3 z (by simp)
    have h6:=Rf.root_le hn
    have h7:=(Rf.root_spec hn).1
    exact bits_of h5 (by omega) (Nat.le_refl _)
  ·cases h
 ·intro gs out h hn h3
  unfold fRoot at h
  split at h
  ·rename_i z
   cases h
   have hn:0<=z:=hn.one
   have bz:Bits 10 z:=h3.1 z (by simp)
   have hbl:=bl_le bz
   have hT:rootT z=(((Nm.bl z+1)/2:Nat):Int):=by
    have w1:Wr ((Nm.bl z:Int)+1)=(Nm.bl z:Int)+1:=wr_small (by omega) (by omega)
    unfold rootT
    rw [w1]
    have:((Nm.bl z:Int)+1).tdiv 2=(((Nm.bl z+1)/2:Nat):Int):=by
     rw [Int.tdiv_eq_ediv_of_nonneg (by omega)]
     omega
    rw [this]
    exact wr_small (by omega) (by omega)
   have e1:((1:Int).natAbs:Int)*2^(rootT z).toNat=2^((Nm.bl z+1)/2):=by
    rw [hT,Int.toNat_natCast]
    show (1:Int)*_=_
    rw [Int.one_mul]
   have hp:(0:Int)<2^((Nm.bl z+1)/2):=Nm.pow_pos' (by decide) _
   have b2:Bits 11 (2^((Nm.bl z+1)/2):Int):=bits_in (pow2_bits ((Nm.bl z+1)/2)) (by omega)
   refine ⟨fun m s=>∃ r:Int,s=sRoot z r/\0<r/\0<z/\z<(r+1)*(r+1)/\Bits 11 r/\m=r.toNat,⟨300,_,root_walk0 z,?_,?_⟩,?_⟩
   ·intro h0
    have h0:Nm.cmp z 0<=0:=by simpa using h0
    have:z=0:=by
     rcases Int.lt_or_eq_of_le hn with h | h
     ·rw [Nm.cmp_gt h] at h0;omega
     ·exact h.symm
    subst this
    rw [root_eq (r:=0) (by decide) (by decide) (by decide) (by decide)]
    exact rfl
   ·intro h0
    have h0:¬Nm.cmp z 0<=0:=by simpa using h0
    have hz:0<z:=by
     rcases Int.lt_or_eq_of_le hn with h | h
     ·exact h
     ·exfalso;apply h0;rw [Nm.cmp_eq h.symm];decide
    rw [e1]
    refine ⟨holds_cons ⟨by omega,by omega,by omega⟩ holds_nil,holds_cons (by omega) (holds_cons bz (holds_cons b2 holds_nil)),rfl,_,_,rfl,hp,hz,?_,b2,rfl⟩
    have h5:=(bl_lo (z:=z) (by omega)).2.2
    have h6:(2:Int)^Nm.bl z<=2^((Nm.bl z+1)/2)*2^((Nm.bl z+1)/2):=by
     rw [<-Int.pow_add]
     exact Nm.pow_mono (by decide) (by omega)
    have h7:z<(2:Int)^Nm.bl z:=by
     have:((z.natAbs:Nat):Int)<((2^Nm.bl z:Nat):Int):=Int.ofNat_lt.2 h5
     rw [Int.natCast_pow] at this
     have e:((2:Nat):Int)=2:=rfl
     rw [e] at this
     omega
    generalize (2:Int)^((Nm.bl z+1)/2)=P at*
    have e:(P+1)*(P+1)=P*P+2*P+1:=by grind
    omega
   ·rintro m s ⟨r,rfl,hr,hz,hlt,br,rfl⟩ n
    obtain ⟨n1,n2,n3⟩:=newt hz hr
    have hq:0<=z/r:=Int.ediv_nonneg (by omega) (by omega)
    have eh:halfZ (r+z/r) 1=(r+z/r)/2:=half1 (by omega)
    refine ⟨300,_,root_walk1 z r n,?_,?_⟩
    ·intro _
     refine ⟨holds_cons hr holds_nil,holds_cons (by decide) holds_nil,?_,?_⟩
     ·intro hge
      have hge:0<=Nm.cmp (halfZ (r+z/r) 1) r:=by simpa using hge
      rw [eh] at hge
      have h8:r<=(r+z/r)/2:=by
       rcases Int.lt_or_le ((r+z/r)/2) r with h | h
       ·rw [Nm.cmp_lt h] at hge;omega
       ·exact h
      rw [root_eq hn (by omega) (n3 h8) hlt]
      exact rfl
     ·intro hge
      have hge:¬0<=Nm.cmp (halfZ (r+z/r) 1) r:=by simpa using hge
      rw [eh] at hge ⊢
      have h8:(r+z/r)/2<r:=by
       rcases Int.lt_or_le ((r+z/r)/2) r with h | h
       ·exact h
       ·exfalso
        apply hge
        rcases Int.lt_or_eq_of_le h with h | h
        ·rw [Nm.cmp_gt h];decide
        ·rw [Nm.cmp_eq h.symm];decide
      have b3:Bits 11 ((r+z/r)/2):=bits_of br (by omega) (Nat.le_refl _)
      exact ⟨holds_cons bz (holds_cons b3 holds_nil),rfl,((r+z/r)/2).toNat,by omega,_,rfl,n1,hz,n2,b3,rfl⟩
    ·intro hle
     have hle:¬0<Nm.cmp r 0:=by simpa using hle
     exfalso
     apply hle
     rw [Nm.cmp_gt hr]
     decide
  ·cases h
noncomputable def tW:List (FuncId×TE):=(214,teG true fRoot ndRoot (fun ns=>ns.headD 0) [10])::(110,teG true fPow ndPow (fun _=>1) [0,0])::tW1
theorem tW_ok:AllTE Z tW:=⟨root_te,pow_te,tW1_ok⟩
end Ab
open Go.RowKit
namespace Ab
def outN (k:Bool):Out->Option (List Prop×RG×Nat)
 | .ret (.val v)=>(gT k v).map fun g=>([],.one g.1,g.2)
 | .ret (.tup vs)=>(mapO (gT k) vs).map fun gs=>([],.tup (gs.map (·.1)),(gs.map (·.2)).foldr max 0)
 | .br t x y=>(outN k x).bind fun a=>(outN k y).bind fun b=>(mrgR t a.2.1 b.2.1).map fun c=>(a.1.map (fun p=>t=true->p)++b.1.map (fun p=>t=false->p),c,max a.2.2 b.2.2)
 | .need p o=>(outN k o).map fun a=>(p++a.1,a.2)
theorem gTs_ok {k:Bool}{n:Nat}{w:World}:∀ {vs:List VT} {gs:List (G×Nat)} {xs:List Value},mapO (gT k) vs=some gs->(gs.map (·.2)).foldr max 0<=n->All2 (RVT Z w) vs xs->All2 (RVT Z w) ((gs.map (·.1)).map (tokG k n)) xs
 | [],gs,[],h,_,_=>by simp [mapO] at h;subst h;trivial
 | v::vs,gs,x::xs,h,hb,⟨r1,r2⟩=>by
  unfold mapO at h
  obtain ⟨y,h1,h2⟩:=bnd h
  obtain ⟨ys,h3,rfl⟩:=mpd h2
  simp only [List.map_cons,List.foldr_cons] at hb
  obtain ⟨k1,k2⟩:=gT_ok h1 r1
  exact ⟨k2 n (k1.mono (by omega)),gTs_ok h3 (by omega) r2⟩
 | [],_,_::_,_,_,h=>h.elim
 | _::_,_,[],_,_,h=>h.elim
theorem outN_ok {k:Bool}{n:Nat}:∀ {o:Out} {ps:List Prop} {out:RG} {m:Nat},outN k o=some (ps,out,m)->Holds ps->m<=n->o.ok fun r'=>∀ w v,RRV Z w r' v->RRV Z w (rvG k n out) v
 | .ret (.val t),ps,out,m,h,_,hb=>by
  simp only [outN] at h
  obtain ⟨⟨g,m'⟩,h1,h2⟩:=mpd h
  cases h2
  intro w v hv
  obtain ⟨k1,k2⟩:=gT_ok h1 hv
  exact k2 n (k1.mono hb)
 | .ret (.tup vs),ps,out,m,h,_,hb=>by
  simp only [outN] at h
  obtain ⟨gs,h1,h2⟩:=mpd h
  cases h2
  rintro w v ⟨xs,e,hv⟩
  exact ⟨xs,e,gTs_ok h1 hb hv⟩
 | .br t x y,ps,out,m,h,hp,hb=>by
  simp only [outN] at h
  obtain ⟨⟨p1,a,m1⟩,h1,h2⟩:=bnd h
  obtain ⟨⟨p2,b,m2⟩,h3,h4⟩:=bnd h2
  obtain ⟨c,h5,h6⟩:=mpd h4
  cases h6
  have h7:=mrgR_ok h5
  refine ⟨fun e=>?_,fun e=>?_⟩
  ·subst e;subst h7
   exact outN_ok h1 (fun q hq=>hp (true=true->q) (List.mem_append_left _ (List.mem_map.2 ⟨q,hq,rfl⟩)) rfl) (by simp only at hb ⊢;omega)
  ·subst e;subst h7
   exact outN_ok h3 (fun q hq=>hp (false=false->q) (List.mem_append_right _ (List.mem_map.2 ⟨q,hq,rfl⟩)) rfl) (by simp only at hb ⊢;omega)
 | .need p o,ps,out,m,h,hp,hb=>by
  simp only [outN] at h
  obtain ⟨⟨p1,a,m1⟩,h1,h2⟩:=mpd h
  cases h2
  exact ⟨fun q hq=>hp q (by simp [hq]),outN_ok h1 (fun q hq=>hp q (by simp [hq])) hb⟩
abbrev teN (k:Bool)(F:List G->Option RG)(nd:List G->List Prop)(N:Nat)(lim:List Nat):TE:=teG k F nd (fun _=>N) lim
theorem walkN {l:List (FuncId×TE)}(hl:AllTE Z l){bodies:FuncId->Option Func}(hbo:BodiesOk Z bodies){f:FuncId}{fn:Func}(Fn':Fn f fn){k:Bool}{F:List G->Option RG}{nd:List G->List Prop}{N:Nat}{lim:List Nat}
  (h:∀ gs out,F gs=some out->∃ ps m,((run Z (tabSp l) bodies (drawA Z (tabSp l)) (fun _=>false) 2000 [.code (bodyOf fn),.top fn] (start fn (tokGs k gs lim))).bind outcome).bind (outN k)=some (ps,out,m)/\m<=N/\(Holds (nd gs)->GBs gs lim->Holds ps)):TEok Z f (teN k F nd N lim):=by
 refine ⟨Fn'.en,fun ts r p hts hp w vs hvs=>?_⟩
 unfold teN teG at hts
 obtain ⟨xs,h1,h2⟩:=bnd hts
 cases hle:leAll (xs.map (·.2)) lim with
 | false=>rw [hle] at h2;cases h2
 | true=>
  rw [hle] at h2
  simp only [cond_true] at h2
  obtain ⟨out,h3,h4⟩:=mpd h2
  cases h4
  obtain ⟨g1,g2,g3⟩:=argsG_ok ts xs lim vs h1 hle hvs
  obtain ⟨ps,m,k1,k2,k3⟩:=h _ out h3
  have k3':=k3 hp g3
  clear k3
  generalize xs.map (·.1)=gs at*
  obtain ⟨o,k4,k5⟩:=bnd k1
  obtain ⟨tr,k6,k7⟩:=bnd k4
  have hA:At (avsOf 0 (tokGs k gs lim)).2 0 (avsOf 0 (tokGs k gs lim)).2:=fun i y hy=>by rw [Nat.zero_add];exact hy
  refine engine (w0:=w) (ψ:=fun _=>none) (φ:=fun _=>none) (s:=start fn (tokGs k gs lim)) (vs:=(avsOf 0 (tokGs k gs lim)).1) (tabSp_ok hl) hbo (drawA_ok mixed (tabSp_ok hl)) Fn'.at' Fn'.body rfl (avsOf_ok _ 0 vs hA g1) (rep_start fn _ w) 2000 k6 _ (fun _ _=>False) (fun _ _ h=>h.elim) (outcome_ok k7 (outN_ok k5 k3' k2)) ?_
  rintro r0 s φ v w' ⟨hc,r',h7,h8⟩ hr hw
  exact ⟨v,rfl,h8 w' v (rvOf_ok h7 hr),RepF.below hw hc⟩
theorem te_congr' {f:FuncId}{k:Bool}{F F':List G->Option RG}{nd nd':List G->List Prop}{bo:List Nat->Nat}{lim:List Nat}(h:TEok Z f (teG k F nd bo lim))(hF:∀ gs out,F' gs=some out->Holds (nd' gs)->GBs gs lim->F gs=some out/\Holds (nd gs)):TEok Z f (teG k F' nd' bo lim):=by
 refine ⟨h.1,fun ts r p hts hp w vs hvs=>?_⟩
 unfold teG at hts
 obtain ⟨xs,h1,h2⟩:=bnd hts
 cases hle:leAll (xs.map (·.2)) lim with
 | false=>rw [hle] at h2;cases h2
 | true=>
  rw [hle] at h2
  simp only [cond_true] at h2
  obtain ⟨out,h3,h4⟩:=mpd h2
  cases h4
  obtain ⟨g1,g2,g3⟩:=argsG_ok ts xs lim vs h1 hle hvs
  obtain ⟨k1,k2⟩:=hF _ out h3 hp g3
  exact h.2 ts (rvG k (bo (xs.map (·.2))) out) (nd (xs.map (·.1))) (by unfold teG;rw [h1];simp only [Option.bind_some,hle,cond_true,k1,Option.map_some]) k2 w vs hvs
end Ab
open Go.RowKit
namespace Ab
def lowT (t b:Int):Int:=bif decide (Nm.cmp b 0<0) then -t/gcdZ t b else bif Nm.cmp b 0==0 then (bif decide (Nm.cmp t 0<0) then -t/gcdZ t b else t/gcdZ t b) else t/gcdZ t b
def lowB (t b:Int):Int:=bif decide (Nm.cmp b 0<0) then -b/gcdZ t b else bif Nm.cmp b 0==0 then (bif decide (Nm.cmp t 0<0) then -b/gcdZ t b else b/gcdZ t b) else b/gcdZ t b
def fLow:List G->Option RG
 | [.ns [t],.ns [b]]=>some (.one (.ns [lowT t b,lowB t b]))
 | _=>none
def ndLow:List G->List Prop
 | [.ns [t],.ns [b]]=>[0<gcdZ t b]
 | _=>[]
theorem low_te:TEok Z 96 (teN true fLow ndLow 41 [40,40]):=by
 refine walkN (l:=tW) tW_ok nobody (fn_of Tryz.func96 rfl rfl) ?_
 intro gs out h
 unfold fLow at h
 split at h
 ·rename_i t b
  cases h
  refine ⟨[decide (Nm.cmp b 0<0)=true->0<gcdZ t b,decide (Nm.cmp b 0<0)=true->0<gcdZ t b,decide (Nm.cmp b 0<0)=false->(Nm.cmp b 0==0)=true->decide (Nm.cmp t 0<0)=true->0<gcdZ t b,decide (Nm.cmp b 0<0)=false->(Nm.cmp b 0==0)=true->decide (Nm.cmp t 0<0)=true->0<gcdZ t b,decide (Nm.cmp b 0<0)=false->(Nm.cmp b 0==0)=true->decide (Nm.cmp t 0<0)=false->0<gcdZ t b,decide (Nm.cmp b 0<0)=false->(Nm.cmp b 0==0)=true->decide (Nm.cmp t 0<0)=false->0<gcdZ t b,decide (Nm.cmp b 0<0)=false->(Nm.cmp b 0==0)=false->0<gcdZ t b,decide (Nm.cmp b 0<0)=false->(Nm.cmp b 0==0)=false->0<gcdZ t b],41,by kernel_rfl,by decide,fun hn hg=>?_⟩
  have hn:0<gcdZ t b:=hn.one
  exact holds_cons (fun _=>hn) (holds_cons (fun _=>hn) (holds_cons (fun _ _ _=>hn) (holds_cons (fun _ _ _=>hn) (holds_cons (fun _ _ _=>hn) (holds_cons (fun _ _ _=>hn) (holds_cons (fun _ _=>hn) (holds_cons (fun _ _=>hn) holds_nil)))))))
 ·cases h
def fFrOf:List Int->Option (List Int)
 | [n]=>some [n,1]
 | _=>none
theorem frOf_te:TEok Z 102 (teI true fFrOf):=by
 refine walkI tW_ok (fn_of Tryz.func102 rfl rfl) ?_ ?_
 ·intro zs out h
  unfold fFrOf at h
  split at h
  ·rename_i n
   cases h
   exact ⟨[n.natAbs<1000000000000000000],by kernel_rfl,fun h=>holds_cons (h n (by simp)) holds_nil⟩
  ·cases h
 ·intro zs out h hz
  unfold fFrOf at h
  split at h
  ·rename_i n
   cases h
   intro z hz'
   simp at hz'
   rcases hz' with rfl | rfl
   ·exact bits60 (hz _ (by simp))
   ·exact bits60 (by decide)
  ·cases h
def fFrSign:List G->Option RG
 | [.ns [t,b]]=>some (.one (.i .i64 (Nm.cmp t 0)))
 | _=>none
theorem frSign_te:TEok Z 80 (teN true fFrSign noNd 0 [90]):=by
 refine walkN (l:=tW) tW_ok nobody (fn_of Tryz.func80 rfl rfl) ?_
 intro gs out h
 unfold fFrSign at h
 split at h
 ·cases h
  exact ⟨[],0,by kernel_rfl,by decide,fun _ _=>holds_nil⟩
 ·cases h
def fFrNeg:List G->Option RG
 | [.ns [t,b]]=>some (.one (.ns [-t,b]))
 | _=>none
theorem frNeg_te:TEok Z 127 (teN true fFrNeg noNd 10 [10]):=by
 refine walkN (l:=tW) tW_ok nobody (fn_of Tryz.func127 rfl rfl) ?_
 intro gs out h
 unfold fFrNeg at h
 split at h
 ·cases h
  exact ⟨[],10,by kernel_rfl,by decide,fun _ _=>holds_nil⟩
 ·cases h
noncomputable def tF0:List (FuncId×TE):=(96,teN true fLow ndLow 41 [40,40])::(102,teI true fFrOf)::(80,teN true fFrSign noNd 0 [90])::(127,teN true fFrNeg noNd 10 [10])::tW
theorem tF0_ok:AllTE Z tF0:=⟨low_te,frOf_te,frSign_te,frNeg_te,tW_ok⟩
def fFr2 (top bot:Int->Int->Int->Int->Int):List G->Option RG
 | [.ns [a,b],.ns [c,d]]=>some (.one (.ns [lowT (top a b c d) (bot a b c d),lowB (top a b c d) (bot a b c d)]))
 | _=>none
def ndFr2 (top bot:Int->Int->Int->Int->Int):List G->List Prop
 | [.ns [a,b],.ns [c,d]]=>[0<gcdZ (top a b c d) (bot a b c d)]
 | _=>[]
theorem frPlus_te:TEok Z 126 (teN true (fFr2 (fun a b c d=>a*d+c*b) (fun a b c d=>b*d)) (ndFr2 (fun a b c d=>a*d+c*b) (fun a b c d=>b*d)) 41 [10,10]):=by
 refine walkN (l:=tF0) tF0_ok nobody (fn_of Tryz.func126 rfl rfl) ?_
 intro gs out h
 unfold fFr2 at h
 split at h
 ·rename_i a b c d
  cases h
  exact ⟨[0<gcdZ (a*d+c*b) (b*d)],41,by kernel_rfl,by decide,fun hn _=>holds_cons hn.one holds_nil⟩
 ·cases h
theorem frTimes_te:TEok Z 172 (teN true (fFr2 (fun a b c d=>a*c) (fun a b c d=>b*d)) (ndFr2 (fun a b c d=>a*c) (fun a b c d=>b*d)) 41 [10,10]):=by
 refine walkN (l:=tF0) tF0_ok nobody (fn_of Tryz.func172 rfl rfl) ?_
 intro gs out h
 unfold fFr2 at h
 split at h
 ·rename_i a b c d
  cases h
  exact ⟨[0<gcdZ (a*c) (b*d)],41,by kernel_rfl,by decide,fun hn _=>holds_cons hn.one holds_nil⟩
 ·cases h
theorem frOver_te:TEok Z 173 (teN true (fFr2 (fun a b c d=>a*d) (fun a b c d=>b*c)) (ndFr2 (fun a b c d=>a*d) (fun a b c d=>b*c)) 41 [10,10]):=by
 refine walkN (l:=tF0) tF0_ok nobody (fn_of Tryz.func173 rfl rfl) ?_
 intro gs out h
 unfold fFr2 at h
 split at h
 ·rename_i a b c d
  cases h
  exact ⟨[0<gcdZ (a*d) (b*c)],41,by kernel_rfl,by decide,fun hn _=>holds_cons hn.one holds_nil⟩
 ·cases h
noncomputable def tF1:List (FuncId×TE):=(126,teN true (fFr2 (fun a b c d=>a*d+c*b) (fun a b c d=>b*d)) (ndFr2 (fun a b c d=>a*d+c*b) (fun a b c d=>b*d)) 41 [10,10])::(172,teN true (fFr2 (fun a b c d=>a*c) (fun a b c d=>b*d)) (ndFr2 (fun a b c d=>a*c) (fun a b c d=>b*d)) 41 [10,10])::(173,teN true (fFr2 (fun a b c d=>a*d) (fun a b c d=>b*c)) (ndFr2 (fun a b c d=>a*d) (fun a b c d=>b*c)) 41 [10,10])::tF0
theorem tF1_ok:AllTE Z tF1:=⟨frPlus_te,frTimes_te,frOver_te,tF0_ok⟩
theorem frMinus_te:TEok Z 79 (teN true (fFr2 (fun a b c d=>a*d+-c*b) (fun a b c d=>b*d)) (ndFr2 (fun a b c d=>a*d+-c*b) (fun a b c d=>b*d)) 41 [10,10]):=by
 refine walkN (l:=tF1) tF1_ok nobody (fn_of Tryz.func79 rfl rfl) ?_
 intro gs out h
 unfold fFr2 at h
 split at h
 ·rename_i a b c d
  cases h
  exact ⟨[0<gcdZ (a*d+-c*b) (b*d)],41,by kernel_rfl,by decide,fun hn _=>holds_cons hn.one holds_nil⟩
 ·cases h
noncomputable def tF:List (FuncId×TE):=(79,teN true (fFr2 (fun a b c d=>a*d+-c*b) (fun a b c d=>b*d)) (ndFr2 (fun a b c d=>a*d+-c*b) (fun a b c d=>b*d)) 41 [10,10])::tF1
theorem tF_ok:AllTE Z tF:=⟨frMinus_te,tF1_ok⟩
def fMOf:List Int->Option (List Int)
 | [a,b,c,d]=>some [a,b,c,d]
 | _=>none
theorem mOf_te:TEok Z 56 (teI true fMOf):=by
 refine walkI tW_ok (fn_of Tryz.func56 rfl rfl) ?_ ?_
 ·intro zs out h
  unfold fMOf at h
  split at h
  ·rename_i a b c d
   cases h
   exact ⟨[a.natAbs<1000000000000000000,b.natAbs<1000000000000000000,c.natAbs<1000000000000000000,d.natAbs<1000000000000000000],by kernel_rfl,fun h=>by simp at h;exact holds_cons h.1 (holds_cons h.2.1 (holds_cons h.2.2.1 (holds_cons h.2.2.2 holds_nil)))⟩
  ·cases h
 ·intro zs out h hz
  unfold fMOf at h
  split at h
  ·cases h
   exact fun z hz'=>bits60 (hz z hz')
  ·cases h
def fPairs:List G->Option RG
 | [.ns [a],.ns [x],.ns [b],.ns [y]]=>some (.one (.ns [a*x+b*y]))
 | _=>none
theorem pairs_te:TEok Z 95 (teN true fPairs noNd 7 [3,3,3,3]):=by
 refine walkN (l:=tW) tW_ok nobody (fn_of Tryz.func95 rfl rfl) ?_
 intro gs out h
 unfold fPairs at h
 split at h
 ·cases h
  exact ⟨[],7,by kernel_rfl,by decide,fun _ _=>holds_nil⟩
 ·cases h
noncomputable def tM0:List (FuncId×TE):=(56,teI true fMOf)::(95,teN true fPairs noNd 7 [3,3,3,3])::tF
theorem tM0_ok:AllTE Z tM0:=⟨mOf_te,pairs_te,tF_ok⟩
end Ab
open Go.RowKit
namespace Ab
def symA (s:Int):Int:=bif s==2 then -1 else bif s==3 then 1 else bif s==4 then 1 else bif s==5 then 1 else bif s==6 then 3 else bif s==7 then 2 else 1
def symB (s:Int):Int:=bif s==2 then 0 else bif s==3 then -1 else bif s==4 then 1 else bif s==5 then 0 else bif s==6 then 1 else bif s==7 then 1 else 0
def symC (s:Int):Int:=bif s==2 then 0 else bif s==3 then 1 else bif s==4 then -1 else bif s==5 then 1 else bif s==6 then 1 else bif s==7 then 0 else 0
def symD (s:Int):Int:=bif s==2 then 1 else bif s==3 then 1 else bif s==4 then 1 else bif s==5 then 2 else bif s==6 then 3 else bif s==7 then 1 else 1
def fSymM:List G->Option RG
 | [.i .i64 s]=>some (.one (.ns [symA s,symB s,symC s,symD s]))
 | _=>none
theorem SymM_te:TEok Z 58 (teN true fSymM noNd 1 [0]):=by
 refine walkN (l:=tM0) tM0_ok nobody (fn_of Tryz.func58 rfl rfl) ?_
 intro gs out h
 unfold fSymM at h
 split at h
 ·cases h
  exact ⟨[],1,by kernel_rfl,by decide,fun _ _=>holds_nil⟩
 ·cases h
def fAfter:List G->Option RG
 | [.ns [a,b,c,d],.ns [e,f,g,h]]=>some (.one (.ns [a*e+b*g,a*f+b*h,c*e+d*g,c*f+d*h]))
 | _=>none
theorem After_te:TEok Z 57 (teN true fAfter noNd 7 [3,3]):=by
 refine walkN (l:=tM0) tM0_ok nobody (fn_of Tryz.func57 rfl rfl) ?_
 intro gs out h
 unfold fAfter at h
 split at h
 ·cases h
  exact ⟨[],7,by kernel_rfl,by decide,fun _ _=>holds_nil⟩
 ·cases h
noncomputable def tM:List (FuncId×TE):=(58,teN true fSymM noNd 1 [0])::(57,teN true fAfter noNd 7 [3,3])::tM0
theorem tM_ok:AllTE Z tM:=⟨SymM_te,After_te,tM0_ok⟩
def fPair:List Int->Option (List Int)
 | [p,q]=>some [p,q]
 | _=>none
theorem pair_te:TEok Z 180 (teI true fPair):=by
 refine walkI tM_ok (fn_of Tryz.func180 rfl rfl) ?_ ?_
 ·intro zs out h
  unfold fPair at h
  split at h
  ·rename_i p q
   cases h
   exact ⟨[p.natAbs<1000000000000000000,q.natAbs<1000000000000000000],by kernel_rfl,fun h=>by simp at h;exact holds_cons h.1 (holds_cons h.2 holds_nil)⟩
  ·cases h
 ·intro zs out h hz
  unfold fPair at h
  split at h
  ·cases h
   exact fun z hz'=>bits60 (hz z hz')
  ·cases h
def fColT:List G->Option RG
 | [.ns [p,q],.ns [n]]=>some (.one (.ns [p*n,q*n]))
 | _=>none
theorem ColT_te:TEok Z 240 (teN true fColT noNd 18 [15,3]):=by
 refine walkN (l:=tM) tM_ok nobody (fn_of Tryz.func240 rfl rfl) ?_
 intro gs out h
 unfold fColT at h
 split at h
 ·cases h
  exact ⟨[],18,by kernel_rfl,by decide,fun _ _=>holds_nil⟩
 ·cases h
def fColP:List G->Option RG
 | [.ns [p,q],.ns [r,s]]=>some (.one (.ns [p+r,q+s]))
 | _=>none
theorem ColP_te:TEok Z 241 (teN true fColP noNd 19 [18,18]):=by
 refine walkN (l:=tM) tM_ok nobody (fn_of Tryz.func241 rfl rfl) ?_
 intro gs out h
 unfold fColP at h
 split at h
 ·cases h
  exact ⟨[],19,by kernel_rfl,by decide,fun _ _=>holds_nil⟩
 ·cases h
noncomputable def tC0:List (FuncId×TE):=(180,teI true fPair)::(240,teN true fColT noNd 18 [15,3])::(241,teN true fColP noNd 19 [18,18])::tM
theorem tC0_ok:AllTE Z tC0:=⟨pair_te,ColT_te,ColP_te,tM_ok⟩
def fRead:List G->Option RG
 | [.ns [p,q],.ns [r,s],.ns [a,b,c,d]]=>some (.tup [.ns [p*a+r*c,q*a+s*c],.ns [p*b+r*d,q*b+s*d]])
 | _=>none
theorem Read_te:TEok Z 231 (teN true fRead noNd 19 [15,15,3]):=by
 refine walkN (l:=tC0) tC0_ok nobody (fn_of Tryz.func231 rfl rfl) ?_
 intro gs out h
 unfold fRead at h
 split at h
 ·cases h
  exact ⟨[],19,by kernel_rfl,by decide,fun _ _=>holds_nil⟩
 ·cases h
noncomputable def tC1:List (FuncId×TE):=(231,teN true fRead noNd 19 [15,15,3])::tC0
theorem tC1_ok:AllTE Z tC1:=⟨Read_te,tC0_ok⟩
def fRdL:List G->Option RG
 | [.ns [p0,q0,p1,q1,p2,q2,p3,q3],.ns [a,b,c,d]]=>some (.one (.ns [p0*a+p2*c,q0*a+q2*c,p1*a+p3*c,q1*a+q3*c,p0*b+p2*d,q0*b+q2*d,p1*b+p3*d,q1*b+q3*d]))
 | _=>none
theorem RdL_te:TEok Z 222 (teN true fRdL noNd 19 [15,3]):=by
 refine walkN (l:=tC1) tC1_ok nobody (fn_of Tryz.func222 rfl rfl) ?_
 intro gs out h
 unfold fRdL at h
 split at h
 ·cases h
  exact ⟨[],19,by kernel_rfl,by decide,fun _ _=>holds_nil⟩
 ·cases h
def fRdR:List G->Option RG
 | [.ns [p0,q0,p1,q1,p2,q2,p3,q3],.ns [a,b,c,d]]=>some (.one (.ns [p0*a+p1*c,q0*a+q1*c,p0*b+p1*d,q0*b+q1*d,p2*a+p3*c,q2*a+q3*c,p2*b+p3*d,q2*b+q3*d]))
 | _=>none
theorem RdR_te:TEok Z 217 (teN true fRdR noNd 19 [15,3]):=by
 refine walkN (l:=tC1) tC1_ok nobody (fn_of Tryz.func217 rfl rfl) ?_
 intro gs out h
 unfold fRdR at h
 split at h
 ·cases h
  exact ⟨[],19,by kernel_rfl,by decide,fun _ _=>holds_nil⟩
 ·cases h
def fGive:List G->Option RG
 | [.ns [p0,q0,p1,q1,p2,q2,p3,q3],.ns [a,b,c,d]]=>some (.one (.ns [d*p0-b*q0,a*q0-c*p0,d*p1-b*q1,a*q1-c*p1,d*p2-b*q2,a*q2-c*p2,d*p3-b*q3,a*q3-c*p3]))
 | _=>none
theorem Give_te:TEok Z 199 (teN true fGive noNd 19 [15,3]):=by
 refine walkN (l:=tC1) tC1_ok nobody (fn_of Tryz.func199 rfl rfl) ?_
 intro gs out h
 unfold fGive at h
 split at h
 ·cases h
  exact ⟨[],19,by kernel_rfl,by decide,fun _ _=>holds_nil⟩
 ·cases h
noncomputable def tC2:List (FuncId×TE):=(222,teN true fRdL noNd 19 [15,3])::(217,teN true fRdR noNd 19 [15,3])::(199,teN true fGive noNd 19 [15,3])::tC1
theorem tC2_ok:AllTE Z tC2:=⟨RdL_te,RdR_te,Give_te,tC1_ok⟩
noncomputable def fewer (t z:Int):Int:=bif Nm.cmp z 0==0 then t else bif decide (t<0) then (Nm.tz z:Int) else bif decide ((Nm.tz z:Int)<t) then (Nm.tz z:Int) else t
def fac1 (kd k:Int):Int:=bif kd==11 then 1 else bif k==0 then 1 else bif kd==13 then Wr (k*k) else Wr (Wr ((Wr (k+1)).tdiv 2)*Wr ((Wr (k+1)).tdiv 2))
def fac2 (kd k:Int):Int:=bif kd==11 then Wr (Wr (4*k)+2) else bif k==0 then 1 else bif kd==13 then Wr (Wr (2*k)+1) else Wr (k+1)
def eterm (k:Int):Int:=bif k==0 then 2 else bif k.tmod 3==2 then Wr ((Wr (2*Wr (k+1))).tdiv 3) else 1
theorem pi_need {k:Int}(h:0<=k/\k<=100000000):Holds [(k==0)=false->(Wr (k*k)).natAbs<1000000000000000000,(k==0)=false->(Wr (Wr (2*k)+1)).natAbs<1000000000000000000]:=by
 have h1:0<=k*k:=Int.mul_nonneg h.1 h.1
 have h2:k*k<=100000000*100000000:=Int.mul_le_mul h.2 h.2 h.1 (by decide)
 have e1:Wr (k*k)=k*k:=wr_small (by omega) (by omega)
 have e2:Wr (2*k)=2*k:=wr_small (by omega) (by omega)
 have e3:Wr (2*k+1)=2*k+1:=wr_small (by omega) (by omega)
 rw [e1,e2,e3]
 exact holds_cons (fun _=>by omega) (holds_cons (fun _=>by omega) holds_nil)
def ndPi:List G->List Prop
 | [.i .i64 k]=>[0<=k/\k<=100000000]
 | _=>[]
noncomputable def fFew:List G->Option RG
 | [.i .i64 t,.ns [z]]=>some (.one (.i .i64 (fewer t z)))
 | _=>none
theorem Few_te:TEok Z 211 (teN true fFew noNd 0 [0,19]):=by
 refine walkN (l:=tC2) tC2_ok nobody (fn_of Tryz.func211 rfl rfl) ?_
 intro gs out h
 unfold fFew at h
 split at h
 ·cases h
  exact ⟨[],0,by kernel_rfl,by decide,fun _ _=>holds_nil⟩
 ·cases h
def fNought:List G->Option RG
 | [.ns [p,q]]=>some (.one (.b ((Nm.cmp p 0==0)&&(Nm.cmp q 0==0))))
 | _=>none
theorem Nought_te:TEok Z 246 (teN true fNought noNd 0 [19]):=by
 refine walkN (l:=tC2) tC2_ok nobody (fn_of Tryz.func246 rfl rfl) ?_
 intro gs out h
 unfold fNought at h
 split at h
 ·cases h
  exact ⟨[],0,by kernel_rfl,by decide,fun _ _=>holds_nil⟩
 ·cases h
def fGrt:List G->Option RG
 | [.ns [a],.ns [b]]=>some (.one (.ns [bif decide (Nm.cmp a b<0) then b else a]))
 | _=>none
theorem Grt_te:TEok Z 232 (teN true fGrt noNd 80 [80,80]):=by
 refine walkN (l:=tC2) tC2_ok nobody (fn_of Tryz.func232 rfl rfl) ?_
 intro gs out h
 unfold fGrt at h
 split at h
 ·cases h
  exact ⟨[],80,by kernel_rfl,by decide,fun _ _=>holds_nil⟩
 ·cases h
def fSqs:List G->Option RG
 | [.i .i64 k]=>some (.one (.b ((k==13)||(k==11))))
 | _=>none
theorem Sqs_te:TEok Z 238 (teN true fSqs noNd 0 [0]):=by
 refine walkN (l:=tC2) tC2_ok nobody (fn_of Tryz.func238 rfl rfl) ?_
 intro gs out h
 unfold fSqs at h
 split at h
 ·cases h
  exact ⟨[],0,by kernel_rfl,by decide,fun _ _=>holds_nil⟩
 ·cases h
def fFac:List G->Option RG
 | [.i .i64 kd,.i .i64 k]=>some (.tup [.i .i64 (fac1 kd k),.i .i64 (fac2 kd k)])
 | _=>none
theorem Fac_te:TEok Z 239 (teN true fFac noNd 0 [0,0]):=by
 refine walkN (l:=tC2) tC2_ok nobody (fn_of Tryz.func239 rfl rfl) ?_
 intro gs out h
 unfold fFac at h
 split at h
 ·cases h
  exact ⟨[],0,by kernel_rfl,by decide,fun _ _=>holds_nil⟩
 ·cases h
def fETm:List G->Option RG
 | [.i .i64 k]=>some (.one (.i .i64 (eterm k)))
 | _=>none
theorem ETm_te:TEok Z 228 (teN true fETm noNd 0 [0]):=by
 refine walkN (l:=tC2) tC2_ok nobody (fn_of Tryz.func228 rfl rfl) ?_
 intro gs out h
 unfold fETm at h
 split at h
 ·cases h
  exact ⟨[],0,by kernel_rfl,by decide,fun _ _=>holds_nil⟩
 ·cases h
def fPiM:List G->Option RG
 | [.i .i64 k]=>some (.one (.ns [bif k==0 then 0 else 0,bif k==0 then 4 else Wr (k*k),bif k==0 then 1 else 1,bif k==0 then 1 else Wr (Wr (2*k)+1)]))
 | _=>none
theorem PiM_te:TEok Z 227 (teN true fPiM ndPi 1 [0]):=by
 refine walkN (l:=tC2) tC2_ok nobody (fn_of Tryz.func227 rfl rfl) ?_
 intro gs out h
 unfold fPiM at h
 split at h
 ·rename_i k
  cases h
  exact ⟨[(k==0)=false->(Wr (k*k)).natAbs<1000000000000000000,(k==0)=false->(Wr (Wr (2*k)+1)).natAbs<1000000000000000000],1,by kernel_rfl,by decide,fun hn _=>pi_need hn.one⟩
 ·cases h
def fOpC:List G->Option RG
 | [.i .i64 k]=>some (.one (.ns [bif k==6 then 0 else bif k==7 then 0 else bif k==8 then 1 else 0,bif k==6 then 0 else bif k==7 then 0 else bif k==8 then 0 else 0,bif k==6 then 1 else bif k==7 then 1 else bif k==8 then 0 else 1,bif k==6 then 0 else bif k==7 then 0 else bif k==8 then 0 else 0,bif k==6 then 1 else bif k==7 then -1 else bif k==8 then 0 else 0,bif k==6 then 0 else bif k==7 then 0 else bif k==8 then 0 else 1,bif k==6 then 0 else bif k==7 then 0 else bif k==8 then 0 else 0,bif k==6 then 1 else bif k==7 then 1 else bif k==8 then 1 else 0]))
 | _=>none
theorem OpC_te:TEok Z 181 (teN true fOpC noNd 1 [0]):=by
 refine walkN (l:=tC2) tC2_ok nobody (fn_of Tryz.func181 rfl rfl) ?_
 intro gs out h
 unfold fOpC at h
 split at h
 ·cases h
  exact ⟨[],1,by kernel_rfl,by decide,fun _ _=>holds_nil⟩
 ·cases h
def fRstC:List G->Option RG
 | [.i .i64 k,.ns [p,q]]=>some (.one (.ns [bif k==12 then q else bif k==13 then q else q,bif k==12 then 0 else bif k==13 then p else 0,bif k==12 then -p else bif k==13 then -p else -p,bif k==12 then p+q else bif k==13 then q else q,bif k==12 then 0 else bif k==13 then 0 else 0,bif k==12 then 0 else bif k==13 then 0 else 0,bif k==12 then 0 else bif k==13 then 0 else 0,bif k==12 then 0 else bif k==13 then 0 else 0]))
 | _=>none
theorem RstC_te:TEok Z 245 (teN true fRstC noNd 11 [0,10]):=by
 refine walkN (l:=tC2) tC2_ok nobody (fn_of Tryz.func245 rfl rfl) ?_
 intro gs out h
 unfold fRstC at h
 split at h
 ·cases h
  exact ⟨[],11,by kernel_rfl,by decide,fun _ _=>holds_nil⟩
 ·cases h
noncomputable def tC3:List (FuncId×TE):=(211,teN true fFew noNd 0 [0,19])::(246,teN true fNought noNd 0 [19])::(232,teN true fGrt noNd 80 [80,80])::(238,teN true fSqs noNd 0 [0])::(239,teN true fFac noNd 0 [0,0])::(228,teN true fETm noNd 0 [0])::(227,teN true fPiM ndPi 1 [0])::(181,teN true fOpC noNd 1 [0])::(245,teN true fRstC noNd 11 [0,10])::tC2
theorem tC3_ok:AllTE Z tC3:=⟨Few_te,Nought_te,Grt_te,Sqs_te,Fac_te,ETm_te,PiM_te,OpC_te,RstC_te,tC2_ok⟩
def sumZ (p q:Int):Int:=bif (Nm.cmp p 0==0)&&(Nm.cmp q 0==0) then 1 else p+q
def enoughZ (k hp hq lp lq:Int):Bool:=
 bif k==10 then decide (Nm.cmp (hp*lq) (lp*hq+lp*hq)<=0)
 else bif k==12 then decide (Nm.cmp ((hp*lq-lp*hq)*4) (hq*lq+lp*hq)<=0)
 else bif k==13 then decide (Nm.cmp ((hp*lq-lp*hq)*4) (hq*lq+hp*lp)<=0)
 else decide (Nm.cmp ((hp*lq-lp*hq)*4) (hq*lq)<=0)
def fSum:List G->Option RG
 | [.ns [p,q]]=>some (.one (.ns [sumZ p q]))
 | _=>none
theorem Sum_te:TEok Z 242 (teN true fSum noNd 16 [15]):=by
 refine walkN (l:=tC3) tC3_ok nobody (fn_of Tryz.func242 rfl rfl) ?_
 intro gs out h
 unfold fSum at h
 split at h
 ·cases h
  exact ⟨[],16,by kernel_rfl,by decide,fun _ _=>holds_nil⟩
 ·cases h
def fEno:List G->Option RG
 | [.i .i64 k,.ns [hp,hq],.ns [lp,lq]]=>some (.one (.b (enoughZ k hp hq lp lq)))
 | _=>none
theorem Eno_te:TEok Z 235 (teN true fEno noNd 0 [0,15,15]):=by
 refine walkN (l:=tC3) tC3_ok nobody (fn_of Tryz.func235 rfl rfl) ?_
 intro gs out h
 unfold fEno at h
 split at h
 ·cases h
  exact ⟨[],0,by kernel_rfl,by decide,fun _ _=>holds_nil⟩
 ·cases h
noncomputable def tC4:List (FuncId×TE):=(242,teN true fSum noNd 16 [15])::(235,teN true fEno noNd 0 [0,15,15])::tC3
theorem tC4_ok:AllTE Z tC4:=⟨Sum_te,Eno_te,tC3_ok⟩
def scaledZ (up uq vp vq op oq rp rq:Int):Int:=(((up*vq-uq*vp)*(sumZ op oq*sumZ rp rq)).natAbs:Int)
def grZ (a b:Int):Int:=bif decide (Nm.cmp a b<0) then b else a
def fScl:List G->Option RG
 | [.ns [up,uq],.ns [vp,vq],.ns [op,oq],.ns [rp,rq]]=>some (.one (.ns [scaledZ up uq vp vq op oq rp rq]))
 | _=>none
theorem Scl_te:TEok Z 233 (teN true fScl noNd 63 [15,15,15,15]):=by
 refine walkN (l:=tC4) tC4_ok nobody (fn_of Tryz.func233 rfl rfl) ?_
 intro gs out h
 unfold fScl at h
 split at h
 ·cases h
  exact ⟨[],63,by kernel_rfl,by decide,fun _ _=>holds_nil⟩
 ·cases h
noncomputable def tC5:List (FuncId×TE):=(233,teN true fScl noNd 63 [15,15,15,15])::tC4
theorem tC5_ok:AllTE Z tC5:=⟨Scl_te,tC4_ok⟩
def widthsZ (p0 q0 p1 q1 p2 q2 p3 q3 t:Int):Int:=
 Nm.cmp (grZ (scaledZ p0 q0 p2 q2 p1 q1 p3 q3) (scaledZ p1 q1 p3 q3 p0 q0 p2 q2)*t) (grZ (scaledZ p0 q0 p1 q1 p2 q2 p3 q3) (scaledZ p2 q2 p3 q3 p0 q0 p1 q1))
def ndWid:List G->List Prop
 | [.ns _,.i .i64 t]=>[t.natAbs<1000000000000000000]
 | _=>[]
inductive SF where
 | st (b:Bool)
 | sy (b:Bool)
def SF.val:SF->Bool
 | .st b=>b
 | .sy b=>b
def fWid:List G->Option RG
 | [.ns [p0,q0,p1,q1,p2,q2,p3,q3],.i .i64 t]=>some (.one (.i .i64 (widthsZ p0 q0 p1 q1 p2 q2 p3 q3 t)))
 | _=>none
theorem Wid_te:TEok Z 219 (teN true fWid ndWid 0 [15,0]):=by
 refine walkN (l:=tC5) tC5_ok nobody (fn_of Tryz.func219 rfl rfl) ?_
 intro gs out h
 unfold fWid at h
 split at h
 ·rename_i p0 q0 p1 q1 p2 q2 p3 q3 t
  cases h
  exact ⟨[t.natAbs<1000000000000000000],0,by kernel_rfl,by decide,fun hn _=>holds_cons hn.one holds_nil⟩
 ·cases h
noncomputable def tC6:List (FuncId×TE):=(219,teN true fWid ndWid 0 [15,0])::tC5
theorem tC6_ok:AllTE Z tC6:=⟨Wid_te,tC5_ok⟩
end Ab
open Go.RowKit
namespace Ab
def orL (u x y:Bool)(k:SF->LT):LT:=.br u (k (.st true)) (.br x (k (.st true)) (k (.sy y)))
def andL (d:SF)(k:LT):LT:=
 match d with
 | .st true=>.ret (.one (.b false))
 | .st false=>k
 | .sy t=>.br t (.ret (.one (.b false))) k
def cutL (u d:SF)(k:LT):LT:=
 match u with
 | .st true=>andL d k
 | .st false=>k
 | .sy t=>.br t (andL d k) k
theorem orL_ok {u x y:Bool}{k:SF->LT}{P:RG->Prop}{Q:List (K (List AT))->AS->Prop}(h:∀ s:SF,s.val=(u||x||y)->(k s).ok P Q):(orL u x y k).ok P Q:=by
 refine ⟨fun e=>h _ (by rw [e];rfl),fun e=>⟨fun e2=>h _ (by rw [e,e2];rfl),fun e2=>h _ (by rw [e,e2];rfl)⟩⟩
theorem cutL_ok {u d:SF}{k:LT}{P:RG->Prop}{Q:List (K (List AT))->AS->Prop}(h1:u.val=true->d.val=true->P (.one (.b false)))(h2:k.ok P Q):(cutL u d k).ok P Q:=by
 have ha:u.val=true->(andL d k).ok P Q:=by
  intro hu
  cases d with
  | st b=>cases b with
   | true=>exact h1 hu rfl
   | false=>exact h2
  | sy t=>exact ⟨fun e=>h1 hu e,fun _=>h2⟩
 cases u with
 | st b=>cases b with
  | true=>exact ha rfl
  | false=>exact h2
 | sy t=>exact ⟨fun e=>ha e,fun _=>h2⟩
def fitN (u d:Bool)(l:List (Int×Int)):Bool:=!((u||l.any fun c=>decide (c.1<0)||decide (c.2<0))==(d||l.any fun c=>decide (c.1>0)||decide (c.2>0)))
theorem fitN_cons (u d:Bool)(p q:Int)(l:List (Int×Int)):fitN u d ((p,q)::l)=fitN (u||decide (p<0)||decide (q<0)) (d||decide (p>0)||decide (q>0)) l:=by
 unfold fitN
 simp only [List.any_cons,Bool.or_assoc]
theorem fitN_both (l:List (Int×Int)):fitN true true l=false:=by unfold fitN;simp
def sFit (zs:List Int)(ms:List Int)(i:Nat)(u d:Bool):AS:=
 ⟨[.top,.top,.val (.one (.ptr 0 0)),.val (.one (.ptr 1 0)),.top,.val (.one (.sbool u)),.val (.one (.sbool d)),.val (.one (.int .i64 i))]++List.replicate 57 .top,
  [(0,⟨numCs true 0 8,201,true,false,false⟩),(1,⟨numCs true 8 4,115,true,false,false⟩)],2,(zs.map fun z=>(z,19))++ms.map (fun z=>(z,3)),[]⟩
def cl (p q a b c d:Int):Int×Int:=(cp d p b q,cp a q c p)
def fitZ (p0 q0 p1 q1 p2 q2 p3 q3 a b c d:Int):Bool:=fitN false false [cl p0 q0 a b c d,cl p1 q1 a b c d,cl p2 q2 a b c d,cl p3 q3 a b c d]
section
variable (p0 q0 p1 q1 p2 q2 p3 q3 a b c d:Int)
theorem fit_walk0:(run Z (orSp spL (tabSp tC6)) (fun _=>none) (drawA Z (orSp spL (tabSp tC6))) atLoop 300 [.code (bodyOf Tryz.f215),.top Tryz.f215] (start Tryz.f215 (tokGs true [.ns [p0,q0,p1,q1,p2,q2,p3,q3],.ns [a,b,c,d]] [19,3]))).bind (outL true [0,1] [2,3,1005,1006,7] 2 [])=
  some (.again (.code (.loop (lpB (bodyOf Tryz.f215) Tryz.f215))::lpK (bodyOf Tryz.f215) Tryz.f215) (sFit [p0,q0,p1,q1,p2,q2,p3,q3] [a,b,c,d] 0 false false)):=by kernel_rfl
noncomputable def fitRun (i:Nat)(n:Nat)(u v:Bool):Option LT:=(run Z (orSp spL (tabSp tC6)) (fun _=>none) (drawA Z (orSp spL (tabSp tC6))) atRound 300 (.code (lpB (bodyOf Tryz.f215) Tryz.f215)::.lp (lpB (bodyOf Tryz.f215) Tryz.f215) n::lpK (bodyOf Tryz.f215) Tryz.f215) (sFit [p0,q0,p1,q1,p2,q2,p3,q3] [a,b,c,d] i u v)).bind (outL true [0,1] [2,3,1005,1006,7] 2 [])
noncomputable def fitStep (i:Nat)(n:Nat)(u v:Bool)(p q:Int):LT:=orL u (decide ((cl p q a b c d).1<0)) (decide ((cl p q a b c d).2<0)) fun u'=>orL v (decide ((cl p q a b c d).1>0)) (decide ((cl p q a b c d).2>0)) fun v'=>cutL u' v' (.again (.lp (lpB (bodyOf Tryz.f215) Tryz.f215) n::lpK (bodyOf Tryz.f215) Tryz.f215) (sFit [p0,q0,p1,q1,p2,q2,p3,q3] [a,b,c,d] (i+1) u'.val v'.val))
theorem fit_step0 (n:Nat)(u v:Bool):fitRun p0 q0 p1 q1 p2 q2 p3 q3 a b c d 0 n u v=some (fitStep p0 q0 p1 q1 p2 q2 p3 q3 a b c d 0 n u v p0 q0):=by kernel_rfl
theorem fit_step1 (n:Nat)(u v:Bool):fitRun p0 q0 p1 q1 p2 q2 p3 q3 a b c d 1 n u v=some (fitStep p0 q0 p1 q1 p2 q2 p3 q3 a b c d 1 n u v p1 q1):=by kernel_rfl
theorem fit_step2 (n:Nat)(u v:Bool):fitRun p0 q0 p1 q1 p2 q2 p3 q3 a b c d 2 n u v=some (fitStep p0 q0 p1 q1 p2 q2 p3 q3 a b c d 2 n u v p2 q2):=by kernel_rfl
theorem fit_step3 (n:Nat)(u v:Bool):fitRun p0 q0 p1 q1 p2 q2 p3 q3 a b c d 3 n u v=some (fitStep p0 q0 p1 q1 p2 q2 p3 q3 a b c d 3 n u v p3 q3):=by kernel_rfl
theorem fit_step4 (n:Nat)(u v:Bool):fitRun p0 q0 p1 q1 p2 q2 p3 q3 a b c d 4 n u v=some (.ret (.one (.b !(u==v)))):=by kernel_rfl
end
def fFit:List G->Option RG
 | [.ns [p0,q0,p1,q1,p2,q2,p3,q3],.ns [a,b,c,d]]=>some (.one (.b (fitZ p0 q0 p1 q1 p2 q2 p3 q3 a b c d)))
 | _=>none
theorem Fit_te:TEok Z 215 (teN true fFit noNd 0 [19,3]):=by
 refine walkL (l:=tC6) tC6_ok spL_ok (fn_of Tryz.func215 rfl rfl) (kb:=[0,1]) (kt:=[2,3,1005,1006,7]) (nx:=2) (rb:=[]) ?_ (by kernel_rfl) ?_
 ·intro gs ns out h h1 h2 h3
  unfold fFit at h
  split at h
  ·cases h;trivial
  ·cases h
 ·intro gs out h hn hg
  unfold fFit at h
  split at h
  ·rename_i p0 q0 p1 q1 p2 q2 p3 q3 a b c d
   cases h
   refine ⟨fun m s=>∃ (i:Nat) (u v:Bool),m=5-i/\i<=4/\s=sFit [p0,q0,p1,q1,p2,q2,p3,q3] [a,b,c,d] i u v/\fitN u v ([cl p0 q0 a b c d,cl p1 q1 a b c d,cl p2 q2 a b c d,cl p3 q3 a b c d].drop i)=fitZ p0 q0 p1 q1 p2 q2 p3 q3 a b c d,⟨300,_,fit_walk0 p0 q0 p1 q1 p2 q2 p3 q3 a b c d,rfl,5,0,false,false,rfl,by omega,rfl,rfl⟩,?_⟩
   rintro m s ⟨i,u,v,rfl,hi,rfl,hf⟩ n
   have key:∀ (j:Nat) (p q:Int) (r:List (Int×Int)),j<4->fitN u v (cl p q a b c d::r)=fitZ p0 q0 p1 q1 p2 q2 p3 q3 a b c d->r=[cl p0 q0 a b c d,cl p1 q1 a b c d,cl p2 q2 a b c d,cl p3 q3 a b c d].drop (j+1)->
     (fitStep p0 q0 p1 q1 p2 q2 p3 q3 a b c d j n u v p q).ok (fun g=>g=.one (.b (fitZ p0 q0 p1 q1 p2 q2 p3 q3 a b c d))) fun ks s'=>ks=.lp (lpB (bodyOf Tryz.f215) Tryz.f215) n::lpK (bodyOf Tryz.f215) Tryz.f215/\∃ m',m'<5-j/\∃ (i:Nat) (u v:Bool),m'=5-i/\i<=4/\s'=sFit [p0,q0,p1,q1,p2,q2,p3,q3] [a,b,c,d] i u v/\fitN u v ([cl p0 q0 a b c d,cl p1 q1 a b c d,cl p2 q2 a b c d,cl p3 q3 a b c d].drop i)=fitZ p0 q0 p1 q1 p2 q2 p3 q3 a b c d:=by
    intro j p q r hj h1 h2
    have h1':fitN (u||decide ((cl p q a b c d).1<0)||decide ((cl p q a b c d).2<0)) (v||decide ((cl p q a b c d).1>0)||decide ((cl p q a b c d).2>0)) r=fitZ p0 q0 p1 q1 p2 q2 p3 q3 a b c d:=by rw [<-fitN_cons];exact h1
    refine orL_ok fun u' hu'=>orL_ok fun v' hv'=>cutL_ok ?_ ?_
    ·intro e1 e2
     rw [<-hu',<-hv',e1,e2,fitN_both] at h1'
     rw [h1']
    ·refine ⟨rfl,5-(j+1),by omega,j+1,u'.val,v'.val,rfl,by omega,rfl,?_⟩
     rw [hu',hv',<-h2]
     exact h1'
   rcases (by omega:i=0\/i=1\/i=2\/i=3\/i=4) with rfl | rfl | rfl | rfl | rfl
   ·exact ⟨300,_,fit_step0 p0 q0 p1 q1 p2 q2 p3 q3 a b c d n u v,key 0 p0 q0 _ (by omega) hf rfl⟩
   ·exact ⟨300,_,fit_step1 p0 q0 p1 q1 p2 q2 p3 q3 a b c d n u v,key 1 p1 q1 _ (by omega) hf rfl⟩
   ·exact ⟨300,_,fit_step2 p0 q0 p1 q1 p2 q2 p3 q3 a b c d n u v,key 2 p2 q2 _ (by omega) hf rfl⟩
   ·exact ⟨300,_,fit_step3 p0 q0 p1 q1 p2 q2 p3 q3 a b c d n u v,key 3 p3 q3 _ (by omega) hf rfl⟩
   ·refine ⟨300,_,fit_step4 p0 q0 p1 q1 p2 q2 p3 q3 a b c d n u v,?_⟩
    have:(!(u==v))=fitZ p0 q0 p1 q1 p2 q2 p3 q3 a b c d:=by rw [<-hf];simp [fitN]
    show RG.one (.b !(u==v))=_
    rw [this]
  ·cases h
end Ab
open Go.RowKit
namespace Ab
noncomputable def tw8 (p0 q0 p1 q1 p2 q2 p3 q3:Int):Int:=fewer (fewer (fewer (fewer (fewer (fewer (fewer (fewer (-1) p0) q0) p1) q1) p2) q2) p3) q3
theorem few_le {t z:Int}(ht:t<=190000000)(hz:Bits 19 z):fewer t z<=190000000:=by
 have h:(Nm.cmp z 0==0)=false->(Nm.tz z:Int)<=190000000:=by
  intro h
  have hz0:z≠0:=fun e=>by rw [Nm.cmp_eq e] at h;cases h
  have:=Nm.tz_lt hz0 hz
  omega
 unfold fewer
 cases h1:(Nm.cmp z 0==0) with
 | true=>exact ht
 | false=>
  have:=h h1
  simp only [cond_false]
  cases decide (t<0) with
  | true=>exact this
  | false=>
   simp only [cond_false]
   cases decide ((Nm.tz z:Int)<t) with
   | true=>exact this
   | false=>exact ht
noncomputable def hv (t z:Int):Int:=bif decide (t<1) then z else halfZ z t
noncomputable def fHal:List G->Option RG
 | [.ns [p0,q0,p1,q1,p2,q2,p3,q3]]=>some (.one (.ns [hv (tw8 p0 q0 p1 q1 p2 q2 p3 q3) p0,hv (tw8 p0 q0 p1 q1 p2 q2 p3 q3) q0,hv (tw8 p0 q0 p1 q1 p2 q2 p3 q3) p1,hv (tw8 p0 q0 p1 q1 p2 q2 p3 q3) q1,hv (tw8 p0 q0 p1 q1 p2 q2 p3 q3) p2,hv (tw8 p0 q0 p1 q1 p2 q2 p3 q3) q2,hv (tw8 p0 q0 p1 q1 p2 q2 p3 q3) p3,hv (tw8 p0 q0 p1 q1 p2 q2 p3 q3) q3]))
 | _=>none
theorem Hal_te:TEok Z 200 (teN true fHal noNd 19 [19]):=by
 refine walkN (l:=tC6) tC6_ok nobody (fn_of Tryz.func200 rfl rfl) ?_
 intro gs out h
 unfold fHal at h
 split at h
 ·rename_i p0 q0 p1 q1 p2 q2 p3 q3
  cases h
  refine ⟨List.replicate 8 (decide (tw8 p0 q0 p1 q1 p2 q2 p3 q3<1)=false->1<=tw8 p0 q0 p1 q1 p2 q2 p3 q3/\tw8 p0 q0 p1 q1 p2 q2 p3 q3<=1000000000),19,by kernel_rfl,by decide,fun _ hg=>?_⟩
  have b:∀ z∈[p0,q0,p1,q1,p2,q2,p3,q3],Bits 19 z:=hg.1
  simp at b
  obtain ⟨b0,b1,b2,b3,b4,b5,b6,b7⟩:=b
  have hle:tw8 p0 q0 p1 q1 p2 q2 p3 q3<=190000000:=few_le (few_le (few_le (few_le (few_le (few_le (few_le (few_le (by decide) b0) b1) b2) b3) b4) b5) b6) b7
  intro P hP
  have hP:=List.eq_of_mem_replicate hP
  subst hP
  intro h1
  have h1:¬tw8 p0 q0 p1 q1 p2 q2 p3 q3<1:=by simpa using h1
  exact ⟨by omega,by omega⟩
 ·cases h
def fFit1:List G->Option RG
 | [.ns [p0,q0,p1,q1,p2,q2,p3,q3]]=>some (.one (.b (fitZ p0 q0 p1 q1 p2 q2 p3 q3 1 0 0 1)))
 | _=>none
theorem Fit1_te:TEok Z 218 (teN true fFit1 noNd 0 [19]):=by
 refine walkN (l:=(215,teN true fFit noNd 0 [19,3])::tC6) ⟨Fit_te,tC6_ok⟩ nobody (fn_of Tryz.func218 rfl rfl) ?_
 intro gs out h
 unfold fFit1 at h
 split at h
 ·cases h
  exact ⟨[],0,by kernel_rfl,by decide,fun _ _=>holds_nil⟩
 ·cases h
def sNear (p q t:Int):AS:=
 ⟨[.top,.val (.one (.ptr 0 0)),.val (.one (.ptr 1 0)),.val (.one (.ptr 2 0)),.val (.one (.ptr 3 0)),.val (.one (.ptr 4 0))]++List.replicate 42 .top,
  [(0,⟨numCs true 0 2,90,true,false,false⟩),(1,⟨[.bool false,.lit (.slice none 0 0)],80,true,false,false⟩),(2,⟨[.bool false,.lit (.slice none 0 0)],80,true,false,false⟩),(3,⟨numCs true 2 1,80,true,false,false⟩),(4,⟨numCs true 3 1,80,true,false,false⟩)],5,[(p,1),(q,1),(16,1),(t,1)],[]⟩
theorem near_walk0 (p q:Int):(run Z (orSp spL (tabSp tC6)) (fun _=>none) (drawA Z (orSp spL (tabSp tC6))) atLoop 300 [.code (bodyOf Tryz.f204),.top Tryz.f204] (start Tryz.f204 (tokGs true [.ns [p,q]] [1]))).bind (outL true [0,1,2,3,4] [1,2,3,4,5] 5 [1,1,1,1])=
  some (.need [Bits 1 p,Bits 1 q,Bits 1 16,Bits 1 1] (.again (.code (.loop (lpB (bodyOf Tryz.f204) Tryz.f204))::lpK (bodyOf Tryz.f204) Tryz.f204) (sNear p q 1))):=by kernel_rfl
theorem near_walk1 (p q t:Int)(n:Nat):(run Z (orSp spL (tabSp tC6)) (fun _=>none) (drawA Z (orSp spL (tabSp tC6))) atRound 300 (.code (lpB (bodyOf Tryz.f204) Tryz.f204)::.lp (lpB (bodyOf Tryz.f204) Tryz.f204) n::lpK (bodyOf Tryz.f204) Tryz.f204) (sNear p q t)).bind (outL true [0,1,2,3,4] [1,2,3,4,5] 5 [1,1,1,1])=
  some (.br (decide (0<Nm.cmp p 0)) (.br (decide (0<Nm.cmp q 0)) (.need [0<q] (.need [0<=t*t*p/q] (.br (decide (0<=Nm.cmp (Rf.root (t*t*p/q)) 16)) (.ret (.tup [.ns [Rf.root (t*t*p/q)],.ns [t]])) (.need [Bits 1 p,Bits 1 q,Bits 1 16,Bits 1 (t+t)] (.again (.lp (lpB (bodyOf Tryz.f204) Tryz.f204) n::lpK (bodyOf Tryz.f204) Tryz.f204) (sNear p q (t+t))))))) (.ret (.tup [.ns [16],.ns [t]]))) (.ret (.tup [.ns [16],.ns [t]]))):=by kernel_rfl
def fNear:List G->Option RG
 | [.ns [p,q]]=>(Rf.near p q 20000 1).map fun ab=>.tup [.ns [ab.1],.ns [ab.2]]
 | _=>none
def ndNear:List G->List Prop
 | [.ns [p,q]]=>[0<p/\0<q]
 | _=>[]
theorem cmp_pos' {x:Int}(h:0<x):decide (0<Nm.cmp x 0)=true:=by rw [Nm.cmp_gt h];rfl
theorem near_te:TEok Z 204 (teG true fNear ndNear (fun _=>2) [1]):=by
 refine walkL (l:=tC6) tC6_ok spL_ok (fn_of Tryz.func204 rfl rfl) (kb:=[0,1,2,3,4]) (kt:=[1,2,3,4,5]) (nx:=5) (rb:=[1,1,1,1]) ?_ (by kernel_rfl) ?_
 ·intro gs ns out h hn hg hl
  unfold fNear at h
  split at h
  ·rename_i p q
   obtain ⟨⟨a,b⟩,h1,rfl⟩:=mpd h
   have hn:0<p/\0<q:=hn.one
   have bp:Bits 1 p:=hl.1 p (by simp)
   obtain ⟨k,rfl,hk,h2,h3⟩:=near_form hn.1 hn.2 20000 0 (a,b) h1
   have hb:Go.Proofs.YteghhlfmcjmnoaaGreatDoor.Bits (k+1) ((2:Int)^k):=pow2_bits k
   have hb1:Bits 1 ((2:Int)^k):=bits_in hb (by omega)
   have ha:Bits 2 a:=by
    have h0:0<=(2:Int)^k*2^k*p/q:=Int.ediv_nonneg (Int.mul_nonneg (Int.mul_nonneg (Int.le_of_lt (Nm.pow_pos' (by decide) _)) (Int.le_of_lt (Nm.pow_pos' (by decide) _))) (by omega)) (by omega)
    have hr:=Rf.root_le h0
    have hr0:=(Rf.root_spec h0).1
    have hq:(2:Int)^k*2^k*p/q<=2^k*2^k*p:=Int.ediv_le_self _ (Int.mul_nonneg (Int.mul_nonneg (Int.le_of_lt (Nm.pow_pos' (by decide) _)) (Int.le_of_lt (Nm.pow_pos' (by decide) _))) (by omega))
    have hb2:Go.Proofs.YteghhlfmcjmnoaaGreatDoor.Bits ((k+1)+(k+1)+10000000*1) ((2:Int)^k*2^k*p):=Go.Proofs.YteghhlfmcjmnoaaGreatDoor.bits_mul (Go.Proofs.YteghhlfmcjmnoaaGreatDoor.bits_mul hb hb) bp
    have h2':a=Rf.root ((2:Int)^k*2^k*p/q):=h2
    rw [<-h2'] at hr hr0
    exact bits_in (Go.Proofs.YteghhlfmcjmnoaaGreatDoor.bits_of hb2 (by omega) (Nat.le_refl _)) (by omega)
   intro g hg
   simp at hg
   rcases hg with rfl | rfl
   ·intro z hz;simp at hz;subst hz;exact ha
   ·intro z hz;simp at hz;subst hz;exact bits_mono hb1 (by decide)
  ·cases h
 ·intro gs out h hn hg
  unfold fNear at h
  split at h
  ·rename_i p q
   obtain ⟨ab,h1,rfl⟩:=mpd h
   have hn:0<p/\0<q:=hn.one
   have bp:Bits 1 p:=hg.1 p (by simp)
   have bq:Bits 1 q:=hg.1 q (by simp)
   refine ⟨fun m s=>∃ j:Nat,m=20000-j/\j<20000/\s=sNear p q (2^j)/\Rf.near p q (20000-j) (2^j)=some ab,⟨300,_,near_walk0 p q,holds_cons bp (holds_cons bq (holds_cons (bits60 (by decide)) (holds_cons (bits60 (by decide)) holds_nil))),rfl,20000,0,rfl,by decide,rfl,h1⟩,?_⟩
   rintro m s ⟨j,rfl,hj,rfl,hnr⟩ n
   have ht:(0:Int)<2^j:=Nm.pow_pos' (by decide) j
   have h0:0<=(2:Int)^j*2^j*p/q:=Int.ediv_nonneg (Int.mul_nonneg (Int.mul_nonneg (by omega) (by omega)) (by omega)) (by omega)
   obtain ⟨k,hk⟩:∃ k,20000-j=k+1:=⟨20000-j-1,by omega⟩
   rw [hk] at hnr
   unfold Rf.near at hnr
   refine ⟨300,_,near_walk1 p q (2^j) n,?_,?_⟩
   ·intro _
    refine ⟨fun _=>⟨holds_cons hn.2 holds_nil,holds_cons h0 holds_nil,?_,?_⟩,?_⟩
    ·intro hge
     have hge:0<=Nm.cmp (Rf.root ((2:Int)^j*2^j*p/q)) 16:=by simpa using hge
     have h16:16<=Rf.root ((2:Int)^j*2^j*p/q):=by
      rcases Int.lt_or_le (Rf.root ((2:Int)^j*2^j*p/q)) 16 with h | h
      ·rw [Nm.cmp_lt h] at hge;omega
      ·exact h
     rw [if_pos h16] at hnr
     cases hnr
     exact rfl
    ·intro hge
     have hge:¬0<=Nm.cmp (Rf.root ((2:Int)^j*2^j*p/q)) 16:=by simpa using hge
     have h16:¬16<=Rf.root ((2:Int)^j*2^j*p/q):=by
      intro h
      apply hge
      rcases Int.lt_or_eq_of_le h with h | h
      ·rw [Nm.cmp_gt h];decide
      ·rw [Nm.cmp_eq h.symm];decide
     rw [if_neg h16] at hnr
     have e:(2:Int)^j+2^j=2^(j+1):=by rw [Int.pow_succ];omega
     rw [e] at hnr ⊢
     have hj1:j+1<20000:=by
      rcases Nat.lt_or_ge (j+1) 20000 with h | h
      ·exact h
      ·have:k=0:=by omega
       subst this
       cases hnr
     refine ⟨holds_cons bp (holds_cons bq (holds_cons (bits60 (by decide)) (holds_cons (bits_in (pow2_bits (j+1)) (by omega)) holds_nil))),rfl,20000-(j+1),by omega,j+1,rfl,hj1,rfl,?_⟩
     rw [show 20000-(j+1)=k by omega]
     exact hnr
    ·intro hle
     rw [cmp_pos' hn.2] at hle
     cases hle
   ·intro hle
    rw [cmp_pos' hn.1] at hle
    cases hle
  ·cases h
where
 near_form {p q:Int} (hp:0<p) (hq:0<q):∀ (f j:Nat) (ab:Int×Int),Rf.near p q f (2^j)=some ab->∃ k:Nat,ab.2=2^k/\k<=j+f/\ab.1=Rf.root ((2:Int)^k*2^k*p/q)/\True
  | 0,j,ab,h=>by cases h
  | f+1,j,ab,h=>by
   unfold Rf.near at h
   split at h
   ·cases h
    exact ⟨j,rfl,by omega,rfl,trivial⟩
   ·have e:(2:Int)^j+2^j=2^(j+1):=by rw [Int.pow_succ];omega
    rw [e] at h
    obtain ⟨k,h1,h2,h3,_⟩:=near_form hp hq f (j+1) ab h
    exact ⟨k,h1,by omega,h3,trivial⟩
noncomputable def tC7:List (FuncId×TE):=(215,teN true fFit noNd 0 [19,3])::(200,teN true fHal noNd 19 [19])::(218,teN true fFit1 noNd 0 [19])::(204,teG true fNear ndNear (fun _=>2) [1])::tC6
theorem tC7_ok:AllTE Z tC7:=⟨Fit_te,Hal_te,Fit1_te,near_te,tC6_ok⟩
end Ab
end Go.Proofs.YteghhlfmcjmnoaaGreatDoor
