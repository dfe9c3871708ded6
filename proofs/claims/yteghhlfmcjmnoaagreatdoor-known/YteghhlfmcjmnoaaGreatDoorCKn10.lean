import Derived.Test.YteghhlfmcjmnoaaGreatDoorCKn09
set_option linter.unusedSimpArgs false
set_option linter.unusedVariables false
set_option maxRecDepth 100000
set_option maxHeartbeats 2000000
namespace Go.Proofs.YteghhlfmcjmnoaaGreatDoor
open Go.RowKit
namespace Ab
noncomputable def tw8 (p0 q0 p1 q1 p2 q2 p3 q3:Int):Int:=fewer (fewer (fewer (fewer (fewer (fewer (fewer (fewer (-1) p0) q0) p1) q1) p2) q2) p3) q3
theorem aEs {t z:Int}(b:t<=190000000)(d:Bits 19 z):fewer t z<=190000000:=by
 have h:(Nm.cmp z 0==0)=false->(Nm.tz z:Int)<=190000000:=by
  intro h
  have a:z≠0:=fun e=>by rw [Nm.aAz e] at h;cases h
  have:=Nm.aVf a d;omega
 unfold fewer
 cases c:(Nm.cmp z 0==0) with
 | true=>exact b
 | false=>
  have:=h c;simp only [cond_false]
  cases decide (t<0) with
  | true=>exact this
  | false=>
   simp only [cond_false]
   cases decide ((Nm.tz z:Int)<t) with
   | true=>exact this
   | false=>exact b
noncomputable def hv (t z:Int):Int:=bif decide (t<1) then z else halfZ z t
noncomputable def fHal:List G->Option RG
 | [.ns [p0,q0,p1,q1,p2,q2,p3,q3]]=>some (.one (.ns [hv (tw8 p0 q0 p1 q1 p2 q2 p3 q3) p0,hv (tw8 p0 q0 p1 q1 p2 q2 p3 q3) q0,hv (tw8 p0 q0 p1 q1 p2 q2 p3 q3) p1,hv (tw8 p0 q0 p1 q1 p2 q2 p3 q3) q1,hv (tw8 p0 q0 p1 q1 p2 q2 p3 q3) p2,hv (tw8 p0 q0 p1 q1 p2 q2 p3 q3) q2,hv (tw8 p0 q0 p1 q1 p2 q2 p3 q3) p3,hv (tw8 p0 q0 p1 q1 p2 q2 p3 q3) q3]))
 | _=>none
theorem aSc:TEok Z 200 (teN true fHal noNd 19 [19]):=by
 refine walkN (l:=tC6) aHQ nobody (aAj Tryz.func200 rfl rfl) ?_;intro y x h;unfold fHal at h;split at h
 ·rename_i a c d e f g i j;cases h;refine ⟨List.replicate 8 (decide (tw8 a c d e f g i j<1)=false->1<=tw8 a c d e f g i j/\tw8 a c d e f g i j<=1000000000),19,by kernel_rfl,by decide,fun _ hg=>?_⟩;have b:∀ z∈[a,c,d,e,f,g,i,j],Bits 19 z:=hg.1;simp at b;obtain ⟨o,p,q,r,s,t,u,v⟩:=b;have n:tw8 a c d e f g i j<=190000000:=aEs (aEs (aEs (aEs (aEs (aEs (aEs (aEs (by decide) o) p) q) r) s) t) u) v;intro P k;have k:=List.eq_of_mem_replicate k;subst k;intro m
  have m:¬tw8 a c d e f g i j<1:=by simpa using m
  exact ⟨by omega,by omega⟩
 ·cases h
def fFit1:List G->Option RG
 | [.ns [p0,q0,p1,q1,p2,q2,p3,q3]]=>some (.one (.b (fitZ p0 q0 p1 q1 p2 q2 p3 q3 1 0 0 1)))
 | _=>none
theorem aP8:TEok Z 218 (teN true fFit1 noNd 0 [19]):=by
 refine walkN (l:=(215,teN true fFit noNd 0 [19,3])::tC6) ⟨aPe,aHQ⟩ nobody (aAj Tryz.func218 rfl rfl) ?_;intro b a h;unfold fFit1 at h;split at h
 ·cases h;exact ⟨[],0,by kernel_rfl,by decide,fun _ _=>aAc⟩
 ·cases h
def sNear (p q t:Int):AS:=
 ⟨[.top,.val (.one (.ptr 0 0)),.val (.one (.ptr 1 0)),.val (.one (.ptr 2 0)),.val (.one (.ptr 3 0)),.val (.one (.ptr 4 0))]++List.replicate 42 .top,
  [(0,⟨numCs true 0 2,90,true,false,false⟩),(1,⟨[.bool false,.lit (.slice none 0 0)],80,true,false,false⟩),(2,⟨[.bool false,.lit (.slice none 0 0)],80,true,false,false⟩),(3,⟨numCs true 2 1,80,true,false,false⟩),(4,⟨numCs true 3 1,80,true,false,false⟩)],5,[(p,1),(q,1),(16,1),(t,1)],[]⟩
theorem aKF (p q:Int):(run Z (orSp spL (tabSp tC6)) (fun _=>none) (drawA Z (orSp spL (tabSp tC6))) atLoop 300 [.code (bodyOf Tryz.f204),.top Tryz.f204] (start Tryz.f204 (tokGs true [.ns [p,q]] [1]))).bind (outL true [0,1,2,3,4] [1,2,3,4,5] 5 [1,1,1,1])=
  some (.need [Bits 1 p,Bits 1 q,Bits 1 16,Bits 1 1] (.again (.code (.loop (lpB (bodyOf Tryz.f204) Tryz.f204))::lpK (bodyOf Tryz.f204) Tryz.f204) (sNear p q 1))):=by kernel_rfl
theorem aKG (p q t:Int)(n:Nat):(run Z (orSp spL (tabSp tC6)) (fun _=>none) (drawA Z (orSp spL (tabSp tC6))) atRound 300 (.code (lpB (bodyOf Tryz.f204) Tryz.f204)::.lp (lpB (bodyOf Tryz.f204) Tryz.f204) n::lpK (bodyOf Tryz.f204) Tryz.f204) (sNear p q t)).bind (outL true [0,1,2,3,4] [1,2,3,4,5] 5 [1,1,1,1])=
  some (.br (decide (0<Nm.cmp p 0)) (.br (decide (0<Nm.cmp q 0)) (.need [0<q] (.need [0<=t*t*p/q] (.br (decide (0<=Nm.cmp (Rf.root (t*t*p/q)) 16)) (.ret (.tup [.ns [Rf.root (t*t*p/q)],.ns [t]])) (.need [Bits 1 p,Bits 1 q,Bits 1 16,Bits 1 (t+t)] (.again (.lp (lpB (bodyOf Tryz.f204) Tryz.f204) n::lpK (bodyOf Tryz.f204) Tryz.f204) (sNear p q (t+t))))))) (.ret (.tup [.ns [16],.ns [t]]))) (.ret (.tup [.ns [16],.ns [t]]))):=by kernel_rfl
def fNear:List G->Option RG
 | [.ns [p,q]]=>(Rf.near p q 20000 1).map fun ab=>.tup [.ns [ab.1],.ns [ab.2]]
 | _=>none
def ndNear:List G->List Prop
 | [.ns [p,q]]=>[0<p/\0<q]
 | _=>[]
theorem aJd {x:Int}(h:0<x):decide (0<Nm.cmp x 0)=true:=by rw [Nm.aAt h];rfl
theorem aMs:TEok Z 204 (teG true fNear ndNear (fun _=>2) [1]):=by
 refine walkL (l:=tC6) aHQ aHO (aAj Tryz.func204 rfl rfl) (kb:=[0,1,2,3,4]) (kt:=[1,2,3,4,5]) (nx:=5) (rb:=[1,1,1,1]) ?_ (by kernel_rfl) ?_
 ·intro S X I h o u T;unfold fNear at h;split at h
  ·rename_i p q;obtain ⟨⟨a,b⟩,v,rfl⟩:=mpd h;have o:0<p/\0<q:=o.one;have y:Bits 1 p:=T.1 p (by simp);obtain ⟨k,rfl,M,N,O⟩:=near_form o.1 o.2 20000 0 (a,b) v;have B:Go.Proofs.YteghhlfmcjmnoaaGreatDoor.Bits (k+1) ((2:Int)^k):=aFn k;have C:Bits 1 ((2:Int)^k):=aCI B (by omega)
   have P:Bits 2 a:=by
    have A:0<=(2:Int)^k*2^k*p/q:=Int.ediv_nonneg (Int.mul_nonneg (Int.mul_nonneg (Int.le_of_lt (Nm.aAq (by decide) _)) (Int.le_of_lt (Nm.aAq (by decide) _))) (by omega)) (by omega);have R:=Rf.aGK A;have D:=(Rf.aC6 A).1;have J:(2:Int)^k*2^k*p/q<=2^k*2^k*p:=Int.ediv_le_self _ (Int.mul_nonneg (Int.mul_nonneg (Int.le_of_lt (Nm.aAq (by decide) _)) (Int.le_of_lt (Nm.aAq (by decide) _))) (by omega));have E:Go.Proofs.YteghhlfmcjmnoaaGreatDoor.Bits ((k+1)+(k+1)+10000000*1) ((2:Int)^k*2^k*p):=Go.Proofs.YteghhlfmcjmnoaaGreatDoor.aAk (Go.Proofs.YteghhlfmcjmnoaaGreatDoor.aAk B B) y;have F:a=Rf.root ((2:Int)^k*2^k*p/q):=N;rw [<-F] at R D;exact aCI (Go.Proofs.YteghhlfmcjmnoaaGreatDoor.aDv E (by omega) (Nat.le_refl _)) (by omega)
   intro g u;simp at u
   rcases u with rfl | rfl
   ·intro z x;simp at x;subst x;exact P
   ·intro z x;simp at x;subst x;exact aAg C (by decide)
  ·cases h
 ·intro S I h o u;unfold fNear at h;split at h
  ·rename_i p q;obtain ⟨r,v,rfl⟩:=mpd h;have o:0<p/\0<q:=o.one;have y:Bits 1 p:=u.1 p (by simp);have L:Bits 1 q:=u.1 q (by simp);refine ⟨fun m s=>∃ j:Nat,m=20000-j/\j<20000/\s=sNear p q (2^j)/\Rf.near p q (20000-j) (2^j)=some r,⟨300,_,aKF p q,aAe y (aAe L (aAe (bits60 (by decide)) (aAe (bits60 (by decide)) aAc))),rfl,20000,0,rfl,by decide,rfl,v⟩,?_⟩;rintro m s ⟨j,rfl,W,rfl,c⟩ n;have U:(0:Int)<2^j:=Nm.aAq (by decide) j;have A:0<=(2:Int)^j*2^j*p/q:=Int.ediv_nonneg (Int.mul_nonneg (Int.mul_nonneg (by omega) (by omega)) (by omega)) (by omega)
   obtain ⟨k,M⟩:∃ k,20000-j=k+1:=⟨20000-j-1,by omega⟩
   rw [M] at c;unfold Rf.near at c;refine ⟨300,_,aKG p q (2^j) n,?_,?_⟩
   ·intro _;refine ⟨fun _=>⟨aAe o.2 aAc,aAe A aAc,?_,?_⟩,?_⟩
    ·intro d
     have d:0<=Nm.cmp (Rf.root ((2:Int)^j*2^j*p/q)) 16:=by simpa using d
     have t:16<=Rf.root ((2:Int)^j*2^j*p/q):=by
      rcases Int.lt_or_le (Rf.root ((2:Int)^j*2^j*p/q)) 16 with h | h
      ·rw [Nm.aAC h] at d;omega
      ·exact h
     rw [if_pos t] at c;cases c;exact rfl
    ·intro d
     have d:¬0<=Nm.cmp (Rf.root ((2:Int)^j*2^j*p/q)) 16:=by simpa using d
     have t:¬16<=Rf.root ((2:Int)^j*2^j*p/q):=by
      intro h;apply d
      rcases Int.lt_or_eq_of_le h with h | h
      ·rw [Nm.aAt h];decide
      ·rw [Nm.aAz h.symm];decide
     rw [if_neg t] at c
     have e:(2:Int)^j+2^j=2^(j+1):=by rw [Int.pow_succ];omega
     rw [e] at c ⊢
     have H:j+1<20000:=by
      rcases Nat.lt_or_ge (j+1) 20000 with h | h
      ·exact h
      ·have:k=0:=by omega
       subst this;cases c
     refine ⟨aAe y (aAe L (aAe (bits60 (by decide)) (aAe (aCI (aFn (j+1)) (by omega)) aAc))),rfl,20000-(j+1),by omega,j+1,rfl,H,rfl,?_⟩;rw [show 20000-(j+1)=k by omega];exact c
    ·intro i;rw [aJd o.2] at i;cases i
   ·intro i;rw [aJd o.1] at i;cases i
  ·cases h
where
 near_form {p q:Int} (hp:0<p) (J:0<q):∀ (f j:Nat) (r:Int×Int),Rf.near p q f (2^j)=some r->∃ k:Nat,r.2=2^k/\k<=j+f/\r.1=Rf.root ((2:Int)^k*2^k*p/q)/\True
  | 0,j,r,h=>by cases h
  | f+1,j,r,h=>by
   unfold Rf.near at h;split at h
   ·cases h;exact ⟨j,rfl,by omega,rfl,trivial⟩
   ·have e:(2:Int)^j+2^j=2^(j+1):=by rw [Int.pow_succ];omega
    rw [e] at h;obtain ⟨k,v,N,O,_⟩:=near_form hp J f (j+1) r h;exact ⟨k,v,by omega,O,trivial⟩
noncomputable def tC7:List (FuncId×TE):=(215,teN true fFit noNd 0 [19,3])::(200,teN true fHal noNd 19 [19])::(218,teN true fFit1 noNd 0 [19])::(204,teG true fNear ndNear (fun _=>2) [1])::tC6
theorem aDT:AllTE Z tC7:=⟨aPe,aSc,aP8,aMs,aHQ⟩
end Ab
open Go.RowKit
namespace Ab
def upT (t b:Int):Int:=bif decide (Nm.cmp b 0<0) then -t else t
def upB (b:Int):Int:=bif decide (Nm.cmp b 0<0) then -b else b
def nearE (t b m:Int):Bool:=decide (Nm.cmp ((t-m*b).natAbs:Int) b<=0)
def soundZ (c d:Int):Bool:=(Nm.cmp c 0 != 0)&&(Nm.cmp c 0==Nm.cmp d 0)
def ndFlo:List G->List Prop
 | [.ns [_,b]]=>[0<b]
 | _=>[]
def fKNo:List G->Option RG
 | []=>some (.one (.ns [1,0,0,1]))
 | _=>none
theorem aSf:TEok Z 107 (teN true fKNo noNd 1 []):=by
 refine walkN (l:=tC7) aDT nobody (aAj Tryz.func107 rfl rfl) ?_;intro b a h;unfold fKNo at h;split at h
 ·cases h;exact ⟨[],1,by kernel_rfl,by decide,fun _ _=>aAc⟩
 ·cases h
def fKWi:List G->Option RG
 | [.ns [a,b,c,d],.i .i64 s]=>some (.one (.ns [a*symA s+b*symC s,a*symB s+b*symD s,c*symA s+d*symC s,c*symB s+d*symD s]))
 | _=>none
theorem aSi:TEok Z 114 (teN true fKWi noNd 7 [3,0]):=by
 refine walkN (l:=tC7) aDT nobody (aAj Tryz.func114 rfl rfl) ?_;intro b a h;unfold fKWi at h;split at h
 ·cases h;exact ⟨[],7,by kernel_rfl,by decide,fun _ _=>aAc⟩
 ·cases h
def fKBe:List G->Option RG
 | [.ns [a,b,c,d],.ns [t]]=>some (.one (.ns [0*a+1*c,0*b+1*d,1*a+-t*c,1*b+-t*d]))
 | _=>none
theorem aPf:TEok Z 75 (teN true fKBe noNd 7 [3,3]):=by
 refine walkN (l:=tC7) aDT nobody (aAj Tryz.func75 rfl rfl) ?_;intro b a h;unfold fKBe at h;split at h
 ·cases h;exact ⟨[],7,by kernel_rfl,by decide,fun _ _=>aAc⟩
 ·cases h
def fKSo:List G->Option RG
 | [.ns [a,b,c,d]]=>some (.one (.b (soundZ c d)))
 | _=>none
theorem aSh:TEok Z 108 (teN true fKSo noNd 0 [3]):=by
 refine walkN (l:=tC7) aDT nobody (aAj Tryz.func108 rfl rfl) ?_;intro b a h;unfold fKSo at h;split at h
 ·cases h;exact ⟨[],0,by kernel_rfl,by decide,fun _ _=>aAc⟩
 ·cases h
def fEUp:List G->Option RG
 | [.ns [t,b]]=>some (.one (.ns [upT t b,upB b]))
 | _=>none
theorem aR7:TEok Z 145 (teN true fEUp noNd 3 [3]):=by
 refine walkN (l:=tC7) aDT nobody (aAj Tryz.func145 rfl rfl) ?_;intro b a h;unfold fEUp at h;split at h
 ·cases h;exact ⟨[],3,by kernel_rfl,by decide,fun _ _=>aAc⟩
 ·cases h
def fETi:List G->Option RG
 | [.ns [t,b],.ns [n]]=>some (.one (.ns [t*n,b]))
 | _=>none
theorem aR5:TEok Z 111 (teN true fETi noNd 6 [3,3]):=by
 refine walkN (l:=tC7) aDT nobody (aAj Tryz.func111 rfl rfl) ?_;intro b a h;unfold fETi at h;split at h
 ·cases h;exact ⟨[],6,by kernel_rfl,by decide,fun _ _=>aAc⟩
 ·cases h
def fEFl:List G->Option RG
 | [.ns [t,b]]=>some (.one (.ns [t/b]))
 | _=>none
theorem aR2:TEok Z 121 (teN true fEFl ndFlo 21 [20]):=by
 refine walkN (l:=tC7) aDT nobody (aAj Tryz.func121 rfl rfl) ?_;intro c a h;unfold fEFl at h;split at h
 ·rename_i t b;cases h;exact ⟨[0<b],21,by kernel_rfl,by decide,fun hn _=>aAe hn.one aAc⟩
 ·cases h
def fENe:List G->Option RG
 | [.ns [t,b],.ns [m]]=>some (.one (.b (nearE t b m)))
 | _=>none
theorem aR4:TEok Z 113 (teN true fENe noNd 0 [6,30]):=by
 refine walkN (l:=tC7) aDT nobody (aAj Tryz.func113 rfl rfl) ?_;intro b a h;unfold fENe at h;split at h
 ·cases h;exact ⟨[],0,by kernel_rfl,by decide,fun _ _=>aAc⟩
 ·cases h
noncomputable def tK0:List (FuncId×TE):=(107,teN true fKNo noNd 1 [])::(114,teN true fKWi noNd 7 [3,0])::(75,teN true fKBe noNd 7 [3,3])::(108,teN true fKSo noNd 0 [3])::(145,teN true fEUp noNd 3 [3])::(111,teN true fETi noNd 6 [3,3])::(121,teN true fEFl ndFlo 21 [20])::(113,teN true fENe noNd 0 [6,30])::tC7
theorem aNg:AllTE Z tK0:=⟨aSf,aSi,aPf,aSh,aR7,aR5,aR2,aR4,aDT⟩
def midZ (t b s c:Int):Int:=(t*c+s*b+b*c)/(b*c+b*c)
def ndMid:List G->List Prop
 | [.ns [t,b],.ns [s,c]]=>[0<b*c+b*c]
 | _=>[]
def fEMi:List G->Option RG
 | [.ns [t,b],.ns [s,c]]=>some (.one (.ns [midZ t b s c]))
 | _=>none
theorem aR3:TEok Z 112 (teN true fEMi ndMid 21 [6,6]):=by
 refine walkN (l:=tK0) aNg nobody (aAj Tryz.func112 rfl rfl) ?_;intro d a h;unfold fEMi at h;split at h
 ·rename_i t b s c;cases h;exact ⟨[0<b*c+b*c],21,by kernel_rfl,by decide,fun hn _=>aAe hn.one aAc⟩
 ·cases h
def fKEn:List G->Option RG
 | [.ns [a,b,c,d]]=>some (.tup [.ns [upT a c,upB c],.ns [upT b d,upB d]])
 | _=>none
theorem aSe:TEok Z 109 (teN true fKEn noNd 3 [3]):=by
 refine walkN (l:=tK0) aNg nobody (aAj Tryz.func109 rfl rfl) ?_;intro b a h;unfold fKEn at h;split at h
 ·cases h;exact ⟨[],3,by kernel_rfl,by decide,fun _ _=>aAc⟩
 ·cases h
noncomputable def tK1:List (FuncId×TE):=(112,teN true fEMi ndMid 21 [6,6])::(109,teN true fKEn noNd 3 [3])::tK0
theorem aNh:AllTE Z tK1:=⟨aR3,aSe,aNg⟩
theorem aCC {c d:Int}(h:soundZ c d=true):0<upB c/\0<upB d:=by
 unfold soundZ at h;simp only [Bool.and_eq_true,bne_iff_ne,ne_eq,beq_iff_eq] at h
 have a:∀ x:Int,Nm.cmp x 0≠0->0<upB x:=by
  intro x b;unfold upB
  rcases Int.lt_trichotomy x 0 with g | g | g
  ·rw [Nm.aAC g];show 0 < -x;omega
  ·exact absurd (Nm.aAz g) b
  ·rw [Nm.aAt g];exact g
 exact ⟨a c h.1,a d (by rw [<-h.2];exact h.1)⟩
def fKSi:List G->Option RG
 | [.i .i64 s]=>some (.one (.i .i64 (bif decide (s<0) then -1 else 1)))
 | _=>none
theorem aSg:TEok Z 128 (teN true fKSi noNd 0 [0]):=by
 refine walkN (l:=tK1) aNh nobody (aAj Tryz.func128 rfl rfl) ?_;intro b a h;unfold fKSi at h;split at h
 ·cases h;exact ⟨[],0,by kernel_rfl,by decide,fun _ _=>aAc⟩
 ·cases h
def fKTe:List G->Option RG
 | [.ns [a,b,c,d]]=>some (.tup [.ns [bif !soundZ c d then 0 else upT a c/upB c],.b (bif !soundZ c d then false else (Nm.cmp (upT a c/upB c) (upT b d/upB d)==0))])
 | _=>none
theorem aPh:TEok Z 74 (teN true fKTe noNd 21 [3]):=by
 refine walkN (l:=tK1) aNh nobody (aAj Tryz.func74 rfl rfl) ?_;intro f e h;unfold fKTe at h;split at h
 ·rename_i a b c d;cases h;exact ⟨[(!soundZ c d)=false->0<upB c,(!soundZ c d)=false->0<upB d],21,by kernel_rfl,by decide,fun _ _=>aAe (fun h=>(aCC (by simpa using h)).1) (aAe (fun h=>(aCC (by simpa using h)).2) aAc)⟩
 ·cases h
noncomputable def tK2:List (FuncId×TE):=(128,teN true fKSi noNd 0 [0])::(74,teN true fKTe noNd 21 [3])::tK1
theorem aPR:AllTE Z tK2:=⟨aSg,aPh,aNh⟩
def cmpS (a b c d n:Int):Int:=
 bif !soundZ c d then 0 else bif Nm.cmp (upT a c) 0 != 0 then (bif Nm.cmp (upT a c) 0==Nm.cmp (upT b d) 0 then (bif decide (Nm.cmp (upT a c) 0<0) then -1 else 1) else bif nearE (upT a c*2^n.toNat) (upB c) 0 then 0 else 0) else bif nearE (upT a c*2^n.toNat) (upB c) 0 then 0 else 0
def cmpD (a b c d n:Int):Bool:=
 bif !soundZ c d then false else bif Nm.cmp (upT a c) 0 != 0 then (bif Nm.cmp (upT a c) 0==Nm.cmp (upT b d) 0 then true else bif nearE (upT a c*2^n.toNat) (upB c) 0 then nearE (upT b d*2^n.toNat) (upB d) 0 else false) else bif nearE (upT a c*2^n.toNat) (upB c) 0 then nearE (upT b d*2^n.toNat) (upB d) 0 else false
def ndCmp:List G->List Prop
 | [.ns _,.i .i64 n]=>[0<=n/\n<=100000]
 | _=>[]
def fKCo:List G->Option RG
 | [.ns [a,b,c,d],.i .i64 n]=>some (.tup [.i .i64 (cmpS a b c d n),.b (cmpD a b c d n)])
 | _=>none
theorem aSd:TEok Z 81 (teN true fKCo ndCmp 0 [3,0]):=by
 refine walkN (l:=tK2) aPR nobody (aAj Tryz.func81 rfl rfl) ?_;intro f e h;unfold fKCo at h;split at h
 ·rename_i a b c d n;cases h;exact ⟨[(!soundZ c d)=false->(Nm.cmp (upT a c) 0 != 0)=true->(Nm.cmp (upT a c) 0==Nm.cmp (upT b d) 0)=false->Int.natAbs 2<=16/\0<=n/\n<=100000,(!soundZ c d)=false->(Nm.cmp (upT a c) 0 != 0)=false->Int.natAbs 2<=16/\0<=n/\n<=100000],0,by kernel_rfl,by decide,fun hn _=>aAe (fun _ _ _=>⟨by decide,hn.one⟩) (aAe (fun _ _=>⟨by decide,hn.one⟩) aAc)⟩
 ·cases h
noncomputable def tK3:List (FuncId×TE):=(81,teN true fKCo ndCmp 0 [3,0])::tK2
theorem aPS:AllTE Z tK3:=⟨aSd,aPR⟩
def decM (a b c d n:Int):Int:=midZ (upT a c*10^n.toNat) (upB c) (upT b d*10^n.toNat) (upB d)
def decE1 (a b c d n:Int):Bool:=nearE (upT a c*10^n.toNat) (upB c) (decM a b c d n)
def decE2 (a b c d n:Int):Bool:=nearE (upT b d*10^n.toNat) (upB d) (decM a b c d n)
theorem aMm {c d:Int}(h:soundZ c d=true):0<upB c*upB d+upB c*upB d:=by
 have:=Int.mul_pos (aCC h).1 (aCC h).2;omega
def fKDe:List G->Option RG
 | [.ns [a,b,c,d],.i .i64 n]=>some (.tup [.ns [bif !soundZ c d then 0 else decM a b c d n],.b (bif !soundZ c d then false else bif decE1 a b c d n then decE2 a b c d n else false)])
 | _=>none
theorem aPg:TEok Z 68 (teN true fKDe ndCmp 21 [3,0]):=by
 refine walkN (l:=tK3) aPS nobody (aAj Tryz.func68 rfl rfl) ?_;intro f e h;unfold fKDe at h;split at h
 ·rename_i a b c d n;cases h;exact ⟨[(!soundZ c d)=false->Int.natAbs 10<=16/\0<=n/\n<=100000,(!soundZ c d)=false->0<upB c*upB d+upB c*upB d,(!soundZ c d)=false->(decE1 a b c d n==true)=true->Holds [(decE1 a b c d n==true)=true,(decE1 a b c d n==true)=true],(!soundZ c d)=false->decE1 a b c d n=true->(decE1 a b c d n==true)=true],21,by kernel_rfl,by decide,fun hn _=>aAe (fun _=>⟨by decide,hn.one⟩) (aAe (fun h=>aMm (by simpa using h)) (aAe (fun _ h=>aAe h (aAe h aAc)) (aAe (fun _ h=>by rw [h];rfl) aAc)))⟩
 ·cases h
noncomputable def tK:List (FuncId×TE):=(68,teN true fKDe ndCmp 21 [3,0])::tK3
theorem aVb:AllTE Z tK:=⟨aPg,aPS⟩
end Ab
namespace Pg
open Rf Nw
def sc (d:Int)(v:V):V:=(d*v.1,d*v.2)
def vadd (u v:V):V:=(u.1+v.1,u.2+v.2)
theorem aJ7 (m:Mt)(d:Int)(v:V):vat m (sc d v)=sc d (vat m v):=by
 unfold vat sc Mt.at1 Mt.at2
 ext<;>simp<;>grind
theorem aH1 (m:Mt)(d:Int)(v:V):vag m (sc d v)=sc d (vag m v):=by
 unfold vag sc Mt.ag1 Mt.ag2
 ext<;>simp<;>grind
theorem aND (m:Mt)(u v:V):vat m (vadd u v)=vadd (vat m u) (vat m v):=by
 unfold vat vadd Mt.at1 Mt.at2
 ext<;>simp<;>grind
theorem aNz (m:Mt)(u v:V):vag m (vadd u v)=vadd (vag m u) (vag m v):=by
 unfold vag vadd Mt.ag1 Mt.ag2
 ext<;>simp<;>grind
theorem aTY (d e:Int)(v:V):sc d (sc e v)=sc (d*e) v:=by
 unfold sc
 ext<;>simp<;>grind
theorem aAu (v:V):sc 1 v=v:=by unfold sc;simp
theorem aO5 (m:Mt):vag m (0,0)=(0,0):=by unfold vag Mt.ag1 Mt.ag2;simp
theorem aIR (m k:Mt)(v:V):vag (m.mul k) v=vag k (vag m v):=by
 unfold vag Mt.ag1 Mt.ag2 Mt.mul
 ext<;>simp<;>grind
theorem aC7 (v:V):vag one v=v:=by unfold vag Mt.ag1 Mt.ag2 one;simp
theorem aEn (v:V):vat one v=v:=by unfold vat Mt.at1 Mt.at2 one;simp
def rd1 (u v:V)(m:Mt):V:=vadd (sc m.a u) (sc m.c v)
def rd2 (u v:V)(m:Mt):V:=vadd (sc m.b u) (sc m.d v)
def readL:List V->Mt->List V
 | [a,b,c,d],m=>[rd1 a c m,rd1 b d m,rd2 a c m,rd2 b d m]
 | _,_=>[]
def readR:List V->Mt->List V
 | [a,b,c,d],m=>[rd1 a b m,rd2 a b m,rd1 c d m,rd2 c d m]
 | _,_=>[]
theorem aFP (d:Int)(u v:V)(m:Mt):rd1 (sc d u) (sc d v) m=sc d (rd1 u v m):=by
 unfold rd1 sc vadd
 ext<;>simp<;>grind
theorem aFQ (d:Int)(u v:V)(m:Mt):rd2 (sc d u) (sc d v) m=sc d (rd2 u v m):=by
 unfold rd2 sc vadd
 ext<;>simp<;>grind
theorem aOy (m:Mt):rd1 (0,0) (0,0) m=(0,0):=by unfold rd1 sc vadd;simp
theorem aOz (m:Mt):rd2 (0,0) (0,0) m=(0,0):=by unfold rd2 sc vadd;simp
theorem aEg (k:Mt)(u v:V)(m:Mt):rd1 (vag k u) (vag k v) m=vag k (rd1 u v m):=by
 unfold rd1;rw [aNz,aH1,aH1]
theorem aEh (k:Mt)(u v:V)(m:Mt):rd2 (vag k u) (vag k v) m=vag k (rd2 u v m):=by
 unfold rd2;rw [aNz,aH1,aH1]
theorem aRm (k:Mt)(u v:V)(m:Mt):rd1 (vat k u) (vat k v) m=vat k (rd1 u v m):=by
 unfold rd1;rw [aND,aJ7,aJ7]
theorem aRo (k:Mt)(u v:V)(m:Mt):rd2 (vat k u) (vat k v) m=vat k (rd2 u v m):=by
 unfold rd2;rw [aND,aJ7,aJ7]
theorem end1 (h m:Mt):vat (h.mul m) (1,0)=rd1 (vat h (1,0)) (vat h (0,1)) m:=by
 unfold rd1 sc vadd vat Mt.at1 Mt.at2 Mt.mul
 ext<;>simp<;>grind
theorem end2 (h m:Mt):vat (h.mul m) (0,1)=rd2 (vat h (1,0)) (vat h (0,1)) m:=by
 unfold rd2 sc vadd vat Mt.at1 Mt.at2 Mt.mul
 ext<;>simp<;>grind
theorem aHT (t:List V)(u v y:V)(m:Mt):tensor t (rd1 u v m) y=rd1 (tensor t u y) (tensor t v y) m:=by
 unfold tensor rd1 sc vadd;split
 ·ext<;>simp<;>grind
 ·ext<;>simp
theorem aHU (t:List V)(u v y:V)(m:Mt):tensor t (rd2 u v m) y=rd2 (tensor t u y) (tensor t v y) m:=by
 unfold tensor rd2 sc vadd;split
 ·ext<;>simp<;>grind
 ·ext<;>simp
theorem aHV (t:List V)(u v y:V)(m:Mt):tensor t y (rd1 u v m)=rd1 (tensor t y u) (tensor t y v) m:=by
 unfold tensor rd1 sc vadd;split
 ·ext<;>simp<;>grind
 ·ext<;>simp
theorem aHW (t:List V)(u v y:V)(m:Mt):tensor t y (rd2 u v m)=rd2 (tensor t y u) (tensor t y v) m:=by
 unfold tensor rd2 sc vadd;split
 ·ext<;>simp<;>grind
 ·ext<;>simp
def msc (g:Int)(m:Mt):Mt:=⟨g*m.a,g*m.b,g*m.c,g*m.d⟩
theorem aRl (g:Int)(u v:V)(m:Mt):rd1 u v (msc g m)=sc g (rd1 u v m):=by
 unfold rd1 sc vadd msc
 ext<;>simp<;>grind
theorem aRn (g:Int)(u v:V)(m:Mt):rd2 u v (msc g m)=sc g (rd2 u v m):=by
 unfold rd2 sc vadd msc
 ext<;>simp<;>grind
def pad:List V->List V
 | []=>[(0,0),(0,0),(0,0),(0,0)]
 | [a]=>[a,(0,0),(0,0),(0,0)]
 | [a,b]=>[a,b,(0,0),(0,0)]
 | [a,b,c]=>[a,b,c,(0,0)]
 | l=>l
structure Cof (l cs:List V):Prop where
 ex:∃ d:Int,0<d/\pad l=cs.map (sc d)
 len:cs.length=4
theorem aUg {d:Int}(a:0<d)(v:V):ups (sc d v)=ups v:=by
 have h:∀ x:Int,decide (0<d*x)=decide (0<x):=fun x=>by
  rw [decide_eq_decide];exact ⟨fun h=>Int.pos_of_mul_pos_left h a,fun h=>Int.mul_pos a h⟩
 unfold ups sc;rw [h,h]
where
 Int.pos_of_mul_pos_left {d x:Int} (h:0<d*x) (a:0<d):0<x:=by
  rcases Int.lt_or_le 0 x with h1 | h1
  ·exact h1
  ·have:=Int.mul_nonpos_of_nonneg_of_nonpos (Int.le_of_lt a) h1;omega
theorem aN0 {d:Int}(a:0<d)(v:V):downs (sc d v)=downs v:=by
 have h:∀ x:Int,decide (d*x<0)=decide (x<0):=fun x=>by
  rw [decide_eq_decide];constructor
  ·intro h
   rcases Int.lt_or_le x 0 with h1 | h1
   ·exact h1
   ·have:=Int.mul_nonneg (Int.le_of_lt a) h1;omega
  ·exact fun h=>Int.mul_neg_of_pos_of_neg a h
 unfold downs sc;rw [h,h]
theorem aQJ {d:Int}(a:0<d)(l:List V):fits (l.map (sc d))=fits l:=by
 unfold fits;rw [List.any_map,List.any_map];congr 1
 ·congr 1;funext v;exact aUg a v
 ·congr 1;funext v;exact aN0 a v
theorem aN4 (l:List V):fits (pad l)=fits l:=by
 unfold pad fits
 split<;>simp [ups,downs]
theorem aMI {f:V->V}(e:f (0,0)=(0,0))(l:List V):pad (l.map f)=(pad l).map f:=by
 unfold pad
 match l with
 | []=>simp [e]
 | [a]=>simp [e]
 | [a,b]=>simp [e]
 | [a,b,c]=>simp [e]
 | a::b::c::d::r=>simp
theorem Cof.fits {l cs:List V}(h:Cof l cs):Nw.fits l=Nw.fits cs:=by
 obtain ⟨d,a,e⟩:=h.ex;rw [<-aN4,e,aQJ a]
theorem Cof.vag {l cs:List V}(h:Cof l cs)(m:Mt):Cof (l.map (Rf.vag m)) (cs.map (Rf.vag m)):=by
 obtain ⟨d,a,e⟩:=h.ex;refine ⟨⟨d,a,?_⟩,by simp [h.len]⟩;rw [aMI (aO5 m),e,List.map_map,List.map_map];congr 1;funext v;exact aH1 m d v
theorem Cof.can {l cs:List V}(h:Cof l cs)(s:Int):Rf.can l s=Nw.fits (cs.map (Rf.vag (Mt.sym s))):=(h.vag _).fits
theorem Cof.over {l cs a:List V}{t:Int}(h:Cof l cs)(f:0<t)(e:cs=a.map (sc t)):Cof l a:=by
 obtain ⟨d,b,c⟩:=h.ex;refine ⟨⟨d*t,Int.mul_pos b f,?_⟩,by have:=h.len;rw [e] at this;simpa using this⟩;rw [c,e,List.map_map];congr 1;funext v;exact aTY d t v
theorem Cof.times {l cs:List V}{t:Int}(h:Cof l cs)(b:0<t):Cof (l.map (sc t)) cs:=by
 obtain ⟨d,a,e⟩:=h.ex;refine ⟨⟨t*d,Int.mul_pos b a,?_⟩,h.len⟩;rw [aMI (by unfold sc;simp),e,List.map_map];congr 1;funext v;exact aTY t d v
theorem four {cs:List V}(h:cs.length=4):∃ a b c d,cs=[a,b,c,d]:=by
 match cs,h with
 | [a,b,c,d],_=>exact ⟨a,b,c,d,rfl⟩
theorem Cof.of4 {a b c d x y z t:V}(h:Cof [a,b,c,d] [x,y,z,t]):∃ e:Int,0<e/\a=sc e x/\b=sc e y/\c=sc e z/\d=sc e t:=by
 obtain ⟨e,g,f⟩:=h.ex;simp [pad] at f;exact ⟨e,g,f⟩
theorem Cof.mk4 {a b c d x y z t:V}{e:Int}(he:0<e)(h1:a=sc e x)(h2:b=sc e y)(h3:c=sc e z)(h4:d=sc e t):Cof [a,b,c,d] [x,y,z,t]:=⟨⟨e,he,by simp [pad,h1,h2,h3,h4]⟩,rfl⟩
theorem Cof.of2 {a b x y z t:V}(h:Cof [a,b] [x,y,z,t]):∃ e:Int,0<e/\a=sc e x/\b=sc e y/\(0,0)=sc e z/\(0,0)=sc e t:=by
 obtain ⟨e,d,c⟩:=h.ex;simp [pad] at c;exact ⟨e,d,c⟩
theorem Cof.mk2 {a b x y z t:V}{e:Int}(he:0<e)(h1:a=sc e x)(h2:b=sc e y)(h3:(0,0)=sc e z)(h4:(0,0)=sc e t):Cof [a,b] [x,y,z,t]:=⟨⟨e,he,by simp only [pad,List.map_cons,List.map_nil,<-h1,<-h2,<-h3,<-h4]⟩,rfl⟩
theorem Cof.readL {a b c d:V}{cs:List V}(m:Mt)(h:Cof [a,b,c,d] cs):Cof [rd1 a c m,rd1 b d m,rd2 a c m,rd2 b d m] (Pg.readL cs m):=by
 obtain ⟨x,y,z,t,rfl⟩:=four h.len;obtain ⟨e,f,rfl,rfl,rfl,rfl⟩:=h.of4;exact .mk4 f (aFP ..) (aFP ..) (aFQ ..) (aFQ ..)
theorem Cof.readR {a b c d:V}{cs:List V}(m:Mt)(h:Cof [a,b,c,d] cs):Cof [rd1 a b m,rd2 a b m,rd1 c d m,rd2 c d m] (Pg.readR cs m):=by
 obtain ⟨x,y,z,t,rfl⟩:=four h.len;obtain ⟨e,f,rfl,rfl,rfl,rfl⟩:=h.of4;exact .mk4 f (aFP ..) (aFQ ..) (aFP ..) (aFQ ..)
theorem Cof.readR2 {a b:V}{cs:List V}(m:Mt)(h:Cof [a,b] cs):Cof [rd1 a b m,rd2 a b m] (Pg.readR cs m):=by
 obtain ⟨x,y,z,t,rfl⟩:=four h.len;obtain ⟨e,f,rfl,rfl,c,d⟩:=h.of2;refine .mk2 f (aFP ..) (aFQ ..) ?_ ?_
 ·rw [<-aFP,<-c,<-d,aOy]
 ·rw [<-aFQ,<-c,<-d,aOz]
theorem Cof.readRm {a b:V}{cs:List V}(m:Mt){g:Int}(c:0<g)(h:Cof [a,b] cs):Cof [rd1 a b (msc g m),rd2 a b (msc g m)] (Pg.readR cs m):=by
 have:=(h.readR2 m).times c
 simpa [aRl,aRn] using this
end Pg
namespace Pg
open Rf Nw
def sumC (v:V):Int:=if v.1=0/\v.2=0 then 1 else v.1+v.2
def scaled (u v o r:V):Int:=(((u.1*v.2-u.2*v.1)*(sumC o*sumC r)).natAbs:Int)
def wmax (a b:Int):Int:=if a<b then b else a
def widths (cs:List V)(times:Int):Int:=
 match cs with
 | [a,b,c,d]=>Nm.cmp (wmax (scaled a c b d) (scaled b d a c)*times) (wmax (scaled a b c d) (scaled c d a b))
 | _=>0
def Frc (S:Int)(f:V)(x:Int):Prop:=0<f.2/\0<=f.1/\f.1*S=2*x*f.2
theorem aEb {k a b:Int}(hk:0<k):k*a<=k*b↔a<=b:=⟨fun h=>Int.le_of_mul_le_mul_left h hk,fun h=>Int.mul_le_mul_of_nonneg_left h (Int.le_of_lt hk)⟩
theorem Frc.greater {S:Int}{f g:V}{x y:Int}(o:0<S)(p:Frc S f x)(q:Frc S g y):Frc S (Rf.greater f g) (wmax x y):=by
 obtain ⟨b,m,c⟩:=p;obtain ⟨d,n,i⟩:=q
 have a:g.1*f.2<=f.1*g.2↔y<=x:=by
  have j:S*(g.1*f.2)=2*(f.2*g.2)*y:=by
   calc S*(g.1*f.2)=(g.1*S)*f.2:=by grind
    _=2*(f.2*g.2)*y:=by rw [i];grind
  have k:S*(f.1*g.2)=2*(f.2*g.2)*x:=by
   calc S*(f.1*g.2)=(f.1*S)*g.2:=by grind
    _=2*(f.2*g.2)*x:=by rw [c];grind
  have l:0<2*(f.2*g.2):=Int.mul_pos (by decide) (Int.mul_pos b d);rw [<-aEb o,j,k,aEb l]
 unfold Rf.greater wmax
 by_cases h:y<=x
 ·rw [if_pos (a.2 h),if_neg (by omega)];exact ⟨b,m,c⟩
 ·rw [if_neg (fun e=>h (a.1 e)),if_pos (by omega)];exact ⟨d,n,i⟩
theorem aLu {k a b:Int}(c:0<k):Nm.cmp (k*a) (k*b)=Nm.cmp a b:=by
 have d:k*a<k*b↔a<b:=⟨fun h=>Int.lt_of_mul_lt_mul_left h (Int.le_of_lt c),fun h=>Int.mul_lt_mul_of_pos_left h c⟩
 have e:k*a=k*b↔a=b:=⟨fun h=>Int.eq_of_mul_eq_mul_left (by omega) h,fun h=>by rw [h]⟩
 unfold Nm.cmp;simp only [d,e]
theorem Frc.cmp {S:Int}{f g:V}{x y b:Int}(j:0<S)(k:Frc S f x)(l:Frc S g y):Nm.cmp (b*f.1*g.2) (g.1*f.2)=Nm.cmp (x*b) y:=by
 obtain ⟨d,m,e⟩:=k;obtain ⟨h,n,i⟩:=l;have c:0<2*(f.2*g.2):=Int.mul_pos (by decide) (Int.mul_pos d h);rw [<-aLu j,<-aLu (a:=x*b) c];congr 1
 ·calc S*(b*f.1*g.2)=b*(f.1*S)*g.2:=by grind
   _=2*(f.2*g.2)*(x*b):=by rw [e];grind
 ·calc S*(g.1*f.2)=(g.1*S)*f.2:=by grind
   _=2*(f.2*g.2)*y:=by rw [i];grind
def One1 (v:V):Prop:=(0<=v.1/\0<=v.2)\/(v.1<=0/\v.2<=0)
theorem aEE {l:List V}(h:fits l=true):∀ v∈l,One1 v:=by
 unfold fits at h;intro v a;unfold One1
 cases b:l.any ups with
 | false=>
  have:=List.any_eq_false.1 b v a;simp [ups] at this;omega
 | true=>
  cases c:l.any downs with
  | true=>rw [b,c] at h;cases h
  | false=>
   have:=List.any_eq_false.1 c v a;simp [downs] at this;omega
theorem aJR {v:V}(h:One1 v):sumC v≠0:=by
 unfold sumC One1 at*
 split<;>omega
theorem aJQ {v:V}(h:One1 v):(v.1+v.2=0↔v.1=0/\v.2=0):=by
 unfold One1 at h;omega
theorem aDB {u v o r:V}{e S:Int}(E:0<e)(j:One1 u)(k:One1 v)(F:One1 o)(H:One1 r)(y:S=((sumC u).natAbs:Int)*((sumC v).natAbs:Int)*(((sumC o).natAbs:Int)*((sumC r).natAbs:Int))):Frc S (apart (sc e u) (sc e v)) (scaled u v o r):=by
 have l:(sc e u).1+(sc e u).2=e*(u.1+u.2):=by unfold sc;simp;grind
 have m:(sc e v).1+(sc e v).2=e*(v.1+v.2):=by unfold sc;simp;grind
 have c:∀ x:Int,e*x=0↔x=0:=fun x=>⟨fun h=>by rcases Int.mul_eq_zero.1 h with h | h;omega;exact h,fun h=>by rw [h];simp⟩
 unfold apart;rw [l,m]
 by_cases d:u.1+u.2=0\/v.1+v.2=0
 ·rw [if_pos (by rw [c,c];exact d)]
  have n:scaled u v o r=0:=by
   have:u.1*v.2-u.2*v.1=0:=by
    rcases d with h | h
    ·obtain ⟨a,b⟩:=(aJQ j).1 h;rw [a,b];simp
    ·obtain ⟨a,b⟩:=(aJQ k).1 h;rw [a,b];simp
   unfold scaled;rw [this];simp
  refine ⟨by decide,by decide,?_⟩;rw [n];simp
 ·rw [if_neg (by rw [c,c];exact d)]
  have g:u.1+u.2≠0:=fun h=>d (Or.inl h)
  have i:v.1+v.2≠0:=fun h=>d (Or.inr h)
  have p:sumC u=u.1+u.2:=by unfold sumC;rw [if_neg (fun h=>g ((aJQ j).2 h))]
  have q:sumC v=v.1+v.2:=by unfold sumC;rw [if_neg (fun h=>i ((aJQ k).2 h))]
  have z:e*(u.1+u.2)*(e*(v.1+v.2))≠0:=Int.mul_ne_zero (fun h=>g ((c _).1 h)) (fun h=>i ((c _).1 h))
  have f:((sc e u).1-(sc e u).2)*(e*(v.1+v.2))-((sc e v).1-(sc e v).2)*(e*(u.1+u.2))=2*(e*e)*(u.1*v.2-u.2*v.1):=by unfold sc;simp;grind
  refine ⟨by simp only;omega,by simp only;omega,?_⟩;simp only;rw [f,y,p,q];unfold scaled;simp only [Int.natAbs_mul,Int.natCast_mul]
  have s:((e.natAbs:Nat):Int)=e:=by omega
  rw [s];generalize ((u.1+u.2).natAbs:Int)=A;generalize ((v.1+v.2).natAbs:Int)=B;generalize ((sumC o).natAbs:Int)=C;generalize ((sumC r).natAbs:Int)=D;generalize ((u.1*v.2-u.2*v.1).natAbs:Int)=X;have t:(((2:Int).natAbs:Nat):Int)=2:=rfl;rw [t];grind
theorem Cof.wider {l cs:List V}(h:Cof l cs)(A:l.length=4)(k:Nw.fits l=true)(m:Int):Rf.wider m l=widths cs m:=by
 obtain ⟨x,y,z,t,rfl⟩:=four h.len;obtain ⟨a,b,c,d,rfl⟩:=four A;rw [h.fits] at k;obtain ⟨e,n,rfl,rfl,rfl,rfl⟩:=h.of4;have f:=aEE k x (by simp);have g:=aEE k y (by simp);have i:=aEE k z (by simp);have j:=aEE k t (by simp);have B:=Int.natAbs_pos.2 (aJR f);have C:=Int.natAbs_pos.2 (aJR g);have D:=Int.natAbs_pos.2 (aJR i);have E:=Int.natAbs_pos.2 (aJR j);have o:0<((sumC x).natAbs:Int)*((sumC y).natAbs:Int)*(((sumC z).natAbs:Int)*((sumC t).natAbs:Int)):=Int.mul_pos (Int.mul_pos (by omega) (by omega)) (Int.mul_pos (by omega) (by omega));have p:=aDB (S:=((sumC x).natAbs:Int)*((sumC y).natAbs:Int)*(((sumC z).natAbs:Int)*((sumC t).natAbs:Int))) n f i g j (by grind);have q:=aDB (S:=((sumC x).natAbs:Int)*((sumC y).natAbs:Int)*(((sumC z).natAbs:Int)*((sumC t).natAbs:Int))) n g j f i (by grind);have r:=aDB (S:=((sumC x).natAbs:Int)*((sumC y).natAbs:Int)*(((sumC z).natAbs:Int)*((sumC t).natAbs:Int))) n f g i j (by grind);have s:=aDB (S:=((sumC x).natAbs:Int)*((sumC y).natAbs:Int)*(((sumC z).natAbs:Int)*((sumC t).natAbs:Int))) n i j f g (by grind);have u:=Frc.greater o p q;have v:=Frc.greater o r s;unfold Rf.wider widths;simp only;exact Frc.cmp o u v
def enough (op:Rf.Op)(hi lo:V):Bool:=
 let u:=hi.1*lo.2
 let l:=lo.1*hi.2
 if op=.sqrt then decide (u<=l+l)
 else decide ((u-l)*4<=(if op=.ln1p then hi.2*lo.2+l else if op=.atan then hi.2*lo.2+hi.1*lo.1 else hi.2*lo.2))
theorem aOf {c:Rf.Op}(g:c=.sqrt\/c=.exp\/c=.ln1p\/c=.atan){e:Int}(h:0<e)(i j:V):known c (sc e j) (sc e i)=enough c i j:=by
 have d:0<e*e:=Int.mul_pos h h
 have f:∀ {a b x y:Int},a=e*e*x->b=e*e*y->decide (a<=b)=decide (x<=y):=by
  intro a b x y k l;rw [decide_eq_decide,k,l,aEb d]
 rcases g with rfl | rfl | rfl | rfl<;>simp only [known,enough,reduceCtorEq,if_true,if_false]<;>apply f<;>simp only [sc]<;>grind
end Pg
namespace Pg
open Rf Nw
structure HC (n:Nd):Prop where
 len:n.had.length=n.out.length+1
 fst:n.had[0]?=some one
 lst:n.had[n.out.length]?=some n.told
 step:∀ (r:Nat) (c:Int) (m:Mt),n.out[r]?=some c->n.had[r]?=some m->n.had[r+1]?=some (m.mul (Mt.sym c))
theorem HC.fresh (pos:Bool)(t:List V)(args:List Nat):HC (fresh pos t args):=⟨rfl,rfl,rfl,fun r c m h=>by simp [Rf.fresh] at h⟩
theorem HC.of {n n':Nd}(h:HC n)(h1:n'.out=n.out)(h2:n'.had=n.had)(h3:n'.told=n.told):HC n':=⟨by rw [h1,h2];exact h.len,by rw [h2];exact h.fst,by rw [h1,h2,h3];exact h.lst,by rw [h1,h2];exact h.step⟩
theorem HC.give {n:Nd}(h:HC n)(c:Int):HC {n with out:=n.out++[c],told:=n.told.mul (Mt.sym c),had:=n.had++[n.told.mul (Mt.sym c)]}:=by
 refine ⟨by simp [h.len],?_,?_,?_⟩
 ·simp only;rw [List.getElem?_append_left (by rw [h.len];omega)];exact h.fst
 ·simp only;rw [List.getElem?_append_right (by simp [h.len])];simp [h.len]
 ·intro r d m a b;simp only at a b ⊢
  by_cases f:r<n.out.length
  ·rw [List.getElem?_append_left f] at a;rw [List.getElem?_append_left (by rw [h.len];omega)] at b ⊢;exact h.step r d m a b
  ·have e:r=n.out.length:=by
    have:=(List.getElem?_eq_some_iff.1 a).1;simp at this;omega
   subst e;rw [List.getElem?_append_right (Nat.le_refl _)] at a;simp at a;rw [List.getElem?_append_left (by rw [h.len];omega),h.lst] at b;cases b;subst a;rw [List.getElem?_append_right (by rw [h.len];omega)];simp [h.len]
structure Go (ns ns':List Nd):Prop where
 len:ns.length<=ns'.length
 at':∀ (i:Nat) (n:Nd),ns[i]?=some n->∃ n',ns'[i]?=some n'/\n'.pos=n.pos/\(∀ (r:Nat) (m:Mt),n.had[r]?=some m->n'.had[r]?=some m)/\(∀ (r:Nat) (c:Int),n.out[r]?=some c->n'.out[r]?=some c)
theorem Go.refl (ns:List Nd):Go ns ns:=⟨Nat.le_refl _,fun i n h=>⟨n,h,rfl,fun _ _ h=>h,fun _ _ h=>h⟩⟩
theorem Go.trans {a b c:List Nd}(h:Go a b)(h':Go b c):Go a c:=⟨Nat.le_trans h.len h'.len,fun i n hn=>by
 obtain ⟨n1,h1,h2,h3,h4⟩:=h.at' i n hn;obtain ⟨n2,h5,h6,h7,h8⟩:=h'.at' i n1 h1
 exact ⟨n2,h5,h6.trans h2,fun r m e=>h7 r m (h3 r m e),fun r m e=>h8 r m (h4 r m e)⟩⟩
theorem Go.more (ns ms:List Nd):Go ns (ns++ms):=⟨by simp,fun i n h=>⟨n,by rw [List.getElem?_append_left (List.getElem?_eq_some_iff.1 h).1];exact h,rfl,fun _ _ h=>h,fun _ _ h=>h⟩⟩
theorem Go.set {ns:List Nd}{i:Nat}{n n':Nd}(h:ns[i]?=some n)(b:n'.pos=n.pos)(d:∀ (r:Nat) (m:Mt),n.had[r]?=some m->n'.had[r]?=some m)(e:∀ (r:Nat) (c:Int),n.out[r]?=some c->n'.out[r]?=some c):Go ns (ns.set i n'):=by
 refine ⟨by simp,fun k m hm=>?_⟩
 by_cases a:i=k
 ·subst a;rw [h] at hm;cases hm;exact ⟨n',by rw [List.getElem?_set_self (List.getElem?_eq_some_iff.1 h).1],b,d,e⟩
 ·exact ⟨m,by rw [List.getElem?_set_ne a];exact hm,rfl,fun _ _ h=>h,fun _ _ h=>h⟩
theorem Go.ends {ns b:List Nd}(h:Go ns b){n:Nd}{sd:Nat}{e:V×V}(p:ends ns n sd=some e):ends b n sd=some e:=by
 unfold Rf.ends at*;obtain ⟨a,c,d⟩:=Option.bind_eq_some_iff.1 p;obtain ⟨x,f,g⟩:=Option.bind_eq_some_iff.1 d;obtain ⟨r,i,j⟩:=Option.bind_eq_some_iff.1 g;obtain ⟨m,k,rfl⟩:=Option.map_eq_some_iff.1 j;obtain ⟨q,l,_,o,_⟩:=h.at' a x f;rw [c];simp only [Option.bind_some,l,i,o r m k,Option.map_some]
theorem Go.bare {ns b:List Nd}(h:Go ns b){n:Nd}{l:List V}(a:bare ns n=some l):bare b n=some l:=by
 unfold Rf.bare at*;split at a
 ·exact a
 ·exact a
 ·obtain ⟨e,d,rfl⟩:=Option.map_eq_some_iff.1 a;rw [h.ends d];rfl
 ·obtain ⟨e,d,g⟩:=Option.bind_eq_some_iff.1 a;rw [h.ends d];simp only [Option.bind_some];obtain ⟨r,c,rfl⟩:=Option.map_eq_some_iff.1 g
  by_cases f:n.args.length=2
  ·rw [if_pos f] at c ⊢;rw [h.ends c];rfl
  ·rw [if_neg f] at c ⊢;rw [c];rfl
 ·cases a
theorem Go.corners {ns a:List Nd}(h:Go ns a){n:Nd}{l:List V}(d:corners ns n=some l):corners a n=some l:=by
 unfold Rf.corners at*;obtain ⟨b,c,rfl⟩:=Option.map_eq_some_iff.1 d;rw [h.bare c];rfl
theorem Go.waits {ns ns':List Nd}(h:Go ns ns'):∀ (ar rd:List Nat),(∀ a∈ar,a<ns.length)->waits ns' ar rd=waits ns ar rd
 | [],_,_=>by simp [Rf.waits]
 | _::_,[],_=>by simp [Rf.waits]
 | a::ar,r::rs,hl=>by
  unfold Rf.waits;have ha:=hl a (by simp);obtain ⟨x',g1,g2,_⟩:=h.at' a ns[a] (List.getElem?_eq_getElem ha);rw [g1,List.getElem?_eq_getElem ha,h.waits ar rs (fun b hb=>hl b (by simp [hb]))];simp only [g2]
theorem aG8 {ns:List Nd}{n:Nd}{l:List V}(e:corners ns n=some l)(c:Int)(o:List Int)(a:List Mt):corners ns {n with out:=o,told:=n.told.mul (Mt.sym c),had:=a}=some (l.map (vag (Mt.sym c))):=by
 unfold Rf.corners at*;obtain ⟨b,d,rfl⟩:=Option.map_eq_some_iff.1 e;have:bare ns {n with out:=o,told:=n.told.mul (Mt.sym c),had:=a}=some b:=d;rw [this];simp only [Option.map_some,List.map_map];congr 2;funext v;exact aIR _ _ v
theorem aG5:∀ (l:List Nat) (k r:Nat),l[k]?=some r->(bump l k)[k]?=some (r+1)
 | [],_,_,h=>by simp at h
 | x::l,0,r,h=>by simp at h;subst h;simp [bump]
 | x::l,k+1,r,h=>by simp [bump];exact aG5 l k r (by simpa using h)
theorem aEx {ns:List Nd}{n:Nd}{u v:V}(a:n.t=[u,v]):bare ns n=(ends ns n 0).map fun e=>[vat ⟨u.1,v.1,u.2,v.2⟩ e.1,vat ⟨u.1,v.1,u.2,v.2⟩ e.2]:=by
 unfold Rf.bare;rw [a]
theorem aBF {ns:List Nd}{n:Nd}{u v y z:V}(a:n.t=[u,v,y,z]):bare ns n=(ends ns n 0).bind fun e=>(if n.args.length=2 then ends ns n 1 else some ((1,0),(0,1))).map fun r=>[tensor [u,v,y,z] e.1 r.1,tensor [u,v,y,z] e.1 r.2,tensor [u,v,y,z] e.2 r.1,tensor [u,v,y,z] e.2 r.2]:=by
 unfold Rf.bare;rw [a]
theorem aF2 {ns:List Nd}{n:Nd}(a:n.t=[]):bare ns n=some [vat n.part (1,0),vat n.part (0,1)]:=by
 unfold Rf.bare;rw [a]
theorem aE4 {ns:List Nd}{n:Nd}{sd a r:Nat}{x:Nd}{c:Int}{e:V×V}(b:ends ns n sd=some e)(i:n.args[sd]?=some a)(j:ns[a]?=some x)(f:n.read[sd]?=some r)(k:x.out[r]?=some c)(d:HC x):
  ends ns {n with read:=bump n.read sd} sd=some (rd1 e.1 e.2 (Mt.sym c),rd2 e.1 e.2 (Mt.sym c)):=by
 unfold Rf.ends at*;rw [i] at b ⊢;simp only [Option.bind_some,j,f] at b ⊢;obtain ⟨m,h,rfl⟩:=Option.map_eq_some_iff.1 b;have g:(bump n.read sd)[sd]?=some (r+1):=aG5 n.read sd r f;rw [g];simp only [Option.bind_some,d.step r c m k h,Option.map_some];rw [end1,end2]
theorem aLo:∀ (l:List Nat) (k j:Nat),j≠k->(bump l k)[j]?=l[j]?
 | [],_,_,_=>by simp [bump]
 | x::l,0,0,h=>absurd rfl h
 | x::l,0,j+1,_=>by simp [bump]
 | x::l,k+1,0,_=>by simp [bump]
 | x::l,k+1,j+1,h=>by simp [bump];exact aLo l k j (by omega)
theorem aFH {ns:List Nd}{n:Nd}{sd k:Nat}(h:sd≠k):ends ns {n with read:=bump n.read k} sd=ends ns n sd:=by
 unfold Rf.ends;rw [aLo _ _ _ h]
theorem aIg {ns:List Nd}{n:Nd}{u v:V}{l:List V}(g:n.t=[u,v])(i:corners ns n=some l){a r:Nat}{x:Nd}{c:Int}(j:n.args[0]?=some a)(k:ns[a]?=some x)(m:n.read[0]?=some r)(o:x.out[r]?=some c)(d:HC x):
  ∃ p q,l=[p,q]/\corners ns {n with read:=bump n.read 0}=some [rd1 p q (Mt.sym c),rd2 p q (Mt.sym c)]:=by
 unfold Rf.corners at*;obtain ⟨b,f,rfl⟩:=Option.map_eq_some_iff.1 i;rw [aEx g] at f;obtain ⟨e,h,rfl⟩:=Option.map_eq_some_iff.1 f;refine ⟨_,_,rfl,?_⟩;rw [aEx (n:={n with read:=bump n.read 0}) g,aE4 h j k m o d];simp only [Option.map_some,List.map_cons,List.map_nil];rw [aEg,aEh,aRm,aRo]
theorem aG9 {ns:List Nd}{n:Nd}{u v y z:V}{l:List V}(h:n.t=[u,v,y,z])(m:corners ns n=some l){a r:Nat}{x:Nd}{c:Int}(o:n.args[0]?=some a)(A:ns[a]?=some x)(B:n.read[0]?=some r)(C:x.out[r]?=some c)(d:HC x):
  ∃ p q s t,l=[p,q,s,t]/\corners ns {n with read:=bump n.read 0}=some [rd1 p s (Mt.sym c),rd1 q t (Mt.sym c),rd2 p s (Mt.sym c),rd2 q t (Mt.sym c)]:=by
 unfold Rf.corners at*;obtain ⟨b,f,rfl⟩:=Option.map_eq_some_iff.1 m;rw [aBF h] at f;obtain ⟨e,i,j⟩:=Option.bind_eq_some_iff.1 f;obtain ⟨g,k,rfl⟩:=Option.map_eq_some_iff.1 j;refine ⟨_,_,_,_,rfl,?_⟩;rw [aBF (n:={n with read:=bump n.read 0}) h,aE4 i o A B C d,aFH (by decide)];simp only [Option.bind_some];rw [k];simp only [Option.map_some,List.map_cons,List.map_nil];rw [aHT,aHT,aHU,aHU,aEg,aEg,aEh,aEh]
theorem aGf {ns:List Nd}{n:Nd}{u v y z:V}{l:List V}(i:n.t=[u,v,y,z])(d:n.args.length=2)(o:corners ns n=some l){a r:Nat}{x:Nd}{c:Int}(A:n.args[1]?=some a)(B:ns[a]?=some x)(C:n.read[1]?=some r)(D:x.out[r]?=some c)(f:HC x):
  ∃ p q s t,l=[p,q,s,t]/\corners ns {n with read:=bump n.read 1}=some [rd1 p q (Mt.sym c),rd2 p q (Mt.sym c),rd1 s t (Mt.sym c),rd2 s t (Mt.sym c)]:=by
 unfold Rf.corners at*;obtain ⟨b,h,rfl⟩:=Option.map_eq_some_iff.1 o;rw [aBF i,if_pos d] at h;obtain ⟨e,j,k⟩:=Option.bind_eq_some_iff.1 h;obtain ⟨g,m,rfl⟩:=Option.map_eq_some_iff.1 k;refine ⟨_,_,_,_,rfl,?_⟩;rw [aBF (n:={n with read:=bump n.read 1}) i,if_pos d,aFH (by decide),j];simp only [Option.bind_some];rw [aE4 m A B C D f];simp only [Option.map_some,List.map_cons,List.map_nil];rw [aHV,aHV,aHW,aHW,aEg,aEg,aEh,aEh]
theorem aHd {ns:List Nd}{n:Nd}{u v y z:V}{l:List V}(g:n.t=[u,v,y,z]){a b:Nat}(c:n.args=[a]){r:Nat}(h:n.read=[r])(m:corners ns n=some l){x:Nd}(o:ns[b]?=some x)(p:x.had[0]?=some one):corners ns {n with args:=n.args++[b],read:=n.read++[0]}=some l:=by
 unfold Rf.corners at*;obtain ⟨q,d,rfl⟩:=Option.map_eq_some_iff.1 m;rw [aBF g,if_neg (by rw [c];simp)] at d;obtain ⟨e,f,k⟩:=Option.bind_eq_some_iff.1 d
 have i:ends ns {n with args:=n.args++[b],read:=n.read++[0]} 0=some e:=by
  unfold Rf.ends at*;simp only [c,h] at f ⊢
  simpa using f
 have j:ends ns {n with args:=n.args++[b],read:=n.read++[0]} 1=some ((1,0),(0,1)):=by
  unfold Rf.ends;simp only [c,h];simp [o,p,aEn]
 rw [aBF (n:={n with args:=n.args++[b],read:=n.read++[0]}) g,if_pos (by simp [c]),i];simp only [Option.bind_some];rw [j,k];rfl
theorem aHc {ns:List Nd}{n:Nd}{l:List V}(b:n.t=[])(a:corners ns n=some l)(m:Mt)(k:Nat):∃ p q,l=[p,q]/\corners ns {n with part:=n.part.mul m,k:=k}=some [rd1 p q m,rd2 p q m]:=by
 unfold Rf.corners at*;rw [aF2 b] at a;simp only [Option.map_some,Option.some.injEq] at a;subst a;refine ⟨_,_,rfl,?_⟩;rw [aF2 (n:={n with part:=n.part.mul m,k:=k}) b];simp only [Option.map_some,List.map_cons,List.map_nil];rw [end1,end2,aEg,aEh]
end Pg
open Go.RowKit
namespace Ab
theorem aC0 {t z:Int}{S:List Int}(h:∀ y∈S,y=0\/(0<=t/\t<=(Nm.tz y:Int))):∀ y∈z::S,y=0\/(0<=fewer t z/\fewer t z<=(Nm.tz y:Int)):=by
 intro y hy
 have d:fewer t z=(if z=0 then t else if t<0\/(Nm.tz z:Int)<t then (Nm.tz z:Int) else t):=by
  unfold fewer
  by_cases a:z=0
  ·rw [Nm.aAz a,if_pos a];rfl
  ·have:(Nm.cmp z 0==0)=false:=by
    rw [beq_eq_false_iff_ne]
    rcases Int.lt_or_gt_of_ne a with g | g
    ·rw [Nm.aAC g];decide
    ·rw [Nm.aAt g];decide
   rw [this,if_neg a,cond_false]
   by_cases b:t<0
   ·rw [decide_eq_true b,if_pos (Or.inl b)];rfl
   ·rw [decide_eq_false b,cond_false]
    by_cases c:(Nm.tz z:Int)<t
    ·rw [decide_eq_true c,if_pos (Or.inr c)];rfl
    ·rw [decide_eq_false c,if_neg (by omega)];rfl
 rw [d];simp only [List.mem_cons] at hy
 rcases hy with rfl | hy
 ·by_cases a:y=0
  ·exact Or.inl a
  ·right;rw [if_neg a]
   split<;>omega
 ·rcases h y hy with b | ⟨b,c⟩
  ·exact Or.inl b
  ·right;split
   ·exact ⟨b,c⟩
   ·split<;>omega
theorem aKw {z:Int}{n:Nat}(h:(2:Int)^n ∣ z):z=2^n*Nm.half z n:=by
 have b:(0:Int)<2^n:=Nm.aAq (by decide) n;have a:(2:Int)^n ∣ (z.natAbs:Int):=Int.dvd_natAbs.2 h;have e:2^n*((z.natAbs:Int)/2^n)=z.natAbs:=Int.mul_ediv_cancel' a;unfold Nm.half;split
 ·rw [Int.mul_neg,e];omega
 ·rw [e];omega
theorem aOb {t z:Int}(h:z=0\/(0<=t/\t<=(Nm.tz z:Int))):z=(if t<1 then 1 else 2^t.toNat)*hv t z:=by
 unfold hv
 by_cases a:t<1
 ·rw [if_pos a,decide_eq_true a,cond_true,Int.one_mul]
 ·rw [if_neg a,decide_eq_false a,cond_false];unfold halfZ;rw [decide_eq_false a,cond_false];refine aKw ?_
  rcases h with rfl | ⟨h2,h3⟩
  ·exact Int.dvd_zero _
  ·refine Int.dvd_trans ⟨2^(Nm.tz z-t.toNat),?_⟩ (Nm.aPY z);rw [<-Int.pow_add];congr 1;omega
theorem aL5 (p0 q0 p1 q1 p2 q2 p3 q3:Int):∃ s:Int,0<s/\[(p0,q0),(p1,q1),(p2,q2),(p3,q3)]=[(hv (tw8 p0 q0 p1 q1 p2 q2 p3 q3) p0,hv (tw8 p0 q0 p1 q1 p2 q2 p3 q3) q0),(hv (tw8 p0 q0 p1 q1 p2 q2 p3 q3) p1,hv (tw8 p0 q0 p1 q1 p2 q2 p3 q3) q1),(hv (tw8 p0 q0 p1 q1 p2 q2 p3 q3) p2,hv (tw8 p0 q0 p1 q1 p2 q2 p3 q3) q2),(hv (tw8 p0 q0 p1 q1 p2 q2 p3 q3) p3,hv (tw8 p0 q0 p1 q1 p2 q2 p3 q3) q3)].map (Pg.sc s):=by
 have a:∀ y∈([]:List Int),y=0\/(0<=(-1:Int)/\(-1:Int)<=(Nm.tz y:Int)):=fun y hy=>by cases hy
 have h:=aC0 (z:=q3) (aC0 (z:=p3) (aC0 (z:=q2) (aC0 (z:=p2) (aC0 (z:=q1) (aC0 (z:=p1) (aC0 (z:=q0) (aC0 (z:=p0) a)))))));have b:fewer (fewer (fewer (fewer (fewer (fewer (fewer (fewer (-1) p0) q0) p1) q1) p2) q2) p3) q3=tw8 p0 q0 p1 q1 p2 q2 p3 q3:=rfl;rw [b] at h;generalize tw8 p0 q0 p1 q1 p2 q2 p3 q3=t at*;refine ⟨if t<1 then 1 else 2^t.toNat,by split;decide;exact Nm.aAq (by decide) _,?_⟩
 have k:∀ y∈[q3,p3,q2,p2,q1,p1,q0,p0],y=(if t<1 then 1 else 2^t.toNat)*hv t y:=fun y hy=>aOb (h y hy)
 simp only [List.map_cons,List.map_nil,Pg.sc];rw [<-k p0 (by simp),<-k q0 (by simp),<-k p1 (by simp),<-k q1 (by simp),<-k p2 (by simp),<-k q2 (by simp),<-k p3 (by simp),<-k q3 (by simp)]
def code (c:Int):Int:=if c=-1 then 5 else if c=0 then 6 else if c=1 then 7 else if c=43 then 1 else if c=45 then 2 else if c=111 then 3 else 4
theorem aDS (c:Int):symA (code c)=(Mt.sym c).a/\symB (code c)=(Mt.sym c).b/\symC (code c)=(Mt.sym c).c/\symD (code c)=(Mt.sym c).d:=by
 unfold code Mt.sym;split
 ·exact ⟨rfl,rfl,rfl,rfl⟩
 ·split
  ·exact ⟨rfl,rfl,rfl,rfl⟩
  ·split
   ·exact ⟨rfl,rfl,rfl,rfl⟩
   ·split
    ·exact ⟨rfl,rfl,rfl,rfl⟩
    ·split
     ·exact ⟨rfl,rfl,rfl,rfl⟩
     ·split<;>exact ⟨rfl,rfl,rfl,rfl⟩
theorem aLM (p0 q0 p1 q1 p2 q2 p3 q3 a b c d:Int):fitZ p0 q0 p1 q1 p2 q2 p3 q3 a b c d=Nw.fits ([(p0,q0),(p1,q1),(p2,q2),(p3,q3)].map (Rf.vag ⟨a,b,c,d⟩)):=by
 have e:∀ x y:Int,decide (Nm.cmp x y<0)=decide (x-y<0):=fun x y=>by
  rcases Int.lt_trichotomy x y with h | h | h
  ·rw [Nm.aAC h,decide_eq_true (by decide),decide_eq_true (by omega)]
  ·rw [Nm.aAz h,decide_eq_false (by decide),decide_eq_false (by omega)]
  ·rw [Nm.aAt h,decide_eq_false (by decide),decide_eq_false (by omega)]
 have f:∀ x y:Int,decide (Nm.cmp x y>0)=decide (0<x-y):=fun x y=>by
  rcases Int.lt_trichotomy x y with h | h | h
  ·rw [Nm.aAC h,decide_eq_false (by decide),decide_eq_false (by omega)]
  ·rw [Nm.aAz h,decide_eq_false (by decide),decide_eq_false (by omega)]
  ·rw [Nm.aAt h,decide_eq_true (by decide),decide_eq_true (by omega)]
 have g:∀ p q:Int,(Rf.vag ⟨a,b,c,d⟩ (p,q))=(d*p-b*q,a*q-c*p):=fun p q=>by
  unfold Rf.vag Mt.ag1 Mt.ag2;simp only [Int.neg_mul,Int.sub_eq_add_neg]
 unfold fitZ fitN Nw.fits Nw.ups Nw.downs cl cp;simp only [List.map_cons,List.map_nil,List.any_cons,List.any_nil,Bool.or_false,Bool.false_or,e,f,g];rw [Bool.beq_comm];rfl
def nearA (p q:Int):Int:=((Rf.near p q 20000 1).getD (0,0)).1
def nearB (p q:Int):Int:=((Rf.near p q 20000 1).getD (0,0)).2
def fNear2:List G->Option RG
 | [.ns [p,q]]=>some (.tup [.ns [nearA p q],.ns [nearB p q]])
 | _=>none
def ndNear2:List G->List Prop
 | [.ns [p,q]]=>[0<p/\0<q/\(Rf.near p q 20000 1).isSome=true]
 | _=>[]
theorem aOo:TEok Z 204 (teG true fNear2 ndNear2 (fun _=>2) [1]):=by
 refine aHS aMs ?_;intro d c h a f;unfold fNear2 at h;split at h
 ·rename_i p q;cases h;have a:0<p/\0<q/\(Rf.near p q 20000 1).isSome=true:=a.one;refine ⟨?_,aAe ⟨a.1,a.2.1⟩ aAc⟩;obtain ⟨b,e⟩:=Option.isSome_iff_exists.1 a.2.2;show (Rf.near p q 20000 1).map (fun b=>RG.tup [.ns [b.1],.ns [b.2]])=some (.tup [.ns [((Rf.near p q 20000 1).getD (0,0)).1],.ns [((Rf.near p q 20000 1).getD (0,0)).2]]);rw [e];rfl
 ·cases h
noncomputable def tN2:List (FuncId×TE):=(204,teG true fNear2 ndNear2 (fun _=>2) [1])::tK
theorem aPT:AllTE Z tN2:=⟨aOo,aVb⟩
def fRtM:List G->Option RG
 | [.ns [p,q]]=>some (.one (.ns [nearA p q*q,nearB p q*p,nearB p q*q,nearA p q*q]))
 | _=>none
theorem aSn:TEok Z 193 (teN true fRtM ndNear2 3 [1]):=by
 refine walkN (l:=tN2) aPT nobody (aAj Tryz.func193 rfl rfl) ?_;intro b a h;unfold fRtM at h;split at h
 ·rename_i p q;cases h;exact ⟨[0<p/\0<q/\(Rf.near p q 20000 1).isSome=true],3,by kernel_rfl,by decide,fun hn _=>aAe hn.one aAc⟩
 ·cases h
noncomputable def tN:List (FuncId×TE):=(193,teN true fRtM ndNear2 3 [1])::tN2
theorem aAW:AllTE Z tN:=⟨aSn,aPT⟩
end Ab
open Go.RowKit
namespace Ab
def ndC (hs:Bool)(uns mt lr rr pl:Int)(lp rp cst nst gv:AC):List AC:=.sbool hs::numCs true 0 8++[cst,.sint .i64 mt,lp,.sint .i64 lr,rp,.sint .i64 rr,gv,.sint .i64 uns,nst,.sint .i64 pl]
def argB (i:Nat):Option Bool->List (Nat×Box)
 | none=>[]
 | some s=>[(i,ext (.sbool s::anys 26) 205)]
def ptrC (i:Nat):Option Bool->AC
 | none=>.lit (.pointer none)
 | some _=>.ptr i 0
def gvC:Option Nat->AC
 | none=>.lit (.slice none 0 0)
 | some len=>.dsl 3 0 len 1
def gvB:Option Nat->List (Nat×Box)
 | none=>[]
 | some _=>[(3,ext [] 100)]
def xC (i:Nat):Bool->AC
 | false=>.lit (.pointer none)
 | true=>.ptr i 0
def xB (i:Nat)(ty:TypeId):Bool->List (Nat×Box)
 | false=>[]
 | true=>[(i,ext [] ty)]
def sNd (zs:List Int)(hs:Bool)(l r:Option Bool)(g:Option Nat)(c n:Bool)(uns mt lr rr pl:Int)(nt:Nat):AS:=
 ⟨.val (.one (.ptr 0 0))::List.replicate nt .und,(0,ext (ndC hs uns mt lr rr pl (ptrC 1 l) (ptrC 2 r) (xC 4 c) (xC 5 n) (gvC g)) 205)::(argB 1 l++(argB 2 r++(gvB g++(xB 4 224 c++xB 5 273 n)))),6,zs.map fun z=>(z,10),[]⟩
def argW:Option Bool->Int->Int->Int
 | none,_,k=>k
 | some s,r,k=>bif s then (bif r==0 then 0 else k) else k
def fitS (p0 q0 p1 q1 p2 q2 p3 q3 s:Int):Bool:=fitZ p0 q0 p1 q1 p2 q2 p3 q3 (symA s) (symB s) (symC s) (symD s)
def sgnF (p0 q0 p1 q1 p2 q2 p3 q3:Int):Int:=bif fitS p0 q0 p1 q1 p2 q2 p3 q3 1 then 1 else bif fitS p0 q0 p1 q1 p2 q2 p3 q3 2 then 2 else bif fitS p0 q0 p1 q1 p2 q2 p3 q3 3 then 3 else bif fitS p0 q0 p1 q1 p2 q2 p3 q3 4 then 4 else 0
def digF (p0 q0 p1 q1 p2 q2 p3 q3:Int):Int:=bif fitS p0 q0 p1 q1 p2 q2 p3 q3 5 then 5 else bif fitS p0 q0 p1 q1 p2 q2 p3 q3 7 then 7 else bif fitS p0 q0 p1 q1 p2 q2 p3 q3 6 then 6 else 0
def firstF (hs:Bool)(g:Option Nat)(x y:Int):Int:=
 match g with
 | none=>bif hs then x else y
 | some len=>bif hs then (bif (len:Int)==0 then x else y) else y
def nextZ (p0 q0 p1 q1 p2 q2 p3 q3:Int)(hs:Bool)(l r:Option Bool)(g:Option Nat)(uns lr rr:Int):Int:=
 bif uns != 0 then 0 else argW l lr (argW r rr (firstF hs g (sgnF p0 q0 p1 q1 p2 q2 p3 q3) (digF p0 q0 p1 q1 p2 q2 p3 q3)))
noncomputable def bN:FuncId->Option Func:=fun f=>bif f==205 then some Tryz.f205 else bif f==206 then some Tryz.f206 else none
theorem aS2:BodiesOk Z bN:=by
 intro f c h;unfold bN at h
 cases a:f==205 with
 | true=>
  rw [a] at h;cases h
  have:f=205:=by simpa using a
  subst this;exact ⟨(aAj Tryz.func205 rfl rfl).at',(aAj Tryz.func205 rfl rfl).en⟩
 | false=>
  rw [a] at h
  cases b:f==206 with
  | true=>
   rw [b] at h;cases h
   have:f=206:=by simpa using b
   subst this;exact ⟨(aAj Tryz.func206 rfl rfl).at',(aAj Tryz.func206 rfl rfl).en⟩
  | false=>rw [b] at h;cases h
noncomputable def nextRun (zs:List Int)(hs:Bool)(l r:Option Bool)(g:Option Nat)(c n:Bool)(uns mt lr rr pl:Int):Option Tr:=run Z (tabSp tN) bN (drawA Z (tabSp tN)) (fun _=>false) 2000 [.code (bodyOf Tryz.f196),.top Tryz.f196] (sNd zs hs l r g c n uns mt lr rr pl 39)
theorem aMv (p0 q0 p1 q1 p2 q2 p3 q3:Int)(hs:Bool)(l r:Option Bool)(g:Option Nat)(c n:Bool)(uns mt lr rr pl:Int):((nextRun [p0,q0,p1,q1,p2,q2,p3,q3] hs l r g c n uns mt lr rr pl).bind outcome).bind (outN true)=some ([],.one (.i .i64 (nextZ p0 q0 p1 q1 p2 q2 p3 q3 hs l r g uns lr rr)),0):=by
 cases l with
 | none=>
  cases r with
  | none=>cases g<;>kernel_rfl
  | some rs=>cases g<;>kernel_rfl
 | some ls=>
  cases r with
  | none=>cases g<;>kernel_rfl
  | some rs=>cases g<;>kernel_rfl
end Ab
open Go.RowKit
namespace Ab
structure NodeAt (w:World) (k:Nat) (zs:List Int) (hs:Bool) (uns mt lr rr pl:Int) (lp rp gv cv nv:Value):Prop where
 ex:∃ xs:List Value,w.heap[k]?=some (.cells (.bool hs::xs++[cv,.int .i64 mt,lp,.int .i64 lr,rp,.int .i64 rr,gv,.int .i64 uns,nv,.int .i64 pl]).toArray 205 (0,0))/\Hold true w zs xs
def ArgAt (w:World):Option (Nat×Bool)->Value->Prop
 | none,v=>v=.pointer none
 | some (k,s),v=>v=.pointer (some ⟨k,0,none⟩)/\∃ ys:List Value,w.heap[k]?=some (.cells (.bool s::ys).toArray 205 (0,0))/\ys.length=26/\∀ y∈ys,One y
def GivAt (w:World):Option (Nat×Nat)->Value->Prop
 | none,v=>v=.slice none 0 0
 | some (k,len),v=>∃ cap,v=.slice (some ⟨k,0,none⟩) len cap/\∃ cs:List Value,w.heap[k]?=some (.cells cs.toArray 100 (0,0))
def ExtAt (w:World)(ty:TypeId):Option Nat->Value->Prop
 | none,v=>v=.pointer none
 | some k,v=>v=.pointer (some ⟨k,0,none⟩)/\∃ cs:List Value,w.heap[k]?=some (.cells cs.toArray ty (0,0))
def phi (k:Nat)(l r:Option (Nat×Bool))(g:Option (Nat×Nat))(c n:Option Nat):Nat->Option (Nat×Nat)
 | 0=>some (k,0)
 | 1=>l.map fun x=>(x.1,0)
 | 2=>r.map fun x=>(x.1,0)
 | 3=>g.map fun x=>(x.1,0)
 | 4=>c.map fun x=>(x,0)
 | 5=>n.map fun x=>(x,0)
 | _=>none
theorem aF0 {φ:Nat->Option (Nat×Nat)}{ν:List (Int×Nat)}{w:World}:∀ (n:Nat) (ys:List Value),ys.length=n->(∀ y∈ys,One y)->All2 (relC Z φ ν w) (anys n) ys
 | 0,[],_,_=>trivial
 | n+1,y::ys,hl,h=>⟨h y (by simp),aF0 n ys (by simpa using hl) fun z hz=>h z (by simp [hz])⟩
 | 0,_::_,h,_=>by simp at h
 | _+1,[],h,_=>by simp at h
theorem aMR {φ:Nat->Option (Nat×Nat)}{ν:List (Int×Nat)}{w:World}{i:Nat}{l:Option (Nat×Bool)}{v:Value}(a:φ i=l.map fun x=>(x.1,0))(h:ArgAt w l v):relC Z φ ν w (ptrC i (l.map (·.2))) v:=by
 cases l with
 | none=>exact ⟨h,rfl⟩
 | some x=>exact ⟨x.1,0,a,h.1⟩
theorem aQN {φ:Nat->Option (Nat×Nat)}{ν:List (Int×Nat)}{w:World}{g:Option (Nat×Nat)}{v:Value}(c:φ 3=g.map fun x=>(x.1,0))(h:GivAt w g v):relC Z φ ν w (gvC (g.map (·.2))) v:=by
 cases g with
 | none=>exact ⟨h,rfl⟩
 | some x=>obtain ⟨a,b,_⟩:=h;exact ⟨x.1,a,by rw [c];rfl,b⟩
theorem aLI {φ:Nat->Option (Nat×Nat)}{ν:List (Int×Nat)}{w:World}{i:Nat}{ty:TypeId}{c:Option Nat}{v:Value}(a:φ i=c.map fun x=>(x,0))(h:ExtAt w ty c v):relC Z φ ν w (xC i c.isSome) v:=by
 cases c with
 | none=>exact ⟨h,rfl⟩
 | some x=>exact ⟨x,0,a,h.1⟩
theorem aAy {b:Nat}{B:Box}:∀ {l:List (Nat×Box)},look l b=some B->(b,B)∈l
 | [],h=>by simp [look] at h
 | (c,D)::l,h=>by
  simp only [look] at h
  cases hc:(c==b) with
  | true=>
   rw [hc] at h;simp only [cond_true,Option.some.injEq] at h
   have:c=b:=by simpa using hc
   rw [<-h,this];simp
  | false=>
   rw [hc] at h;exact List.mem_cons_of_mem _ (aAy h)
theorem aIZ {i b:Nat}{B:Box}{l:Option (Nat×Bool)}(h:(b,B)∈argB i (l.map (·.2))):∃ x,l=some x/\b=i/\B=ext (.sbool x.2::anys 26) 205:=by
 cases l with
 | none=>simp [argB] at h
 | some x=>simp [argB] at h;exact ⟨x,rfl,h⟩
theorem aQR {b:Nat}{B:Box}{g:Option (Nat×Nat)}(h:(b,B)∈gvB (g.map (·.2))):∃ x,g=some x/\b=3/\B=ext [] 100:=by
 cases g with
 | none=>simp [gvB] at h
 | some x=>simp [gvB] at h;exact ⟨x,rfl,h⟩
theorem aP5 {i b:Nat}{ty:TypeId}{B:Box}{c:Option Nat}(h:(b,B)∈xB i ty c.isSome):∃ x,c=some x/\b=i/\B=ext [] ty:=by
 cases c with
 | none=>simp [xB] at h
 | some x=>simp [xB] at h;exact ⟨x,rfl,h⟩
theorem aTJ {w:World}{k:Nat}{zs:List Int}{hs:Bool}{l r:Option (Nat×Bool)}{g:Option (Nat×Nat)}{c n:Option Nat}{uns mt lr rr pl:Int}{lp rp gv cv nv:Value}(L:NodeAt w k zs hs uns mt lr rr pl lp rp gv cv nv)(M:zs.length=8)(N:∀ z∈zs,Bits 10 z)(v:ArgAt w l lp)(y:ArgAt w r rp)(A:GivAt w g gv)(C:ExtAt w 224 c cv)(D:ExtAt w 273 n nv)(nt:Nat):
  RepW Z w (phi k l r g c n) (phi k l r g c n) (sNd zs hs (l.map (·.2)) (r.map (·.2)) (g.map (·.2)) c.isSome n.isSome uns mt lr rr pl nt) w:=by
 obtain ⟨xs,E,H⟩:=L.ex
 have s:All2 (relC Z (phi k l r g c n) (zs.map fun z=>(z,10)) w) (ndC hs uns mt lr rr pl (ptrC 1 (l.map (·.2))) (ptrC 2 (r.map (·.2))) (xC 4 c.isSome) (xC 5 n.isSome) (gvC (g.map (·.2)))) (.bool hs::xs++[cv,.int .i64 mt,lp,.int .i64 lr,rp,.int .i64 rr,gv,.int .i64 uns,nv,.int .i64 pl]):=by
  have F:All2 (relC Z (phi k l r g c n) (zs.map fun z=>(z,10)) w) (numCs true 0 8) xs:=by
   rw [<-M]
   exact aBe zs xs 0 _ H N fun j z hz=>by rw [Nat.zero_add,List.getElem?_map,hz];rfl
  exact All2.append (show All2 (relC Z (phi k l r g c n) (zs.map fun z=>(z,10)) w) (.sbool hs::numCs true 0 8) (.bool hs::xs) from ⟨rfl,F⟩) ⟨aLI rfl C,rfl,aMR rfl v,rfl,aMR rfl y,rfl,aQN rfl A,rfl,aLI rfl D,rfl,trivial⟩
 have f:∀ {o:Nat} {d:List Value} {ty:TypeId} {acs:List AC},w.heap[o]?=some (.cells d.toArray ty (0,0))->All2 (relC Z (phi k l r g c n) (zs.map fun z=>(z,10)) w) acs d->Seg Z (phi k l r g c n) (zs.map fun z=>(z,10)) w o 0 ty acs:=fun hk ha=>⟨[],_,[],by simpa using hk,rfl,ha⟩
 have i:∀ {o:Nat} {d:List Value} {ty:TypeId},w.heap[o]?=some (.cells d.toArray ty (0,0))->Seg Z (phi k l r g c n) (zs.map fun z=>(z,10)) w o 0 ty []:=fun {o d ty} hk=>⟨[],[],d,hk,rfl,trivial⟩
 refine aBh rfl ?_ ?_ ?_
 ·intro b B J;have p:=aAy J;simp only [sNd,List.mem_cons,List.mem_append,Prod.mk.injEq] at p
  rcases p with ⟨rfl,rfl⟩ | h | h | h | h | h
  ·exact ⟨rfl,rfl,rfl,k,0,rfl,f E s⟩
  ·obtain ⟨x,rfl,rfl,rfl⟩:=aIZ h;obtain ⟨_,q,a,t,u⟩:=v;exact ⟨rfl,rfl,rfl,x.1,0,rfl,f a ⟨rfl,aF0 26 q t u⟩⟩
  ·obtain ⟨x,rfl,rfl,rfl⟩:=aIZ h;obtain ⟨_,q,a,t,u⟩:=y;exact ⟨rfl,rfl,rfl,x.1,0,rfl,f a ⟨rfl,aF0 26 q t u⟩⟩
  ·obtain ⟨x,rfl,rfl,rfl⟩:=aQR h;obtain ⟨I,_,d,a⟩:=A;exact ⟨rfl,rfl,rfl,x.1,0,rfl,i a⟩
  ·obtain ⟨x,rfl,rfl,rfl⟩:=aP5 h;obtain ⟨_,d,a⟩:=C;exact ⟨rfl,rfl,rfl,x,0,rfl,i a⟩
  ·obtain ⟨x,rfl,rfl,rfl⟩:=aP5 h;obtain ⟨_,d,a⟩:=D;exact ⟨rfl,rfl,rfl,x,0,rfl,i a⟩
 ·intro b m;have:6<=b:=m
  match b,this with
  | b+6,_=>rfl
 ·intro b o O m
  match b,m with
  | 0,e=>cases e;exact aAL E
  | 1,e=>
   cases l with
   | none=>cases e
   | some x=>cases e;obtain ⟨_,q,a,_⟩:=v;exact aAL a
  | 2,e=>
   cases r with
   | none=>cases e
   | some x=>cases e;obtain ⟨_,q,a,_⟩:=y;exact aAL a
  | 3,e=>
   cases g with
   | none=>cases e
   | some x=>cases e;obtain ⟨_,_,d,a⟩:=A;exact aAL a
  | 4,e=>
   cases c with
   | none=>cases e
   | some x=>cases e;obtain ⟨_,d,a⟩:=C;exact aAL a
  | 5,e=>
   cases n with
   | none=>cases e
   | some x=>cases e;obtain ⟨_,d,a⟩:=D;exact aAL a
  | _+6,e=>cases e
theorem aJs {sp:Spec}{bodies:FuncId->Option Func}{f:FuncId}{fn:Func}(F:Fn f fn)(h:∀ w0 ψ,SpecOk Z w0 ψ sp)(i:BodiesOk Z bodies){w:World}{k:Nat}{zs:List Int}{hs:Bool}{l r:Option (Nat×Bool)}{g:Option (Nat×Nat)}{c p:Option Nat}{uns mt lr rr pl:Int}{lp rp gv cv nv:Value}(C:NodeAt w k zs hs uns mt lr rr pl lp rp gv cv nv)(d:zs.length=8)(D:∀ z∈zs,Bits 10 z)(E:ArgAt w l lp)(H:ArgAt w r rp)(I:GivAt w g gv)(J:ExtAt w 224 c cv)(L:ExtAt w 273 p nv)
  {n nt:Nat} (j:fn.ntmps-1=nt) {q:List Prop} {a:RG} {m:Nat} (M:((run Z sp bodies (drawA Z sp) (fun _=>false) n [.code (bodyOf fn),.top fn] (sNd zs hs (l.map (·.2)) (r.map (·.2)) (g.map (·.2)) c.isSome p.isSome uns mt lr rr pl nt)).bind outcome).bind (outN true)=some (q,a,m)) (N:Holds q):
  Calls Tryz.prog f #[.pointer (some ⟨k,0,none⟩)] w fun e w'=>∃ v,e=.returned v/\RRV Z w' (rvG true m a) v/\Below w.heap.size w w':=by
 obtain ⟨o,t,u⟩:=bnd M;obtain ⟨O,x,y⟩:=bnd t;refine aBo (vs:=[.one (.ptr 0 0)]) (args:=[.pointer (some ⟨k,0,none⟩)]) F (h _ _) i (by subst j;rfl) ⟨⟨k,0,rfl,rfl⟩,trivial⟩ (aTJ C d D E H I J L _) x _ (aAV y (aCK u N (Nat.le_refl _))) ?_;rintro P s φ v w' ⟨b,R,A,d⟩ hrel B;exact ⟨v,rfl,d w' v (aCu A hrel),RepF.below B b⟩
theorem aKI {w:World}{k:Nat}{p0 q0 p1 q1 p2 q2 p3 q3:Int}{hs:Bool}{l r:Option (Nat×Bool)}{g:Option (Nat×Nat)}{c f:Option Nat}{uns mt lr rr pl:Int}{lp rp gv cv nv:Value}(h:NodeAt w k [p0,q0,p1,q1,p2,q2,p3,q3] hs uns mt lr rr pl lp rp gv cv nv)(d:∀ z∈[p0,q0,p1,q1,p2,q2,p3,q3],Bits 10 z)(i:ArgAt w l lp)(j:ArgAt w r rp)(m:GivAt w g gv)(o:ExtAt w 224 c cv)(p:ExtAt w 273 f nv):
  Calls Tryz.prog 196 #[.pointer (some ⟨k,0,none⟩)] w fun e w'=>e=.returned (.int .i64 (nextZ p0 q0 p1 q1 p2 q2 p3 q3 hs (l.map (·.2)) (r.map (·.2)) (g.map (·.2)) uns lr rr))/\Below w.heap.size w w':=by
 have W:=aMv p0 q0 p1 q1 p2 q2 p3 q3 hs (l.map (·.2)) (r.map (·.2)) (g.map (·.2)) c.isSome f.isSome uns mt lr rr pl;unfold nextRun at W
 have a:Tryz.f196.ntmps-1=39:=by kernel_rfl
 refine (aJs (sp:=tabSp tN) (bodies:=bN) (n:=2000) (nt:=39) (fn:=Tryz.f196) (aAj Tryz.func196 rfl rfl) (fun _ _=>aAd aAW) aS2 h rfl d i j m o p a W aAc).mono ?_;rintro e w' ⟨v,rfl,b,d⟩;have b:v=_:=b.2;rw [b];exact ⟨rfl,d⟩
end Ab
end Go.Proofs.YteghhlfmcjmnoaaGreatDoor
