import Derived.Test.YteghhlfmcjmnoaaGreatDoorCDe10
import Derived.Test.YteghhlfmcjmnoaaGreatDoorCDe09
set_option linter.unusedSimpArgs false
set_option linter.unusedVariables false
set_option maxRecDepth 100000
set_option maxHeartbeats 2000000
namespace Go.Proofs.YteghhlfmcjmnoaaGreatDoor
open Go.RowKit
namespace Ab
def upT (t b:Int):Int:=bif decide (Nm.cmp b 0<0) then -t else t
def upB (b:Int):Int:=bif decide (Nm.cmp b 0<0) then -b else b
def nearE (t b m:Int):Bool:=decide (Nm.cmp ((t-m*b).natAbs:Int) b<=0)
def soundZ (c d:Int):Bool:=(Nm.cmp c 0 != 0)&&(Nm.cmp c 0==Nm.cmp d 0)
def ndFlo:List G->List Prop
 | [.ns [_,b]]=>[0<b]
 | _=>[]
def fKNo:List G->Option RG
 | []=>some (.one (.ns [1,0,0,1]))
 | _=>none
theorem KNo_te:TEok Z 107 (teN true fKNo noNd 1 []):=by
 refine walkN (l:=tC7) tC7_ok nobody (fn_of Tryz.func107 rfl rfl) ?_
 intro gs out h
 unfold fKNo at h
 split at h
 ·cases h
  exact ⟨[],1,by kernel_rfl,by decide,fun _ _=>holds_nil⟩
 ·cases h
def fKWi:List G->Option RG
 | [.ns [a,b,c,d],.i .i64 s]=>some (.one (.ns [a*symA s+b*symC s,a*symB s+b*symD s,c*symA s+d*symC s,c*symB s+d*symD s]))
 | _=>none
theorem KWi_te:TEok Z 114 (teN true fKWi noNd 7 [3,0]):=by
 refine walkN (l:=tC7) tC7_ok nobody (fn_of Tryz.func114 rfl rfl) ?_
 intro gs out h
 unfold fKWi at h
 split at h
 ·cases h
  exact ⟨[],7,by kernel_rfl,by decide,fun _ _=>holds_nil⟩
 ·cases h
def fKBe:List G->Option RG
 | [.ns [a,b,c,d],.ns [t]]=>some (.one (.ns [0*a+1*c,0*b+1*d,1*a+-t*c,1*b+-t*d]))
 | _=>none
theorem KBe_te:TEok Z 75 (teN true fKBe noNd 7 [3,3]):=by
 refine walkN (l:=tC7) tC7_ok nobody (fn_of Tryz.func75 rfl rfl) ?_
 intro gs out h
 unfold fKBe at h
 split at h
 ·cases h
  exact ⟨[],7,by kernel_rfl,by decide,fun _ _=>holds_nil⟩
 ·cases h
def fKSo:List G->Option RG
 | [.ns [a,b,c,d]]=>some (.one (.b (soundZ c d)))
 | _=>none
theorem KSo_te:TEok Z 108 (teN true fKSo noNd 0 [3]):=by
 refine walkN (l:=tC7) tC7_ok nobody (fn_of Tryz.func108 rfl rfl) ?_
 intro gs out h
 unfold fKSo at h
 split at h
 ·cases h
  exact ⟨[],0,by kernel_rfl,by decide,fun _ _=>holds_nil⟩
 ·cases h
def fEUp:List G->Option RG
 | [.ns [t,b]]=>some (.one (.ns [upT t b,upB b]))
 | _=>none
theorem EUp_te:TEok Z 145 (teN true fEUp noNd 3 [3]):=by
 refine walkN (l:=tC7) tC7_ok nobody (fn_of Tryz.func145 rfl rfl) ?_
 intro gs out h
 unfold fEUp at h
 split at h
 ·cases h
  exact ⟨[],3,by kernel_rfl,by decide,fun _ _=>holds_nil⟩
 ·cases h
def fETi:List G->Option RG
 | [.ns [t,b],.ns [n]]=>some (.one (.ns [t*n,b]))
 | _=>none
theorem ETi_te:TEok Z 111 (teN true fETi noNd 6 [3,3]):=by
 refine walkN (l:=tC7) tC7_ok nobody (fn_of Tryz.func111 rfl rfl) ?_
 intro gs out h
 unfold fETi at h
 split at h
 ·cases h
  exact ⟨[],6,by kernel_rfl,by decide,fun _ _=>holds_nil⟩
 ·cases h
def fEFl:List G->Option RG
 | [.ns [t,b]]=>some (.one (.ns [t/b]))
 | _=>none
theorem EFl_te:TEok Z 121 (teN true fEFl ndFlo 21 [20]):=by
 refine walkN (l:=tC7) tC7_ok nobody (fn_of Tryz.func121 rfl rfl) ?_
 intro gs out h
 unfold fEFl at h
 split at h
 ·rename_i t b
  cases h
  exact ⟨[0<b],21,by kernel_rfl,by decide,fun hn _=>holds_cons hn.one holds_nil⟩
 ·cases h
def fENe:List G->Option RG
 | [.ns [t,b],.ns [m]]=>some (.one (.b (nearE t b m)))
 | _=>none
theorem ENe_te:TEok Z 113 (teN true fENe noNd 0 [6,30]):=by
 refine walkN (l:=tC7) tC7_ok nobody (fn_of Tryz.func113 rfl rfl) ?_
 intro gs out h
 unfold fENe at h
 split at h
 ·cases h
  exact ⟨[],0,by kernel_rfl,by decide,fun _ _=>holds_nil⟩
 ·cases h
noncomputable def tK0:List (FuncId×TE):=(107,teN true fKNo noNd 1 [])::(114,teN true fKWi noNd 7 [3,0])::(75,teN true fKBe noNd 7 [3,3])::(108,teN true fKSo noNd 0 [3])::(145,teN true fEUp noNd 3 [3])::(111,teN true fETi noNd 6 [3,3])::(121,teN true fEFl ndFlo 21 [20])::(113,teN true fENe noNd 0 [6,30])::tC7
theorem tK0_ok:AllTE Z tK0:=⟨KNo_te,KWi_te,KBe_te,KSo_te,EUp_te,ETi_te,EFl_te,ENe_te,tC7_ok⟩
def midZ (t b s c:Int):Int:=(t*c+s*b+b*c)/(b*c+b*c)
def ndMid:List G->List Prop
 | [.ns [t,b],.ns [s,c]]=>[0<b*c+b*c]
 | _=>[]
def fEMi:List G->Option RG
 | [.ns [t,b],.ns [s,c]]=>some (.one (.ns [midZ t b s c]))
 | _=>none
theorem EMi_te:TEok Z 112 (teN true fEMi ndMid 21 [6,6]):=by
 refine walkN (l:=tK0) tK0_ok nobody (fn_of Tryz.func112 rfl rfl) ?_
 intro gs out h
 unfold fEMi at h
 split at h
 ·rename_i t b s c
  cases h
  exact ⟨[0<b*c+b*c],21,by kernel_rfl,by decide,fun hn _=>holds_cons hn.one holds_nil⟩
 ·cases h
def fKEn:List G->Option RG
 | [.ns [a,b,c,d]]=>some (.tup [.ns [upT a c,upB c],.ns [upT b d,upB d]])
 | _=>none
theorem KEn_te:TEok Z 109 (teN true fKEn noNd 3 [3]):=by
 refine walkN (l:=tK0) tK0_ok nobody (fn_of Tryz.func109 rfl rfl) ?_
 intro gs out h
 unfold fKEn at h
 split at h
 ·cases h
  exact ⟨[],3,by kernel_rfl,by decide,fun _ _=>holds_nil⟩
 ·cases h
noncomputable def tK1:List (FuncId×TE):=(112,teN true fEMi ndMid 21 [6,6])::(109,teN true fKEn noNd 3 [3])::tK0
theorem tK1_ok:AllTE Z tK1:=⟨EMi_te,KEn_te,tK0_ok⟩
theorem sound_pos {c d:Int}(h:soundZ c d=true):0<upB c/\0<upB d:=by
 unfold soundZ at h
 simp only [Bool.and_eq_true,bne_iff_ne,ne_eq,beq_iff_eq] at h
 have key:∀ x:Int,Nm.cmp x 0≠0->0<upB x:=by
  intro x hx
  unfold upB
  rcases Int.lt_trichotomy x 0 with g | g | g
  ·rw [Nm.cmp_lt g];show 0 < -x;omega
  ·exact absurd (Nm.cmp_eq g) hx
  ·rw [Nm.cmp_gt g];exact g
 exact ⟨key c h.1,key d (by rw [<-h.2];exact h.1)⟩
def fKSi:List G->Option RG
 | [.i .i64 s]=>some (.one (.i .i64 (bif decide (s<0) then -1 else 1)))
 | _=>none
theorem KSi_te:TEok Z 128 (teN true fKSi noNd 0 [0]):=by
 refine walkN (l:=tK1) tK1_ok nobody (fn_of Tryz.func128 rfl rfl) ?_
 intro gs out h
 unfold fKSi at h
 split at h
 ·cases h
  exact ⟨[],0,by kernel_rfl,by decide,fun _ _=>holds_nil⟩
 ·cases h
def fKTe:List G->Option RG
 | [.ns [a,b,c,d]]=>some (.tup [.ns [bif !soundZ c d then 0 else upT a c/upB c],.b (bif !soundZ c d then false else (Nm.cmp (upT a c/upB c) (upT b d/upB d)==0))])
 | _=>none
theorem KTe_te:TEok Z 74 (teN true fKTe noNd 21 [3]):=by
 refine walkN (l:=tK1) tK1_ok nobody (fn_of Tryz.func74 rfl rfl) ?_
 intro gs out h
 unfold fKTe at h
 split at h
 ·rename_i a b c d
  cases h
  exact ⟨[(!soundZ c d)=false->0<upB c,(!soundZ c d)=false->0<upB d],21,by kernel_rfl,by decide,fun _ _=>holds_cons (fun h=>(sound_pos (by simpa using h)).1) (holds_cons (fun h=>(sound_pos (by simpa using h)).2) holds_nil)⟩
 ·cases h
noncomputable def tK2:List (FuncId×TE):=(128,teN true fKSi noNd 0 [0])::(74,teN true fKTe noNd 21 [3])::tK1
theorem tK2_ok:AllTE Z tK2:=⟨KSi_te,KTe_te,tK1_ok⟩
def cmpS (a b c d n:Int):Int:=
 bif !soundZ c d then 0 else bif Nm.cmp (upT a c) 0 != 0 then (bif Nm.cmp (upT a c) 0==Nm.cmp (upT b d) 0 then (bif decide (Nm.cmp (upT a c) 0<0) then -1 else 1) else bif nearE (upT a c*2^n.toNat) (upB c) 0 then 0 else 0) else bif nearE (upT a c*2^n.toNat) (upB c) 0 then 0 else 0
def cmpD (a b c d n:Int):Bool:=
 bif !soundZ c d then false else bif Nm.cmp (upT a c) 0 != 0 then (bif Nm.cmp (upT a c) 0==Nm.cmp (upT b d) 0 then true else bif nearE (upT a c*2^n.toNat) (upB c) 0 then nearE (upT b d*2^n.toNat) (upB d) 0 else false) else bif nearE (upT a c*2^n.toNat) (upB c) 0 then nearE (upT b d*2^n.toNat) (upB d) 0 else false
def ndCmp:List G->List Prop
 | [.ns _,.i .i64 n]=>[0<=n/\n<=100000]
 | _=>[]
def fKCo:List G->Option RG
 | [.ns [a,b,c,d],.i .i64 n]=>some (.tup [.i .i64 (cmpS a b c d n),.b (cmpD a b c d n)])
 | _=>none
theorem KCo_te:TEok Z 81 (teN true fKCo ndCmp 0 [3,0]):=by
 refine walkN (l:=tK2) tK2_ok nobody (fn_of Tryz.func81 rfl rfl) ?_
 intro gs out h
 unfold fKCo at h
 split at h
 ·rename_i a b c d n
  cases h
  exact ⟨[(!soundZ c d)=false->(Nm.cmp (upT a c) 0 != 0)=true->(Nm.cmp (upT a c) 0==Nm.cmp (upT b d) 0)=false->Int.natAbs 2<=16/\0<=n/\n<=100000,(!soundZ c d)=false->(Nm.cmp (upT a c) 0 != 0)=false->Int.natAbs 2<=16/\0<=n/\n<=100000],0,by kernel_rfl,by decide,fun hn _=>holds_cons (fun _ _ _=>⟨by decide,hn.one⟩) (holds_cons (fun _ _=>⟨by decide,hn.one⟩) holds_nil)⟩
 ·cases h
noncomputable def tK3:List (FuncId×TE):=(81,teN true fKCo ndCmp 0 [3,0])::tK2
theorem tK3_ok:AllTE Z tK3:=⟨KCo_te,tK2_ok⟩
def decM (a b c d n:Int):Int:=midZ (upT a c*10^n.toNat) (upB c) (upT b d*10^n.toNat) (upB d)
def decE1 (a b c d n:Int):Bool:=nearE (upT a c*10^n.toNat) (upB c) (decM a b c d n)
def decE2 (a b c d n:Int):Bool:=nearE (upT b d*10^n.toNat) (upB d) (decM a b c d n)
theorem mid_pos {c d:Int}(h:soundZ c d=true):0<upB c*upB d+upB c*upB d:=by
 have:=Int.mul_pos (sound_pos h).1 (sound_pos h).2
 omega
def fKDe:List G->Option RG
 | [.ns [a,b,c,d],.i .i64 n]=>some (.tup [.ns [bif !soundZ c d then 0 else decM a b c d n],.b (bif !soundZ c d then false else bif decE1 a b c d n then decE2 a b c d n else false)])
 | _=>none
theorem KDe_te:TEok Z 68 (teN true fKDe ndCmp 21 [3,0]):=by
 refine walkN (l:=tK3) tK3_ok nobody (fn_of Tryz.func68 rfl rfl) ?_
 intro gs out h
 unfold fKDe at h
 split at h
 ·rename_i a b c d n
  cases h
  exact ⟨[(!soundZ c d)=false->Int.natAbs 10<=16/\0<=n/\n<=100000,(!soundZ c d)=false->0<upB c*upB d+upB c*upB d,(!soundZ c d)=false->(decE1 a b c d n==true)=true->Holds [(decE1 a b c d n==true)=true,(decE1 a b c d n==true)=true],(!soundZ c d)=false->decE1 a b c d n=true->(decE1 a b c d n==true)=true],21,by kernel_rfl,by decide,fun hn _=>holds_cons (fun _=>⟨by decide,hn.one⟩) (holds_cons (fun h=>mid_pos (by simpa using h)) (holds_cons (fun _ h=>holds_cons h (holds_cons h holds_nil)) (holds_cons (fun _ h=>by rw [h];rfl) holds_nil)))⟩
 ·cases h
noncomputable def tK:List (FuncId×TE):=(68,teN true fKDe ndCmp 21 [3,0])::tK3
theorem tK_ok:AllTE Z tK:=⟨KDe_te,tK3_ok⟩
end Ab
namespace Pg
open Rf Nw
def sc (d:Int)(v:V):V:=(d*v.1,d*v.2)
def vadd (u v:V):V:=(u.1+v.1,u.2+v.2)
theorem vat_sc (m:Mt)(d:Int)(v:V):vat m (sc d v)=sc d (vat m v):=by
 unfold vat sc Mt.at1 Mt.at2
 ext<;>simp<;>grind
theorem vag_sc (m:Mt)(d:Int)(v:V):vag m (sc d v)=sc d (vag m v):=by
 unfold vag sc Mt.ag1 Mt.ag2
 ext<;>simp<;>grind
theorem vat_add (m:Mt)(u v:V):vat m (vadd u v)=vadd (vat m u) (vat m v):=by
 unfold vat vadd Mt.at1 Mt.at2
 ext<;>simp<;>grind
theorem vag_add (m:Mt)(u v:V):vag m (vadd u v)=vadd (vag m u) (vag m v):=by
 unfold vag vadd Mt.ag1 Mt.ag2
 ext<;>simp<;>grind
theorem sc_sc (d e:Int)(v:V):sc d (sc e v)=sc (d*e) v:=by
 unfold sc
 ext<;>simp<;>grind
theorem sc_one (v:V):sc 1 v=v:=by unfold sc;simp
theorem vag_zero (m:Mt):vag m (0,0)=(0,0):=by unfold vag Mt.ag1 Mt.ag2;simp
theorem vag_mul (m k:Mt)(v:V):vag (m.mul k) v=vag k (vag m v):=by
 unfold vag Mt.ag1 Mt.ag2 Mt.mul
 ext<;>simp<;>grind
theorem vag_one (v:V):vag one v=v:=by unfold vag Mt.ag1 Mt.ag2 one;simp
theorem vat_one (v:V):vat one v=v:=by unfold vat Mt.at1 Mt.at2 one;simp
def rd1 (u v:V)(m:Mt):V:=vadd (sc m.a u) (sc m.c v)
def rd2 (u v:V)(m:Mt):V:=vadd (sc m.b u) (sc m.d v)
def readL:List V->Mt->List V
 | [a,b,c,d],m=>[rd1 a c m,rd1 b d m,rd2 a c m,rd2 b d m]
 | _,_=>[]
def readR:List V->Mt->List V
 | [a,b,c,d],m=>[rd1 a b m,rd2 a b m,rd1 c d m,rd2 c d m]
 | _,_=>[]
theorem rd1_sc (d:Int)(u v:V)(m:Mt):rd1 (sc d u) (sc d v) m=sc d (rd1 u v m):=by
 unfold rd1 sc vadd
 ext<;>simp<;>grind
theorem rd2_sc (d:Int)(u v:V)(m:Mt):rd2 (sc d u) (sc d v) m=sc d (rd2 u v m):=by
 unfold rd2 sc vadd
 ext<;>simp<;>grind
theorem rd1_zero (m:Mt):rd1 (0,0) (0,0) m=(0,0):=by unfold rd1 sc vadd;simp
theorem rd2_zero (m:Mt):rd2 (0,0) (0,0) m=(0,0):=by unfold rd2 sc vadd;simp
theorem rd1_vag (k:Mt)(u v:V)(m:Mt):rd1 (vag k u) (vag k v) m=vag k (rd1 u v m):=by
 unfold rd1
 rw [vag_add,vag_sc,vag_sc]
theorem rd2_vag (k:Mt)(u v:V)(m:Mt):rd2 (vag k u) (vag k v) m=vag k (rd2 u v m):=by
 unfold rd2
 rw [vag_add,vag_sc,vag_sc]
theorem rd1_vat (k:Mt)(u v:V)(m:Mt):rd1 (vat k u) (vat k v) m=vat k (rd1 u v m):=by
 unfold rd1
 rw [vat_add,vat_sc,vat_sc]
theorem rd2_vat (k:Mt)(u v:V)(m:Mt):rd2 (vat k u) (vat k v) m=vat k (rd2 u v m):=by
 unfold rd2
 rw [vat_add,vat_sc,vat_sc]
theorem end1 (h m:Mt):vat (h.mul m) (1,0)=rd1 (vat h (1,0)) (vat h (0,1)) m:=by
 unfold rd1 sc vadd vat Mt.at1 Mt.at2 Mt.mul
 ext<;>simp<;>grind
theorem end2 (h m:Mt):vat (h.mul m) (0,1)=rd2 (vat h (1,0)) (vat h (0,1)) m:=by
 unfold rd2 sc vadd vat Mt.at1 Mt.at2 Mt.mul
 ext<;>simp<;>grind
theorem tensor_l1 (t:List V)(u v y:V)(m:Mt):tensor t (rd1 u v m) y=rd1 (tensor t u y) (tensor t v y) m:=by
 unfold tensor rd1 sc vadd
 split
 ·ext<;>simp<;>grind
 ·ext<;>simp
theorem tensor_l2 (t:List V)(u v y:V)(m:Mt):tensor t (rd2 u v m) y=rd2 (tensor t u y) (tensor t v y) m:=by
 unfold tensor rd2 sc vadd
 split
 ·ext<;>simp<;>grind
 ·ext<;>simp
theorem tensor_r1 (t:List V)(u v y:V)(m:Mt):tensor t y (rd1 u v m)=rd1 (tensor t y u) (tensor t y v) m:=by
 unfold tensor rd1 sc vadd
 split
 ·ext<;>simp<;>grind
 ·ext<;>simp
theorem tensor_r2 (t:List V)(u v y:V)(m:Mt):tensor t y (rd2 u v m)=rd2 (tensor t y u) (tensor t y v) m:=by
 unfold tensor rd2 sc vadd
 split
 ·ext<;>simp<;>grind
 ·ext<;>simp
def msc (g:Int)(m:Mt):Mt:=⟨g*m.a,g*m.b,g*m.c,g*m.d⟩
theorem rd1_msc (g:Int)(u v:V)(m:Mt):rd1 u v (msc g m)=sc g (rd1 u v m):=by
 unfold rd1 sc vadd msc
 ext<;>simp<;>grind
theorem rd2_msc (g:Int)(u v:V)(m:Mt):rd2 u v (msc g m)=sc g (rd2 u v m):=by
 unfold rd2 sc vadd msc
 ext<;>simp<;>grind
def pad:List V->List V
 | []=>[(0,0),(0,0),(0,0),(0,0)]
 | [a]=>[a,(0,0),(0,0),(0,0)]
 | [a,b]=>[a,b,(0,0),(0,0)]
 | [a,b,c]=>[a,b,c,(0,0)]
 | l=>l
structure Cof (l cs:List V):Prop where
 ex:∃ d:Int,0<d/\pad l=cs.map (sc d)
 len:cs.length=4
theorem ups_sc {d:Int}(hd:0<d)(v:V):ups (sc d v)=ups v:=by
 have h:∀ x:Int,decide (0<d*x)=decide (0<x):=fun x=>by
  rw [decide_eq_decide]
  exact ⟨fun h=>Int.pos_of_mul_pos_left h hd,fun h=>Int.mul_pos hd h⟩
 unfold ups sc
 rw [h,h]
where
 Int.pos_of_mul_pos_left {d x:Int} (h:0<d*x) (hd:0<d):0<x:=by
  rcases Int.lt_or_le 0 x with h1 | h1
  ·exact h1
  ·have:=Int.mul_nonpos_of_nonneg_of_nonpos (Int.le_of_lt hd) h1
   omega
theorem downs_sc {d:Int}(hd:0<d)(v:V):downs (sc d v)=downs v:=by
 have h:∀ x:Int,decide (d*x<0)=decide (x<0):=fun x=>by
  rw [decide_eq_decide]
  constructor
  ·intro h
   rcases Int.lt_or_le x 0 with h1 | h1
   ·exact h1
   ·have:=Int.mul_nonneg (Int.le_of_lt hd) h1
    omega
  ·exact fun h=>Int.mul_neg_of_pos_of_neg hd h
 unfold downs sc
 rw [h,h]
theorem fits_sc {d:Int}(hd:0<d)(l:List V):fits (l.map (sc d))=fits l:=by
 unfold fits
 rw [List.any_map,List.any_map]
 congr 1
 ·congr 1;funext v;exact ups_sc hd v
 ·congr 1;funext v;exact downs_sc hd v
theorem fits_pad (l:List V):fits (pad l)=fits l:=by
 unfold pad fits
 split<;>simp [ups,downs]
theorem pad_map {f:V->V}(h0:f (0,0)=(0,0))(l:List V):pad (l.map f)=(pad l).map f:=by
 unfold pad
 match l with
 | []=>simp [h0]
 | [a]=>simp [h0]
 | [a,b]=>simp [h0]
 | [a,b,c]=>simp [h0]
 | a::b::c::d::r=>simp
theorem Cof.fits {l cs:List V}(h:Cof l cs):Nw.fits l=Nw.fits cs:=by
 obtain ⟨d,hd,e⟩:=h.ex
 rw [<-fits_pad,e,fits_sc hd]
theorem Cof.vag {l cs:List V}(h:Cof l cs)(m:Mt):Cof (l.map (Rf.vag m)) (cs.map (Rf.vag m)):=by
 obtain ⟨d,hd,e⟩:=h.ex
 refine ⟨⟨d,hd,?_⟩,by simp [h.len]⟩
 rw [pad_map (vag_zero m),e,List.map_map,List.map_map]
 congr 1
 funext v
 exact vag_sc m d v
theorem Cof.can {l cs:List V}(h:Cof l cs)(s:Int):Rf.can l s=Nw.fits (cs.map (Rf.vag (Mt.sym s))):=(h.vag _).fits
theorem Cof.over {l cs cs':List V}{t:Int}(h:Cof l cs)(ht:0<t)(e:cs=cs'.map (sc t)):Cof l cs':=by
 obtain ⟨d,hd,e1⟩:=h.ex
 refine ⟨⟨d*t,Int.mul_pos hd ht,?_⟩,by have:=h.len;rw [e] at this;simpa using this⟩
 rw [e1,e,List.map_map]
 congr 1
 funext v
 exact sc_sc d t v
theorem Cof.times {l cs:List V}{t:Int}(h:Cof l cs)(ht:0<t):Cof (l.map (sc t)) cs:=by
 obtain ⟨d,hd,e⟩:=h.ex
 refine ⟨⟨t*d,Int.mul_pos ht hd,?_⟩,h.len⟩
 rw [pad_map (by unfold sc;simp),e,List.map_map]
 congr 1
 funext v
 exact sc_sc t d v
theorem four {cs:List V}(h:cs.length=4):∃ a b c d,cs=[a,b,c,d]:=by
 match cs,h with
 | [a,b,c,d],_=>exact ⟨a,b,c,d,rfl⟩
theorem Cof.of4 {a b c d x y z t:V}(h:Cof [a,b,c,d] [x,y,z,t]):∃ e:Int,0<e/\a=sc e x/\b=sc e y/\c=sc e z/\d=sc e t:=by
 obtain ⟨e,he,h1⟩:=h.ex
 simp [pad] at h1
 exact ⟨e,he,h1⟩
theorem Cof.mk4 {a b c d x y z t:V}{e:Int}(he:0<e)(h1:a=sc e x)(h2:b=sc e y)(h3:c=sc e z)(h4:d=sc e t):Cof [a,b,c,d] [x,y,z,t]:=⟨⟨e,he,by simp [pad,h1,h2,h3,h4]⟩,rfl⟩
theorem Cof.of2 {a b x y z t:V}(h:Cof [a,b] [x,y,z,t]):∃ e:Int,0<e/\a=sc e x/\b=sc e y/\(0,0)=sc e z/\(0,0)=sc e t:=by
 obtain ⟨e,he,h1⟩:=h.ex
 simp [pad] at h1
 exact ⟨e,he,h1⟩
theorem Cof.mk2 {a b x y z t:V}{e:Int}(he:0<e)(h1:a=sc e x)(h2:b=sc e y)(h3:(0,0)=sc e z)(h4:(0,0)=sc e t):Cof [a,b] [x,y,z,t]:=⟨⟨e,he,by simp only [pad,List.map_cons,List.map_nil,<-h1,<-h2,<-h3,<-h4]⟩,rfl⟩
theorem Cof.readL {a b c d:V}{cs:List V}(m:Mt)(h:Cof [a,b,c,d] cs):Cof [rd1 a c m,rd1 b d m,rd2 a c m,rd2 b d m] (Pg.readL cs m):=by
 obtain ⟨x,y,z,t,rfl⟩:=four h.len
 obtain ⟨e,he,rfl,rfl,rfl,rfl⟩:=h.of4
 exact .mk4 he (rd1_sc ..) (rd1_sc ..) (rd2_sc ..) (rd2_sc ..)
theorem Cof.readR {a b c d:V}{cs:List V}(m:Mt)(h:Cof [a,b,c,d] cs):Cof [rd1 a b m,rd2 a b m,rd1 c d m,rd2 c d m] (Pg.readR cs m):=by
 obtain ⟨x,y,z,t,rfl⟩:=four h.len
 obtain ⟨e,he,rfl,rfl,rfl,rfl⟩:=h.of4
 exact .mk4 he (rd1_sc ..) (rd2_sc ..) (rd1_sc ..) (rd2_sc ..)
theorem Cof.readR2 {a b:V}{cs:List V}(m:Mt)(h:Cof [a,b] cs):Cof [rd1 a b m,rd2 a b m] (Pg.readR cs m):=by
 obtain ⟨x,y,z,t,rfl⟩:=four h.len
 obtain ⟨e,he,rfl,rfl,h3,h4⟩:=h.of2
 refine .mk2 he (rd1_sc ..) (rd2_sc ..) ?_ ?_
 ·rw [<-rd1_sc,<-h3,<-h4,rd1_zero]
 ·rw [<-rd2_sc,<-h3,<-h4,rd2_zero]
theorem Cof.readRm {a b:V}{cs:List V}(m:Mt){g:Int}(hg:0<g)(h:Cof [a,b] cs):Cof [rd1 a b (msc g m),rd2 a b (msc g m)] (Pg.readR cs m):=by
 have:=(h.readR2 m).times hg
 simpa [rd1_msc,rd2_msc] using this
end Pg
namespace Pg
open Rf Nw
def sumC (v:V):Int:=if v.1=0/\v.2=0 then 1 else v.1+v.2
def scaled (u v o r:V):Int:=(((u.1*v.2-u.2*v.1)*(sumC o*sumC r)).natAbs:Int)
def wmax (a b:Int):Int:=if a<b then b else a
def widths (cs:List V)(times:Int):Int:=
 match cs with
 | [a,b,c,d]=>Nm.cmp (wmax (scaled a c b d) (scaled b d a c)*times) (wmax (scaled a b c d) (scaled c d a b))
 | _=>0
def Frc (S:Int)(f:V)(x:Int):Prop:=0<f.2/\0<=f.1/\f.1*S=2*x*f.2
theorem mul_le_iff {k a b:Int}(hk:0<k):k*a<=k*b↔a<=b:=⟨fun h=>Int.le_of_mul_le_mul_left h hk,fun h=>Int.mul_le_mul_of_nonneg_left h (Int.le_of_lt hk)⟩
theorem Frc.greater {S:Int}{f g:V}{x y:Int}(hS:0<S)(hf:Frc S f x)(hg:Frc S g y):Frc S (Rf.greater f g) (wmax x y):=by
 obtain ⟨f1,f2,f3⟩:=hf
 obtain ⟨g1,g2,g3⟩:=hg
 have key:g.1*f.2<=f.1*g.2↔y<=x:=by
  have e1:S*(g.1*f.2)=2*(f.2*g.2)*y:=by
   calc S*(g.1*f.2)=(g.1*S)*f.2:=by grind
    _=2*(f.2*g.2)*y:=by rw [g3];grind
  have e2:S*(f.1*g.2)=2*(f.2*g.2)*x:=by
   calc S*(f.1*g.2)=(f.1*S)*g.2:=by grind
    _=2*(f.2*g.2)*x:=by rw [f3];grind
  have hp:0<2*(f.2*g.2):=Int.mul_pos (by decide) (Int.mul_pos f1 g1)
  rw [<-mul_le_iff hS,e1,e2,mul_le_iff hp]
 unfold Rf.greater wmax
 by_cases h:y<=x
 ·rw [if_pos (key.2 h),if_neg (by omega)]
  exact ⟨f1,f2,f3⟩
 ·rw [if_neg (fun e=>h (key.1 e)),if_pos (by omega)]
  exact ⟨g1,g2,g3⟩
theorem cmp_mul {k a b:Int}(hk:0<k):Nm.cmp (k*a) (k*b)=Nm.cmp a b:=by
 have h1:k*a<k*b↔a<b:=⟨fun h=>Int.lt_of_mul_lt_mul_left h (Int.le_of_lt hk),fun h=>Int.mul_lt_mul_of_pos_left h hk⟩
 have h2:k*a=k*b↔a=b:=⟨fun h=>Int.eq_of_mul_eq_mul_left (by omega) h,fun h=>by rw [h]⟩
 unfold Nm.cmp
 simp only [h1,h2]
theorem Frc.cmp {S:Int}{f g:V}{x y far:Int}(hS:0<S)(hf:Frc S f x)(hg:Frc S g y):Nm.cmp (far*f.1*g.2) (g.1*f.2)=Nm.cmp (x*far) y:=by
 obtain ⟨f1,f2,f3⟩:=hf
 obtain ⟨g1,g2,g3⟩:=hg
 have hp:0<2*(f.2*g.2):=Int.mul_pos (by decide) (Int.mul_pos f1 g1)
 rw [<-cmp_mul hS,<-cmp_mul (a:=x*far) hp]
 congr 1
 ·calc S*(far*f.1*g.2)=far*(f.1*S)*g.2:=by grind
   _=2*(f.2*g.2)*(x*far):=by rw [f3];grind
 ·calc S*(g.1*f.2)=(g.1*S)*f.2:=by grind
   _=2*(f.2*g.2)*y:=by rw [g3];grind
def One1 (v:V):Prop:=(0<=v.1/\0<=v.2)\/(v.1<=0/\v.2<=0)
theorem fits_one {l:List V}(h:fits l=true):∀ v∈l,One1 v:=by
 unfold fits at h
 intro v hv
 unfold One1
 cases hu:l.any ups with
 | false=>
  have:=List.any_eq_false.1 hu v hv
  simp [ups] at this
  omega
 | true=>
  cases hd:l.any downs with
  | true=>rw [hu,hd] at h;cases h
  | false=>
   have:=List.any_eq_false.1 hd v hv
   simp [downs] at this
   omega
theorem sum_ne {v:V}(h:One1 v):sumC v≠0:=by
 unfold sumC One1 at*
 split<;>omega
theorem sum_eq {v:V}(h:One1 v):(v.1+v.2=0↔v.1=0/\v.2=0):=by
 unfold One1 at h
 omega
theorem apart_frc {u v o r:V}{e S:Int}(he:0<e)(hu:One1 u)(hv:One1 v)(ho:One1 o)(hr:One1 r)(hS:S=((sumC u).natAbs:Int)*((sumC v).natAbs:Int)*(((sumC o).natAbs:Int)*((sumC r).natAbs:Int))):Frc S (apart (sc e u) (sc e v)) (scaled u v o r):=by
 have h1:(sc e u).1+(sc e u).2=e*(u.1+u.2):=by unfold sc;simp;grind
 have h2:(sc e v).1+(sc e v).2=e*(v.1+v.2):=by unfold sc;simp;grind
 have hz:∀ x:Int,e*x=0↔x=0:=fun x=>⟨fun h=>by rcases Int.mul_eq_zero.1 h with h | h;omega;exact h,fun h=>by rw [h];simp⟩
 unfold apart
 rw [h1,h2]
 by_cases hc:u.1+u.2=0\/v.1+v.2=0
 ·rw [if_pos (by rw [hz,hz];exact hc)]
  have hx:scaled u v o r=0:=by
   have:u.1*v.2-u.2*v.1=0:=by
    rcases hc with h | h
    ·obtain ⟨a,b⟩:=(sum_eq hu).1 h
     rw [a,b];simp
    ·obtain ⟨a,b⟩:=(sum_eq hv).1 h
     rw [a,b];simp
   unfold scaled
   rw [this];simp
  refine ⟨by decide,by decide,?_⟩
  rw [hx];simp
 ·rw [if_neg (by rw [hz,hz];exact hc)]
  have cu:u.1+u.2≠0:=fun h=>hc (Or.inl h)
  have cv:v.1+v.2≠0:=fun h=>hc (Or.inr h)
  have su:sumC u=u.1+u.2:=by unfold sumC;rw [if_neg (fun h=>cu ((sum_eq hu).2 h))]
  have sv:sumC v=v.1+v.2:=by unfold sumC;rw [if_neg (fun h=>cv ((sum_eq hv).2 h))]
  have n0:e*(u.1+u.2)*(e*(v.1+v.2))≠0:=Int.mul_ne_zero (fun h=>cu ((hz _).1 h)) (fun h=>cv ((hz _).1 h))
  have hcr:((sc e u).1-(sc e u).2)*(e*(v.1+v.2))-((sc e v).1-(sc e v).2)*(e*(u.1+u.2))=2*(e*e)*(u.1*v.2-u.2*v.1):=by unfold sc;simp;grind
  refine ⟨by simp only;omega,by simp only;omega,?_⟩
  simp only
  rw [hcr,hS,su,sv]
  unfold scaled
  simp only [Int.natAbs_mul,Int.natCast_mul]
  have ea:((e.natAbs:Nat):Int)=e:=by omega
  rw [ea]
  generalize ((u.1+u.2).natAbs:Int)=A
  generalize ((v.1+v.2).natAbs:Int)=B
  generalize ((sumC o).natAbs:Int)=C
  generalize ((sumC r).natAbs:Int)=D
  generalize ((u.1*v.2-u.2*v.1).natAbs:Int)=X
  have e2:(((2:Int).natAbs:Nat):Int)=2:=rfl
  rw [e2]
  grind
theorem Cof.wider {l cs:List V}(h:Cof l cs)(h4:l.length=4)(hf:Nw.fits l=true)(far:Int):Rf.wider far l=widths cs far:=by
 obtain ⟨x,y,z,t,rfl⟩:=four h.len
 obtain ⟨a,b,c,d,rfl⟩:=four h4
 rw [h.fits] at hf
 obtain ⟨e,he,rfl,rfl,rfl,rfl⟩:=h.of4
 have o1:=fits_one hf x (by simp)
 have o2:=fits_one hf y (by simp)
 have o3:=fits_one hf z (by simp)
 have o4:=fits_one hf t (by simp)
 have p1:=Int.natAbs_pos.2 (sum_ne o1)
 have p2:=Int.natAbs_pos.2 (sum_ne o2)
 have p3:=Int.natAbs_pos.2 (sum_ne o3)
 have p4:=Int.natAbs_pos.2 (sum_ne o4)
 have hS:0<((sumC x).natAbs:Int)*((sumC y).natAbs:Int)*(((sumC z).natAbs:Int)*((sumC t).natAbs:Int)):=Int.mul_pos (Int.mul_pos (by omega) (by omega)) (Int.mul_pos (by omega) (by omega))
 have f1:=apart_frc (S:=((sumC x).natAbs:Int)*((sumC y).natAbs:Int)*(((sumC z).natAbs:Int)*((sumC t).natAbs:Int))) he o1 o3 o2 o4 (by grind)
 have f2:=apart_frc (S:=((sumC x).natAbs:Int)*((sumC y).natAbs:Int)*(((sumC z).natAbs:Int)*((sumC t).natAbs:Int))) he o2 o4 o1 o3 (by grind)
 have f3:=apart_frc (S:=((sumC x).natAbs:Int)*((sumC y).natAbs:Int)*(((sumC z).natAbs:Int)*((sumC t).natAbs:Int))) he o1 o2 o3 o4 (by grind)
 have f4:=apart_frc (S:=((sumC x).natAbs:Int)*((sumC y).natAbs:Int)*(((sumC z).natAbs:Int)*((sumC t).natAbs:Int))) he o3 o4 o1 o2 (by grind)
 have g1:=Frc.greater hS f1 f2
 have g2:=Frc.greater hS f3 f4
 unfold Rf.wider widths
 simp only
 exact Frc.cmp hS g1 g2
def enough (op:Rf.Op)(hi lo:V):Bool:=
 let u:=hi.1*lo.2
 let l:=lo.1*hi.2
 if op=.sqrt then decide (u<=l+l)
 else decide ((u-l)*4<=(if op=.ln1p then hi.2*lo.2+l else if op=.atan then hi.2*lo.2+hi.1*lo.1 else hi.2*lo.2))
theorem known_sc {op:Rf.Op}(hop:op=.sqrt\/op=.exp\/op=.ln1p\/op=.atan){e:Int}(he:0<e)(hi lo:V):known op (sc e lo) (sc e hi)=enough op hi lo:=by
 have hee:0<e*e:=Int.mul_pos he he
 have key:∀ {a b x y:Int},a=e*e*x->b=e*e*y->decide (a<=b)=decide (x<=y):=by
  intro a b x y h1 h2
  rw [decide_eq_decide,h1,h2,mul_le_iff hee]
 rcases hop with rfl | rfl | rfl | rfl<;>simp only [known,enough,reduceCtorEq,if_true,if_false]<;>apply key<;>simp only [sc]<;>grind
end Pg
namespace Pg
open Rf Nw
structure HC (n:Nd):Prop where
 len:n.had.length=n.out.length+1
 fst:n.had[0]?=some one
 lst:n.had[n.out.length]?=some n.told
 step:∀ (r:Nat) (c:Int) (m:Mt),n.out[r]?=some c->n.had[r]?=some m->n.had[r+1]?=some (m.mul (Mt.sym c))
theorem HC.fresh (pos:Bool)(t:List V)(args:List Nat):HC (fresh pos t args):=⟨rfl,rfl,rfl,fun r c m h=>by simp [Rf.fresh] at h⟩
theorem HC.of {n n':Nd}(h:HC n)(h1:n'.out=n.out)(h2:n'.had=n.had)(h3:n'.told=n.told):HC n':=⟨by rw [h1,h2];exact h.len,by rw [h2];exact h.fst,by rw [h1,h2,h3];exact h.lst,by rw [h1,h2];exact h.step⟩
theorem HC.give {n:Nd}(h:HC n)(c:Int):HC {n with out:=n.out++[c],told:=n.told.mul (Mt.sym c),had:=n.had++[n.told.mul (Mt.sym c)]}:=by
 refine ⟨by simp [h.len],?_,?_,?_⟩
 ·simp only
  rw [List.getElem?_append_left (by rw [h.len];omega)]
  exact h.fst
 ·simp only
  rw [List.getElem?_append_right (by simp [h.len])]
  simp [h.len]
 ·intro r d m h1 h2
  simp only at h1 h2 ⊢
  by_cases hr:r<n.out.length
  ·rw [List.getElem?_append_left hr] at h1
   rw [List.getElem?_append_left (by rw [h.len];omega)] at h2 ⊢
   exact h.step r d m h1 h2
  ·have hr2:r=n.out.length:=by
    have:=(List.getElem?_eq_some_iff.1 h1).1
    simp at this
    omega
   subst hr2
   rw [List.getElem?_append_right (Nat.le_refl _)] at h1
   simp at h1
   rw [List.getElem?_append_left (by rw [h.len];omega),h.lst] at h2
   cases h2
   subst h1
   rw [List.getElem?_append_right (by rw [h.len];omega)]
   simp [h.len]
structure Go (ns ns':List Nd):Prop where
 len:ns.length<=ns'.length
 at':∀ (i:Nat) (n:Nd),ns[i]?=some n->∃ n',ns'[i]?=some n'/\n'.pos=n.pos/\(∀ (r:Nat) (m:Mt),n.had[r]?=some m->n'.had[r]?=some m)/\(∀ (r:Nat) (c:Int),n.out[r]?=some c->n'.out[r]?=some c)
theorem Go.refl (ns:List Nd):Go ns ns:=⟨Nat.le_refl _,fun i n h=>⟨n,h,rfl,fun _ _ h=>h,fun _ _ h=>h⟩⟩
theorem Go.trans {a b c:List Nd}(h:Go a b)(h':Go b c):Go a c:=⟨Nat.le_trans h.len h'.len,fun i n hn=>by
 obtain ⟨n1,h1,h2,h3,h4⟩:=h.at' i n hn
 obtain ⟨n2,h5,h6,h7,h8⟩:=h'.at' i n1 h1
 exact ⟨n2,h5,h6.trans h2,fun r m e=>h7 r m (h3 r m e),fun r m e=>h8 r m (h4 r m e)⟩⟩
theorem Go.more (ns ms:List Nd):Go ns (ns++ms):=⟨by simp,fun i n h=>⟨n,by rw [List.getElem?_append_left (List.getElem?_eq_some_iff.1 h).1];exact h,rfl,fun _ _ h=>h,fun _ _ h=>h⟩⟩
theorem Go.set {ns:List Nd}{i:Nat}{n n':Nd}(h:ns[i]?=some n)(hp:n'.pos=n.pos)(hh:∀ (r:Nat) (m:Mt),n.had[r]?=some m->n'.had[r]?=some m)(ho:∀ (r:Nat) (c:Int),n.out[r]?=some c->n'.out[r]?=some c):Go ns (ns.set i n'):=by
 refine ⟨by simp,fun k m hm=>?_⟩
 by_cases hk:i=k
 ·subst hk
  rw [h] at hm
  cases hm
  exact ⟨n',by rw [List.getElem?_set_self (List.getElem?_eq_some_iff.1 h).1],hp,hh,ho⟩
 ·exact ⟨m,by rw [List.getElem?_set_ne hk];exact hm,rfl,fun _ _ h=>h,fun _ _ h=>h⟩
theorem Go.ends {ns ns':List Nd}(h:Go ns ns'){n:Nd}{sd:Nat}{e:V×V}(he:ends ns n sd=some e):ends ns' n sd=some e:=by
 unfold Rf.ends at*
 obtain ⟨a,h1,h2⟩:=Option.bind_eq_some_iff.1 he
 obtain ⟨x,h3,h4⟩:=Option.bind_eq_some_iff.1 h2
 obtain ⟨r,h5,h6⟩:=Option.bind_eq_some_iff.1 h4
 obtain ⟨m,h7,rfl⟩:=Option.map_eq_some_iff.1 h6
 obtain ⟨x',g1,_,g2,_⟩:=h.at' a x h3
 rw [h1]
 simp only [Option.bind_some,g1,h5,g2 r m h7,Option.map_some]
theorem Go.bare {ns ns':List Nd}(h:Go ns ns'){n:Nd}{l:List V}(hl:bare ns n=some l):bare ns' n=some l:=by
 unfold Rf.bare at*
 split at hl
 ·exact hl
 ·exact hl
 ·obtain ⟨e,h1,rfl⟩:=Option.map_eq_some_iff.1 hl
  rw [h.ends h1];rfl
 ·obtain ⟨e,h1,h2⟩:=Option.bind_eq_some_iff.1 hl
  rw [h.ends h1]
  simp only [Option.bind_some]
  obtain ⟨r,h3,rfl⟩:=Option.map_eq_some_iff.1 h2
  by_cases h5:n.args.length=2
  ·rw [if_pos h5] at h3 ⊢
   rw [h.ends h3];rfl
  ·rw [if_neg h5] at h3 ⊢
   rw [h3];rfl
 ·cases hl
theorem Go.corners {ns ns':List Nd}(h:Go ns ns'){n:Nd}{l:List V}(hl:corners ns n=some l):corners ns' n=some l:=by
 unfold Rf.corners at*
 obtain ⟨b,h1,rfl⟩:=Option.map_eq_some_iff.1 hl
 rw [h.bare h1];rfl
theorem Go.waits {ns ns':List Nd}(h:Go ns ns'):∀ (ar rd:List Nat),(∀ a∈ar,a<ns.length)->waits ns' ar rd=waits ns ar rd
 | [],_,_=>by simp [Rf.waits]
 | _::_,[],_=>by simp [Rf.waits]
 | a::ar,r::rs,hl=>by
  unfold Rf.waits
  have ha:=hl a (by simp)
  obtain ⟨x',g1,g2,_⟩:=h.at' a ns[a] (List.getElem?_eq_getElem ha)
  rw [g1,List.getElem?_eq_getElem ha,h.waits ar rs (fun b hb=>hl b (by simp [hb]))]
  simp only [g2]
theorem corners_give {ns:List Nd}{n:Nd}{l:List V}(hl:corners ns n=some l)(c:Int)(o:List Int)(hd:List Mt):corners ns {n with out:=o,told:=n.told.mul (Mt.sym c),had:=hd}=some (l.map (vag (Mt.sym c))):=by
 unfold Rf.corners at*
 obtain ⟨b,h1,rfl⟩:=Option.map_eq_some_iff.1 hl
 have:bare ns {n with out:=o,told:=n.told.mul (Mt.sym c),had:=hd}=some b:=h1
 rw [this]
 simp only [Option.map_some,List.map_map]
 congr 2
 funext v
 exact vag_mul _ _ v
theorem bump_self:∀ (l:List Nat) (k r:Nat),l[k]?=some r->(bump l k)[k]?=some (r+1)
 | [],_,_,h=>by simp at h
 | x::l,0,r,h=>by simp at h;subst h;simp [bump]
 | x::l,k+1,r,h=>by simp [bump];exact bump_self l k r (by simpa using h)
theorem bare_two {ns:List Nd}{n:Nd}{u v:V}(ht:n.t=[u,v]):bare ns n=(ends ns n 0).map fun e=>[vat ⟨u.1,v.1,u.2,v.2⟩ e.1,vat ⟨u.1,v.1,u.2,v.2⟩ e.2]:=by
 unfold Rf.bare
 rw [ht]
theorem bare_four {ns:List Nd}{n:Nd}{u v y z:V}(ht:n.t=[u,v,y,z]):bare ns n=(ends ns n 0).bind fun e=>(if n.args.length=2 then ends ns n 1 else some ((1,0),(0,1))).map fun r=>[tensor [u,v,y,z] e.1 r.1,tensor [u,v,y,z] e.1 r.2,tensor [u,v,y,z] e.2 r.1,tensor [u,v,y,z] e.2 r.2]:=by
 unfold Rf.bare
 rw [ht]
theorem bare_nil {ns:List Nd}{n:Nd}(ht:n.t=[]):bare ns n=some [vat n.part (1,0),vat n.part (0,1)]:=by
 unfold Rf.bare
 rw [ht]
theorem ends_read {ns:List Nd}{n:Nd}{sd a r:Nat}{x:Nd}{c:Int}{e:V×V}(he:ends ns n sd=some e)(ha:n.args[sd]?=some a)(hx:ns[a]?=some x)(hr:n.read[sd]?=some r)(hc:x.out[r]?=some c)(hx2:HC x):
  ends ns {n with read:=bump n.read sd} sd=some (rd1 e.1 e.2 (Mt.sym c),rd2 e.1 e.2 (Mt.sym c)):=by
 unfold Rf.ends at*
 rw [ha] at he ⊢
 simp only [Option.bind_some,hx,hr] at he ⊢
 obtain ⟨m,h1,rfl⟩:=Option.map_eq_some_iff.1 he
 have hb:(bump n.read sd)[sd]?=some (r+1):=bump_self n.read sd r hr
 rw [hb]
 simp only [Option.bind_some,hx2.step r c m hc h1,Option.map_some]
 rw [end1,end2]
theorem bump_ne:∀ (l:List Nat) (k j:Nat),j≠k->(bump l k)[j]?=l[j]?
 | [],_,_,_=>by simp [bump]
 | x::l,0,0,h=>absurd rfl h
 | x::l,0,j+1,_=>by simp [bump]
 | x::l,k+1,0,_=>by simp [bump]
 | x::l,k+1,j+1,h=>by simp [bump];exact bump_ne l k j (by omega)
theorem ends_other {ns:List Nd}{n:Nd}{sd k:Nat}(h:sd≠k):ends ns {n with read:=bump n.read k} sd=ends ns n sd:=by
 unfold Rf.ends
 rw [bump_ne _ _ _ h]
theorem corners_una {ns:List Nd}{n:Nd}{u v:V}{l:List V}(ht:n.t=[u,v])(hl:corners ns n=some l){a r:Nat}{x:Nd}{c:Int}(ha:n.args[0]?=some a)(hx:ns[a]?=some x)(hr:n.read[0]?=some r)(hc:x.out[r]?=some c)(hx2:HC x):
  ∃ p q,l=[p,q]/\corners ns {n with read:=bump n.read 0}=some [rd1 p q (Mt.sym c),rd2 p q (Mt.sym c)]:=by
 unfold Rf.corners at*
 obtain ⟨b,h1,rfl⟩:=Option.map_eq_some_iff.1 hl
 rw [bare_two ht] at h1
 obtain ⟨e,h2,rfl⟩:=Option.map_eq_some_iff.1 h1
 refine ⟨_,_,rfl,?_⟩
 rw [bare_two (n:={n with read:=bump n.read 0}) ht,ends_read h2 ha hx hr hc hx2]
 simp only [Option.map_some,List.map_cons,List.map_nil]
 rw [rd1_vag,rd2_vag,rd1_vat,rd2_vat]
theorem corners_left {ns:List Nd}{n:Nd}{u v y z:V}{l:List V}(ht:n.t=[u,v,y,z])(hl:corners ns n=some l){a r:Nat}{x:Nd}{c:Int}(ha:n.args[0]?=some a)(hx:ns[a]?=some x)(hr:n.read[0]?=some r)(hc:x.out[r]?=some c)(hx2:HC x):
  ∃ p q s t,l=[p,q,s,t]/\corners ns {n with read:=bump n.read 0}=some [rd1 p s (Mt.sym c),rd1 q t (Mt.sym c),rd2 p s (Mt.sym c),rd2 q t (Mt.sym c)]:=by
 unfold Rf.corners at*
 obtain ⟨b,h1,rfl⟩:=Option.map_eq_some_iff.1 hl
 rw [bare_four ht] at h1
 obtain ⟨e,h2,h3⟩:=Option.bind_eq_some_iff.1 h1
 obtain ⟨g,h4,rfl⟩:=Option.map_eq_some_iff.1 h3
 refine ⟨_,_,_,_,rfl,?_⟩
 rw [bare_four (n:={n with read:=bump n.read 0}) ht,ends_read h2 ha hx hr hc hx2,ends_other (by decide)]
 simp only [Option.bind_some]
 rw [h4]
 simp only [Option.map_some,List.map_cons,List.map_nil]
 rw [tensor_l1,tensor_l1,tensor_l2,tensor_l2,rd1_vag,rd1_vag,rd2_vag,rd2_vag]
theorem corners_right {ns:List Nd}{n:Nd}{u v y z:V}{l:List V}(ht:n.t=[u,v,y,z])(h2a:n.args.length=2)(hl:corners ns n=some l){a r:Nat}{x:Nd}{c:Int}(ha:n.args[1]?=some a)(hx:ns[a]?=some x)(hr:n.read[1]?=some r)(hc:x.out[r]?=some c)(hx2:HC x):
  ∃ p q s t,l=[p,q,s,t]/\corners ns {n with read:=bump n.read 1}=some [rd1 p q (Mt.sym c),rd2 p q (Mt.sym c),rd1 s t (Mt.sym c),rd2 s t (Mt.sym c)]:=by
 unfold Rf.corners at*
 obtain ⟨b,h1,rfl⟩:=Option.map_eq_some_iff.1 hl
 rw [bare_four ht,if_pos h2a] at h1
 obtain ⟨e,h2,h3⟩:=Option.bind_eq_some_iff.1 h1
 obtain ⟨g,h4,rfl⟩:=Option.map_eq_some_iff.1 h3
 refine ⟨_,_,_,_,rfl,?_⟩
 rw [bare_four (n:={n with read:=bump n.read 1}) ht,if_pos h2a,ends_other (by decide),h2]
 simp only [Option.bind_some]
 rw [ends_read h4 ha hx hr hc hx2]
 simp only [Option.map_some,List.map_cons,List.map_nil]
 rw [tensor_r1,tensor_r1,tensor_r2,tensor_r2,rd1_vag,rd1_vag,rd2_vag,rd2_vag]
theorem corners_wide {ns:List Nd}{n:Nd}{u v y z:V}{l:List V}(ht:n.t=[u,v,y,z]){a b:Nat}(ha:n.args=[a]){r:Nat}(hr:n.read=[r])(hl:corners ns n=some l){x:Nd}(hx:ns[b]?=some x)(h0:x.had[0]?=some one):corners ns {n with args:=n.args++[b],read:=n.read++[0]}=some l:=by
 unfold Rf.corners at*
 obtain ⟨bb,h1,rfl⟩:=Option.map_eq_some_iff.1 hl
 rw [bare_four ht,if_neg (by rw [ha];simp)] at h1
 obtain ⟨e,h2,h3⟩:=Option.bind_eq_some_iff.1 h1
 have e1:ends ns {n with args:=n.args++[b],read:=n.read++[0]} 0=some e:=by
  unfold Rf.ends at*
  simp only [ha,hr] at h2 ⊢
  simpa using h2
 have e2:ends ns {n with args:=n.args++[b],read:=n.read++[0]} 1=some ((1,0),(0,1)):=by
  unfold Rf.ends
  simp only [ha,hr]
  simp [hx,h0,vat_one]
 rw [bare_four (n:={n with args:=n.args++[b],read:=n.read++[0]}) ht,if_pos (by simp [ha]),e1]
 simp only [Option.bind_some]
 rw [e2,h3]
 rfl
theorem corners_part {ns:List Nd}{n:Nd}{l:List V}(ht:n.t=[])(hl:corners ns n=some l)(m:Mt)(k:Nat):∃ p q,l=[p,q]/\corners ns {n with part:=n.part.mul m,k:=k}=some [rd1 p q m,rd2 p q m]:=by
 unfold Rf.corners at*
 rw [bare_nil ht] at hl
 simp only [Option.map_some,Option.some.injEq] at hl
 subst hl
 refine ⟨_,_,rfl,?_⟩
 rw [bare_nil (n:={n with part:=n.part.mul m,k:=k}) ht]
 simp only [Option.map_some,List.map_cons,List.map_nil]
 rw [end1,end2,rd1_vag,rd2_vag]
end Pg
open Go.RowKit
namespace Ab
theorem few_inv {t z:Int}{S:List Int}(h:∀ y∈S,y=0\/(0<=t/\t<=(Nm.tz y:Int))):∀ y∈z::S,y=0\/(0<=fewer t z/\fewer t z<=(Nm.tz y:Int)):=by
 intro y hy
 have key:fewer t z=(if z=0 then t else if t<0\/(Nm.tz z:Int)<t then (Nm.tz z:Int) else t):=by
  unfold fewer
  by_cases hz:z=0
  ·rw [Nm.cmp_eq hz,if_pos hz];rfl
  ·have:(Nm.cmp z 0==0)=false:=by
    rw [beq_eq_false_iff_ne]
    rcases Int.lt_or_gt_of_ne hz with g | g
    ·rw [Nm.cmp_lt g];decide
    ·rw [Nm.cmp_gt g];decide
   rw [this,if_neg hz,cond_false]
   by_cases h1:t<0
   ·rw [decide_eq_true h1,if_pos (Or.inl h1)];rfl
   ·rw [decide_eq_false h1,cond_false]
    by_cases h2:(Nm.tz z:Int)<t
    ·rw [decide_eq_true h2,if_pos (Or.inr h2)];rfl
    ·rw [decide_eq_false h2,if_neg (by omega)];rfl
 rw [key]
 simp only [List.mem_cons] at hy
 rcases hy with rfl | hy
 ·by_cases hz:y=0
  ·exact Or.inl hz
  ·right
   rw [if_neg hz]
   split<;>omega
 ·rcases h y hy with h1 | ⟨h1,h2⟩
  ·exact Or.inl h1
  ·right
   split
   ·exact ⟨h1,h2⟩
   ·split<;>omega
theorem half_exact {z:Int}{n:Nat}(h:(2:Int)^n ∣ z):z=2^n*Nm.half z n:=by
 have hp:(0:Int)<2^n:=Nm.pow_pos' (by decide) n
 have h':(2:Int)^n ∣ (z.natAbs:Int):=Int.dvd_natAbs.2 h
 have e:2^n*((z.natAbs:Int)/2^n)=z.natAbs:=Int.mul_ediv_cancel' h'
 unfold Nm.half
 split
 ·rw [Int.mul_neg,e];omega
 ·rw [e];omega
theorem hv_exact {t z:Int}(h:z=0\/(0<=t/\t<=(Nm.tz z:Int))):z=(if t<1 then 1 else 2^t.toNat)*hv t z:=by
 unfold hv
 by_cases h1:t<1
 ·rw [if_pos h1,decide_eq_true h1,cond_true,Int.one_mul]
 ·rw [if_neg h1,decide_eq_false h1,cond_false]
  unfold halfZ
  rw [decide_eq_false h1,cond_false]
  refine half_exact ?_
  rcases h with rfl | ⟨h2,h3⟩
  ·exact Int.dvd_zero _
  ·refine Int.dvd_trans ⟨2^(Nm.tz z-t.toNat),?_⟩ (Nm.tz_dvd z)
   rw [<-Int.pow_add]
   congr 1
   omega
theorem halved_sc (p0 q0 p1 q1 p2 q2 p3 q3:Int):∃ s:Int,0<s/\[(p0,q0),(p1,q1),(p2,q2),(p3,q3)]=[(hv (tw8 p0 q0 p1 q1 p2 q2 p3 q3) p0,hv (tw8 p0 q0 p1 q1 p2 q2 p3 q3) q0),(hv (tw8 p0 q0 p1 q1 p2 q2 p3 q3) p1,hv (tw8 p0 q0 p1 q1 p2 q2 p3 q3) q1),(hv (tw8 p0 q0 p1 q1 p2 q2 p3 q3) p2,hv (tw8 p0 q0 p1 q1 p2 q2 p3 q3) q2),(hv (tw8 p0 q0 p1 q1 p2 q2 p3 q3) p3,hv (tw8 p0 q0 p1 q1 p2 q2 p3 q3) q3)].map (Pg.sc s):=by
 have h0:∀ y∈([]:List Int),y=0\/(0<=(-1:Int)/\(-1:Int)<=(Nm.tz y:Int)):=fun y hy=>by cases hy
 have h:=few_inv (z:=q3) (few_inv (z:=p3) (few_inv (z:=q2) (few_inv (z:=p2) (few_inv (z:=q1) (few_inv (z:=p1) (few_inv (z:=q0) (few_inv (z:=p0) h0)))))))
 have hE:fewer (fewer (fewer (fewer (fewer (fewer (fewer (fewer (-1) p0) q0) p1) q1) p2) q2) p3) q3=tw8 p0 q0 p1 q1 p2 q2 p3 q3:=rfl
 rw [hE] at h
 generalize tw8 p0 q0 p1 q1 p2 q2 p3 q3=t at*
 refine ⟨if t<1 then 1 else 2^t.toNat,by split;decide;exact Nm.pow_pos' (by decide) _,?_⟩
 have k:∀ y∈[q3,p3,q2,p2,q1,p1,q0,p0],y=(if t<1 then 1 else 2^t.toNat)*hv t y:=fun y hy=>hv_exact (h y hy)
 simp only [List.map_cons,List.map_nil,Pg.sc]
 rw [<-k p0 (by simp),<-k q0 (by simp),<-k p1 (by simp),<-k q1 (by simp),<-k p2 (by simp),<-k q2 (by simp),<-k p3 (by simp),<-k q3 (by simp)]
def code (c:Int):Int:=if c=-1 then 5 else if c=0 then 6 else if c=1 then 7 else if c=43 then 1 else if c=45 then 2 else if c=111 then 3 else 4
theorem sym_code (c:Int):symA (code c)=(Mt.sym c).a/\symB (code c)=(Mt.sym c).b/\symC (code c)=(Mt.sym c).c/\symD (code c)=(Mt.sym c).d:=by
 unfold code Mt.sym
 split
 ·exact ⟨rfl,rfl,rfl,rfl⟩
 ·split
  ·exact ⟨rfl,rfl,rfl,rfl⟩
  ·split
   ·exact ⟨rfl,rfl,rfl,rfl⟩
   ·split
    ·exact ⟨rfl,rfl,rfl,rfl⟩
    ·split
     ·exact ⟨rfl,rfl,rfl,rfl⟩
     ·split<;>exact ⟨rfl,rfl,rfl,rfl⟩
theorem code_pos (c:Int):1<=code c/\code c<=7:=by unfold code;split<;>(try decide);split<;>(try decide);split<;>(try decide);split<;>(try decide);split<;>(try decide);split<;>decide
theorem fitZ_eq (p0 q0 p1 q1 p2 q2 p3 q3 a b c d:Int):fitZ p0 q0 p1 q1 p2 q2 p3 q3 a b c d=Nw.fits ([(p0,q0),(p1,q1),(p2,q2),(p3,q3)].map (Rf.vag ⟨a,b,c,d⟩)):=by
 have k1:∀ x y:Int,decide (Nm.cmp x y<0)=decide (x-y<0):=fun x y=>by
  rcases Int.lt_trichotomy x y with h | h | h
  ·rw [Nm.cmp_lt h,decide_eq_true (by decide),decide_eq_true (by omega)]
  ·rw [Nm.cmp_eq h,decide_eq_false (by decide),decide_eq_false (by omega)]
  ·rw [Nm.cmp_gt h,decide_eq_false (by decide),decide_eq_false (by omega)]
 have k2:∀ x y:Int,decide (Nm.cmp x y>0)=decide (0<x-y):=fun x y=>by
  rcases Int.lt_trichotomy x y with h | h | h
  ·rw [Nm.cmp_lt h,decide_eq_false (by decide),decide_eq_false (by omega)]
  ·rw [Nm.cmp_eq h,decide_eq_false (by decide),decide_eq_false (by omega)]
  ·rw [Nm.cmp_gt h,decide_eq_true (by decide),decide_eq_true (by omega)]
 have e1:∀ p q:Int,(Rf.vag ⟨a,b,c,d⟩ (p,q))=(d*p-b*q,a*q-c*p):=fun p q=>by
  unfold Rf.vag Mt.ag1 Mt.ag2
  simp only [Int.neg_mul,Int.sub_eq_add_neg]
 unfold fitZ fitN Nw.fits Nw.ups Nw.downs cl cp
 simp only [List.map_cons,List.map_nil,List.any_cons,List.any_nil,Bool.or_false,Bool.false_or,k1,k2,e1]
 rw [Bool.beq_comm]
 rfl
def nearA (p q:Int):Int:=((Rf.near p q 20000 1).getD (0,0)).1
def nearB (p q:Int):Int:=((Rf.near p q 20000 1).getD (0,0)).2
def fNear2:List G->Option RG
 | [.ns [p,q]]=>some (.tup [.ns [nearA p q],.ns [nearB p q]])
 | _=>none
def ndNear2:List G->List Prop
 | [.ns [p,q]]=>[0<p/\0<q/\(Rf.near p q 20000 1).isSome=true]
 | _=>[]
theorem near2_te:TEok Z 204 (teG true fNear2 ndNear2 (fun _=>2) [1]):=by
 refine te_congr' near_te ?_
 intro gs out h hn hg
 unfold fNear2 at h
 split at h
 ·rename_i p q
  cases h
  have hn:0<p/\0<q/\(Rf.near p q 20000 1).isSome=true:=hn.one
  refine ⟨?_,holds_cons ⟨hn.1,hn.2.1⟩ holds_nil⟩
  obtain ⟨ab,e⟩:=Option.isSome_iff_exists.1 hn.2.2
  show (Rf.near p q 20000 1).map (fun ab=>RG.tup [.ns [ab.1],.ns [ab.2]])=some (.tup [.ns [((Rf.near p q 20000 1).getD (0,0)).1],.ns [((Rf.near p q 20000 1).getD (0,0)).2]])
  rw [e]
  rfl
 ·cases h
noncomputable def tN2:List (FuncId×TE):=(204,teG true fNear2 ndNear2 (fun _=>2) [1])::tK
theorem tN2_ok:AllTE Z tN2:=⟨near2_te,tK_ok⟩
def fRtM:List G->Option RG
 | [.ns [p,q]]=>some (.one (.ns [nearA p q*q,nearB p q*p,nearB p q*q,nearA p q*q]))
 | _=>none
theorem RtM_te:TEok Z 193 (teN true fRtM ndNear2 3 [1]):=by
 refine walkN (l:=tN2) tN2_ok nobody (fn_of Tryz.func193 rfl rfl) ?_
 intro gs out h
 unfold fRtM at h
 split at h
 ·rename_i p q
  cases h
  exact ⟨[0<p/\0<q/\(Rf.near p q 20000 1).isSome=true],3,by kernel_rfl,by decide,fun hn _=>holds_cons hn.one holds_nil⟩
 ·cases h
noncomputable def tN:List (FuncId×TE):=(193,teN true fRtM ndNear2 3 [1])::tN2
theorem tN_ok:AllTE Z tN:=⟨RtM_te,tN2_ok⟩
end Ab
open Go.RowKit
namespace Ab
def ndC (hs:Bool)(uns mt lr rr pl:Int)(lp rp cst nst gv:AC):List AC:=.sbool hs::numCs true 0 8++[cst,.sint .i64 mt,lp,.sint .i64 lr,rp,.sint .i64 rr,gv,.sint .i64 uns,nst,.sint .i64 pl]
def argB (i:Nat):Option Bool->List (Nat×Box)
 | none=>[]
 | some s=>[(i,ext (.sbool s::anys 26) 205)]
def ptrC (i:Nat):Option Bool->AC
 | none=>.lit (.pointer none)
 | some _=>.ptr i 0
def gvC:Option Nat->AC
 | none=>.lit (.slice none 0 0)
 | some len=>.dsl 3 0 len 1
def gvB:Option Nat->List (Nat×Box)
 | none=>[]
 | some _=>[(3,ext [] 100)]
def xC (i:Nat):Bool->AC
 | false=>.lit (.pointer none)
 | true=>.ptr i 0
def xB (i:Nat)(ty:TypeId):Bool->List (Nat×Box)
 | false=>[]
 | true=>[(i,ext [] ty)]
def sNd (zs:List Int)(hs:Bool)(l r:Option Bool)(g:Option Nat)(c n:Bool)(uns mt lr rr pl:Int)(nt:Nat):AS:=
 ⟨.val (.one (.ptr 0 0))::List.replicate nt .und,(0,ext (ndC hs uns mt lr rr pl (ptrC 1 l) (ptrC 2 r) (xC 4 c) (xC 5 n) (gvC g)) 205)::(argB 1 l++(argB 2 r++(gvB g++(xB 4 224 c++xB 5 273 n)))),6,zs.map fun z=>(z,10),[]⟩
def argW:Option Bool->Int->Int->Int
 | none,_,k=>k
 | some s,r,k=>bif s then (bif r==0 then 0 else k) else k
def fitS (p0 q0 p1 q1 p2 q2 p3 q3 s:Int):Bool:=fitZ p0 q0 p1 q1 p2 q2 p3 q3 (symA s) (symB s) (symC s) (symD s)
def sgnF (p0 q0 p1 q1 p2 q2 p3 q3:Int):Int:=bif fitS p0 q0 p1 q1 p2 q2 p3 q3 1 then 1 else bif fitS p0 q0 p1 q1 p2 q2 p3 q3 2 then 2 else bif fitS p0 q0 p1 q1 p2 q2 p3 q3 3 then 3 else bif fitS p0 q0 p1 q1 p2 q2 p3 q3 4 then 4 else 0
def digF (p0 q0 p1 q1 p2 q2 p3 q3:Int):Int:=bif fitS p0 q0 p1 q1 p2 q2 p3 q3 5 then 5 else bif fitS p0 q0 p1 q1 p2 q2 p3 q3 7 then 7 else bif fitS p0 q0 p1 q1 p2 q2 p3 q3 6 then 6 else 0
def firstF (hs:Bool)(g:Option Nat)(x y:Int):Int:=
 match g with
 | none=>bif hs then x else y
 | some len=>bif hs then (bif (len:Int)==0 then x else y) else y
def nextZ (p0 q0 p1 q1 p2 q2 p3 q3:Int)(hs:Bool)(l r:Option Bool)(g:Option Nat)(uns lr rr:Int):Int:=
 bif uns != 0 then 0 else argW l lr (argW r rr (firstF hs g (sgnF p0 q0 p1 q1 p2 q2 p3 q3) (digF p0 q0 p1 q1 p2 q2 p3 q3)))
noncomputable def bN:FuncId->Option Func:=fun f=>bif f==205 then some Tryz.f205 else bif f==206 then some Tryz.f206 else none
theorem bN_ok:BodiesOk Z bN:=by
 intro f fn h
 unfold bN at h
 cases h1:f==205 with
 | true=>
  rw [h1] at h
  cases h
  have:f=205:=by simpa using h1
  subst this
  exact ⟨(fn_of Tryz.func205 rfl rfl).at',(fn_of Tryz.func205 rfl rfl).en⟩
 | false=>
  rw [h1] at h
  cases h2:f==206 with
  | true=>
   rw [h2] at h
   cases h
   have:f=206:=by simpa using h2
   subst this
   exact ⟨(fn_of Tryz.func206 rfl rfl).at',(fn_of Tryz.func206 rfl rfl).en⟩
  | false=>rw [h2] at h;cases h
noncomputable def nextRun (zs:List Int)(hs:Bool)(l r:Option Bool)(g:Option Nat)(c n:Bool)(uns mt lr rr pl:Int):Option Tr:=run Z (tabSp tN) bN (drawA Z (tabSp tN)) (fun _=>false) 2000 [.code (bodyOf Tryz.f196),.top Tryz.f196] (sNd zs hs l r g c n uns mt lr rr pl 39)
theorem next_walk (p0 q0 p1 q1 p2 q2 p3 q3:Int)(hs:Bool)(l r:Option Bool)(g:Option Nat)(c n:Bool)(uns mt lr rr pl:Int):((nextRun [p0,q0,p1,q1,p2,q2,p3,q3] hs l r g c n uns mt lr rr pl).bind outcome).bind (outN true)=some ([],.one (.i .i64 (nextZ p0 q0 p1 q1 p2 q2 p3 q3 hs l r g uns lr rr)),0):=by
 cases l with
 | none=>
  cases r with
  | none=>cases g<;>kernel_rfl
  | some rs=>cases g<;>kernel_rfl
 | some ls=>
  cases r with
  | none=>cases g<;>kernel_rfl
  | some rs=>cases g<;>kernel_rfl
end Ab
open Go.RowKit
namespace Ab
structure NodeAt (w:World) (k:Nat) (zs:List Int) (hs:Bool) (uns mt lr rr pl:Int) (lp rp gv cv nv:Value):Prop where
 ex:∃ xs:List Value,w.heap[k]?=some (.cells (.bool hs::xs++[cv,.int .i64 mt,lp,.int .i64 lr,rp,.int .i64 rr,gv,.int .i64 uns,nv,.int .i64 pl]).toArray 205 (0,0))/\Hold true w zs xs
def ArgAt (w:World):Option (Nat×Bool)->Value->Prop
 | none,v=>v=.pointer none
 | some (k,s),v=>v=.pointer (some ⟨k,0,none⟩)/\∃ ys:List Value,w.heap[k]?=some (.cells (.bool s::ys).toArray 205 (0,0))/\ys.length=26/\∀ y∈ys,One y
def GivAt (w:World):Option (Nat×Nat)->Value->Prop
 | none,v=>v=.slice none 0 0
 | some (k,len),v=>∃ cap,v=.slice (some ⟨k,0,none⟩) len cap/\∃ cs:List Value,w.heap[k]?=some (.cells cs.toArray 100 (0,0))
def ExtAt (w:World)(ty:TypeId):Option Nat->Value->Prop
 | none,v=>v=.pointer none
 | some k,v=>v=.pointer (some ⟨k,0,none⟩)/\∃ cs:List Value,w.heap[k]?=some (.cells cs.toArray ty (0,0))
def phi (k:Nat)(l r:Option (Nat×Bool))(g:Option (Nat×Nat))(c n:Option Nat):Nat->Option (Nat×Nat)
 | 0=>some (k,0)
 | 1=>l.map fun x=>(x.1,0)
 | 2=>r.map fun x=>(x.1,0)
 | 3=>g.map fun x=>(x.1,0)
 | 4=>c.map fun x=>(x,0)
 | 5=>n.map fun x=>(x,0)
 | _=>none
theorem any_all {φ:Nat->Option (Nat×Nat)}{ν:List (Int×Nat)}{w:World}:∀ (n:Nat) (ys:List Value),ys.length=n->(∀ y∈ys,One y)->All2 (relC Z φ ν w) (anys n) ys
 | 0,[],_,_=>trivial
 | n+1,y::ys,hl,h=>⟨h y (by simp),any_all n ys (by simpa using hl) fun z hz=>h z (by simp [hz])⟩
 | 0,_::_,h,_=>by simp at h
 | _+1,[],h,_=>by simp at h
theorem ptr_rel {φ:Nat->Option (Nat×Nat)}{ν:List (Int×Nat)}{w:World}{i:Nat}{l:Option (Nat×Bool)}{v:Value}(hφ:φ i=l.map fun x=>(x.1,0))(h:ArgAt w l v):relC Z φ ν w (ptrC i (l.map (·.2))) v:=by
 cases l with
 | none=>exact ⟨h,rfl⟩
 | some x=>exact ⟨x.1,0,hφ,h.1⟩
theorem giv_rel {φ:Nat->Option (Nat×Nat)}{ν:List (Int×Nat)}{w:World}{g:Option (Nat×Nat)}{v:Value}(hφ:φ 3=g.map fun x=>(x.1,0))(h:GivAt w g v):relC Z φ ν w (gvC (g.map (·.2))) v:=by
 cases g with
 | none=>exact ⟨h,rfl⟩
 | some x=>obtain ⟨cap,h1,_⟩:=h;exact ⟨x.1,cap,by rw [hφ];rfl,h1⟩
theorem ext_rel {φ:Nat->Option (Nat×Nat)}{ν:List (Int×Nat)}{w:World}{i:Nat}{ty:TypeId}{c:Option Nat}{v:Value}(hφ:φ i=c.map fun x=>(x,0))(h:ExtAt w ty c v):relC Z φ ν w (xC i c.isSome) v:=by
 cases c with
 | none=>exact ⟨h,rfl⟩
 | some x=>exact ⟨x,0,hφ,h.1⟩
theorem look_mem {b:Nat}{B:Box}:∀ {l:List (Nat×Box)},look l b=some B->(b,B)∈l
 | [],h=>by simp [look] at h
 | (c,D)::l,h=>by
  simp only [look] at h
  cases hc:(c==b) with
  | true=>
   rw [hc] at h
   simp only [cond_true,Option.some.injEq] at h
   have:c=b:=by simpa using hc
   rw [<-h,this]
   simp
  | false=>
   rw [hc] at h
   exact List.mem_cons_of_mem _ (look_mem h)
theorem argB_mem {i b:Nat}{B:Box}{l:Option (Nat×Bool)}(h:(b,B)∈argB i (l.map (·.2))):∃ x,l=some x/\b=i/\B=ext (.sbool x.2::anys 26) 205:=by
 cases l with
 | none=>simp [argB] at h
 | some x=>simp [argB] at h;exact ⟨x,rfl,h⟩
theorem gvB_mem {b:Nat}{B:Box}{g:Option (Nat×Nat)}(h:(b,B)∈gvB (g.map (·.2))):∃ x,g=some x/\b=3/\B=ext [] 100:=by
 cases g with
 | none=>simp [gvB] at h
 | some x=>simp [gvB] at h;exact ⟨x,rfl,h⟩
theorem xB_mem {i b:Nat}{ty:TypeId}{B:Box}{c:Option Nat}(h:(b,B)∈xB i ty c.isSome):∃ x,c=some x/\b=i/\B=ext [] ty:=by
 cases c with
 | none=>simp [xB] at h
 | some x=>simp [xB] at h;exact ⟨x,rfl,h⟩
theorem nd_rep {w:World}{k:Nat}{zs:List Int}{hs:Bool}{l r:Option (Nat×Bool)}{g:Option (Nat×Nat)}{c n:Option Nat}{uns mt lr rr pl:Int}{lp rp gv cv nv:Value}(hn:NodeAt w k zs hs uns mt lr rr pl lp rp gv cv nv)(h8:zs.length=8)(hb:∀ z∈zs,Bits 10 z)(hl:ArgAt w l lp)(hr:ArgAt w r rp)(hg:GivAt w g gv)(hc:ExtAt w 224 c cv)(hm:ExtAt w 273 n nv)(nt:Nat):
  RepW Z w (phi k l r g c n) (phi k l r g c n) (sNd zs hs (l.map (·.2)) (r.map (·.2)) (g.map (·.2)) c.isSome n.isSome uns mt lr rr pl nt) w:=by
 obtain ⟨xs,h1,h2⟩:=hn.ex
 have hcs:All2 (relC Z (phi k l r g c n) (zs.map fun z=>(z,10)) w) (ndC hs uns mt lr rr pl (ptrC 1 (l.map (·.2))) (ptrC 2 (r.map (·.2))) (xC 4 c.isSome) (xC 5 n.isSome) (gvC (g.map (·.2)))) (.bool hs::xs++[cv,.int .i64 mt,lp,.int .i64 lr,rp,.int .i64 rr,gv,.int .i64 uns,nv,.int .i64 pl]):=by
  have hx:All2 (relC Z (phi k l r g c n) (zs.map fun z=>(z,10)) w) (numCs true 0 8) xs:=by
   rw [<-h8]
   exact hold_cs zs xs 0 _ h2 hb fun j z hz=>by rw [Nat.zero_add,List.getElem?_map,hz];rfl
  exact All2.append (show All2 (relC Z (phi k l r g c n) (zs.map fun z=>(z,10)) w) (.sbool hs::numCs true 0 8) (.bool hs::xs) from ⟨rfl,hx⟩) ⟨ext_rel rfl hc,rfl,ptr_rel rfl hl,rfl,ptr_rel rfl hr,rfl,giv_rel rfl hg,rfl,ext_rel rfl hm,rfl,trivial⟩
 have seg0:∀ {k':Nat} {cs:List Value} {ty:TypeId} {acs:List AC},w.heap[k']?=some (.cells cs.toArray ty (0,0))->All2 (relC Z (phi k l r g c n) (zs.map fun z=>(z,10)) w) acs cs->Seg Z (phi k l r g c n) (zs.map fun z=>(z,10)) w k' 0 ty acs:=fun hk ha=>⟨[],_,[],by simpa using hk,rfl,ha⟩
 have segE:∀ {k':Nat} {cs:List Value} {ty:TypeId},w.heap[k']?=some (.cells cs.toArray ty (0,0))->Seg Z (phi k l r g c n) (zs.map fun z=>(z,10)) w k' 0 ty []:=fun {k' cs ty} hk=>⟨[],[],cs,hk,rfl,trivial⟩
 refine rep_ext rfl ?_ ?_ ?_
 ·intro b B hB
  have hm':=look_mem hB
  simp only [sNd,List.mem_cons,List.mem_append,Prod.mk.injEq] at hm'
  rcases hm' with ⟨rfl,rfl⟩ | h | h | h | h | h
  ·exact ⟨rfl,rfl,rfl,k,0,rfl,seg0 h1 hcs⟩
  ·obtain ⟨x,rfl,rfl,rfl⟩:=argB_mem h
   obtain ⟨_,ys,g1,g2,g3⟩:=hl
   exact ⟨rfl,rfl,rfl,x.1,0,rfl,seg0 g1 ⟨rfl,any_all 26 ys g2 g3⟩⟩
  ·obtain ⟨x,rfl,rfl,rfl⟩:=argB_mem h
   obtain ⟨_,ys,g1,g2,g3⟩:=hr
   exact ⟨rfl,rfl,rfl,x.1,0,rfl,seg0 g1 ⟨rfl,any_all 26 ys g2 g3⟩⟩
  ·obtain ⟨x,rfl,rfl,rfl⟩:=gvB_mem h
   obtain ⟨cap,_,cs,g1⟩:=hg
   exact ⟨rfl,rfl,rfl,x.1,0,rfl,segE g1⟩
  ·obtain ⟨x,rfl,rfl,rfl⟩:=xB_mem h
   obtain ⟨_,cs,g1⟩:=hc
   exact ⟨rfl,rfl,rfl,x,0,rfl,segE g1⟩
  ·obtain ⟨x,rfl,rfl,rfl⟩:=xB_mem h
   obtain ⟨_,cs,g1⟩:=hm
   exact ⟨rfl,rfl,rfl,x,0,rfl,segE g1⟩
 ·intro b hb0
  have:6<=b:=hb0
  match b,this with
  | b+6,_=>rfl
 ·intro b k' o' hb0
  match b,hb0 with
  | 0,e=>cases e;exact heap_lt h1
  | 1,e=>
   cases l with
   | none=>cases e
   | some x=>cases e;obtain ⟨_,ys,g1,_⟩:=hl;exact heap_lt g1
  | 2,e=>
   cases r with
   | none=>cases e
   | some x=>cases e;obtain ⟨_,ys,g1,_⟩:=hr;exact heap_lt g1
  | 3,e=>
   cases g with
   | none=>cases e
   | some x=>cases e;obtain ⟨_,_,cs,g1⟩:=hg;exact heap_lt g1
  | 4,e=>
   cases c with
   | none=>cases e
   | some x=>cases e;obtain ⟨_,cs,g1⟩:=hc;exact heap_lt g1
  | 5,e=>
   cases n with
   | none=>cases e
   | some x=>cases e;obtain ⟨_,cs,g1⟩:=hm;exact heap_lt g1
  | _+6,e=>cases e
theorem nd_calls {sp:Spec}{bodies:FuncId->Option Func}{f:FuncId}{fn:Func}(F:Fn f fn)(hsp:∀ w0 ψ,SpecOk Z w0 ψ sp)(hbo:BodiesOk Z bodies){w:World}{k:Nat}{zs:List Int}{hs:Bool}{l r:Option (Nat×Bool)}{g:Option (Nat×Nat)}{c nn:Option Nat}{uns mt lr rr pl:Int}{lp rp gv cv nv:Value}(hn:NodeAt w k zs hs uns mt lr rr pl lp rp gv cv nv)(h8:zs.length=8)(hb:∀ z∈zs,Bits 10 z)(hl:ArgAt w l lp)(hr:ArgAt w r rp)(hg:GivAt w g gv)(hc:ExtAt w 224 c cv)(hm:ExtAt w 273 nn nv)
  {n nt:Nat} (hnt:fn.ntmps-1=nt) {ps:List Prop} {out:RG} {m:Nat} (ht:((run Z sp bodies (drawA Z sp) (fun _=>false) n [.code (bodyOf fn),.top fn] (sNd zs hs (l.map (·.2)) (r.map (·.2)) (g.map (·.2)) c.isSome nn.isSome uns mt lr rr pl nt)).bind outcome).bind (outN true)=some (ps,out,m)) (hp:Holds ps):
  Calls Tryz.prog f #[.pointer (some ⟨k,0,none⟩)] w fun e w'=>∃ v,e=.returned v/\RRV Z w' (rvG true m out) v/\Below w.heap.size w w':=by
 obtain ⟨o,h1,h2⟩:=bnd ht
 obtain ⟨tr,h3,h4⟩:=bnd h1
 refine ext_run (vs:=[.one (.ptr 0 0)]) (args:=[.pointer (some ⟨k,0,none⟩)]) F (hsp _ _) hbo (by subst hnt;rfl) ⟨⟨k,0,rfl,rfl⟩,trivial⟩ (nd_rep hn h8 hb hl hr hg hc hm _) h3 _ (outcome_ok h4 (outN_ok h2 hp (Nat.le_refl _))) ?_
 rintro r0 s φ v w' ⟨hcl,r',h7,h8⟩ hrel hw
 exact ⟨v,rfl,h8 w' v (rvOf_ok h7 hrel),RepF.below hw hcl⟩
theorem next_calls {w:World}{k:Nat}{p0 q0 p1 q1 p2 q2 p3 q3:Int}{hs:Bool}{l r:Option (Nat×Bool)}{g:Option (Nat×Nat)}{c nn:Option Nat}{uns mt lr rr pl:Int}{lp rp gv cv nv:Value}(hn:NodeAt w k [p0,q0,p1,q1,p2,q2,p3,q3] hs uns mt lr rr pl lp rp gv cv nv)(hb:∀ z∈[p0,q0,p1,q1,p2,q2,p3,q3],Bits 10 z)(hl:ArgAt w l lp)(hr:ArgAt w r rp)(hg:GivAt w g gv)(hc:ExtAt w 224 c cv)(hm:ExtAt w 273 nn nv):
  Calls Tryz.prog 196 #[.pointer (some ⟨k,0,none⟩)] w fun e w'=>e=.returned (.int .i64 (nextZ p0 q0 p1 q1 p2 q2 p3 q3 hs (l.map (·.2)) (r.map (·.2)) (g.map (·.2)) uns lr rr))/\Below w.heap.size w w':=by
 have W:=next_walk p0 q0 p1 q1 p2 q2 p3 q3 hs (l.map (·.2)) (r.map (·.2)) (g.map (·.2)) c.isSome nn.isSome uns mt lr rr pl
 unfold nextRun at W
 have hnt:Tryz.f196.ntmps-1=39:=by kernel_rfl
 refine (nd_calls (sp:=tabSp tN) (bodies:=bN) (n:=2000) (nt:=39) (fn:=Tryz.f196) (fn_of Tryz.func196 rfl rfl) (fun _ _=>tabSp_ok tN_ok) bN_ok hn rfl hb hl hr hg hc hm hnt W holds_nil).mono ?_
 rintro e w' ⟨v,rfl,hv,hb⟩
 have hv:v=_:=hv.2
 rw [hv]
 exact ⟨rfl,hb⟩
end Ab
open Go.RowKit
namespace Ab
def argWants:Option Bool->Int->Bool
 | none,_=>false
 | some s,r=>s&&(r==0)
theorem argW_eq (l:Option Bool)(r k:Int):argW l r k=if argWants l r then 0 else k:=by
 cases l with
 | none=>rfl
 | some s=>
  unfold argW argWants
  cases s with
  | false=>rfl
  | true=>cases h:(r==0)<;>simp
theorem fitS_eq (p0 q0 p1 q1 p2 q2 p3 q3 c:Int):fitS p0 q0 p1 q1 p2 q2 p3 q3 (code c)=Nw.fits ([(p0,q0),(p1,q1),(p2,q2),(p3,q3)].map (Rf.vag (Mt.sym c))):=by
 obtain ⟨h1,h2,h3,h4⟩:=sym_code c
 unfold fitS
 rw [h1,h2,h3,h4,fitZ_eq]
def codeO:Option Int->Int
 | none=>0
 | some c=>code c
theorem firstF_eq {hs:Bool}{g:Option Nat}{x y:Int}{len:Nat}(hg:g.getD 0=len):firstF hs g x y=if hs=true/\len=0 then x else y:=by
 unfold firstF
 cases g with
 | none=>
  simp at hg
  subst hg
  cases hs<;>simp
 | some m=>
  simp at hg
  subst hg
  cases hs with
  | false=>simp
  | true=>
   by_cases h:m=0
   ·subst h;simp
   ·have:((m:Int)==0)=false:=by rw [beq_eq_false_iff_ne];omega
    simp [this,h]
theorem next_eq {ns:List Rf.Nd}{n:Rf.Nd}{corner:List Rf.V}{p0 q0 p1 q1 p2 q2 p3 q3:Int}{hs:Bool}{l r:Option Bool}{g:Option Nat}{lr rr:Int}{o:Option Int}(hc:Rf.corners ns n=some corner)(hf:Pg.Cof corner [(p0,q0),(p1,q1),(p2,q2),(p3,q3)])(hp:n.pos=!hs)(hg:g.getD 0=n.out.length)(hw:(argWants l lr||argWants r rr)=Rf.waits ns n.args n.read)(hn:Rf.next ns n=some o):
  nextZ p0 q0 p1 q1 p2 q2 p3 q3 hs l r g 0 lr rr=codeO o:=by
 unfold nextZ
 rw [show ((0:Int) != 0)=false from rfl,cond_false,argW_eq,argW_eq]
 unfold Rf.next at hn
 cases h1:argWants l lr with
 | true=>
  rw [h1,Bool.true_or] at hw
  rw [<-hw] at hn
  simp at hn
  subst hn
  rfl
 | false=>
  rw [h1,Bool.false_or] at hw
  simp only [Bool.false_eq_true,if_false]
  cases h2:argWants r rr with
  | true=>
   rw [h2] at hw
   rw [<-hw] at hn
   simp at hn
   subst hn
   rfl
  | false=>
   rw [h2] at hw
   rw [<-hw] at hn
   simp only [Bool.false_eq_true,if_false,hc,Option.map_some,Option.some.injEq] at hn ⊢
   rw [firstF_eq hg]
   have hcan:∀ c,Rf.can corner c=fitS p0 q0 p1 q1 p2 q2 p3 q3 (code c):=fun c=>by rw [hf.can,fitS_eq]
   have e43:code 43=1:=rfl
   have e45:code 45=2:=rfl
   have e111:code 111=3:=rfl
   have e119:code 119=4:=rfl
   have em:code (-1)=5:=rfl
   have e1:code 1=7:=rfl
   have e0:code 0=6:=rfl
   have hlen:n.out.length=0↔n.out=[]:=List.length_eq_zero_iff
   subst hn
   unfold Rf.tries
   by_cases ht:hs=true/\n.out.length=0
   ·rw [if_pos ht,if_pos ⟨by rw [hp,ht.1];rfl,hlen.1 ht.2⟩]
    simp only [List.find?,hcan,e43,e45,e111,e119]
    unfold sgnF
    cases fitS p0 q0 p1 q1 p2 q2 p3 q3 1<;>simp only [cond_true,cond_false]<;>try rfl
    cases fitS p0 q0 p1 q1 p2 q2 p3 q3 2<;>simp only [cond_true,cond_false]<;>try rfl
    cases fitS p0 q0 p1 q1 p2 q2 p3 q3 3<;>simp only [cond_true,cond_false]<;>try rfl
    cases fitS p0 q0 p1 q1 p2 q2 p3 q3 4<;>rfl
   ·rw [if_neg ht,if_neg (fun h=>ht ⟨by have:=h.1;rw [hp] at this;simpa using this,hlen.2 h.2⟩)]
    simp only [List.find?,hcan,em,e1,e0]
    unfold digF
    cases fitS p0 q0 p1 q1 p2 q2 p3 q3 5<;>simp only [cond_true,cond_false]<;>try rfl
    cases fitS p0 q0 p1 q1 p2 q2 p3 q3 7<;>simp only [cond_true,cond_false]<;>try rfl
    cases fitS p0 q0 p1 q1 p2 q2 p3 q3 6<;>rfl
end Ab
end Go.Proofs.YteghhlfmcjmnoaaGreatDoor
