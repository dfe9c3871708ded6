import Derived.Test.YthhffdeihoofiaaGreatDoorCFu04
import Derived.Test.YthhffdeihoofiaaGreatDoorCFu02
set_option linter.all false
set_option maxRecDepth 100000
set_option maxHeartbeats 2000000
namespace Go.Proofs.YthhffdeihoofiaaGreatDoor
open Int (mul_nonneg le_of_lt lt_or_le lt_trichotomy)
open Nat (le_refl le_trans)
open List (any_map map_map map_cons map_nil getElem?_append_left getElem?_append_right getElem?_eq_getElem)
open Option (map_some)
open Nm (tz iU gX jZ iV half)
open Go.Proofs.Tryz
open Go.RowKit
namespace Ab
noncomputable def tw8 (a d p1 e b f p3 g:Int):Int:=cW (cW (cW (cW (cW (cW (cW (cW (-1) a) d) p1) e) b) f) p3) g
theorem Gi {t z:Int}(b:t<=190000000)(f:Bits 19 z):cW t z<=190000000:=by
 have h:(Nm.cmp z 0==0)=false->(tz z:Int)<=190000000:=by
  intro h
  have a:z≠0:=fun e=>by rw[iU e]at h;cases h
  have:=Nm.aXE a f;omega
 unfold cW
 cases d:(Nm.cmp z 0==0)with
 |true=>exact b
 |false=>
  have:=h d;simp only[cond_false]
  cases decide (t<0)with
  |true=>exact this
  |false=>
   simp only[cond_false]
   cases decide ((tz z:Int)<t)with
   |true=>exact this
   |false=>exact b
noncomputable def hv (t z:Int):Int:=bif decide (t<1)then z else iG z t
noncomputable def Jp:List G->Option RG
 | [.ns [a,d,p1,e,b,f,p3,g]]=>some (.one (.ns [hv (tw8 a d p1 e b f p3 g) a,hv (tw8 a d p1 e b f p3 g) d,hv (tw8 a d p1 e b f p3 g) p1,hv (tw8 a d p1 e b f p3 g) e,hv (tw8 a d p1 e b f p3 g) b,hv (tw8 a d p1 e b f p3 g) f,hv (tw8 a d p1 e b f p3 g) p3,hv (tw8 a d p1 e b f p3 g) g]))
 |_=>none
theorem aUm:bI Z 152 (cY true Jp aX 19 [19]):=by
 refine iA (l:=wV) Qh dG (bF func152 rfl rfl) ?_;intro r out h;unfold Jp at h;split at h
 ·rename_i a e p1 f d g p3 i;cases h;refine⟨List.replicate 8 (decide (tw8 a e p1 f d g p3 i<1)=false->1<=tw8 a e p1 f d g p3 i/\tw8 a e p1 f d g p3 i<=1000000000),19,by kernel_rfl,by decide,fun _ p=>?_⟩;have b:∀z∈[a,e,p1,f,d,g,p3,i],Bits 19 z:=p.1;simp at b;obtain⟨b0,b1,b2,n,b4,b5,b6,o⟩:=b;have q:tw8 a e p1 f d g p3 i<=190000000:=Gi (Gi (Gi (Gi (Gi (Gi (Gi (Gi (by decide) b0) b1) b2) n) b4) b5) b6) o;intro P j;have j:=List.eq_of_mem_replicate j;subst j;intro k
  have k:¬tw8 a e p1 f d g p3 i<1:=by simpa using k
  exact⟨by omega,by omega⟩
 ·cases h
def An:List G->Option RG
 | [.ns [a,e,p1,f,d,g,p3,h]]=>some (.one (.b (mM a e p1 f d g p3 h 1 0 0 1)))
 |_=>none
theorem aR6:bI Z 174 (cY true An aX 0 [19]):=by
 refine iA (l:=(171,cY true Am aX 0 [19,3])::wV) ⟨aQ9,Qh⟩ dG (bF func174 rfl rfl) ?_;intro a out h;unfold An at h;split at h
 ·cases h;exact⟨[],0,by kernel_rfl,by decide,fun _ _=>gG⟩
 ·cases h
def wS (p q t:Int):AS:=
 ⟨[.top,.val (.one (.ptr 0 0)),.val (.one (.ptr 1 0)),.val (.one (.ptr 2 0)),.val (.one (.ptr 3 0)),.val (.one (.ptr 4 0))]++List.replicate 42 .top,
  [(0,⟨bJ true 0 2,94,true,false,false⟩),(1,⟨[.bool false,.lit (.slice none 0 0)],56,true,false,false⟩),(2,⟨[.bool false,.lit (.slice none 0 0)],56,true,false,false⟩),(3,⟨bJ true 2 1,56,true,false,false⟩),(4,⟨bJ true 3 1,56,true,false,false⟩)],5,[(p,1),(q,1),(16,1),(t,1)],[]⟩
theorem aLP (p q:Int):(run Z (eS rY (aD wV)) (fun _=>none) (aK Z (eS rY (aD wV))) nY 300 [.code (aE f160),.top f160] (start f160 (dZ true [.ns [p,q]] [1]))).bind (iZ true [0,1,2,3,4] [1,2,3,4,5] 5 [1,1,1,1])=
  some (.need [Bits 1 p,Bits 1 q,Bits 1 16,Bits 1 1] (.again (.code (.loop (pH (aE f160) f160))::tA (aE f160) f160) (wS p q 1))):=by kernel_rfl
theorem aLQ (p q t:Int)(n:Nat):(run Z (eS rY (aD wV)) (fun _=>none) (aK Z (eS rY (aD wV))) iX 300 (.code (pH (aE f160) f160)::.lp (pH (aE f160) f160) n::tA (aE f160) f160) (wS p q t)).bind (iZ true [0,1,2,3,4] [1,2,3,4,5] 5 [1,1,1,1])=
  some (.br (decide (0<Nm.cmp p 0)) (.br (decide (0<Nm.cmp q 0)) (.need [0<q] (.need [0<=t*t*p/q] (.br (decide (0<=Nm.cmp (Rf.root (t*t*p/q)) 16)) (.ret (.tup [.ns [Rf.root (t*t*p/q)],.ns [t]])) (.need [Bits 1 p,Bits 1 q,Bits 1 16,Bits 1 (t+t)] (.again (.lp (pH (aE f160) f160) n::tA (aE f160) f160) (wS p q (t+t))))))) (.ret (.tup [.ns [16],.ns [t]]))) (.ret (.tup [.ns [16],.ns [t]]))):=by kernel_rfl
def wC:List G->Option RG
 | [.ns [p,q]]=>(Rf.near p q 20000 1).map fun a=>.tup [.ns [a.1],.ns [a.2]]
 |_=>none
def Be:List G->List Prop
 | [.ns [p,q]]=>[0<p/\0<q]
 |_=>[]
theorem aKo {x:Int}(h:0<x):decide (0<Nm.cmp x 0)=true:=by rw[gX h];rfl
theorem aNP:bI Z 160 (gZ true wC Be (fun _=>2) [1]):=by
 refine wX (l:=wV) Qh Qf (bF func160 rfl rfl) (kb:=[0,1,2,3,4]) (kt:=[1,2,3,4,5]) (nx:=5) (rb:=[1,1,1,1]) ?_ (by kernel_rfl) ?_
 ·intro P ns out h r w S;unfold wC at h;split at h
  ·rename_i p q;obtain⟨⟨a,b⟩,x,rfl⟩:=cA h;have r:0<p/\0<q:=r.one;have A:Bits 1 p:=S.1 p (by simp);obtain⟨k,rfl,N,L,M⟩:=near_form r.1 r.2 20000 0 (a,b) x;have D:Go.Proofs.YthhffdeihoofiaaGreatDoor.Bits (k+1) ((2:Int)^k):=aFY k;have E:Bits 1 ((2:Int)^k):=Dn D (by omega)
   have R:Bits 2 a:=by
    have B:0<=(2:Int)^k*2^k*p/q:=Int.ediv_nonneg (mul_nonneg (mul_nonneg (le_of_lt (jZ (by decide) _)) (le_of_lt (jZ (by decide) _))) (by omega)) (by omega);have U:=Rf.Wu B;have I:=(Rf.Oy B).1;have O:(2:Int)^k*2^k*p/q<=2^k*2^k*p:=Int.ediv_le_self _ (mul_nonneg (mul_nonneg (le_of_lt (jZ (by decide) _)) (le_of_lt (jZ (by decide) _))) (by omega));have F:Go.Proofs.YthhffdeihoofiaaGreatDoor.Bits ((k+1)+(k+1)+10000000*1) ((2:Int)^k*2^k*p):=Go.Proofs.YthhffdeihoofiaaGreatDoor.fY (Go.Proofs.YthhffdeihoofiaaGreatDoor.fY D D) A;have C:a=Rf.root ((2:Int)^k*2^k*p/q):=L;rw[<-C]at U I;exact Dn (Go.Proofs.YthhffdeihoofiaaGreatDoor.Iq F (by omega) (le_refl _)) (by omega)
   intro g w;simp at w
   rcases w with rfl|rfl
   ·intro z y;simp at y;subst y;exact R
   ·intro z y;simp at y;subst y;exact eJ E (by decide)
  ·cases h
 ·intro P out h r w;unfold wC at h;split at h
  ·rename_i p q;obtain⟨u,x,rfl⟩:=cA h;have r:0<p/\0<q:=r.one;have A:Bits 1 p:=w.1 p (by simp);have J:Bits 1 q:=w.1 q (by simp);refine⟨fun m s=>∃j:Nat,m=20000-j/\j<20000/\s=wS p q (2^j)/\Rf.near p q (20000-j) (2^j)=some u,⟨300,_,aLP p q,fH A (fH J (fH (iI (by decide)) (fH (iI (by decide)) gG))),rfl,20000,0,rfl,by decide,rfl,x⟩,?_⟩;rintro m s⟨j,rfl,W,rfl,d⟩ n;have X:(0:Int)<2^j:=jZ (by decide) j;have B:0<=(2:Int)^j*2^j*p/q:=Int.ediv_nonneg (mul_nonneg (mul_nonneg (by omega) (by omega)) (by omega)) (by omega)
   obtain⟨k,N⟩:∃k,20000-j=k+1:=⟨20000-j-1,by omega⟩
   rw[N]at d;unfold Rf.near at d;refine⟨300,_,aLQ p q (2^j) n,?_,?_⟩
   ·intro _;refine⟨fun _=>⟨fH r.2 gG,fH B gG,?_,?_⟩,?_⟩
    ·intro i
     have i:0<=Nm.cmp (Rf.root ((2:Int)^j*2^j*p/q)) 16:=by simpa using i
     have v:16<=Rf.root ((2:Int)^j*2^j*p/q):=by
      rcases lt_or_le (Rf.root ((2:Int)^j*2^j*p/q)) 16 with h|h
      ·rw[iV h]at i;omega
      ·exact h
     rw[if_pos v]at d;cases d;exact rfl
    ·intro i
     have i:¬0<=Nm.cmp (Rf.root ((2:Int)^j*2^j*p/q)) 16:=by simpa using i
     have v:¬16<=Rf.root ((2:Int)^j*2^j*p/q):=by
      intro h;apply i
      rcases Int.lt_or_eq_of_le h with h|h
      ·rw[gX h];decide
      ·rw[iU h.symm];decide
     rw[if_neg v]at d
     have e:(2:Int)^j+2^j=2^(j+1):=by rw[Int.pow_succ];omega
     rw[e]at d ⊢
     have H:j+1<20000:=by
      rcases Nat.lt_or_ge (j+1) 20000 with h|h
      ·exact h
      ·have:k=0:=by omega
       subst this;cases d
     refine⟨fH A (fH J (fH (iI (by decide)) (fH (Dn (aFY (j+1)) (by omega)) gG))),rfl,20000-(j+1),by omega,j+1,rfl,H,rfl,?_⟩;rw[show 20000-(j+1)=k by omega];exact d
    ·intro o;rw[aKo r.2]at o;cases o
   ·intro o;rw[aKo r.1]at o;cases o
  ·cases h
where
 near_form {p q:Int} (T:0<p) (O:0<q):∀(f j:Nat) (u:Int×Int),Rf.near p q f (2^j)=some u->∃k:Nat,u.2=2^k/\k<=j+f/\u.1=Rf.root ((2:Int)^k*2^k*p/q)/\True
  |0,j,u,h=>by cases h
  |f+1,j,u,h=>by
   unfold Rf.near at h;split at h
   ·cases h;exact⟨j,rfl,by omega,rfl,trivial⟩
   ·have e:(2:Int)^j+2^j=2^(j+1):=by rw[Int.pow_succ];omega
    rw[e]at h;obtain⟨k,x,L,M,_⟩:=near_form T O f (j+1) u h;exact⟨k,x,by omega,M,trivial⟩
noncomputable def Ys:List (FuncId×TE):=(171,cY true Am aX 0 [19,3])::(152,cY true Jp aX 19 [19])::(174,cY true An aX 0 [19])::(160,gZ true wC Be (fun _=>2) [1])::wV
theorem Du:cG Z Ys:=⟨aQ9,aUm,aR6,aNP,Qh⟩
end Ab
namespace Pg
open Rf Nw
def sc (d:Int)(v:V):V:=(d*v.1,d*v.2)
def iC (u v:V):V:=(u.1+v.1,u.2+v.2)
theorem Xo (m:Mt)(d:Int)(v:V):eZ m (sc d v)=sc d (eZ m v):=by
 unfold eZ sc Mt.at1 Mt.at2
 ext<;>simp<;>grind
theorem Qa (m:Mt)(d:Int)(v:V):fI m (sc d v)=sc d (fI m v):=by
 unfold fI sc Mt.vU Mt.vV
 ext<;>simp<;>grind
theorem aO7 (m:Mt)(u v:V):eZ m (iC u v)=iC (eZ m u) (eZ m v):=by
 unfold eZ iC Mt.at1 Mt.at2
 ext<;>simp<;>grind
theorem aO3 (m:Mt)(u v:V):fI m (iC u v)=iC (fI m u) (fI m v):=by
 unfold fI iC Mt.vU Mt.vV
 ext<;>simp<;>grind
theorem aWc (d e:Int)(v:V):sc d (sc e v)=sc (d*e) v:=by
 unfold sc
 ext<;>simp<;>grind
theorem gY (v:V):sc 1 v=v:=by unfold sc;simp
theorem aQV (m:Mt):fI m (0,0)=(0,0):=by unfold fI Mt.vU Mt.vV;simp
theorem aJ2 (m k:Mt)(v:V):fI (m.mul k) v=fI k (fI m v):=by
 unfold fI Mt.vU Mt.vV Mt.mul
 ext<;>simp<;>grind
theorem Gg (v:V):fI one v=v:=by unfold fI Mt.vU Mt.vV one;simp
theorem Md (v:V):eZ one v=v:=by unfold eZ Mt.at1 Mt.at2 one;simp
def iQ (u v:V)(m:Mt):V:=iC (sc m.a u) (sc m.c v)
def rd2 (u v:V)(m:Mt):V:=iC (sc m.b u) (sc m.d v)
def tI:List V->Mt->List V
 | [a,b,c,d],m=>[iQ a c m,iQ b d m,rd2 a c m,rd2 b d m]
 |_,_=>[]
def oU:List V->Mt->List V
 | [a,b,c,d],m=>[iQ a b m,rd2 a b m,iQ c d m,rd2 c d m]
 |_,_=>[]
theorem Mm (d:Int)(u v:V)(m:Mt):iQ (sc d u) (sc d v) m=sc d (iQ u v m):=by
 unfold iQ sc iC
 ext<;>simp<;>grind
theorem Mn (d:Int)(u v:V)(m:Mt):rd2 (sc d u) (sc d v) m=sc d (rd2 u v m):=by
 unfold rd2 sc iC
 ext<;>simp<;>grind
theorem aQi (m:Mt):iQ (0,0) (0,0) m=(0,0):=by unfold iQ sc iC;simp
theorem aQj (m:Mt):rd2 (0,0) (0,0) m=(0,0):=by unfold rd2 sc iC;simp
theorem Ly (k:Mt)(u v:V)(m:Mt):iQ (fI k u) (fI k v) m=fI k (iQ u v m):=by
 unfold iQ;rw[aO3,Qa,Qa]
theorem Lz (k:Mt)(u v:V)(m:Mt):rd2 (fI k u) (fI k v) m=fI k (rd2 u v m):=by
 unfold rd2;rw[aO3,Qa,Qa]
theorem aTo (k:Mt)(u v:V)(m:Mt):iQ (eZ k u) (eZ k v) m=eZ k (iQ u v m):=by
 unfold iQ;rw[aO7,Xo,Xo]
theorem aTq (k:Mt)(u v:V)(m:Mt):rd2 (eZ k u) (eZ k v) m=eZ k (rd2 u v m):=by
 unfold rd2;rw[aO7,Xo,Xo]
theorem Ro (h m:Mt):eZ (h.mul m) (1,0)=iQ (eZ h (1,0)) (eZ h (0,1)) m:=by
 unfold iQ sc iC eZ Mt.at1 Mt.at2 Mt.mul
 ext<;>simp<;>grind
theorem Rp (h m:Mt):eZ (h.mul m) (0,1)=rd2 (eZ h (1,0)) (eZ h (0,1)) m:=by
 unfold rd2 sc iC eZ Mt.at1 Mt.at2 Mt.mul
 ext<;>simp<;>grind
theorem aIV (t:List V)(u v y:V)(m:Mt):bM t (iQ u v m) y=iQ (bM t u y) (bM t v y) m:=by
 unfold bM iQ sc iC;split
 ·ext<;>simp<;>grind
 ·ext<;>simp
theorem aIW (t:List V)(u v y:V)(m:Mt):bM t (rd2 u v m) y=rd2 (bM t u y) (bM t v y) m:=by
 unfold bM rd2 sc iC;split
 ·ext<;>simp<;>grind
 ·ext<;>simp
theorem aIX (t:List V)(u v y:V)(m:Mt):bM t y (iQ u v m)=iQ (bM t y u) (bM t y v) m:=by
 unfold bM iQ sc iC;split
 ·ext<;>simp<;>grind
 ·ext<;>simp
theorem aIY (t:List V)(u v y:V)(m:Mt):bM t y (rd2 u v m)=rd2 (bM t y u) (bM t y v) m:=by
 unfold bM rd2 sc iC;split
 ·ext<;>simp<;>grind
 ·ext<;>simp
def wM (g:Int)(m:Mt):Mt:=⟨g*m.a,g*m.b,g*m.c,g*m.d⟩
theorem aTn (g:Int)(u v:V)(m:Mt):iQ u v (wM g m)=sc g (iQ u v m):=by
 unfold iQ sc iC wM
 ext<;>simp<;>grind
theorem aTp (g:Int)(u v:V)(m:Mt):rd2 u v (wM g m)=sc g (rd2 u v m):=by
 unfold rd2 sc iC wM
 ext<;>simp<;>grind
def pad:List V->List V
 | []=>[(0,0),(0,0),(0,0),(0,0)]
 | [a]=>[a,(0,0),(0,0),(0,0)]
 | [a,b]=>[a,b,(0,0),(0,0)]
 | [a,b,c]=>[a,b,c,(0,0)]
 |l=>l
structure eO (l cs:List V):Prop where
 ex:∃d:Int,0<d/\pad l=cs.map (sc d)
 len:cs.length=4
variable {d:Int}
theorem aWx (a:0<d)(v:V):pF (sc d v)=pF v:=by
 have h:∀x:Int,decide (0<d*x)=decide (0<x):=fun x=>by
  rw[decide_eq_decide];exact⟨fun h=>Int.pos_of_mul_pos_left h a,fun h=>Int.mul_pos a h⟩
 unfold pF sc;rw[h,h]
where
 Int.pos_of_mul_pos_left {d x:Int} (h:0<d*x) (a:0<d):0<x:=by
  rcases lt_or_le 0 x with h1|h1
  ·exact h1
  ·have:=Int.mul_nonpos_of_nonneg_of_nonpos (le_of_lt a) h1;omega
theorem aPD (a:0<d)(v:V):lQ (sc d v)=lQ v:=by
 have h:∀x:Int,decide (d*x<0)=decide (x<0):=fun x=>by
  rw[decide_eq_decide];constructor
  ·intro h
   rcases lt_or_le x 0 with h1|h1
   ·exact h1
   ·have:=mul_nonneg (le_of_lt a) h1;omega
  ·exact fun h=>Int.mul_neg_of_pos_of_neg a h
 unfold lQ sc;rw[h,h]
theorem aSJ (a:0<d)(l:List V):fits (l.map (sc d))=fits l:=by
 unfold fits;rw[any_map,any_map];congr 1
 ·congr 1;funext v;exact aWx a v
 ·congr 1;funext v;exact aPD a v
theorem aPI (l:List V):fits (pad l)=fits l:=by
 unfold pad fits
 split<;>simp[pF,lQ]
theorem aOa {f:V->V}(e:f (0,0)=(0,0))(l:List V):pad (l.map f)=(pad l).map f:=by
 unfold pad
 match l with
 | []=>simp[e]
 | [a]=>simp[e]
 | [a,b]=>simp[e]
 | [a,b,c]=>simp[e]
 |a::b::c::d::r=>simp
theorem eO.fits {D cs:List V}(h:eO D cs):Nw.fits D=Nw.fits cs:=by
 obtain⟨d,a,e⟩:=h.ex;rw[<-aPI,e,aSJ a]
theorem eO.fI {D cs:List V}(h:eO D cs)(m:Mt):eO (D.map (Rf.fI m)) (cs.map (Rf.fI m)):=by
 obtain⟨d,a,e⟩:=h.ex;refine⟨⟨d,a,?_⟩,by simp[h.len]⟩;rw[aOa (aQV m),e,map_map,map_map];congr 1;funext v;exact Qa m d v
theorem eO.can {D cs:List V}(h:eO D cs)(s:Int):Rf.can D s=Nw.fits (cs.map (Rf.fI (Mt.sym s))):=(h.fI _).fits
variable {cs:List V}
theorem eO.over {D a:List V}{t:Int}(h:eO D cs)(g:0<t)(e:cs=a.map (sc t)):eO D a:=by
 obtain⟨d,f,b⟩:=h.ex;refine⟨⟨d*t,Int.mul_pos f g,?_⟩,by have:=h.len;rw[e]at this;simpa using this⟩;rw[b,e,map_map];congr 1;funext v;exact aWc d t v
theorem eO.times {D:List V}{t:Int}(h:eO D cs)(b:0<t):eO (D.map (sc t)) cs:=by
 obtain⟨d,a,e⟩:=h.ex;refine⟨⟨t*d,Int.mul_pos b a,?_⟩,h.len⟩;rw[aOa (by unfold sc;simp),e,map_map];congr 1;funext v;exact aWc t d v
theorem four (h:cs.length=4):∃a b c d,cs=[a,b,c,d]:=by
 match cs,h with
 | [a,b,c,d],_=>exact⟨a,b,c,d,rfl⟩
variable {a b x y z:V}
theorem eO.of4 {c d t:V}(h:eO [a,b,c,d] [x,y,z,t]):∃e:Int,0<e/\a=sc e x/\b=sc e y/\c=sc e z/\d=sc e t:=by
 obtain⟨e,g,f⟩:=h.ex;simp[pad]at f;exact⟨e,g,f⟩
theorem eO.Em {c d t:V}{e:Int}(j:0<e)(f:a=sc e x)(g:b=sc e y)(h:c=sc e z)(i:d=sc e t):eO [a,b,c,d] [x,y,z,t]:=⟨⟨e,j,by simp[pad,f,g,h,i]⟩,rfl⟩
theorem eO.of2 {t:V}(h:eO [a,b] [x,y,z,t]):∃e:Int,0<e/\a=sc e x/\b=sc e y/\(0,0)=sc e z/\(0,0)=sc e t:=by
 obtain⟨e,f,d⟩:=h.ex;simp[pad]at d;exact⟨e,f,d⟩
theorem eO.El {t:V}{e:Int}(i:0<e)(d:a=sc e x)(f:b=sc e y)(g:(0,0)=sc e z)(h:(0,0)=sc e t):eO [a,b] [x,y,z,t]:=⟨⟨e,i,by simp only[pad,map_cons,map_nil,<-d,<-f,<-g,<-h]⟩,rfl⟩
theorem eO.tI {a b c d:V}{cs:List V}(m:Mt)(h:eO [a,b,c,d] cs):eO [iQ a c m,iQ b d m,rd2 a c m,rd2 b d m] (Pg.tI cs m):=by
 obtain⟨x,y,z,t,rfl⟩:=four h.len;obtain⟨e,f,rfl,rfl,rfl,rfl⟩:=h.of4;exact .Em f (Mm ..) (Mm ..) (Mn ..) (Mn ..)
theorem eO.oU {a b c d:V}{cs:List V}(m:Mt)(h:eO [a,b,c,d] cs):eO [iQ a b m,rd2 a b m,iQ c d m,rd2 c d m] (Pg.oU cs m):=by
 obtain⟨x,y,z,t,rfl⟩:=four h.len;obtain⟨e,f,rfl,rfl,rfl,rfl⟩:=h.of4;exact .Em f (Mm ..) (Mn ..) (Mm ..) (Mn ..)
theorem eO.Bq (m:Mt)(h:eO [a,b] cs):eO [iQ a b m,rd2 a b m] (Pg.oU cs m):=by
 obtain⟨x,y,z,t,rfl⟩:=four h.len;obtain⟨e,g,rfl,rfl,d,f⟩:=h.of2;refine .El g (Mm ..) (Mn ..) ?_ ?_
 ·rw[<-Mm,<-d,<-f,aQi]
 ·rw[<-Mn,<-d,<-f,aQj]
theorem eO.La (m:Mt){v:Int}(d:0<v)(h:eO [a,b] cs):eO [iQ a b (wM v m),rd2 a b (wM v m)] (Pg.oU cs m):=by
 have:=(h.Bq m).times d
 simpa[aTn,aTp]using this
end Pg
namespace Pg
open Rf Nw
def eI (v:V):Int:=if v.1=0/\v.2=0 then 1 else v.1+v.2
def scaled (u v o r:V):Int:=(((u.1*v.2-u.2*v.1)*(eI o*eI r)).natAbs:Int)
def yQ (a b:Int):Int:=if a<b then b else a
def rP (cs:List V)(times:Int):Int:=
 match cs with
 | [a,b,c,d]=>Nm.cmp (yQ (scaled a c b d) (scaled b d a c)*times) (yQ (scaled a b c d) (scaled c d a b))
 |_=>0
def zJ (S:Int)(f:V)(x:Int):Prop:=0<f.2/\0<=f.1/\f.1*S=2*x*f.2
theorem Zs {k a b:Int}(d:0<k):k*a<=k*b↔a<=b:=⟨fun h=>Int.le_of_mul_le_mul_left h d,fun h=>Int.mul_le_mul_of_nonneg_left h (le_of_lt d)⟩
theorem zJ.eA {v:Int}{S F:V}{x r:Int}(l:0<v)(n:zJ v S x)(o:zJ v F r):zJ v (Rf.eA S F) (yQ x r):=by
 obtain⟨f1,f2,f3⟩:=n;obtain⟨b,k,d⟩:=o
 have a:F.1*S.2<=S.1*F.2↔r<=x:=by
  have i:v*(F.1*S.2)=2*(S.2*F.2)*r:=by
   calc v*(F.1*S.2)=(F.1*v)*S.2:=by grind
    _=2*(S.2*F.2)*r:=by rw[d];grind
  have j:v*(S.1*F.2)=2*(S.2*F.2)*x:=by
   calc v*(S.1*F.2)=(S.1*v)*F.2:=by grind
    _=2*(S.2*F.2)*x:=by rw[f3];grind
  have p:0<2*(S.2*F.2):=Int.mul_pos (by decide) (Int.mul_pos f1 b);rw[<-Zs l,i,j,Zs p]
 unfold Rf.eA yQ
 by_cases h:r<=x
 ·rw[if_pos (a.2 h),if_neg (by omega)];exact⟨f1,f2,f3⟩
 ·rw[if_neg (fun e=>h (a.1 e)),if_pos (by omega)];exact⟨b,k,d⟩
theorem aMN {k a b:Int}(d:0<k):Nm.cmp (k*a) (k*b)=Nm.cmp a b:=by
 have e:k*a<k*b↔a<b:=⟨fun h=>Int.lt_of_mul_lt_mul_left h (le_of_lt d),fun h=>Int.mul_lt_mul_of_pos_left h d⟩
 have f:k*a=k*b↔a=b:=⟨fun h=>Int.eq_of_mul_eq_mul_left (by omega) h,fun h=>by rw[h]⟩
 unfold Nm.cmp;simp only[e,f]
theorem zJ.cmp {v:Int}{S F:V}{x r y:Int}(e:0<v)(h:zJ v S x)(i:zJ v F r):Nm.cmp (y*S.1*F.2) (F.1*S.2)=Nm.cmp (x*y) r:=by
 obtain⟨f1,f2,f3⟩:=h;obtain⟨b,k,d⟩:=i;have j:0<2*(S.2*F.2):=Int.mul_pos (by decide) (Int.mul_pos f1 b);rw[<-aMN e,<-aMN (a:=x*y) j];congr 1
 ·calc v*(y*S.1*F.2)=y*(S.1*v)*F.2:=by grind
   _=2*(S.2*F.2)*(x*y):=by rw[f3];grind
 ·calc v*(F.1*S.2)=(F.1*v)*S.2:=by grind
   _=2*(S.2*F.2)*r:=by rw[d];grind
def pK (v:V):Prop:=(0<=v.1/\0<=v.2)\/(v.1<=0/\v.2<=0)
theorem Uv {D:List V}(h:fits D=true):∀v∈D,pK v:=by
 unfold fits at h;intro v hv;unfold pK
 cases b:D.any pF with
 |false=>
  have:=List.any_eq_false.1 b v hv;simp[pF]at this;omega
 |true=>
  cases a:D.any lQ with
  |true=>rw[b,a]at h;cases h
  |false=>
   have:=List.any_eq_false.1 a v hv;simp[lQ]at this;omega
theorem Wy {S:V}(h:pK S):eI S≠0:=by
 unfold eI pK at*
 split<;>omega
theorem Wx {S:V}(h:pK S):(S.1+S.2=0↔S.1=0/\S.2=0):=by
 unfold pK at h;omega
theorem Ug {u F o r:V}{e S:Int}(y:0<e)(j:pK u)(hv:pK F)(z:pK o)(E:pK r)(q:S=((eI u).natAbs:Int)*((eI F).natAbs:Int)*(((eI o).natAbs:Int)*((eI r).natAbs:Int))):zJ S (apart (sc e u) (sc e F)) (scaled u F o r):=by
 have n:(sc e u).1+(sc e u).2=e*(u.1+u.2):=by unfold sc;simp;grind
 have p:(sc e F).1+(sc e F).2=e*(F.1+F.2):=by unfold sc;simp;grind
 have d:∀x:Int,e*x=0↔x=0:=fun x=>⟨fun h=>by rcases Int.mul_eq_zero.1 h with h|h;omega;exact h,fun h=>by rw[h];simp⟩
 unfold apart;rw[n,p]
 by_cases hc:u.1+u.2=0\/F.1+F.2=0
 ·rw[if_pos (by rw[d,d];exact hc)]
  have s:scaled u F o r=0:=by
   have:u.1*F.2-u.2*F.1=0:=by
    rcases hc with h|h
    ·obtain⟨a,b⟩:=(Wx j).1 h;rw[a,b];simp
    ·obtain⟨a,b⟩:=(Wx hv).1 h;rw[a,b];simp
   unfold scaled;rw[this];simp
  refine⟨by decide,by decide,?_⟩;rw[s];simp
 ·rw[if_neg (by rw[d,d];exact hc)]
  have g:u.1+u.2≠0:=fun h=>hc (Or.inl h)
  have i:F.1+F.2≠0:=fun h=>hc (Or.inr h)
  have w:eI u=u.1+u.2:=by unfold eI;rw[if_neg (fun h=>g ((Wx j).2 h))]
  have sv:eI F=F.1+F.2:=by unfold eI;rw[if_neg (fun h=>i ((Wx hv).2 h))]
  have n0:e*(u.1+u.2)*(e*(F.1+F.2))≠0:=Int.mul_ne_zero (fun h=>g ((d _).1 h)) (fun h=>i ((d _).1 h))
  have f:((sc e u).1-(sc e u).2)*(e*(F.1+F.2))-((sc e F).1-(sc e F).2)*(e*(u.1+u.2))=2*(e*e)*(u.1*F.2-u.2*F.1):=by unfold sc;simp;grind
  refine⟨by simp only;omega,by simp only;omega,?_⟩;simp only;rw[f,q,w,sv];unfold scaled;simp only[Int.natAbs_mul,Int.natCast_mul]
  have l:((e.natAbs:Nat):Int)=e:=by omega
  rw[l];generalize ((u.1+u.2).natAbs:Int)=A;generalize ((F.1+F.2).natAbs:Int)=B;generalize ((eI o).natAbs:Int)=C;generalize ((eI r).natAbs:Int)=D;generalize ((u.1*F.2-u.2*F.1).natAbs:Int)=X;have k:(((2:Int).natAbs:Nat):Int)=2:=rfl;rw[k];grind
theorem eO.wider {D cs:List V}(h:eO D cs)(p:D.length=4)(g:Nw.fits D=true)(f:Int):Rf.wider f D=rP cs f:=by
 obtain⟨x,y,z,t,rfl⟩:=four h.len;obtain⟨a,b,c,d,rfl⟩:=four p;rw[h.fits]at g;obtain⟨e,i,rfl,rfl,rfl,rfl⟩:=h.of4;have o1:=Uv g x (by simp);have o2:=Uv g y (by simp);have o3:=Uv g z (by simp);have o4:=Uv g t (by simp);have p1:=Int.natAbs_pos.2 (Wy o1);have q:=Int.natAbs_pos.2 (Wy o2);have p3:=Int.natAbs_pos.2 (Wy o3);have p4:=Int.natAbs_pos.2 (Wy o4);have j:0<((eI x).natAbs:Int)*((eI y).natAbs:Int)*(((eI z).natAbs:Int)*((eI t).natAbs:Int)):=Int.mul_pos (Int.mul_pos (by omega) (by omega)) (Int.mul_pos (by omega) (by omega));have f1:=Ug (S:=((eI x).natAbs:Int)*((eI y).natAbs:Int)*(((eI z).natAbs:Int)*((eI t).natAbs:Int))) i o1 o3 o2 o4 (by grind);have f2:=Ug (S:=((eI x).natAbs:Int)*((eI y).natAbs:Int)*(((eI z).natAbs:Int)*((eI t).natAbs:Int))) i o2 o4 o1 o3 (by grind);have f3:=Ug (S:=((eI x).natAbs:Int)*((eI y).natAbs:Int)*(((eI z).natAbs:Int)*((eI t).natAbs:Int))) i o1 o2 o3 o4 (by grind);have k:=Ug (S:=((eI x).natAbs:Int)*((eI y).natAbs:Int)*(((eI z).natAbs:Int)*((eI t).natAbs:Int))) i o3 o4 o1 o2 (by grind);have n:=zJ.eA j f1 f2;have o:=zJ.eA j f3 k;unfold Rf.wider rP;simp only;exact zJ.cmp j n o
def qV (op:Rf.Op)(hi lo:V):Bool:=
 let u:=hi.1*lo.2
 let l:=lo.1*hi.2
 if op=.sqrt then decide (u<=l+l)
 else decide ((u-l)*4<=(if op=.fL then hi.2*lo.2+l else if op=.atan then hi.2*lo.2+hi.1*lo.1 else hi.2*lo.2))
theorem aPR {op:Rf.Op}(f:op=.sqrt\/op=.exp\/op=.fL\/op=.atan){e:Int}(h:0<e)(hi lo:V):known op (sc e lo) (sc e hi)=qV op hi lo:=by
 have d:0<e*e:=Int.mul_pos h h
 have g:∀{a b x y:Int},a=e*e*x->b=e*e*y->decide (a<=b)=decide (x<=y):=by
  intro a b x y i j;rw[decide_eq_decide,i,j,Zs d]
 rcases f with rfl|rfl|rfl|rfl<;>simp only[known,qV,reduceCtorEq,if_true,if_false]<;>apply g<;>simp only[sc]<;>grind
end Pg
namespace Pg
open Rf Nw
structure HC (n:Nd):Prop where
 len:n.dT.length=n.out.length+1
 fst:n.dT[0]?=some one
 lst:n.dT[n.out.length]?=some n.told
 step:∀(r:Nat) (c:Int) (m:Mt),n.out[r]?=some c->n.dT[r]?=some m->n.dT[r+1]?=some (m.mul (Mt.sym c))
theorem HC.fresh (pos:Bool)(t:List V)(args:PH):HC (fresh pos t args):=⟨rfl,rfl,rfl,fun r c m h=>by simp[Rf.fresh]at h⟩
variable {d:Nd}
theorem HC.of {n':Nd}(h:HC d)(b:n'.out=d.out)(a:n'.dT=d.dT)(e:n'.told=d.told):HC n':=⟨by rw[b,a];exact h.len,by rw[a];exact h.fst,by rw[b,a,e];exact h.lst,by rw[b,a];exact h.step⟩
variable {n:Nd}
theorem HC.give (h:HC n)(c:Int):HC {n with out:=n.out++[c],told:=n.told.mul (Mt.sym c),dT:=n.dT++[n.told.mul (Mt.sym c)]}:=by
 refine⟨by simp[h.len],?_,?_,?_⟩
 ·simp only;rw[getElem?_append_left (by rw[h.len];omega)];exact h.fst
 ·simp only;rw[getElem?_append_right (by simp[h.len])];simp[h.len]
 ·intro r d m a b;simp only at a b ⊢
  by_cases f:r<n.out.length
  ·rw[getElem?_append_left f]at a;rw[getElem?_append_left (by rw[h.len];omega)]at b ⊢;exact h.step r d m a b
  ·have e:r=n.out.length:=by
    have:=(List.getElem?_eq_some_iff.1 a).1;simp at this;omega
   subst e;rw[getElem?_append_right (le_refl _)]at a;simp at a;rw[getElem?_append_left (by rw[h.len];omega),h.lst]at b;cases b;subst a;rw[getElem?_append_right (by rw[h.len];omega)];simp[h.len]
structure Go (ns ns':List Nd):Prop where
 len:ns.length<=ns'.length
 at':∀(i:Nat) (n:Nd),ns[i]?=some n->∃n',ns'[i]?=some n'/\n'.pos=n.pos/\(∀(r:Nat) (m:Mt),n.dT[r]?=some m->n'.dT[r]?=some m)/\(∀(r:Nat) (c:Int),n.out[r]?=some c->n'.out[r]?=some c)
theorem Go.refl (ns:List Nd):Go ns ns:=⟨le_refl _,fun i n h=>⟨n,h,rfl,fun _ _ h=>h,fun _ _ h=>h⟩⟩
theorem Go.trans {a b c:List Nd}(h:Go a b)(d:Go b c):Go a c:=⟨le_trans h.len d.len,fun i n q=>by
 obtain⟨s,f,g,j,k⟩:=h.at' i n q;obtain⟨u,l,o,p,h8⟩:=d.at' i s f
 exact⟨u,l,o.trans g,fun r m e=>p r m (j r m e),fun r m e=>h8 r m (k r m e)⟩⟩
theorem Go.more (ns a:List Nd):Go ns (ns++a):=⟨by simp,fun i n h=>⟨n,by rw[getElem?_append_left (List.getElem?_eq_some_iff.1 h).1];exact h,rfl,fun _ _ h=>h,fun _ _ h=>h⟩⟩
theorem Go.set {ns:List Nd}{i:Nat}{d n':Nd}(h:ns[i]?=some d)(g:n'.pos=d.pos)(e:∀(r:Nat) (m:Mt),d.dT[r]?=some m->n'.dT[r]?=some m)(f:∀(r:Nat) (c:Int),d.out[r]?=some c->n'.out[r]?=some c):Go ns (ns.set i n'):=by
 refine⟨by simp,fun k m a=>?_⟩
 by_cases b:i=k
 ·subst b;rw[h]at a;cases a;exact⟨n',by rw[List.getElem?_set_self (List.getElem?_eq_some_iff.1 h).1],g,e,f⟩
 ·exact⟨m,by rw[List.getElem?_set_ne b];exact a,rfl,fun _ _ h=>h,fun _ _ h=>h⟩
theorem Go.ends {ns b:List Nd}(h:Go ns b){d:Nd}{w:Nat}{e:V×V}(s:ends ns d w=some e):ends b d w=some e:=by
 unfold Rf.ends at*;obtain⟨a,i,j⟩:=Option.bind_eq_some_iff.1 s;obtain⟨x,k,l⟩:=Option.bind_eq_some_iff.1 j;obtain⟨r,o,p⟩:=Option.bind_eq_some_iff.1 l;obtain⟨m,q,rfl⟩:=Option.map_eq_some_iff.1 p;obtain⟨u,f,_,g,_⟩:=h.at' a x k;rw[i];simp only[Option.bind_some,f,o,g r m q,map_some]
theorem Go.bare {ns b:List Nd}(h:Go ns b){d:Nd}{D:List V}(a:bare ns d=some D):bare b d=some D:=by
 unfold Rf.bare at*;split at a
 ·exact a
 ·exact a
 ·obtain⟨e,g,rfl⟩:=Option.map_eq_some_iff.1 a;rw[h.ends g];rfl
 ·obtain⟨e,g,j⟩:=Option.bind_eq_some_iff.1 a;rw[h.ends g];simp only[Option.bind_some];obtain⟨r,f,rfl⟩:=Option.map_eq_some_iff.1 j
  by_cases i:d.args.length=2
  ·rw[if_pos i]at f ⊢;rw[h.ends f];rfl
  ·rw[if_neg i]at f ⊢;rw[f];rfl
 ·cases a
theorem Go.corners {ns a:List Nd}(h:Go ns a){d:Nd}{D:List V}(f:corners ns d=some D):corners a d=some D:=by
 unfold Rf.corners at*;obtain⟨b,e,rfl⟩:=Option.map_eq_some_iff.1 f;rw[h.bare e];rfl
theorem Go.waits {ns e:List Nd}(h:Go ns e):∀(d rd:PH),(∀a∈d,a<ns.length)->waits e d rd=waits ns d rd
 | [],_,_=>by simp[Rf.waits]
 |_::_,[],_=>by simp[Rf.waits]
 |a::d,r::l,g=>by
  unfold Rf.waits;have f:=g a (by simp);obtain⟨n,i,j,_⟩:=h.at' a ns[a] (getElem?_eq_getElem f);rw[i,getElem?_eq_getElem f,h.waits d l (fun b k=>g b (by simp[k]))];simp only[j]
variable {ns:List Nd}{D:List V}
theorem aH3 (f:corners ns d=some D)(c:Int)(o:LN)(a:List Mt):corners ns {d with out:=o,told:=d.told.mul (Mt.sym c),dT:=a}=some (D.map (fI (Mt.sym c))):=by
 unfold Rf.corners at*;obtain⟨b,e,rfl⟩:=Option.map_eq_some_iff.1 f;have:bare ns {d with out:=o,told:=d.told.mul (Mt.sym c),dT:=a}=some b:=e;rw[this];simp only[map_some,map_map];congr 2;funext v;exact aJ2 _ _ v
theorem aHZ:∀(l:PH) (k r:Nat),l[k]?=some r->(bump l k)[k]?=some (r+1)
 | [],_,_,h=>by simp at h
 |x::l,0,r,h=>by simp at h;subst h;simp[bump]
 |x::l,k+1,r,h=>by simp[bump];exact aHZ l k r (by simpa using h)
variable {S F:V}
theorem Ux (a:n.t=[S,F]):bare ns n=(ends ns n 0).map fun e=>[eZ ⟨S.1,F.1,S.2,F.2⟩ e.1,eZ ⟨S.1,F.1,S.2,F.2⟩ e.2]:=by
 unfold Rf.bare;rw[a]
variable {y z:V}
theorem Dj (a:n.t=[S,F,y,z]):bare ns n=(ends ns n 0).bind fun e=>(if n.args.length=2 then ends ns n 1 else some ((1,0),(0,1))).map fun r=>[bM [S,F,y,z] e.1 r.1,bM [S,F,y,z] e.1 r.2,bM [S,F,y,z] e.2 r.1,bM [S,F,y,z] e.2 r.2]:=by
 unfold Rf.bare;rw[a]
theorem aGJ (a:n.t=[]):bare ns n=some [eZ n.part (1,0),eZ n.part (0,1)]:=by
 unfold Rf.bare;rw[a]
variable {a r:Nat}{x:Nd}
theorem Zx {w:Nat}{c:Int}{e:V×V}(b:ends ns n w=some e)(h:n.args[w]?=some a)(j:ns[a]?=some x)(f:n.read[w]?=some r)(hc:x.out[r]?=some c)(d:HC x):
  ends ns {n with read:=bump n.read w} w=some (iQ e.1 e.2 (Mt.sym c),rd2 e.1 e.2 (Mt.sym c)):=by
 unfold Rf.ends at*;rw[h]at b ⊢;simp only[Option.bind_some,j,f]at b ⊢;obtain⟨m,g,rfl⟩:=Option.map_eq_some_iff.1 b;have i:(bump n.read w)[w]?=some (r+1):=aHZ n.read w r f;rw[i];simp only[Option.bind_some,d.step r c m hc g,map_some];rw[Ro,Rp]
theorem aMI:∀(l:PH) (k j:Nat),j≠k->(bump l k)[j]?=l[j]?
 | [],k,j,_=>by simp[bump]
 |a::l,0,j,h=>by
  cases j with
  |zero=>exact absurd rfl h
  |succ j=>simp[bump]
 |a::l,k+1,j,h=>by
  cases j with
  |zero=>simp[bump]
  |succ j=>simpa[bump]using aMI l k j (by omega)
theorem aGm {w k:Nat}(h:w≠k):ends ns {n with read:=bump n.read k} w=ends ns n w:=by
 unfold Rf.ends;rw[aMI _ _ _ h]
theorem aJm (h:d.t=[S,F])(k:corners ns d=some D){c:Int}(j:d.args[0]?=some a)(s:ns[a]?=some x)(o:d.read[0]?=some r)(hc:x.out[r]?=some c)(f:HC x):
  ∃p q,D=[p,q]/\corners ns {d with read:=bump d.read 0}=some [iQ p q (Mt.sym c),rd2 p q (Mt.sym c)]:=by
 unfold Rf.corners at*;obtain⟨b,g,rfl⟩:=Option.map_eq_some_iff.1 k;rw[Ux h]at g;obtain⟨e,i,rfl⟩:=Option.map_eq_some_iff.1 g;refine⟨_,_,rfl,?_⟩;rw[Ux (n:={d with read:=bump d.read 0}) h,Zx i j s o hc f];simp only[map_some,map_cons,map_nil];rw[Ly,Lz,aTo,aTq]
theorem aH4 (i:d.t=[S,F,y,z])(A:corners ns d=some D){c:Int}(w:d.args[0]?=some a)(C:ns[a]?=some x)(B:d.read[0]?=some r)(hc:x.out[r]?=some c)(f:HC x):
  ∃p q s t,D=[p,q,s,t]/\corners ns {d with read:=bump d.read 0}=some [iQ p s (Mt.sym c),iQ q t (Mt.sym c),rd2 p s (Mt.sym c),rd2 q t (Mt.sym c)]:=by
 unfold Rf.corners at*;obtain⟨b,h,rfl⟩:=Option.map_eq_some_iff.1 A;rw[Dj i]at h;obtain⟨e,j,k⟩:=Option.bind_eq_some_iff.1 h;obtain⟨g,o,rfl⟩:=Option.map_eq_some_iff.1 k;refine⟨_,_,_,_,rfl,?_⟩;rw[Dj (n:={d with read:=bump d.read 0}) i,Zx j w C B hc f,aGm (by decide)];simp only[Option.bind_some];rw[o];simp only[map_some,map_cons,map_nil];rw[aIV,aIV,aIW,aIW,Ly,Ly,Lz,Lz]
theorem aGZ (j:d.t=[S,F,y,z])(f:d.args.length=2)(B:corners ns d=some D){c:Int}(A:d.args[1]?=some a)(E:ns[a]?=some x)(C:d.read[1]?=some r)(hc:x.out[r]?=some c)(h:HC x):
  ∃p q s t,D=[p,q,s,t]/\corners ns {d with read:=bump d.read 1}=some [iQ p q (Mt.sym c),rd2 p q (Mt.sym c),iQ s t (Mt.sym c),rd2 s t (Mt.sym c)]:=by
 unfold Rf.corners at*;obtain⟨b,i,rfl⟩:=Option.map_eq_some_iff.1 B;rw[Dj j,if_pos f]at i;obtain⟨e,k,o⟩:=Option.bind_eq_some_iff.1 i;obtain⟨g,w,rfl⟩:=Option.map_eq_some_iff.1 o;refine⟨_,_,_,_,rfl,?_⟩;rw[Dj (n:={d with read:=bump d.read 1}) j,if_pos f,aGm (by decide),k];simp only[Option.bind_some];rw[Zx w A E C hc h];simp only[map_some,map_cons,map_nil];rw[aIX,aIX,aIY,aIY,Ly,Ly,Lz,Lz]
theorem aH8 (j:d.t=[S,F,y,z]){b:Nat}(f:d.args=[a])(i:d.read=[r])(s:corners ns d=some D)(w:ns[b]?=some x)(p:x.dT[0]?=some one):corners ns {d with args:=d.args++[b],read:=d.read++[0]}=some D:=by
 unfold Rf.corners at*;obtain⟨A,g,rfl⟩:=Option.map_eq_some_iff.1 s;rw[Dj j,if_neg (by rw[f];simp)]at g;obtain⟨e,h,q⟩:=Option.bind_eq_some_iff.1 g
 have k:ends ns {d with args:=d.args++[b],read:=d.read++[0]} 0=some e:=by
  unfold Rf.ends at*;simp only[f,i]at h ⊢
  simpa using h
 have o:ends ns {d with args:=d.args++[b],read:=d.read++[0]} 1=some ((1,0),(0,1)):=by
  unfold Rf.ends;simp only[f,i];simp[w,p,Md]
 rw[Dj (n:={d with args:=d.args++[b],read:=d.read++[0]}) j,if_pos (by simp[f]),k];simp only[Option.bind_some];rw[o,q];rfl
theorem aH7 (b:d.t=[])(a:corners ns d=some D)(m:Mt)(k:Nat):∃p q,D=[p,q]/\corners ns {d with part:=d.part.mul m,k:=k}=some [iQ p q m,rd2 p q m]:=by
 unfold Rf.corners at*;rw[aGJ b]at a;simp only[map_some,Option.some.injEq]at a;subst a;refine⟨_,_,rfl,?_⟩;rw[aGJ (n:={d with part:=d.part.mul m,k:=k}) b];simp only[map_some,map_cons,map_nil];rw[Ro,Rp,Ly,Lz]
end Pg
namespace Ab
variable {z:Int}{s:LN}
theorem Gc {t:Int}(h:∀y∈s,y=0\/(0<=t/\t<=(tz y:Int))):∀y∈z::s,y=0\/(0<=cW t z/\cW t z<=(tz y:Int)):=by
 intro y hy
 have e:cW t z=(if z=0 then t else if t<0\/(tz z:Int)<t then(tz z:Int)else t):=by
  unfold cW
  by_cases b:z=0
  ·rw[iU b,if_pos b];rfl
  ·have:(Nm.cmp z 0==0)=false:=by
    rw[beq_eq_false_iff_ne]
    rcases Int.lt_or_gt_of_ne b with g|g
    ·rw[iV g];decide
    ·rw[gX g];decide
   rw[this,if_neg b,cond_false]
   by_cases a:t<0
   ·rw[decide_eq_true a,if_pos (Or.inl a)];rfl
   ·rw[decide_eq_false a,cond_false]
    by_cases d:(tz z:Int)<t
    ·rw[decide_eq_true d,if_pos (Or.inr d)];rfl
    ·rw[decide_eq_false d,if_neg (by omega)];rfl
 rw[e];simp only[List.mem_cons]at hy
 rcases hy with rfl|hy
 ·by_cases b:y=0
  ·exact Or.inl b
  ·right;rw[if_neg b]
   split<;>omega
 ·rcases h y hy with a|⟨a,d⟩
  ·exact Or.inl a
  ·right;split
   ·exact⟨a,d⟩
   ·split<;>omega
theorem aLJ {v:Int}{w:Nat}(h:(2:Int)^w ∣ v):v=2^w*half v w:=by
 have b:(0:Int)<2^w:=jZ (by decide) w;have a:(2:Int)^w ∣ (v.natAbs:Int):=Int.dvd_natAbs.2 h;have e:2^w*((v.natAbs:Int)/2^w)=v.natAbs:=Int.mul_ediv_cancel' a;unfold half;split
 ·rw[Int.mul_neg,e];omega
 ·rw[e];omega
theorem aPP {t:Int}(h:z=0\/(0<=t/\t<=(tz z:Int))):z=(if t<1 then 1 else 2^t.toNat)*hv t z:=by
 unfold hv
 by_cases a:t<1
 ·rw[if_pos a,decide_eq_true a,cond_true,Int.one_mul]
 ·rw[if_neg a,decide_eq_false a,cond_false];unfold iG;rw[decide_eq_false a,cond_false];refine aLJ ?_
  rcases h with rfl|⟨b,d⟩
  ·exact Int.dvd_zero _
  ·refine Int.dvd_trans ⟨2^(tz z-t.toNat),?_⟩ (Nm.aRW z);rw[<-Int.pow_add];congr 1;omega
theorem aNq (a d p1 e b f p3 g:Int):∃s:Int,0<s/\[(a,d),(p1,e),(b,f),(p3,g)]=[(hv (tw8 a d p1 e b f p3 g) a,hv (tw8 a d p1 e b f p3 g) d),(hv (tw8 a d p1 e b f p3 g) p1,hv (tw8 a d p1 e b f p3 g) e),(hv (tw8 a d p1 e b f p3 g) b,hv (tw8 a d p1 e b f p3 g) f),(hv (tw8 a d p1 e b f p3 g) p3,hv (tw8 a d p1 e b f p3 g) g)].map (Pg.sc s):=by
 have j:∀y∈([]:LN),y=0\/(0<=(-1:Int)/\(-1:Int)<=(tz y:Int)):=fun y i=>by cases i
 have h:=Gc (z:=g) (Gc (z:=p3) (Gc (z:=f) (Gc (z:=b) (Gc (z:=e) (Gc (z:=p1) (Gc (z:=d) (Gc (z:=a) j)))))));have l:cW (cW (cW (cW (cW (cW (cW (cW (-1) a) d) p1) e) b) f) p3) g=tw8 a d p1 e b f p3 g:=rfl;rw[l]at h;generalize tw8 a d p1 e b f p3 g=t at*;refine⟨if t<1 then 1 else 2^t.toNat,by split;decide;exact jZ (by decide) _,?_⟩
 have k:∀y∈[g,p3,f,b,e,p1,d,a],y=(if t<1 then 1 else 2^t.toNat)*hv t y:=fun y i=>aPP (h y i)
 simp only[map_cons,map_nil,Pg.sc];rw[<-k a (by simp),<-k d (by simp),<-k p1 (by simp),<-k e (by simp),<-k b (by simp),<-k f (by simp),<-k p3 (by simp),<-k g (by simp)]
def code (c:Int):Int:=if c=-1 then 5 else if c=0 then 6 else if c=1 then 7 else if c=43 then 1 else if c=45 then 2 else if c=111 then 3 else 4
theorem Pc (c:Int):gN (code c)=(Mt.sym c).a/\gQ (code c)=(Mt.sym c).b/\gU (code c)=(Mt.sym c).c/\gV (code c)=(Mt.sym c).d:=by
 unfold code Mt.sym;split
 ·exact⟨rfl,rfl,rfl,rfl⟩
 ·split
  ·exact⟨rfl,rfl,rfl,rfl⟩
  ·split
   ·exact⟨rfl,rfl,rfl,rfl⟩
   ·split
    ·exact⟨rfl,rfl,rfl,rfl⟩
    ·split
     ·exact⟨rfl,rfl,rfl,rfl⟩
     ·split<;>exact⟨rfl,rfl,rfl,rfl⟩
theorem aM5 (e g p1 i f j p3 k a b c d:Int):mM e g p1 i f j p3 k a b c d=Nw.fits ([(e,g),(p1,i),(f,j),(p3,k)].map (Rf.fI ⟨a,b,c,d⟩)):=by
 have k1:∀x y:Int,decide (Nm.cmp x y<0)=decide (x-y<0):=fun x y=>by
  rcases lt_trichotomy x y with h|h|h
  ·rw[iV h,decide_eq_true (by decide),decide_eq_true (by omega)]
  ·rw[iU h,decide_eq_false (by decide),decide_eq_false (by omega)]
  ·rw[gX h,decide_eq_false (by decide),decide_eq_false (by omega)]
 have n:∀x y:Int,decide (Nm.cmp x y>0)=decide (0<x-y):=fun x y=>by
  rcases lt_trichotomy x y with h|h|h
  ·rw[iV h,decide_eq_false (by decide),decide_eq_false (by omega)]
  ·rw[iU h,decide_eq_false (by decide),decide_eq_false (by omega)]
  ·rw[gX h,decide_eq_true (by decide),decide_eq_true (by omega)]
 have l:∀p q:Int,(Rf.fI ⟨a,b,c,d⟩ (p,q))=(d*p-b*q,a*q-c*p):=fun p q=>by
  unfold Rf.fI Mt.vU Mt.vV;simp only[Int.neg_mul,Int.sub_eq_add_neg]
 unfold mM nI Nw.fits Nw.pF Nw.lQ cl cp;simp only[map_cons,map_nil,List.any_cons,List.any_nil,Bool.or_false,Bool.false_or,k1,n,l];rw[Bool.beq_comm];rfl
def eM (p q:Int):Int:=((Rf.near p q 20000 1).getD (0,0)).1
def eN (p q:Int):Int:=((Rf.near p q 20000 1).getD (0,0)).2
def uY:List G->Option RG
 | [.ns [p,q]]=>some (.tup [.ns [eM p q],.ns [eN p q]])
 |_=>none
def nR:List G->List Prop
 | [.ns [p,q]]=>[0<p/\0<q/\(Rf.near p q 20000 1).isSome=true]
 |_=>[]
theorem aP3:bI Z 160 (gZ true uY nR (fun _=>2) [1]):=by
 refine aIU aNP ?_;intro d out h a f;unfold uY at h;split at h
 ·rename_i p q;cases h;have a:0<p/\0<q/\(Rf.near p q 20000 1).isSome=true:=a.one;refine⟨?_,fH ⟨a.1,a.2.1⟩ gG⟩;obtain⟨b,e⟩:=Option.isSome_iff_exists.1 a.2.2;show(Rf.near p q 20000 1).map (fun b=>RG.tup [.ns [b.1],.ns [b.2]])=some (.tup [.ns [((Rf.near p q 20000 1).getD (0,0)).1],.ns [((Rf.near p q 20000 1).getD (0,0)).2]]);rw[e];rfl
 ·cases h
noncomputable def tN2:List (FuncId×TE):=(160,gZ true uY nR (fun _=>2) [1])::Ys
theorem aRQ:cG Z tN2:=⟨aP3,Du⟩
def Jz:List G->Option RG
 | [.ns [p,q]]=>some (.one (.ns [eM p q*q,eN p q*p,eN p q*q,eM p q*q]))
 |_=>none
theorem aUv:bI Z 140 (cY true Jz nR 3 [1]):=by
 refine iA (l:=tN2) aRQ dG (bF func140 rfl rfl) ?_;intro b out h;unfold Jz at h;split at h
 ·rename_i p q;cases h;exact⟨[0<p/\0<q/\(Rf.near p q 20000 1).isSome=true],3,by kernel_rfl,by decide,fun a _=>fH a.one gG⟩
 ·cases h
noncomputable def tN:List (FuncId×TE):=(140,cY true Jz nR 3 [1])::tN2
theorem kA:cG Z tN:=⟨aUv,aRQ⟩
def Mx (d:Bool)(b mt e g f:Int)(lp rp a nst gv:AC):List AC:=.sbool d::bJ true 0 8++[a,.sint .i64 mt,lp,.sint .i64 e,rp,.sint .i64 g,gv,.sint .i64 b,nst,.sint .i64 f]
def nD (i:Nat):Option Bool->List (Nat×bQ)
 |none=>[]
 |some s=>[(i,ext (.sbool s::Dx 26) 190)]
def Bo (i:Nat):Option Bool->AC
 |none=>.lit (.pointer none)
 |some _=>.ptr i 0
def gvC:Option Nat->AC
 |none=>.lit (.slice none 0 0)
 |some len=>.dsl 3 0 len 1
def Yd:Option Nat->List (Nat×bQ)
 |none=>[]
 |some _=>[(3,ext [] 110)]
def xC (i:Nat):Bool->AC
 |false=>.lit (.pointer none)
 |true=>.ptr i 0
def xB (i:Nat)(ty:TypeId):Bool->List (Nat×bQ)
 |false=>[]
 |true=>[(i,ext [] ty)]
def Sx (i:LN)(b:Bool)(l r:Option Bool)(g:ON)(c n:Bool)(a mt d h f:Int)(e:Nat):AS:=
 ⟨.val (.one (.ptr 0 0))::List.replicate e .fX,(0,ext (Mx b a mt d h f (Bo 1 l) (Bo 2 r) (xC 4 c) (xC 5 n) (gvC g)) 190)::(nD 1 l++(nD 2 r++(Yd g++(xB 4 164 c++xB 5 232 n)))),6,i.map fun z=>(z,10),[]⟩
def Dy:Option Bool->Int->Int->Int
 |none,_,k=>k
 |some s,r,k=>bif s then(bif r==0 then 0 else k)else k
def fitS (a d p1 e b f p3 g s:Int):Bool:=mM a d p1 e b f p3 g (gN s) (gQ s) (gU s) (gV s)
def Ta (a d p1 e b f p3 g:Int):Int:=bif fitS a d p1 e b f p3 g 1 then 1 else bif fitS a d p1 e b f p3 g 2 then 2 else bif fitS a d p1 e b f p3 g 3 then 3 else bif fitS a d p1 e b f p3 g 4 then 4 else 0
def Ri (a d p1 e b f p3 g:Int):Int:=bif fitS a d p1 e b f p3 g 5 then 5 else bif fitS a d p1 e b f p3 g 7 then 7 else bif fitS a d p1 e b f p3 g 6 then 6 else 0
def vC (a:Bool)(g:ON)(x y:Int):Int:=
 match g with
 |none=>bif a then x else y
 |some len=>bif a then(bif (len:Int)==0 then x else y)else y
def tC (b e p1 f d h p3 i:Int)(j:Bool)(l r:Option Bool)(g:ON)(a k n:Int):Int:=
 bif a != 0 then 0 else Dy l k (Dy r n (vC j g (Ta b e p1 f d h p3 i) (Ri b e p1 f d h p3 i)))
noncomputable def bN:FF:=fun f=>bif f==161 then some f161 else bif f==162 then some f162 else none
theorem aVb:bU Z bN:=by
 intro f fn h;unfold bN at h
 cases a:f==161 with
 |true=>
  rw[a]at h;cases h
  have:f=161:=by simpa using a
  subst this;exact⟨(bF func161 rfl rfl).at',(bF func161 rfl rfl).en⟩
 |false=>
  rw[a]at h
  cases b:f==162 with
  |true=>
   rw[b]at h;cases h
   have:f=162:=by simpa using b
   subst this;exact⟨(bF func162 rfl rfl).at',(bF func162 rfl rfl).en⟩
  |false=>rw[b]at h;cases h
noncomputable def wN (h:LN)(b:Bool)(l r:Option Bool)(g:ON)(c n:Bool)(a mt d f e:Int):Option Tr:=run Z (aD tN) bN (aK Z (aD tN)) (fun _=>false) 2000 [.code (aE f148),.top f148] (Sx h b l r g c n a mt d f e 39)
theorem aNR (e h p1 j f k p3 o:Int)(b:Bool)(l r:Option Bool)(g:ON)(c n:Bool)(a mt d p q:Int):((wN [e,h,p1,j,f,k,p3,o] b l r g c n a mt d p q).bind outcome).bind (jL true)=some ([],.one (.i .i64 (tC e h p1 j f k p3 o b l r g a d p)),0):=by
 cases l with
 |none=>
  cases r with
  |none=>cases g<;>kernel_rfl
  |some s=>cases g<;>kernel_rfl
 |some u=>
  cases r with
  |none=>cases g<;>kernel_rfl
  |some s=>cases g<;>kernel_rfl
structure NodeAt (w:World) (k:Nat) (zs:LN) (hs:Bool) (uns mt lr rr pl:Int) (lp rp gv cv nv:Value):Prop where
 ex:∃xs:LB,w.heap[k]?=some (.cells (.bool hs::xs++[cv,.int .i64 mt,lp,.int .i64 lr,rp,.int .i64 rr,gv,.int .i64 uns,nv,.int .i64 pl]).toArray 190 (0,0))/\aU true w zs xs
def iL (w:World):Option (Nat×Bool)->Value->Prop
 |none,v=>v=.pointer none
 |some (k,s),v=>v=.pointer (some ⟨k,0,none⟩)/\∃a:LB,w.heap[k]?=some (.cells (.bool s::a).toArray 190 (0,0))/\a.length=26/\∀y∈a,One y
def GivAt (w:World):Option (Nat×Nat)->Value->Prop
 |none,v=>v=.slice none 0 0
 |some (k,len),v=>∃a,v=.slice (some ⟨k,0,none⟩) len a/\∃cs:LB,w.heap[k]?=some (.cells cs.toArray 110 (0,0))
def ExtAt (w:World)(ty:TypeId):Option Nat->Value->Prop
 |none,v=>v=.pointer none
 |some k,v=>v=.pointer (some ⟨k,0,none⟩)/\∃cs:LB,w.heap[k]?=some (.cells cs.toArray ty (0,0))
def Hm (k:Nat)(l r:Option (Nat×Bool))(g:Option (Nat×Nat))(c n:ON):Nat->Option (Nat×Nat)
 |0=>some (k,0)
 |1=>l.map fun x=>(x.1,0)
 |2=>r.map fun x=>(x.1,0)
 |3=>g.map fun x=>(x.1,0)
 |4=>c.map fun x=>(x,0)
 |5=>n.map fun x=>(x,0)
 |_=>none
theorem Vu {φ:LI}{ν:LV}{w:World}:∀(n:Nat) (a:LB),a.length=n->(∀y∈a,One y)->All2 (relC Z φ ν w) (Dx n) a
 |0,[],_,_=>trivial
 |n+1,y::a,b,h=>⟨h y (by simp),Vu n a (by simpa using b) fun z d=>h z (by simp[d])⟩
 |0,_::_,h,_=>by simp at h
 |_+1,[],h,_=>by simp at h
variable {φ:LI}{ν:LV}{n:World}{i:Nat}{l:Option (Nat×Bool)}{v:Value}
theorem aOi (a:φ i=l.map fun x=>(x.1,0))(h:iL n l v):relC Z φ ν n (Bo i (l.map (·.2))) v:=by
 cases l with
 |none=>exact⟨h,rfl⟩
 |some x=>exact⟨x.1,0,a,h.1⟩
variable {g:Option (Nat×Nat)}
theorem aSL (b:φ 3=g.map fun x=>(x.1,0))(h:GivAt n g v):relC Z φ ν n (gvC (g.map (·.2))) v:=by
 cases g with
 |none=>exact⟨h,rfl⟩
 |some x=>obtain⟨a,d,_⟩:=h;exact⟨x.1,a,by rw[b];rfl,d⟩
theorem aM1 {ty:TypeId}{c:ON}(a:φ i=c.map fun x=>(x,0))(h:ExtAt n ty c v):relC Z φ ν n (xC i c.isSome) v:=by
 cases c with
 |none=>exact⟨h,rfl⟩
 |some x=>exact⟨x,0,a,h.1⟩
theorem nC {b:Nat}{B:bQ}:∀{l:List (Nat×bQ)},look l b=some B->(b,B)∈l
 | [],h=>by simp[look]at h
 |(c,D)::l,h=>by
  simp only[look]at h
  cases hc:(c==b)with
  |true=>
   rw[hc]at h;simp only[cond_true,Option.some.injEq]at h
   have:c=b:=by simpa using hc
   rw[<-h,this];simp
  |false=>
   rw[hc]at h;exact List.mem_cons_of_mem _ (nC h)
variable {b:Nat}{B:bQ}
theorem aKb (h:(b,B)∈nD i (l.map (·.2))):∃x,l=some x/\b=i/\B=ext (.sbool x.2::Dx 26) 190:=by
 cases l with
 |none=>simp[nD]at h
 |some x=>simp[nD]at h;exact⟨x,rfl,h⟩
theorem aSO (h:(b,B)∈Yd (g.map (·.2))):∃x,g=some x/\b=3/\B=ext [] 110:=by
 cases g with
 |none=>simp[Yd]at h
 |some x=>simp[Yd]at h;exact⟨x,rfl,h⟩
theorem aR3 {ty:TypeId}{c:ON}(h:(b,B)∈xB i ty c.isSome):∃x,c=some x/\b=i/\B=ext [] ty:=by
 cases c with
 |none=>simp[xB]at h
 |some x=>simp[xB]at h;exact⟨x,rfl,h⟩
variable {k:Nat}{a:Bool}{r:Option (Nat×Bool)}{v mt y u:Int}{lp rp gv Y:Value}
theorem aVU {c d:ON}{E:Int}{R:Value}(hn:NodeAt n k s a v mt E y u lp rp gv Y R)(h8:s.length=8)(hb:∀z∈s,Bits 10 z)(N:iL n l lp)(P:iL n r rp)(L:GivAt n g gv)(hc:ExtAt n 164 c Y)(O:ExtAt n 232 d R)(nt:Nat):
  RepW Z n (Hm k l r g c d) (Hm k l r g c d) (Sx s a (l.map (·.2)) (r.map (·.2)) (g.map (·.2)) c.isSome d.isSome v mt E y u nt) n:=by
 obtain⟨F,S,U⟩:=hn.ex
 have J:All2 (relC Z (Hm k l r g c d) (s.map fun z=>(z,10)) n) (Mx a v mt E y u (Bo 1 (l.map (·.2))) (Bo 2 (r.map (·.2))) (xC 4 c.isSome) (xC 5 d.isSome) (gvC (g.map (·.2)))) (.bool a::F++[Y,.int .i64 mt,lp,.int .i64 E,rp,.int .i64 y,gv,.int .i64 v,R,.int .i64 u]):=by
  have hx:All2 (relC Z (Hm k l r g c d) (s.map fun z=>(z,10)) n) (bJ true 0 8) F:=by
   rw[<-h8]
   exact sL s F 0 _ U hb fun j z hz=>by rw[Nat.zero_add,List.getElem?_map,hz];rfl
  exact All2.append (show All2 (relC Z (Hm k l r g c d) (s.map fun z=>(z,10)) n) (.sbool a::bJ true 0 8) (.bool a::F)from⟨rfl,hx⟩) ⟨aM1 rfl hc,rfl,aOi rfl N,rfl,aOi rfl P,rfl,aSL rfl L,rfl,aM1 rfl O,rfl,trivial⟩
 have i:∀{q:Nat} {cs:LB} {ty:TypeId} {A:List AC},n.heap[q]?=some (.cells cs.toArray ty (0,0))->All2 (relC Z (Hm k l r g c d) (s.map fun z=>(z,10)) n) A cs->Seg Z (Hm k l r g c d) (s.map fun z=>(z,10)) n q 0 ty A:=fun M X=>⟨[],_,[],by simpa using M,rfl,X⟩
 have o:∀{q:Nat} {cs:LB} {ty:TypeId},n.heap[q]?=some (.cells cs.toArray ty (0,0))->Seg Z (Hm k l r g c d) (s.map fun z=>(z,10)) n q 0 ty []:=fun {q cs ty} M=>⟨[],[],cs,M,rfl,trivial⟩
 refine sN rfl ?_ ?_ ?_
 ·intro b B W;have C:=nC W;simp only[Sx,List.mem_cons,List.mem_append,Prod.mk.injEq]at C
  rcases C with⟨rfl,rfl⟩|h|h|h|h|h
  ·exact⟨rfl,rfl,rfl,k,0,rfl,i S J⟩
  ·obtain⟨x,rfl,rfl,rfl⟩:=aKb h;obtain⟨_,D,f,H,I⟩:=N;exact⟨rfl,rfl,rfl,x.1,0,rfl,i f ⟨rfl,Vu 26 D H I⟩⟩
  ·obtain⟨x,rfl,rfl,rfl⟩:=aKb h;obtain⟨_,D,f,H,I⟩:=P;exact⟨rfl,rfl,rfl,x.1,0,rfl,i f ⟨rfl,Vu 26 D H I⟩⟩
  ·obtain⟨x,rfl,rfl,rfl⟩:=aSO h;obtain⟨T,_,cs,f⟩:=L;exact⟨rfl,rfl,rfl,x.1,0,rfl,o f⟩
  ·obtain⟨x,rfl,rfl,rfl⟩:=aR3 h;obtain⟨_,cs,f⟩:=hc;exact⟨rfl,rfl,rfl,x,0,rfl,o f⟩
  ·obtain⟨x,rfl,rfl,rfl⟩:=aR3 h;obtain⟨_,cs,f⟩:=O;exact⟨rfl,rfl,rfl,x,0,rfl,o f⟩
 ·intro b p;have:6<=b:=p
  match b,this with
  |b+6,_=>rfl
 ·intro b q o' p
  match b,p with
  |0,e=>cases e;exact fQ S
  |1,e=>
   cases l with
   |none=>cases e
   |some x=>cases e;obtain⟨_,D,f,_⟩:=N;exact fQ f
  |2,e=>
   cases r with
   |none=>cases e
   |some x=>cases e;obtain⟨_,D,f,_⟩:=P;exact fQ f
  |3,e=>
   cases g with
   |none=>cases e
   |some x=>cases e;obtain⟨_,_,cs,f⟩:=L;exact fQ f
  |4,e=>
   cases c with
   |none=>cases e
   |some x=>cases e;obtain⟨_,cs,f⟩:=hc;exact fQ f
  |5,e=>
   cases d with
   |none=>cases e
   |some x=>cases e;obtain⟨_,cs,f⟩:=O;exact fQ f
  |_+6,e=>cases e
variable {x:Int}
theorem aKG {sp:Spec}{bodies:FF}{M:FuncId}{fn:Func}(F:Fn M fn)(q:∀X ψ,SpecOk Z X ψ sp)(i:bU Z bodies){w:World}{h:LN}{c A:ON}{B:Value}(R:NodeAt w k h a v mt x y u lp rp gv Y B)(h8:h.length=8)(L:∀z∈h,Bits 10 z)(O:iL w l lp)(T:iL w r rp)(N:GivAt w g gv)(hc:ExtAt w 164 c Y)(P:ExtAt w 232 A B)
  {n nt:Nat} (p:fn.ntmps-1=nt) {C:List Prop} {out:RG} {m:Nat} (U:((run Z sp bodies (aK Z sp) (fun _=>false) n [.code (aE fn),.top fn] (Sx h a (l.map (·.2)) (r.map (·.2)) (g.map (·.2)) c.isSome A.isSome v mt x y u nt)).bind outcome).bind (jL true)=some (C,out,m)) (S:Holds C):
  Calls prog M #[.pointer (some ⟨k,0,none⟩)] w fun e d=>∃b,e=.returned b/\RRV Z d (wR true m out) b/\Below w.heap.size w d:=by
 obtain⟨o,D,E⟩:=aT U;obtain⟨tr,H,I⟩:=aT D;refine uD (vs:=[.one (.ptr 0 0)]) (args:=[.pointer (some ⟨k,0,none⟩)]) F (q _ _) i (by subst p;rfl) ⟨⟨k,0,rfl,rfl⟩,trivial⟩ (aVU R h8 L O T N hc P _) H _ (yU I (Dq E S (le_refl _))) ?_;rintro r0 s φ b d⟨j,r',J,h8⟩ hrel W;exact⟨b,rfl,h8 d b (Ct J hrel),RepF.below W j⟩
theorem aLS {w:World}{p1 R p3 h:Int}{c q:ON}{f o p:Int}{s:Value}(E:NodeAt w k [v,z,p1,y,u,R,p3,h] a f mt o p x lp rp gv Y s)(i:∀d∈[v,z,p1,y,u,R,p3,h],Bits 10 d)(C:iL w l lp)(F:iL w r rp)(B:GivAt w g gv)(hc:ExtAt w 164 c Y)(D:ExtAt w 232 q s):
  Calls prog 148 #[.pointer (some ⟨k,0,none⟩)] w fun e A=>e=.returned (.int .i64 (tC v z p1 y u R p3 h a (l.map (·.2)) (r.map (·.2)) (g.map (·.2)) f o p))/\Below w.heap.size w A:=by
 have W:=aNR v z p1 y u R p3 h a (l.map (·.2)) (r.map (·.2)) (g.map (·.2)) c.isSome q.isSome f mt o p x;unfold wN at W
 have j:f148.ntmps-1=39:=by kernel_rfl
 refine(aKG (sp:=aD tN) (bodies:=bN) (n:=2000) (nt:=39) (fn:=f148) (bF func148 rfl rfl) (fun _ _=>cZ kA) aVb E rfl i C F B hc D j W gG).mono ?_;rintro e A⟨b,rfl,hv,i⟩;have hv:b=_:=hv.2;rw[hv];exact⟨rfl,i⟩
def dI:Option Bool->Int->Bool
 |none,_=>false
 |some s,r=>s&&(r==0)
theorem aMz (l:Option Bool)(r k:Int):Dy l r k=if dI l r then 0 else k:=by
 cases l with
 |none=>rfl
 |some s=>
  unfold Dy dI
  cases s with
  |false=>rfl
  |true=>cases h:(r==0)<;>simp
theorem aSI (a d p1 e b f p3 g c:Int):fitS a d p1 e b f p3 g (code c)=Nw.fits ([(a,d),(p1,e),(b,f),(p3,g)].map (Rf.fI (Mt.sym c))):=by
 obtain⟨h,i,j,k⟩:=Pc c;unfold fitS;rw[h,i,j,k,aM5]
def eL:Option Int->Int
 |none=>0
 |some c=>code c
variable {C:ON}
theorem aM2 {len:Nat}(b:C.getD 0=len):vC a C x z=if a=true/\len=0 then x else z:=by
 unfold vC
 cases C with
 |none=>
  simp at b;subst b
  cases a<;>simp
 |some m=>
  simp at b;subst b
  cases a with
  |false=>simp
  |true=>
   by_cases h:m=0
   ·subst h;simp
   ·have:((m:Int)==0)=false:=by rw[beq_eq_false_iff_ne];omega
    simp[this,h]
theorem aS3 {ns:List Rf.Nd}{n:Rf.Nd}{b:List Rf.V}{p1 R p3 e:Int}{l r:Option Bool}{A:Int}{o:Option Int}(hc:Rf.corners ns n=some b)(J:Pg.eO b [(v,z),(p1,y),(u,R),(p3,e)])(E:n.pos=!a)(L:C.getD 0=n.out.length)(j:(dI l x||dI r A)=Rf.waits ns n.args n.read)(d:Rf.next ns n=some o):
  tC v z p1 y u R p3 e a l r C 0 x A=eL o:=by
 unfold tC;rw[show((0:Int) != 0)=false from rfl,cond_false,aMz,aMz];unfold Rf.next at d
 cases B:dI l x with
 |true=>
  rw[B,Bool.true_or]at j;rw[<-j]at d;simp at d;subst d;rfl
 |false=>
  rw[B,Bool.false_or]at j;simp only[Bool.false_eq_true,if_false]
  cases D:dI r A with
  |true=>
   rw[D]at j;rw[<-j]at d;simp at d;subst d;rfl
  |false=>
   rw[D]at j;rw[<-j]at d;simp only[Bool.false_eq_true,if_false,hc,map_some,Option.some.injEq]at d ⊢;rw[aM2 L]
   have f:∀c,Rf.can b c=fitS v z p1 y u R p3 e (code c):=fun c=>by rw[J.can,aSI]
   have s:code 43=1:=rfl;have w:code 45=2:=rfl;have k:code 111=3:=rfl;have p:code 119=4:=rfl;have I:code (-1)=5:=rfl;have H:code 1=7:=rfl;have F:code 0=6:=rfl;have i:n.out.length=0↔n.out=[]:=List.length_eq_zero_iff;subst d;unfold Rf.tries
   by_cases q:a=true/\n.out.length=0
   ·rw[if_pos q,if_pos ⟨by rw[E,q.1];rfl,i.1 q.2⟩];simp only[List.find?,f,s,w,k,p];unfold Ta
    cases fitS v z p1 y u R p3 e 1<;>simp only[cond_true,cond_false]<;>try rfl
    cases fitS v z p1 y u R p3 e 2<;>simp only[cond_true,cond_false]<;>try rfl
    cases fitS v z p1 y u R p3 e 3<;>simp only[cond_true,cond_false]<;>try rfl
    cases fitS v z p1 y u R p3 e 4<;>rfl
   ·rw[if_neg q,if_neg (fun h=>q ⟨by have:=h.1;rw[E]at this;simpa using this,i.2 h.2⟩)];simp only[List.find?,f,I,H,F];unfold Ri
    cases fitS v z p1 y u R p3 e 5<;>simp only[cond_true,cond_false]<;>try rfl
    cases fitS v z p1 y u R p3 e 7<;>simp only[cond_true,cond_false]<;>try rfl
    cases fitS v z p1 y u R p3 e 6<;>rfl
end Ab
theorem aRu (w:World)(k o:Nat)(p:Option Addr)(h:w.cell? ⟨k,o+25,none⟩=some (.pointer p)):Calls prog 176 #[.pointer (some ⟨k,o,none⟩)] w fun e b=>e=.returned (.int .i64 (if p.isSome then 8 else 1))/\b=w:=by
 cases p with
 |none=>
  go_enter func176,ntmps176
  go_wp2_with fail
  go_ret
  exact⟨rfl,rfl⟩
 |some a=>
  go_enter func176,ntmps176
  go_wp2_with fail
  go_ret
  exact⟨rfl,rfl⟩
namespace Ab
def xX (s:Bool)(r:Int):Int:=bif s then(bif decide (r>0)then Wr (r-1)else r)else r
def sDg (s:Bool)(r:Int):AS:=⟨.val (.agg [.ptr 0 0,.sint .i64 r])::List.replicate 22 .fX,[(0,ext [.sbool s] 190)],1,[],[]⟩
def sDn (r:Int):AS:=⟨.val (.agg [.lit (.pointer none),.sint .i64 r])::List.replicate 22 .fX,[],0,[],[]⟩
theorem aSB (s:Bool)(r:Int):((run Z (aD []) (fun _=>none) (aK Z (aD [])) (fun _=>false) 300 [.code (aE f177),.top f177] (sDg s r)).bind outcome).bind (jL true)=some ([],.one (.i .i64 (xX s r)),0):=by kernel_rfl
theorem aSE (r:Int):((run Z (aD []) (fun _=>none) (aK Z (aD [])) (fun _=>false) 300 [.code (aE f177),.top f177] (sDn r)).bind outcome).bind (jL true)=some ([],.one (.i .i64 r),0):=by kernel_rfl
theorem aVw {n:World}{k o:Nat}{s:Bool}{pre post:LB}(r:Int)(f:n.heap[k]?=some (.cells (pre++[Value.bool s]++post).toArray 190 (0,0)))(u:pre.length=o):Calls prog 177 #[.agg #[.pointer (some ⟨k,o,none⟩),.int .i64 r]] n fun e d=>e=.returned (.int .i64 (xX s r))/\Below n.heap.size n d:=by
 obtain⟨A,g,h⟩:=aT (aSB s r);obtain⟨E,i,j⟩:=aT g;refine uD (vs:=[.agg [.ptr 0 0,.sint .i64 r]]) (args:=[.agg #[.pointer (some ⟨k,o,none⟩),.int .i64 r]]) (φ:=fun b=>bif b==0 then some (k,o)else none) (s:=sDg s r) (bF func177 rfl rfl) (cZ (l:=[]) trivial) dG rfl ⟨⟨[.pointer (some ⟨k,o,none⟩),.int .i64 r],rfl,⟨k,o,rfl,rfl⟩,rfl,trivial⟩,trivial⟩ (sN rfl ?_ ?_ ?_) i _ (yU j (Dq h gG (le_refl _))) ?_
 ·intro b B q;have:=nC q;simp[sDg]at this;obtain⟨rfl,rfl⟩:=this;exact⟨rfl,rfl,rfl,k,o,rfl,pre,[.bool s],post,f,u,rfl,trivial⟩
 ·intro b a;have:1<=b:=a
  cases b with
  |zero=>omega
  |succ b=>rfl
 ·intro b y z a
  cases b with
  |zero=>cases a;exact fQ f
  |succ b=>cases a
 ·rintro D st φ v d⟨hc,C,p,h8⟩ hrel x;have hv:v=_:=(h8 d v (Ct p hrel)).2;rw[hv];exact⟨rfl,RepF.below x hc⟩
theorem aVz (w:World)(r:Int):Calls prog 177 #[.agg #[.pointer none,.int .i64 r]] w fun e a=>e=.returned (.int .i64 r)/\Below w.heap.size w a:=by
 obtain⟨p,d,f⟩:=aT (aSE r);obtain⟨x,g,h⟩:=aT d;refine uD (vs:=[.agg [.lit (.pointer none),.sint .i64 r]]) (args:=[.agg #[.pointer none,.int .i64 r]]) (φ:=fun _=>none) (s:=sDn r) (bF func177 rfl rfl) (cZ (l:=[]) trivial) dG rfl ⟨⟨[.pointer none,.int .i64 r],rfl,⟨rfl,rfl⟩,rfl,trivial⟩,trivial⟩ (sN rfl (fun b B j=>by simp[sDn,look]at j) (fun _ _=>rfl) (fun b k o e=>by cases e)) g _ (yU h (Dq f gG (le_refl _))) ?_;rintro u st φ v a⟨hc,q,i,h8⟩ hrel n;have hv:v=_:=(h8 a v (Ct i hrel)).2;rw[hv];exact⟨rfl,RepF.below n hc⟩
def Ej:AC->Option Int
 |.int .i64 n=>some n
 |.sint .i64 n=>some n
 |_=>none
def lwO:Option AC->Option Int
 |some (.lit (.pointer none))=>some 1
 |some (.ptr _ _)=>some 8
 |_=>none
def Td:Spec:=fun f _ ν _ a d=>
 bif f==177 then (match d with
  | [.agg [.lit (.pointer none),c]]=>(Ej c).map fun r=>([],.val (.one (.sint .i64 r)),[],none)
  | [.agg [.ptr b 0,c]]=>(Ej c).bind fun r=>(a b).bind fun B=>bif B.ty==190 then(match B.cs with|.sbool s::_=>some ([],.val (.one (.sint .i64 (xX s r))),[],none)|_=>none)else none
  |_=>none)
 else bif f==176 then (match d with
  | [.one (.ptr b 0)]=>(a b).bind fun B=>bif B.ty==190 then(lwO (B.cs[25]?)).map fun n=>([],.val (.one (.int .i64 n)),[],none)else none
  |_=>none)
 else none
theorem aNu {φ:LI}{ν:LV}{n:World}{c:AC}{r:Int}{x:Value}(h:Ej c=some r)(a:relC Z φ ν n c x):x=.int .i64 r:=by
 unfold Ej at h;split at h
 ·cases h;exact a
 ·cases h;exact a
 ·cases h
theorem aWh (w0:World)(ψ:LI):SpecOk Z w0 ψ Td:=by
 intro f d ν id bx vs au r p ap h;unfold Td at h
 cases X:f==177 with
 |true=>
  have:f=177:=by simpa using X
  subst this;rw[X]at h;simp only[cond_true]at h;refine⟨(bF func177 rfl rfl).en,?_⟩;split at h
  ·obtain⟨n,R,S⟩:=cA h;cases S;intro _ q C φ w z _ _ _ g a;obtain⟨x,rfl,P,rfl,L⟩:=Ql a
   match P,L with
   | [u,v],⟨J,Y,_⟩=>
    have hu:u=.pointer none:=J.1;have hv:=aNu R Y;subst hu hv;refine(aVz w n).mono ?_;rintro e w'⟨rfl,hb⟩;exact⟨_,rfl,hb,rfl⟩
   | [_],⟨_,h⟩=>exact h.elim
   |_::_::_::_,⟨_,_,h⟩=>exact h.elim
  ·rename_i b c;obtain⟨n,R,S⟩:=aT h;obtain⟨B,T,j⟩:=aT S
   cases H:(B.ty==190)with
   |false=>rw[H]at j;cases j
   |true=>
    rw[H]at j;simp only[cond_true]at j;split at j
    ·rename_i s aj ab;cases j;intro _ q C φ w z _ _ _ g a;obtain⟨k,o,D,E,l,U,F,W,O⟩:=g b B T;rw[ab]at O;obtain⟨x,rfl,P,rfl,L⟩:=Ql a
     match P,L,E,O,F with
     | [u,v],⟨⟨k',o',N,q2⟩,Y,_⟩,y::E,⟨k1,_⟩,F=>
      rw[U]at N;cases N;have hv:=aNu R Y;have L:y=.bool s:=k1;subst hv L q2
      have ad:B.ty=190:=by simpa using H
      rw[ad]at F;refine(aVw (pre:=D) (post:=E++l) n (by simpa using F) W).mono ?_;rintro e w'⟨rfl,hb⟩;exact⟨_,rfl,hb,rfl⟩
     | [_],⟨_,h⟩,_,_,_=>exact h.elim
     |_::_::_::_,⟨_,_,h⟩,_,_,_=>exact h.elim
    ·cases j
  ·cases h
 |false=>
  rw[X]at h;simp only[cond_false]at h
  cases J:f==176 with
  |false=>rw[J]at h;cases h
  |true=>
   have:f=176:=by simpa using J
   subst this;rw[J]at h;simp only[cond_true]at h;refine⟨(bF func176 rfl rfl).en,?_⟩;split at h
   ·rename_i b;obtain⟨B,T,j⟩:=aT h
    cases H:(B.ty==190)with
    |false=>rw[H]at j;cases j
    |true=>
     rw[H]at j;simp only[cond_true]at j
     have M:∀(φ:LI) (q:LV) (w:World) (z:LB) (c:AC),B.cs[25]?=some c->wZ Z φ q w bx->All2 (dW Z φ q w) [.one (.ptr b 0)] z->∃k o x,z=[.pointer (some ⟨k,o,none⟩)]/\relC Z φ q w c x/\w.cell? ⟨k,o+25,none⟩=some x:=by
      intro φ q w z c hc g a;obtain⟨k,o,D,P,l,U,F,W,O⟩:=g b B T;obtain⟨x,rfl,k',o',N,q2⟩:=Ql a;rw[U]at N;cases N;obtain⟨y,ae,af⟩:=O.at hc;refine⟨k,o,y,by rw[q2];rfl,af,?_⟩;rw[Mh F,<-W];exact aOy ae
     obtain⟨nn,I,e6⟩:=cA j;cases e6;unfold lwO at I;split at I
     ·rename_i hc;cases I;intro _ q C φ w z _ _ _ g a;obtain⟨k,o,x,rfl,A,i⟩:=M φ q w z _ hc g a;have A:x=.pointer none:=A.1;subst A;refine(aRu w k o none i).mono ?_;rintro e w'⟨rfl,rfl⟩;exact⟨_,rfl,Below.refl _ _,rfl⟩
     ·rename_i b' ai hc;cases I;intro _ q C φ w z _ _ _ g a;obtain⟨k,o,x,rfl,A,i⟩:=M φ q w z _ hc g a;obtain⟨k2,o2,_,A⟩:=A;subst A;refine(aRu w k o _ i).mono ?_;rintro e w'⟨rfl,rfl⟩;exact⟨_,rfl,Below.refl _ _,rfl⟩
     ·cases I
   ·cases h
def Au:List G->Option RG
 | [.ns [a,d,p1,e,b,f,p3,g],.i .i64 t]=>bif decide (t.natAbs<100)then some (.one (.i .i64 (kD a d p1 e b f p3 g t)))else none
 |_=>none
theorem aTY:bI Z 175 (cY true Au aX 0 [15,0]):=by
 refine aIU aRb ?_;intro b out h d e;unfold Au at h;split at h
 ·rename_i f i p1 j g k p3 l t
  cases a:decide (t.natAbs<100)with
  |false=>rw[a]at h;cases h
  |true=>
   rw[a]at h;cases h
   have:t.natAbs<100:=by simpa using a
   exact⟨rfl,fH (by omega) gG⟩
 ·cases h
noncomputable def tR:List (FuncId×TE):=(175,cY true Au aX 0 [15,0])::tN
theorem aXC:cG Z tR:=⟨aTY,kA⟩
def Tl:Option Bool->Int->Bool->Bool->Bool
 |none,_,_,k=>k
 |some s,r,v,k=>bif s then(bif r==0 then v else k)else k
def dgO:Option Bool->Int->Int
 |none,r=>r
 |some s,r=>xX s r
def rlK (a d p1 e b f p3 g t:Int)(x:Bool):Bool:=bif mM a d p1 e b f p3 g 1 0 0 1 then(bif kD a d p1 e b f p3 g t==1 then true else bif kD a d p1 e b f p3 g t==-1 then false else x)else x
def wgt:Bool->Int
 |false=>1
 |true=>8
def oV (e g p1 h f i p3 j:Int)(l r:Option Bool)(n:Bool)(a d:Int):Bool:=
 match l with
 |none=>false
 |some b=>Tl (some b) a true (Tl r d false (rlK e g p1 h f i p3 j (wgt n) (decide (dgO (some b) a<=dgO r d))))
noncomputable def tJ (h:LN)(b:Bool)(l r:Option Bool)(g:ON)(c n:Bool)(a mt d f e:Int):Option Tr:=run Z (eS Td (aD tR)) bN (aK Z (eS Td (aD tR))) (fun _=>false) 2000 [.code (aE f164),.top f164] (Sx h b l r g c n a mt d f e 45)
theorem aLZ (e h p1 i f j p3 k:Int)(p:Bool)(l r:Option Bool)(g:ON)(c n:Bool)(a mt d o q:Int):((tJ [e,h,p1,i,f,j,p3,k] p l r g c n a mt d o q).bind outcome).bind (jL true)=some ([],.one (.b (oV e h p1 i f j p3 k l r n d o)),0):=by
 cases l with
 |none=>kernel_rfl
 |some s=>
  cases r with
  |none=>cases n<;>cases g<;>cases c<;>kernel_rfl
  |some u=>cases n<;>cases g<;>cases c<;>kernel_rfl
theorem aJO {w:World}{k:Nat}{v z p1 y u R p3 h:Int}{a:Bool}{l r:Option (Nat×Bool)}{g:Option (Nat×Nat)}{c p:ON}{f mt o q x:Int}{lp rp gv Y s:Value}(E:NodeAt w k [v,z,p1,y,u,R,p3,h] a f mt o q x lp rp gv Y s)(i:∀d∈[v,z,p1,y,u,R,p3,h],Bits 10 d)(C:iL w l lp)(F:iL w r rp)(B:GivAt w g gv)(hc:ExtAt w 164 c Y)(D:ExtAt w 232 p s):
  Calls prog 164 #[.pointer (some ⟨k,0,none⟩)] w fun e A=>e=.returned (.bool (oV v z p1 y u R p3 h (l.map (·.2)) (r.map (·.2)) p.isSome o q))/\Below w.heap.size w A:=by
 have W:=aLZ v z p1 y u R p3 h a (l.map (·.2)) (r.map (·.2)) (g.map (·.2)) c.isSome p.isSome f mt o q x;unfold tJ at W
 have j:f164.ntmps-1=45:=by kernel_rfl
 refine(aKG (sp:=eS Td (aD tR)) (bodies:=bN) (n:=2000) (nt:=45) (fn:=f164) (bF func164 rfl rfl) (fun _ _=>Pq (aWh _ _) (cZ aXC)) aVb E rfl i C F B hc D j W gG).mono ?_;rintro e A⟨b,rfl,hv,i⟩;have hv:b=_:=hv.2;rw[hv];exact⟨rfl,i⟩
theorem aKp (p:Int):(Nm.cmp p 0==0)=decide (p=0):=by
 rcases lt_trichotomy p 0 with h|h|h
 ·rw[iV h,decide_eq_false (by omega)];rfl
 ·rw[iU h,decide_eq_true h];rfl
 ·rw[gX h,decide_eq_false (by omega)];rfl
theorem aOI (p q:Int):Bx p q=Pg.eI (p,q):=by
 unfold Bx Pg.eI;rw[aKp,aKp]
 by_cases a:p=0
 ·by_cases b:q=0
  ·simp[a,b]
  ·simp[a,b]
 ·simp[a]
theorem aL4 (up d e f op a rp b:Int):jB up d e f op a rp b=Pg.scaled (up,d) (e,f) (op,a) (rp,b):=by
 unfold jB Pg.scaled;rw[aOI,aOI]
theorem aVK (a b:Int):Yc a b=Pg.yQ a b:=by
 unfold Yc Pg.yQ
 rcases lt_trichotomy a b with h|h|h
 ·rw[iV h,if_pos h];rfl
 ·rw[iU h,if_neg (by omega)];rfl
 ·rw[gX h,if_neg (by omega)];rfl
theorem aMl (a d p1 e b f p3 g t:Int):kD a d p1 e b f p3 g t=Pg.rP [(a,d),(p1,e),(b,f),(p3,g)] t:=by
 unfold kD Pg.rP;simp only[aVK,aL4]
theorem aSH (a d p1 e b f p3 g:Int):mM a d p1 e b f p3 g 1 0 0 1=Nw.fits [(a,d),(p1,e),(b,f),(p3,g)]:=by
 rw[aM5];have:∀v:Rf.V,Rf.fI ⟨1,0,0,1⟩ v=v:=Pg.Gg;simp only[map_cons,map_nil,this]
def vX:Option Bool->Nat->Option Nat
 |none,_=>some 0
 |some s,r=>if s then(if r=0 then none else some (r-1))else some r
variable {l:Option Bool}{r:Nat}
theorem aRj {a:Nat}(b:l=none->r=0)(f:r<=1000000)(h:vX l r=some a):dgO l r=(a:Int):=by
 cases l with
 |none=>simp[vX]at h;subst h;rw[b rfl];rfl
 |some s=>
  unfold vX at h;show xX s r=(a:Int);unfold xX
  cases s with
  |false=>simp at h;subst h;rfl
  |true=>
   simp at h;obtain⟨d,e⟩:=h;rw[decide_eq_true (by omega:(r:Int)>0),cond_true,cond_true,mD (by omega) (by omega)];omega
theorem aLp {a k:Bool}(h:vX l r=none):Tl l r a k=a:=by
 cases l with
 |none=>simp[vX]at h
 |some s=>
  unfold vX at h
  cases s with
  |false=>simp at h
  |true=>simp at h;subst h;rfl
theorem aLq {a:Nat}{v k:Bool}(h:vX l r=some a):Tl l r v k=k:=by
 cases l with
 |none=>rfl
 |some s=>
  unfold vX at h
  cases s with
  |false=>rfl
  |true=>
   simp at h
   have:((r:Int)==0)=false:=by rw[beq_eq_false_iff_ne];omega
   simp[Tl,this]
theorem aQm {ns:List Rf.Nd}{n:Rf.Nd}{e:List Rf.V}{v z p1 y u R p3 A:Int}{s:Bool}{r:Option Bool}{w k:Nat}{p:Nat}(E:n.t.length=4)(hc:Rf.corners ns n=some e)(o:e.length=4)(x:Pg.eO e [(v,z),(p1,y),(u,R),(p3,A)])(B:w<=1000000)(C:k<=1000000)(q:r=none->k=0)(d0:Rf.digits ns n 0=some (vX (some s) w))(d1:Rf.digits ns n 1=some (vX r k))(d:Rf.side ns n=some p):
  oV v z p1 y u R p3 A (some s) r n.nest w k=decide (p=0):=by
 unfold Rf.side at d;rw[if_neg (by omega),d0]at d;simp only[Option.bind_some]at d;unfold oV;simp only
 cases i:vX (some s) w with
 |none=>
  rw[i]at d;simp at d;subst d;rw[aLp i];rfl
 |some a=>
  rw[i]at d;rw[aLq i];simp only at d;rw[d1]at d;simp only[Option.bind_some]at d
  cases j:vX r k with
  |none=>
   rw[j]at d;simp at d;subst d;rw[aLp j];rfl
  |some b=>
   rw[j]at d;rw[aLq j];simp only[hc,map_some,Option.some.injEq]at d;rw[aRj (by intro h;cases h) B i,aRj q C j];unfold rlK;rw[aSH,aMl,<-x.fits]
   have D:((wgt n.nest):Int)=(if n.nest then 8 else 1):=by cases n.nest<;>rfl
   rw[D]
   have l:decide ((a:Int)<=(b:Int))=decide (a<=b):=by rw[decide_eq_decide];omega
   rw[l]
   cases g:Nw.fits e with
   |false=>
    rw[g]at d;simp at d;rw[cond_false]
    by_cases f:a<=b
    ·simp[f]at d ⊢;exact d.symm
    ·simp[f]at d ⊢;omega
   |true=>
    rw[g]at d;simp only[if_true]at d;rw[cond_true,<-x.wider o g];generalize Rf.wider (if n.nest=true then 8 else 1) e=c at*
    by_cases c1:c=1
    ·subst c1;simp at d;subst d;rfl
    ·by_cases c2:c=-1
     ·subst c2;simp at d;subst d;rfl
     ·have b1:(c==1)=false:=by rw[beq_eq_false_iff_ne];exact c1
      have b2:(c==-1)=false:=by rw[beq_eq_false_iff_ne];exact c2
      rw[b1,b2,cond_false,cond_false];rw[if_neg c1,if_neg c2]at d
      by_cases f:a<=b
      ·rw[if_pos f]at d;subst d;simp[f]
      ·rw[if_neg f]at d;subst d;simp[f]
end Ab
def oC (len k:Nat):Nat:=if k=0 then 0 else 1+(k-1)%(len-1)
theorem aLv (w:World)(g a len k:Nat)(t:Int)(l:2<=len)(b:len<=1000000)(n:k<=1000000)(hc:w.cell? ⟨g,oC len k,none⟩=some (.int .i64 t)):Calls prog 186 #[.slice (some ⟨g,0,none⟩) len a,.int .i64 k] w fun e h=>e=.returned (.int .i64 t)/\h=w:=by
 have s:¬((len:Int)-1<1):=by omega
 have u:¬((k:Int)<0):=by omega
 rcases Nat.eq_zero_or_pos k with rfl|hp
 ·have hc:w.cell? ⟨g,0,none⟩=some (.int .i64 t):=hc
  have v:(0:Int)<len:=by omega
  have x:0<len:=by omega
  go_enter func186,ntmps186
  go_wp2_with fail
  go_ret
  exact⟨rfl,rfl⟩
 ·have f:oC len k=1+(k-1)%(len-1):=by unfold oC;rw[if_neg (by omega)]
  rw[f]at hc;have o:=Nat.mod_lt (k-1) (show 0<len-1 by omega)
  have i:((k:Int)-1).tmod ((len:Int)-1)=(((k-1)%(len-1):Nat):Int):=by
   rw[Int.tmod_eq_emod_of_nonneg (by omega)]
   have a1:(k:Int)-1=((k-1:Nat):Int):=by omega
   have d:(len:Int)-1=((len-1:Nat):Int):=by omega
   rw[a1,d,Int.natCast_emod]
  generalize (k-1)%(len-1)=j at*;have k0:((k:Int)==0)=false:=beq_eq_false_iff_ne.2 (by omega)
  have d0:¬((len:Int)-1=0):=by omega
  have d1:(((len:Int)-1)==0)=false:=beq_eq_false_iff_ne.2 d0
  have p:(1:Int)+(j:Int)<len:=by omega
  have q:((1:Int)+(j:Int)).toNat=1+j:=by omega
  have r:(0:Int)<=1+(j:Int):=by omega
  go_enter func186,ntmps186
  go_wp2_with fail
  go_ret
  exact⟨rfl,rfl⟩
namespace Ab
def Lb (e:Int)(f:LN)(k:Int):AS:=⟨.val (.one (.ptr 0 0))::.val (.one (.sint .i64 k))::List.replicate 34 .fX,[(0,ext (.int .i64 e::.any::bJ true 0 8) 164)],1,f.map fun z=>(z,1),[]⟩
noncomputable def bC:FF:=fun f=>bif f==187 then some f187 else none
theorem aSh:bU Z bC:=by
 intro f fn h;unfold bC at h
 cases e:f==187 with
 |true=>
  rw[e]at h;cases h
  have:f=187:=by simpa using e
  subst this;exact⟨(bF func187 rfl rfl).at',(bF func187 rfl rfl).en⟩
 |false=>rw[e]at h;cases h
noncomputable def jS (e:Int)(f:LN)(k:Int):Option (List Prop×RG×Nat):=((run Z (aD tN) bC (aK Z (aD tN)) (fun _=>false) 2000 [.code (aE f172),.top f172] (Lb e f k)).bind outcome).bind (jL true)
def vH (e p q s r k:Int):LN:=
 [bif decide (k>0) then (bif (e==13)||(e==11) then 0 else 0) else 0,bif decide (k>0) then (bif (e==13)||(e==11) then s*gI e k else p*gI e k) else p*gI e k,
  bif decide (k>0)then(bif (e==13)||(e==11)then r else q)else q,bif decide (k>0)then(bif (e==13)||(e==11)then r*gJ e k else q*gJ e k)else q*gJ e k]
def yK (e k:Int):List Prop:=
 [decide (k>0)=true->((e==13)||(e==11))=true->(gI e k).natAbs<1000000000000000000,decide (k>0)=true->((e==13)||(e==11))=true->(gJ e k).natAbs<1000000000000000000,
  decide (k>0)=true->((e==13)||(e==11))=false->(gI e k).natAbs<1000000000000000000,decide (k>0)=true->((e==13)||(e==11))=false->(gJ e k).natAbs<1000000000000000000,
  decide (k>0)=false->(gI e k).natAbs<1000000000000000000,decide (k>0)=false->(gJ e k).natAbs<1000000000000000000]
section
variable (p q s r a b c d k:Int)
theorem aZj:jS 2 [p,q,s,r,a,b,c,d] k=some ([0<=k/\k<=100000000],.one (.ns [bif k==0 then 0 else 0,bif k==0 then 4 else Wr (k*k),bif k==0 then 1 else 1,bif k==0 then 1 else Wr (Wr (2*k)+1)]),1):=by kernel_rfl
theorem aZk:jS 3 [p,q,s,r,a,b,c,d] k=some ([(hX k).natAbs<1000000000000000000],.one (.ns [hX k,1,1,0]),1):=by kernel_rfl
theorem Qz:jS 10 [p,q,s,r,a,b,c,d] k=some ([],.one (.ns [a,b,c,d]),1):=by kernel_rfl
theorem Ra:jS 11 [p,q,s,r,a,b,c,d] k=some (yK 11 k,.one (.ns (vH 11 p q s r k)),2):=by kernel_rfl
theorem Rb:jS 12 [p,q,s,r,a,b,c,d] k=some (yK 12 k,.one (.ns (vH 12 p q s r k)),2):=by kernel_rfl
theorem Rc:jS 13 [p,q,s,r,a,b,c,d] k=some (yK 13 k,.one (.ns (vH 13 p q s r k)),2):=by kernel_rfl
end
variable {k:Nat}
theorem aRm {v:Int}{op:Rf.Op}(B:k<=1000000)(h:(v=11/\op=.exp)\/(v=12/\op=.fL)\/(v=13/\op=.atan)):gI v k=(Rf.shape op k).1/\gJ v k=(Rf.shape op k).2:=by
 have C:(k:Int)*k<=1000000*1000000:=Int.mul_le_mul (by omega) (by omega) (by omega) (by omega);have j:0<=(k:Int)*k:=mul_nonneg (by omega) (by omega);have l:Wr ((k:Int)*k)=(k:Int)*k:=mD (by omega) (by omega);have n:Wr (4*(k:Int))=4*k:=mD (by omega) (by omega);have o:Wr (4*(k:Int)+2)=4*k+2:=mD (by omega) (by omega);have u:Wr (2*(k:Int))=2*k:=mD (by omega) (by omega);have w:Wr (2*(k:Int)+1)=2*k+1:=mD (by omega) (by omega);have x:Wr ((k:Int)+1)=k+1:=mD (by omega) (by omega)
 have g:((k:Int)+1).tdiv 2=(((k+1)/2:Nat):Int):=by
  rw[Int.tdiv_eq_ediv_of_nonneg (by omega)];omega
 have y:Wr ((((k+1)/2:Nat):Int))=(((k+1)/2:Nat):Int):=mD (by omega) (by omega);have A:(((k+1)/2:Nat):Int)*(((k+1)/2:Nat):Int)<=1000000*1000000:=Int.mul_le_mul (by omega) (by omega) (by omega) (by omega);have i:0<=(((k+1)/2:Nat):Int)*(((k+1)/2:Nat):Int):=mul_nonneg (by omega) (by omega);have z:Wr ((((k+1)/2:Nat):Int)*(((k+1)/2:Nat):Int))=(((k+1)/2:Nat):Int)*(((k+1)/2:Nat):Int):=mD (by omega) (by omega)
 by_cases e:k=0
 ·subst e
  rcases h with⟨rfl,rfl⟩|⟨rfl,rfl⟩|⟨rfl,rfl⟩<;>exact⟨rfl,rfl⟩
 ·have f:((k:Int)==0)=false:=beq_eq_false_iff_ne.2 (by omega)
  rcases h with⟨rfl,rfl⟩|⟨rfl,rfl⟩|⟨rfl,rfl⟩
  ·refine⟨rfl,?_⟩;show Wr (Wr (4*(k:Int))+2)=((4*k+2:Nat):Int);rw[n,o];omega
  ·unfold gI gJ Rf.shape;simp only[f,e,if_true,if_false,show((12:Int)==11)=false from rfl,show((12:Int)==13)=false from rfl,cond_false,x,g,y,z]
   refine⟨?_,?_⟩<;>simp
  ·unfold gI gJ Rf.shape;simp only[f,e,if_true,if_false,show((13:Int)==11)=false from rfl,show((13:Int)==13)=true from rfl,cond_false,cond_true,l,u,w,reduceCtorEq]
   refine⟨?_,?_⟩<;>simp
variable {n:Rf.Nd}
theorem aWe {kd p q s r g h:Int}(B:k<=1000000)(i:(kd=11/\n.op=.exp)\/(kd=12/\n.op=.fL)\/(kd=13/\n.op=.atan))(z:0<g)(A:0<h)(u:n.p=g*p)(v:n.q=g*q)(w:n.p*n.p=h*s)(x:n.q*n.q=h*r):∃f a b c d,0<f/\vH kd p q s r k=[a,b,c,d]/\Rf.constant n k=some (Pg.wM f ⟨a,b,c,d⟩):=by
 obtain⟨f1,f2⟩:=aRm B i
 have hc:Rf.constant n k=some (if n.op≠.fL/\0<k then⟨0,(Rf.shape n.op k).1*(n.p*n.p),n.q*n.q,(Rf.shape n.op k).2*(n.q*n.q)⟩else⟨0,(Rf.shape n.op k).1*n.p,n.q,(Rf.shape n.op k).2*n.q⟩):=by
  unfold Rf.constant
  rcases i with⟨_,e⟩|⟨_,e⟩|⟨_,e⟩<;>rw[e]
 by_cases j:n.op≠.fL/\0<k
 ·rw[if_pos j]at hc
  have o:((kd==13)||(kd==11))=true:=by
   rcases i with⟨rfl,_⟩|⟨rfl,e⟩|⟨rfl,_⟩
   ·rfl
   ·exact absurd e j.1
   ·rfl
  refine⟨h,0,s*gI kd k,r,r*gJ kd k,A,?_,?_⟩
  ·unfold vH;rw[decide_eq_true (by omega:(k:Int)>0),o];rfl
  ·rw[hc,f1,f2,w,x];unfold Pg.wM
   congr 2<;>simp only<;>grind
 ·rw[if_neg j]at hc
  have o:vH kd p q s r k=[0,p*gI kd k,q,q*gJ kd k]:=by
   unfold vH
   by_cases y:k=0
   ·subst y;rfl
   ·have:n.op=.fL:=by
     rcases i with⟨_,e⟩|⟨_,e⟩|⟨_,e⟩
     ·exact absurd ⟨by rw[e];decide,by omega⟩ j
     ·exact e
     ·exact absurd ⟨by rw[e];decide,by omega⟩ j
    have l:kd=12:=by
     rcases i with⟨_,e⟩|⟨e,_⟩|⟨_,e⟩
     ·rw[e]at this;cases this
     ·exact e
     ·rw[e]at this;cases this
    subst l
    cases decide ((k:Int)>0)<;>rfl
  refine⟨g,0,p*gI kd k,q,q*gJ kd k,z,o,?_⟩;rw[hc,f1,f2,u,v];unfold Pg.wM
  congr 2<;>simp only<;>grind
theorem aXA (i:k<=1000000)(a:n.op=.pi):Rf.constant n k=some ⟨bif (k:Int)==0 then 0 else 0,bif (k:Int)==0 then 4 else Wr ((k:Int)*k),bif (k:Int)==0 then 1 else 1,bif (k:Int)==0 then 1 else Wr (Wr (2*(k:Int))+1)⟩:=by
 have j:(k:Int)*k<=1000000*1000000:=Int.mul_le_mul (by omega) (by omega) (by omega) (by omega);have e:0<=(k:Int)*k:=mul_nonneg (by omega) (by omega);have f:Wr ((k:Int)*k)=(k:Int)*k:=mD (by omega) (by omega);have g:Wr (2*(k:Int))=2*k:=mD (by omega) (by omega);have h:Wr (2*(k:Int)+1)=2*k+1:=mD (by omega) (by omega);unfold Rf.constant;rw[a]
 by_cases b:k=0
 ·subst b;rfl
 ·have d:((k:Int)==0)=false:=beq_eq_false_iff_ne.2 (by omega);simp only[b,if_false,d,cond_false,f,g,h];simp
theorem Rn (p:k<=1000000)(b:n.op=.e):Rf.constant n k=some ⟨hX k,1,1,0⟩:=by
 have j:Wr ((k:Int)+1)=k+1:=mD (by omega) (by omega);have l:Wr (2*((k:Int)+1))=2*(k+1):=mD (by omega) (by omega);have g:(2*((k:Int)+1)).tdiv 3=2*(k+1)/3:=Int.tdiv_eq_ediv_of_nonneg (by omega);have o:Wr (2*((k:Int)+1)/3)=2*(k+1)/3:=mD (by omega) (by omega);have i:(k:Int).tmod 3=(k:Int)%3:=Int.tmod_eq_emod_of_nonneg (by omega);unfold Rf.constant;rw[b];simp only;congr 2;unfold Rf.hX hX
 by_cases d:k=0
 ·subst d;rfl
 ·have h:((k:Int)==0)=false:=beq_eq_false_iff_ne.2 (by omega);rw[if_neg d,h,cond_false,i,j,l,g,o]
  by_cases f:k%3=2
  ·have a:((k:Int)%3==2)=true:=by rw[beq_iff_eq];omega
   rw[if_pos f,a,cond_true];omega
  ·have a:((k:Int)%3==2)=false:=by rw[beq_eq_false_iff_ne];omega
   rw[if_neg f,a,cond_false]
def yR (cs:List AC)(ty:TypeId):bQ:=⟨cs,ty,false,false,false⟩
variable {L:fG}{n:World}{φ:LI}{s:AS}
theorem Wv (I:s.dirty=[])(h:∀b B,look s.boxes b=some B->B.own=false/\B.tip=false/\∃k o,φ b=some (k,o)/\Seg L φ s.nums n k o B.ty B.cs)(hi:∀b f B i k o r,look s.boxes b=some B->look s.boxes f=some i->φ b=some (k,o)->φ f=some (k,r)->b=f\/(B.ro=true/\i.ro=true))(z:∀b,s.next<=b->φ b=none)(y:∀b k o,φ b=some (k,o)->k<n.heap.size):RepW L n φ φ s n:=by
 refine⟨fun b B j=>?_,fun b B k o j A=>?_,fun b f B i k o r g d p q=>?_,fun b B j D=>?_,z,y,fun k _ _=>rfl,On.refl _ _,fun b x e=>e,fun b B k o g d=>(by rw[(h b B g).1]at d;cases d)⟩
 ·obtain⟨_,_,k,o,g,u,H,l,d,p,q⟩:=h b B j;exact⟨k,o,u,H,l,g,d,p,q⟩
 ·have:=(h b B j).1;rw[A]at this;cases this
 ·obtain⟨_,v,_⟩:=h b B g;obtain⟨_,J,_⟩:=h f i d
  rcases hi b f B i k o r g d p q with e|⟨E,F⟩
  ·exact Or.inl e
  ·exact Or.inr ⟨E,F,fun⟨a,_⟩=>(by rw[v]at a;cases a),fun a=>(by rw[v]at a;cases a)⟩
 ·have:=(h b B j).2.1;rw[D]at this;cases this
variable {q:LI}
theorem aTt {w:World}{f:PH}(h:Holds (oW s.nums f))(a:RepW Z n q φ s w):RepW Z n q φ (Ev f s) w:=by
 refine⟨?_,a.own,a.inj,a.tip,a.fresh,a.lt,a.low,a.on,a.base,a.qH⟩;intro b B g;obtain⟨k,o,e,p,d,k1,i,j,l⟩:=a.box b B g;exact⟨k,o,e,p,d,k1,i,j,l.mono (Ws h)⟩
def aF (f:FuncId)(o:Oper):Bool:=
 match o.op with
 |.call { callee:=.value (.func g),..}=>g==f
 |_=>false
def tE (o:Oper):Bool:=
 match o.op with
 |.call { callee:=.builtin .append,..}=>true
 |_=>false
def lN (p:Oper->Bool):List (K (List AT))->Bool
 |.ops all (i::_)::_=>match all[i]? with|some o=>p o|none=>false
 |_=>false
def Ax (p:Oper->Bool):List Oper->Nat->Option Nat
 | [],_=>none
 |o::r,i=>bif p o then some i else Ax p r (i+1)
def mH (p:Oper->Bool):Code->List (K (List AT))->Option (List (K (List AT)))
 |.region _ ops false,d=>(Ax p ops.toList 0).map fun j=>.ops ops ((List.range ops.size).drop (j+1))::d
 |.seq a b,d=>match mH p a (.code b::d)with|some r=>some r|none=>mH p b d
 |.block id b,d=>mH p b (.bV id::d)
 |.cond _ a b,d=>match mH p a d with|some r=>some r|none=>mH p b d
 |_,_=>none
def fJ (p:Oper->Bool)(fn:Func):List (K (List AT)):=(mH p (aE fn) [.top fn]).getD []
def cM (C:fG)(s:AS):List (K (List AT))->Option (FuncId×List AV×Option Tmp×List (K (List AT)))
 |.ops all (i::a)::b=>(all[i]?).bind fun o=>
  match gd all s.tmps o with
  |.yes=>match evalOp C.P (iY s.tmps) (look s.boxes) o.op with
   |some (.call f d)=>some (f,d,o.dst,.ops all a::b)
   |_=>none
  |_=>none
 |_=>none
variable {R:NN}{a:Act}{vs:List AV}{dst:Option Tmp}
theorem pP {b:World}{ks ks2:List (K (List AT))}{l:List (K Act)}{f:FuncId}(h:cM L s ks=some (f,vs,dst,ks2))(D:Enters L.P f)(r:noFr ks=true){φ1:LI}{ν1:LV}{w1:World}(F:SR L φ1 ν1 w1 ks l)(E:Rep L n q φ s a b)
  (H:∀z:LB,All2 (dW L φ s.nums b) vs z->Calls L.P f z.toArray b fun e N=>∃v,e=.returned v/\∀j,noFr ks2=true->(∀B A y,SR L B A y ks2 j)->gC L.P R j .normal (a.put dst v) N):gC L.P R l .normal a b:=by
 unfold cM at h;split at h
 ·rename_i all i k I;obtain⟨o,X,p⟩:=aT h;split at p
  ·rename_i W;split at p
   ·rename_i T J U;cases p
    match l,F with
    |.ops d r'::g,⟨O,S,x⟩=>
     subst O S;show wpOps L.P d (gC L.P R g) (i::k) a b;rw[wpOps_cons];have M:=Qn (all:=d) (o:=o) E.tmps;rw[W]at M;obtain⟨z,Y,r2⟩:=xF (o:=o) (uF E.tmps) E.wd.box (fun _=>rfl) (fun T J e=>by cases e;exact D) U;unfold wpOp;simp only[X];rw[if_pos M];refine Or.inl ?_;unfold Oper.wp;rw[Y];show Calls L.P f z.toArray b _;refine(H z r2).mono ?_;rintro e N⟨v,rfl,hv⟩
     have u:noFr I=true:=by simpa[noFr]using r
     exact hv (.ops d k::g) (by simpa[noFr]using r) fun B A y=>⟨rfl,rfl,SR.any u x⟩
   ·cases p
  ·cases p
 ·cases h
def wG (a:PH):AC->Bool
 |.int _ _=>true
 |.bool _=>true
 |.sint _ _=>true
 |.sbool _=>true
 |.lit _=>true
 |.ptr b _=>a.contains b
 |_=>false
def jE (a b:PH):Nat->List AT->List AT
 |_,[]=>[]
 |i,t::r=>(bif b.contains i then(match t with|.val (.one c)=>bif wG a c then t else .top|.fX=>.fX|_=>.top)else .top)::jE a b (i+1) r
variable {I:LI}
theorem aNC {ν d:LV}{i:World}{f:PH}{c:AC}{x:Value}(h:wG f c=true)(a:∀b,f.contains b=true->I b=φ b)(r:relC L φ ν n c x):relC L I d i c x:=by
 cases c<;>simp only[wG]at h<;>try (first|exact r|cases h)
 obtain⟨k,o,e,g⟩:=r;exact⟨k,o,by rw[a _ h];exact e,g⟩
theorem aIl {L:fG}{φ I:LI}{ν e:LV}{n l:World}{f j:PH}(a:∀b,f.contains b=true->I b=φ b):∀(i:Nat) (ts:List AT) (d:LB),All2 (relT L φ ν n) ts d->All2 (relT L I e l) (jE f j i ts) d
 |_,[],[],_=>trivial
 |_,[],_::_,h=>h.elim
 |_,_::_,[],h=>h.elim
 |i,t::r,x::d,⟨g,k⟩=>by
  refine⟨?_,aIl a (i+1) r d k⟩
  cases j.contains i with
  |false=>trivial
  |true=>
   simp only[cond_true];split
   ·rename_i c
    cases hc:wG f c with
    |false=>trivial
    |true=>exact aNC hc a g
   ·exact g
   ·trivial
theorem nM {e:World}{d:LI}{f:AS}{J h:World}{v:Value}{r:AT}{kb kt:PH}(i:Rep L n q φ s a J)(k:RepW L e I d f h)(j:f.tmps=putT (jE kb kt 0 s.tmps) dst r)(g:∀b,kb.contains b=true->d b=φ b)(hv:relT L d f.nums h r v):Rep L e I d f (a.put dst v) h:=by
 refine⟨k,by rw[rR];exact i.defers,?_⟩;rw[j];exact rT (aIl g 0 _ _ i.tmps) dst hv
inductive XT where
 |ret (r:AT) (s:AS)
 |stp (ks:List (K (List AT))) (s:AS)
 |br (t:Bool) (a b:XT)
 |need (p:List Prop) (o:XT)
def XT.ok (G:AT->AS->Prop)(H:List (K (List AT))->AS->Prop):XT->Prop
 |.ret r s=>G r s
 |.stp d s=>H d s
 |.br t a b=>(t=true->a.ok G H)/\(t=false->b.ok G H)
 |.need p o=>Holds p/\o.ok G H
def eX (d e:PH)(f:Nat)(a:PH)(s:AS):Option (AS×List Prop):=(norm d e f s).map fun b=>(Ev a b,oW b.nums a)
def eD (d ns:AS->Option (AS×List Prop)):Tr->Option XT
 |.ret r s=>(d s).map fun x=>match x.2 with| []=>.ret r x.1|p::e=>.need (p::e) (.ret r x.1)
 |.stop f s=>(ns s).map fun x=>match x.2 with| []=>.stp f x.1|p::e=>.need (p::e) (.stp f x.1)
 |.br t a b=>(eD d ns a).bind fun x=>(eD d ns b).map fun y=>.br t x y
 |.need p t=>(eD d ns t).map (.need p)
theorem Lx {l ns:AS->Option (AS×List Prop)}{G:AT->AS->Prop}{H:List (K (List AT))->AS->Prop}:∀{n:Tr} {j:XT},eD l ns n=some j->j.ok G H->n.ok (fun r s=>∃g p,l s=some (g,p)/\Holds p/\G r g) fun k s=>∃g p,ns s=some (g,p)/\Holds p/\H k g
 |.ret r s,j,h,d=>by
  simp only[eD]at h;obtain⟨⟨g,q⟩,i,f⟩:=cA h
  cases q with
  |nil=>simp only at f;subst f;exact⟨g,[],i,gG,d⟩
  |cons p u=>simp only at f;subst f;exact⟨g,_,i,d.1,d.2⟩
 |.stop k s,j,h,d=>by
  simp only[eD]at h;obtain⟨⟨g,q⟩,i,f⟩:=cA h
  cases q with
  |nil=>simp only at f;subst f;exact⟨g,[],i,gG,d⟩
  |cons p u=>simp only at f;subst f;exact⟨g,_,i,d.1,d.2⟩
 |.br t a b,j,h,d=>by
  simp only[eD]at h;obtain⟨x,i,f⟩:=aT h;obtain⟨y,o,rfl⟩:=cA f;exact⟨fun e=>Lx i (d.1 e),fun e=>Lx o (d.2 e)⟩
 |.need p t,j,h,d=>by
  simp only[eD]at h;obtain⟨x,i,rfl⟩:=cA h;exact⟨d.1,Lx i d.2⟩
variable {f o:PH}{p:List Prop}
theorem aNW {d:World}{w:Nat}{r:PH}{g:AS}(h:eX f o w r s=some (g,p))(k:Holds p)(e:∀b x,q b=some x->f.contains b=true)(l:Rep Z n q φ s a d):Rep Z n q (rst f φ) g a d:=by
 unfold eX at h;obtain⟨t,i,j⟩:=cA h;cases j;exact aOl k (aNV i e l)
theorem aJH {a:World}{l:PH}{w:Nat}{e:AS}(h:eX f l w o s=some (e,p))(j:Holds p)(d:∀b x,q b=some x->f.contains b=true)(k:RepW Z n q φ s a):RepW Z n q (rst f φ) e a:=by
 unfold eX at h;obtain⟨t,g,i⟩:=cA h;cases i;exact aTt j (aKK g d k)
theorem nV {M:FuncId}{fn:Func}(F:Fn M fn){args:LB}(i:s.tmps=vs.map .val++List.replicate (fn.ntmps-vs.length) .fX)(hv:All2 (dW Z φ s.nums n) vs args)(j:RepW Z n φ φ s n)
  (h:∀(b:List (K Act)) (d:LI) (a:Act) (e:World),SR Z d s.nums e [.code (aE fn),.top fn] b->Rep Z n φ d s a e->gC Z.P R b .normal a e):Calls prog M args.toArray n R:=by
 refine calls_of_wp (P:=Z.P) F.at' F.body ?_;have g:=hv.len
 exact h [.code (aE fn),.top fn] φ _ n ⟨rfl,rfl,trivial⟩ ⟨j,rfl,by
  rw[i];simp only[Array.toList_append,Array.toList_replicate,List.size_toArray];rw[<-g]
  exact(Vt hv).append (Vs _)⟩
end Ab
namespace Rf
open Nw
def fn (o:Op):Prop:=o=.sqrt\/o=.exp\/o=.fL\/o=.atan
def pW (n:Nd):Prop:=n.op=.pi\/n.op=.e\/(n.op=.cf/\2<=n.terms.length/\∀a∈n.terms,Bits 40 a)\/(fn n.op/\0<n.p/\0<n.q)
def Pos (ns:List Nd)(a:Nat):Prop:=∃x,ns[a]?=some x/\x.pos=true
def first (t:List V):Prop:=fits t=true->wider 8 t≠-1
structure jO (ns:List Nd) (rho:NU) (c i:Nat) (n:Nd) (a:Nat):Prop where
 ex:∃base ck,rho i=base+ck+1/\c<=ck/\n.k+ck<=3000/\rho a<base/\(¬(n.read=[0]/\n.out=[])->c<ck)/\
  (n.op≠.sqrt->∃x,n.x=some x/\x<ns.length/\rho x+1<base/\Pos ns x/\(∀s,n.fC=some s->s<ns.length/\rho s<base/\Pos ns s))
 op:fn n.op
 first:first n.t
 pos:Pos ns a
inductive Shp (ns:List Nd) (rho:NU) (c i:Nat) (n:Nd):Prop where
 |fK (ht:n.t=[]) (ha:n.args=[]) (hp:n.aP=false) (hc:pW n)
 |gM (v:V) (ht:n.t=[v]) (ha:n.args=[]) (hp:n.aP=false) (hv:fits [fI n.told v]=true\/(n.pos=false/\n.out=[]/\v.1<0/\0<v.2))
 |kU (v w:V) (a:Nat) (ht:n.t=[v,w]) (ha:n.args=[a]) (hp:n.aP=true->n.pos=true/\fn n.op/\n.out=[]/\Pos ns a/\rho a+3100<=rho i/\n.k=0)
 |bin (a b:Nat) (v w x y:V) (ht:n.t=[v,w,x,y]) (ha:n.args=[a,b]) (hp:n.aP=false)
 |nest (a:Nat) (v w x y:V) (ht:n.t=[v,w,x,y]) (ha:n.args=[a]) (hp:n.aP=false) (hn:n.nest=true) (ok:jO ns rho c i n a)
structure aZ (ns:List Nd) (rho:NU) (c i:Nat) (n:Nd):Prop where
 len:n.read.length=n.args.length
 arg:∀(j a:Nat),n.args[j]?=some a->a<ns.length/\rho a<rho i
 rd:∀(j a r:Nat) (x:Nd),n.args[j]?=some a->n.read[j]?=some r->ns[a]?=some x->r<=x.out.length
 kZ:n.dT.length=n.out.length+1
 nJ:n.dT[0]?=some one
 fst:n.out=[]->n.told=one
 iP:n.out.length+c<=3000
 ku:n.k+c<=3000
 jH:∀r∈n.read,r+c<=3000
 jI:dB (2*n.out.length+1) n.told
 lW:∀(j:Nat) (m:Mt),n.dT[j]?=some m->dB (2*j+1) m
 up:n.pos=true->Up n.told/\∀m∈n.dT,Up m
 tb:∀v∈n.t,Bits 13000 v.1/\Bits 13000 v.2
 pb:Bits 6100 n.p
 qb:Bits 6100 n.q
 iH:dB (1+n.k*18500) n.part
 shp:Shp ns rho c i n
variable {ns:List Nd}{B:NU}
theorem aZ.ok {c i:Nat}{n:Nd}(h:aZ ns B c i n):Ok n:=by
 have s:=h.iP;have p:=h.ku;refine⟨fun v hv=>⟨eJ (h.tb v hv).1 (by decide),eJ (h.tb v hv).2 (by decide)⟩,mb h.jI (by omega),?_,mb h.iH ?_,eJ h.pb (by decide),eJ h.qb (by decide),?_,by omega,by omega⟩
 ·intro m l;obtain⟨j,g,e⟩:=List.getElem_of_mem l;have q:=h.kZ;exact mb (h.lW j m (by rw[getElem?_eq_getElem g,e])) (by omega)
 ·have:n.k*18500<=3000*18500:=Nat.mul_le_mul_right _ (by omega);omega
 ·intro r o;have:=h.jH r o;omega
where
 mb {m:Mt} {a b:Nat} (h:dB a m) (f:a<=b):dB b m:=⟨eJ h.a f,eJ h.b f,eJ h.c f,eJ h.d f⟩
variable {a:Nat}
theorem dB.mono {m:Mt}{b:Nat}(h:dB a m)(e:a<=b):dB b m:=⟨eJ h.a e,eJ h.b e,eJ h.c e,eJ h.d e⟩
structure Le (ns ns':List Nd):Prop where
 len:ns.length<=ns'.length
 at':∀(i:Nat) (n:Nd),ns[i]?=some n->∃n',ns'[i]?=some n'/\n'.pos=n.pos/\n.out.length<=n'.out.length
theorem Le.refl (ns:List Nd):Le ns ns:=⟨le_refl _,fun i n h=>⟨n,h,rfl,le_refl _⟩⟩
theorem Le.trans {a b c:List Nd}(h:Le a b)(d:Le b c):Le a c:=⟨le_trans h.len d.len,fun i n o=>by
 obtain⟨p,e,f,g⟩:=h.at' i n o;obtain⟨q,j,k,l⟩:=d.at' i p e
 exact⟨q,j,k.trans f,le_trans g l⟩⟩
theorem Le.more (ns a:List Nd):Le ns (ns++a):=⟨by simp,fun i n h=>⟨n,by rw[getElem?_append_left (List.getElem?_eq_some_iff.1 h).1];exact h,rfl,le_refl _⟩⟩
theorem Le.set {ns:List Nd}{i:Nat}{d n':Nd}(h:ns[i]?=some d)(f:n'.pos=d.pos)(e:d.out.length<=n'.out.length):Le ns (ns.set i n'):=by
 refine⟨by simp,fun k m a=>?_⟩
 by_cases b:i=k
 ·subst b;rw[h]at a;cases a;refine⟨n',?_,f,e⟩;rw[List.getElem?_set_self (List.getElem?_eq_some_iff.1 h).1]
 ·exact⟨m,by rw[List.getElem?_set_ne b];exact a,rfl,le_refl _⟩
theorem Pos.le {b:List Nd}(h:Pos ns a)(i:Le ns b):Pos b a:=by
 obtain⟨x,d,e⟩:=h;obtain⟨j,f,g,_⟩:=i.at' a x d;exact⟨j,f,g.trans e⟩
theorem Pos.lt (h:Pos ns a):a<ns.length:=by grind [Pos]
theorem aZ.mono {z:List Nd}{f:NU}{c c' i:Nat}{n:Nd}(h:aZ ns B c i n)(q:Le ns z)(p:∀k,k<ns.length->f k=B k)(hi:i<ns.length)(hc:c'<=c):aZ z f c' i n:=by
 have D:∀(j a:Nat),n.args[j]?=some a->a<z.length/\f a<f i:=by
  intro j a d;obtain⟨o,A⟩:=h.arg j a d;have:=q.len;rw[p a o,p i hi];exact⟨by omega,A⟩
 refine⟨h.len,D,?_,h.kZ,h.nJ,h.fst,by have:=h.iP;omega,by have:=h.ku;omega,fun r u=>by have:=h.jH r u;omega,h.jI,h.lW,h.up,h.tb,h.pb,h.qb,h.iH,?_⟩
 ·intro j a r x d u J;obtain⟨o,_⟩:=h.arg j a d;obtain⟨Y,A,_,C⟩:=q.at' a ns[a] (getElem?_eq_getElem o);rw[A]at J;cases J;exact le_trans (h.rd j a r _ d u (getElem?_eq_getElem o)) C
 ·cases h.shp with
  |fK l d g hc=>exact .fK l d g hc
  |gM v l d g hv=>exact .gM v l d g hv
  |kU v w a l d g=>
   refine .kU v w a l d fun e=>?_
   obtain⟨o,A,C,E,F,H⟩:=g e;exact⟨o,A,C,E.le q,by rw[p a E.lt,p i hi];exact F,H⟩
  |bin a b v w x y l d g=>exact .bin a b v w x y l d g
  |nest a v w x y l d g N ok=>
   refine .nest a v w x y l d g N ?_;obtain⟨⟨base,L,o,A,C,E,F,H⟩,M,h8,I⟩:=ok;refine⟨⟨base,L,by rw[p i hi];exact o,by omega,C,by rw[p a I.lt];exact E,fun e=>by have:=F e;omega,fun e=>?_⟩,M,h8,I.le q⟩;obtain⟨x,k1,P,R,S,T⟩:=H e;have:=q.len;refine⟨x,k1,by omega,by rw[p x P];exact R,S.le q,fun s O=>?_⟩;obtain⟨U,W,X⟩:=T s O;exact⟨by omega,by rw[p s U];exact W,X.le q⟩
structure Inv (ns:List Nd) (rho:NU) (c:Nat):Prop where
 at':∀(i:Nat) (n:Nd),ns[i]?=some n->aZ ns rho c i n
theorem Inv.tick {c k:Nat}(h:Inv ns B c)(hc:k<=c):Inv ns B k:=
 ⟨fun i n a=>(h.at' i n a).mono (Le.refl _) (fun _ _=>rfl) (List.getElem?_eq_some_iff.1 a).1 hc⟩
theorem Inv.put {ns:List Nd}{B:NU}{c i:Nat}{d n':Nd}(h:Inv ns B c)(g:ns[i]?=some d)(l:n'.pos=d.pos)(j:d.out.length<=n'.out.length)(e:aZ ns B c i n'):
  put ns i n'=some (ns.set i n')/\Inv (ns.set i n') B c/\Le ns (ns.set i n'):=by
 have hi:=(List.getElem?_eq_some_iff.1 g).1;have b:=Le.set g l j;refine⟨?_,⟨fun k m a=>?_⟩,b⟩
 ·unfold Rf.put;rw[if_pos ⟨e.ok,hi⟩]
 ·by_cases f:i=k
  ·subst f;rw[List.getElem?_set_self hi]at a;cases a;exact e.mono b (fun _ _=>rfl) hi (le_refl _)
  ·rw[List.getElem?_set_ne f]at a;exact(h.at' k m a).mono b (fun _ _=>rfl) (List.getElem?_eq_some_iff.1 a).1 (le_refl _)
def jV (rho:NU)(k r:Nat):NU:=fun i=>if i=k then r else rho i
theorem Inv.more {ns:List Nd}{B:NU}{c r:Nat}{d:Nd}(h:Inv ns B c)(f:aZ ns (jV B ns.length r) c ns.length d):
  more ns d=some (ns++[d])/\Inv (ns++[d]) (jV B ns.length r) c/\Le ns (ns++[d])/\(∀k,k<ns.length->jV B ns.length r k=B k)/\jV B ns.length r ns.length=r:=by
 have o:=Le.more ns [d]
 have F:∀k,k<ns.length->jV B ns.length r k=B k:=fun k D=>by unfold jV;rw[if_neg (by omega)]
 refine⟨?_,⟨fun k m p=>?_⟩,o,F,by simp[jV]⟩
 ·unfold Rf.more;rw[if_pos f.ok]
 ·by_cases D:k<ns.length
  ·rw[getElem?_append_left D]at p;exact(h.at' k m p).mono o F D (le_refl _)
  ·rw[getElem?_append_right (by omega)]at p
   have:k=ns.length:=by
    have:=(List.getElem?_eq_some_iff.1 p).1;simp at this;omega
   subst this;simp at p;subst p
   -- the new node itself
   refine⟨f.len,?_,?_,f.kZ,f.nJ,f.fst,f.iP,f.ku,f.jH,f.jI,f.lW,f.up,f.tb,f.pb,f.qb,f.iH,?_⟩
   ·intro j a g;obtain⟨n,q⟩:=f.arg j a g;exact⟨by simp;omega,q⟩
   ·intro j a r x g E H;obtain⟨n,_⟩:=f.arg j a g;rw[getElem?_append_left n]at H;exact f.rd j a r x g E H
   ·cases f.shp with
    |fK l g i hc=>exact .fK l g i hc
    |gM v l g i hv=>exact .gM v l g i hv
    |kU v w a l g i=>
     refine .kU v w a l g fun e=>?_
     obtain⟨n,q,u,z,A,C⟩:=i e;exact⟨n,q,u,z.le o,A,C⟩
    |bin a b v w x y l g i=>exact .bin a b v w x y l g i
    |nest a v w x y l g i M ok=>
     refine .nest a v w x y l g i M ?_;obtain⟨⟨base,I,n,q,u,z,A,C⟩,J,h8,L⟩:=ok;refine⟨⟨base,I,n,q,u,z,A,fun e=>?_⟩,J,h8,L.le o⟩;obtain⟨x,k1,U,O,P,R⟩:=C e;refine⟨x,k1,by simp;omega,O,P.le o,fun s N=>?_⟩;obtain⟨W,S,T⟩:=R s N;exact⟨by simp;omega,S,T.le o⟩
end Rf
namespace Rf
open Nw
section
variable {ns:List Nd} {rho:NU} {c i:Nat} {n:Nd}
theorem Fo (h:Inv ns rho c)(e:aZ ns rho c i n){sd a:Nat}(b:n.args[sd]?=some a):∃m x r,ns[a]?=some x/\n.read[sd]?=some r/\x.dT[r]?=some m/\ends ns n sd=some (eZ m (1,0),eZ m (0,1)):=by
 obtain⟨k,_⟩:=e.arg sd a b;have d:ns[a]?=some ns[a]:=getElem?_eq_getElem k
 have f:sd<n.read.length:=by rw[e.len];exact(List.getElem?_eq_some_iff.1 b).1
 have g:n.read[sd]?=some n.read[sd]:=getElem?_eq_getElem f;have l:=e.rd sd a _ _ b g d;have o:=(h.at' a _ d).kZ;have j:ns[a].dT[n.read[sd]]?=some (ns[a].dT[n.read[sd]]'(by omega)):=getElem?_eq_getElem _;refine⟨_,_,_,d,g,j,?_⟩;unfold ends;simp only[b,d,g,j,Option.bind_some,map_some]
theorem aHW (h:Inv ns rho c)(f:aZ ns rho c i n):∃l,bare ns n=some l:=by
 cases f.shp with
 |fK e d j hc=>exact⟨_,by unfold bare;rw[e]⟩
 |gM v e d j hv=>exact⟨_,by unfold bare;rw[e]⟩
 |kU v w a e d j=>
  obtain⟨m,x,r,_,_,_,g⟩:=Fo h f (sd:=0) (a:=a) (by rw[d];rfl);exact⟨_,by unfold bare;rw[e];simp only[g];rfl⟩
 |bin a b v w x y e d j=>
  obtain⟨m,x,r,_,_,_,g⟩:=Fo h f (sd:=0) (a:=a) (by rw[d];rfl);obtain⟨p,s,q,_,_,_,k⟩:=Fo h f (sd:=1) (a:=b) (by rw[d];rfl);exact⟨_,by unfold bare;rw[e];simp only[g,k,d];rfl⟩
 |nest a v w x y e d j o ok=>
  obtain⟨m,x,r,_,_,_,g⟩:=Fo h f (sd:=0) (a:=a) (by rw[d];rfl);exact⟨_,by unfold bare;rw[e];simp only[g,d];rfl⟩
theorem qA (h:Inv ns rho c)(a:aZ ns rho c i n):∃o,next ns n=some o:=by
 obtain⟨l,b⟩:=aHW h a
 unfold next corners
 rw[b];split
 ·exact⟨_,rfl⟩
 ·exact⟨_,rfl⟩
theorem aLT {v:Int}(h:next ns n=some (some v)):∃l,bare ns n=some l/\v∈tries n/\can (l.map (fI n.told)) v=true:=by
 unfold next at h
 split at h
 ·simp at h
 ·unfold corners at h
  cases a:bare ns n with
  |none=>rw[a]at h;simp at h
  |some l=>
   rw[a]at h;simp only[map_some,Option.some.injEq]at h;obtain⟨b,d⟩:=aPH h;exact⟨l,rfl,d,b⟩
theorem aGn {S:V}(j:n.t=[S])(g:n.args=[])(f:n.out=[]->n.told=one)(hv:fits [fI n.told S]=true\/(n.pos=false/\n.out=[]/\S.1<0/\0<S.2)):next ns n≠some none:=by
 unfold next corners bare
 rw[j,g];simp only[waits,Bool.false_eq_true,if_false,map_some,map_cons,map_nil];unfold tries;intro h;simp only[Option.some.injEq]at h;split at h
 ·rename_i hc
  rcases hv with hv|⟨_,_,b,d⟩
  ·rw[f hc.2,Gg]at h hv;have e:=List.find?_eq_none.1 h
   rcases(mV S).1 hv with⟨k1,k,l⟩|⟨k1,k,l⟩
   ·refine absurd ?_ (e 43 (by simp));unfold can;simp only[map_cons,map_nil];rw[mV];simp[fI,Mt.sym,Mt.vU,Mt.vV];omega
   ·refine absurd ?_ (e 43 (by simp));unfold can;simp only[map_cons,map_nil];rw[mV];simp[fI,Mt.sym,Mt.vU,Mt.vV];omega
  ·rw[f hc.2,Gg]at h;obtain⟨s,a⟩:=aPs b d;rw[a]at h;cases h
 ·rename_i hc
  rcases hv with hv|⟨b,d,_,_⟩
  ·obtain⟨s,a⟩:=aMK hv;rw[a]at h;cases h
  ·exact hc ⟨b,d⟩
theorem aG3 (h:Inv ns rho (c+1))(E:ns[i]?=some n)(B:n.aP=false){v:Int}(ho:next ns n=some (some v)):
  ∃H,put ns i {n with out:=n.out++[v],told:=n.told.mul (Mt.sym v),dT:=n.dT++[n.told.mul (Mt.sym v)]}=some (ns.set i H)/\Inv (ns.set i H) rho c/\Le ns (ns.set i H)/\H.out.length=n.out.length+1:=by
 have z:=h.at' i n E;obtain⟨l,U,p,hc⟩:=aLT ho;have hi:=(List.getElem?_eq_some_iff.1 E).1;have C:n.dT.length=n.out.length+1:=z.kZ
 have u:dB (2*(n.out.length+1)+1) (n.told.mul (Mt.sym v)):=by
  have:=aIs z.jI v;exact dB.mono this (by omega)
 have F:n.pos=true->Up (n.told.mul (Mt.sym v)):=by
  intro g;refine aWw (z.up g).1 ?_;unfold tries at p;rw[if_neg (by rw[g];simp)]at p;exact p
 have J:aZ ns rho c i {n with out:=n.out++[v],told:=n.told.mul (Mt.sym v),dT:=n.dT++[n.told.mul (Mt.sym v)]}:=by
  have A:=z.mono (c':=c) (Le.refl _) (fun _ _=>rfl) hi (by omega);refine⟨z.len,A.arg,A.rd,by simp[C],?_,fun e=>by simp at e,?_,A.ku,A.jH,?_,?_,?_,A.tb,A.pb,A.qb,A.iH,?_⟩
  ·show(n.dT++_)[0]?=_;rw[getElem?_append_left (by omega)];exact z.nJ
  ·have:=z.iP;simp;omega
  ·simpa using u
  ·intro j m q;simp only at q
   by_cases hj:j<n.dT.length
   ·rw[getElem?_append_left hj]at q;exact z.lW j m q
   ·rw[getElem?_append_right (by omega)]at q
    have L:j=n.dT.length:=by
     have:=(List.getElem?_eq_some_iff.1 q).1;simp at this;omega
    subst L;simp at q;subst q;rw[C];exact u
  ·intro g;refine⟨F g,fun m q=>?_⟩;simp at q
   rcases q with q|rfl
   ·exact(z.up g).2 m q
   ·exact F g
  ·cases A.shp with
   |fK p r B hc=>exact .fK p r B hc
   |gM d p r B hv=>
    refine .gM d p r B (Or.inl ?_)
    have hb:bare ns n=some [d]:=by unfold bare;rw[p]
    rw[hb]at U;cases U;show fits [fI (n.told.mul (Mt.sym v)) d]=true;rw[aJ2];exact hc
   |kU d w a p r s=>exact .kU d w a p r fun e=>by simp only at e;rw[B]at e;cases e
   |bin a b d w x y p r B=>exact .bin a b d w x y p r B
   |nest a d w x y p r B E ok=>
    refine .nest a d w x y p r B E ?_
    have N:jO ns rho (c+1) i n a:=by
     cases z.shp with
     |fK f k s ab=>rw[p]at f;cases f
     |gM O f k s ag=>rw[p]at f;cases f
     |kU O W P f k s=>rw[p]at f;cases f
     |bin P b' O W x' y' f k s=>rw[r]at k;cases k
     |nest P O W x' y' f k s ae M=>rw[r]at k;cases k;exact M
    obtain⟨⟨base,ck,R,S,T,h4,h5,h6⟩,X,h8,Y⟩:=ok;obtain⟨⟨D,I,k1,k2,k3,k4,k5,k6⟩,_,_,_⟩:=N;exact⟨⟨D,I,k1,by omega,k3,k4,fun _=>by omega,k6⟩,X,h8,Y⟩
 obtain⟨R,S,T⟩:=(h.tick (show c<=c+1 by omega)).put E (n':={n with out:=n.out++[v],told:=n.told.mul (Mt.sym v),dT:=n.dT++[n.told.mul (Mt.sym v)]}) rfl (by simp) J;exact⟨_,R,S,T,by simp⟩
theorem aHe {a b:Nat}{x y:Mt}(e:dB a x)(f:dB b y):dB (a+b+1) (x.mul y):=
 ⟨pM (fY e.a f.a) (fY e.b f.c),pM (fY e.a f.b) (fY e.b f.d),pM (fY e.c f.a) (fY e.d f.c),pM (fY e.c f.b) (fY e.d f.d)⟩
variable {k:Nat}
theorem Lw {m:Nat}(h:k<2^m):Bits m (k:Int):=by unfold Bits;simpa using h
theorem Fq (h:k<16777216):Bits 24 (k:Int):=Lw (by simpa using h)
theorem Zj (op:Op)(a:k<=3001):Bits 24 (shape op k).1/\Bits 24 (shape op k).2/\0<(shape op k).1/\0<(shape op k).2:=by
 have d:k*k<=3001*3001:=Nat.mul_le_mul a a;unfold shape;split
 ·split
  ·exact⟨Lw (k:=1) (by decide),Lw (k:=1) (by decide),by decide,by decide⟩
  ·have e:(k+1)/2*((k+1)/2)<=3001*3001:=Nat.mul_le_mul (by omega) (by omega);have b:0<(k+1)/2*((k+1)/2):=Nat.mul_pos (by omega) (by omega);exact⟨Fq (by omega),Fq (by omega),by simp only;omega,by simp only;omega⟩
 ·split
  ·split
   ·exact⟨Lw (k:=1) (by decide),Lw (k:=1) (by decide),by decide,by decide⟩
   ·have b:0<k*k:=Nat.mul_pos (by omega) (by omega);exact⟨Fq (by omega),Fq (by omega),by simp only;omega,by simp only;omega⟩
  ·exact⟨Lw (k:=1) (by decide),Fq (by omega),by simp,by simp only;omega⟩
theorem Ga (h:pW n)(r:k<=3000)(pb:Bits 6100 n.p)(qb:Bits 6100 n.q):∃m,constant n k=some m/\dB 18400 m:=by
 have one:∀z:Int,z.natAbs<=4->Bits 18400 z:=fun z A=>eJ (n:=3) (by unfold Bits;omega) (by decide)
 have w:k*k<=3000*3000:=Nat.mul_le_mul r r;obtain⟨s,u,_,_⟩:=Zj n.op (k:=k) (by omega)
 have f:n.op=.exp\/n.op=.fL\/n.op=.atan->∃m,constant n k=some m/\dB 18400 m:=by
  intro ho
  have e:constant n k=some (if n.op≠.fL/\0<k then⟨0,(shape n.op k).1*(n.p*n.p),n.q*n.q,(shape n.op k).2*(n.q*n.q)⟩else⟨0,(shape n.op k).1*n.p,n.q,(shape n.op k).2*n.q⟩):=by
   unfold constant
   rcases ho with ho|ho|ho<;>simp only[ho]
  refine⟨_,e,?_⟩;split
  ·exact⟨one 0 (by decide),eJ (fY s (fY pb pb)) (by decide),eJ (fY qb qb) (by decide),eJ (fY u (fY qb qb)) (by decide)⟩
  ·exact⟨one 0 (by decide),eJ (fY s pb) (by decide),eJ qb (by decide),eJ (fY u qb) (by decide)⟩
 rcases h with h|h|⟨h,o,g⟩|⟨h,o,g⟩
 ·refine⟨_,by unfold constant;rw[h],?_⟩;split
  ·exact⟨one 0 (by decide),one 4 (by decide),one 1 (by decide),one 1 (by decide)⟩
  ·exact⟨one 0 (by decide),eJ (Fq (by omega)) (by decide),one 1 (by decide),eJ (Fq (by omega)) (by decide)⟩
 ·refine⟨_,by unfold constant;rw[h],?_⟩;refine⟨?_,one 1 (by decide),one 1 (by decide),one 0 (by decide)⟩;show Bits 18400 (hX k);unfold hX;split
  ·exact one 2 (by decide)
  ·split
   ·exact eJ (Fq (by omega)) (by decide)
   ·exact one 1 (by decide)
 ·have d:(if k=0 then 0 else 1+(k-1)%(n.terms.length-1))<n.terms.length:=by
   split
   ·omega
   ·have:=Nat.mod_lt (k-1) (show 0<n.terms.length-1 by omega);omega
  refine⟨_,by unfold constant;rw[h];simp only;rw[getElem?_eq_getElem d];rfl,?_⟩;exact⟨eJ (g _ (List.getElem_mem d)) (by decide),one 1 (by decide),one 1 (by decide),one 0 (by decide)⟩
 ·rcases h with h|h
  ·obtain⟨a,b,v,x,y,j,l⟩:=Pn o g pb qb;refine⟨_,by unfold constant;rw[h];simp only;rw[v];rfl,?_⟩;exact⟨eJ (fY j qb) (by decide),eJ (fY l pb) (by decide),eJ (fY l qb) (by decide),eJ (fY j qb) (by decide)⟩
  ·exact f h
theorem aJi (h:Inv ns rho (c+1))(q:ns[i]?=some n)(o:n.t=[]):∃m p,constant n n.k=some m/\put ns i {n with part:=n.part.mul m,k:=n.k+1}=some (ns.set i p)/\Inv (ns.set i p) rho c/\Le ns (ns.set i p)/\p.out=n.out:=by
 have f:=h.at' i n q;have hi:=(List.getElem?_eq_some_iff.1 q).1;have g:=f.mono (c':=c) (Le.refl _) (fun _ _=>rfl) hi (by omega)
 have C:n.args=[]/\n.aP=false/\pW n:=by
  cases f.shp with
  |fK o j l hc=>exact⟨j,l,hc⟩
  |gM v d j l hv=>rw[o]at d;cases d
  |kU v w a d j l=>rw[o]at d;cases d
  |bin a b v w x y d j l=>rw[o]at d;cases d
  |nest a v w x y d j l q ok=>rw[o]at d;cases d
 obtain⟨j,l,hc⟩:=C;have B:=f.ku;obtain⟨m,e,A⟩:=Ga hc (k:=n.k) (by omega) f.pb f.qb
 have r:aZ ns rho c i {n with part:=n.part.mul m,k:=n.k+1}:=by
  refine⟨f.len,g.arg,g.rd,f.kZ,f.nJ,f.fst,g.iP,by simp only;omega,g.jH,f.jI,f.lW,f.up,g.tb,g.pb,g.qb,?_,.fK o j l ?_⟩
  ·refine dB.mono (aHe f.iH A) ?_;simp only;rw[Nat.add_mul];omega
  ·exact hc
 obtain⟨s,u,z⟩:=(h.tick (show c<=c+1 by omega)).put q (n':={n with part:=n.part.mul m,k:=n.k+1}) rfl (le_refl _) r;exact⟨m,_,e,s,u,z,rfl⟩
end
end Rf
end Go.Proofs.YthhffdeihoofiaaGreatDoor
