import Derived.Test.YteghhlfmcjmnoaaGreatDoorCKn16
set_option linter.unusedSimpArgs false
set_option linter.unusedVariables false
set_option maxRecDepth 100000
set_option maxHeartbeats 2000000
namespace Go.Proofs.YteghhlfmcjmnoaaGreatDoor
open Go.RowKit
namespace Ab
open Rf (Nd Inv NInv)
def bxc (s:AS)(b:Nat):List AC:=match look s.boxes b with | some B=>B.cs | none=>[]
def colc (s:AS)(b:Nat):List AC:=((bxc s b).drop 1).take 16
structure IsNd (s:AS) (b:Nat) (zs:List Int) (cv lp rp nv:AC):Prop where
 look:look s.boxes b=some ⟨.bool false::colc s b++[cv,.int .i64 0,lp,.int .i64 0,rp,.int .i64 0,.lit nilS',.int .i64 0,nv,.int .i64 0],205,true,false,false⟩
 len:(colc s b).length=16
 num:numOf s.nums (colc s b)=some zs
structure IsNs (s:AS) (b:Nat) (kd:Int) (fst fur:AC) (zs:List Int):Prop where
 look:look s.boxes b=some ⟨.int .i64 kd::fst::fur::(bxc s b).drop 3,273,true,false,false⟩
 num:numOf s.nums ((bxc s b).drop 3)=some zs
structure IsCn (s:AS) (b:Nat) (kd:Int) (zs:List Int):Prop where
 look:look s.boxes b=some ⟨.int .i64 kd::.lit nilS'::(bxc s b).drop 2,224,true,false,false⟩
 num:numOf s.nums ((bxc s b).drop 2)=some zs
section
variable (p q:Int)
theorem aS6:IsNd (lS 10 p q []) 24 [0,0,nearB (lowT p q) (lowB p q),0,nearA (lowT p q) (lowB p q),nearB (lowT p q) (lowB p q),0,nearA (lowT p q) (lowB p q)] (.lit nilP) (.ptr 2 0) (.lit nilP) (.ptr 22 0):=⟨by kernel_rfl,by kernel_rfl,by kernel_rfl⟩
theorem aS5:IsNs (lS 10 p q []) 22 10 (.ptr 2 0) (.ptr 2 0) [0,0,nearB (lowT p q) (lowB p q),0,nearA (lowT p q) (lowB p q),nearB (lowT p q) (lowB p q),0,nearA (lowT p q) (lowB p q)]:=⟨by kernel_rfl,by kernel_rfl⟩
theorem aS7:clean (lS 10 p q [])=true:=by kernel_rfl
theorem aSS:IsNd (lS 12 p q [false,false]) 42 [0,0,1,0,1,0,0,1] (.lit nilP) (.ptr 16 0) (.ptr 20 0) (.lit nilP):=⟨by kernel_rfl,by kernel_rfl,by kernel_rfl⟩
theorem aSR:IsNd (lS 12 p q [false,false]) 20 (nsC 12 0) (.lit nilP) (.ptr 17 0) (.lit nilP) (.ptr 18 0):=⟨by kernel_rfl,by kernel_rfl,by kernel_rfl⟩
theorem aSQ:IsNs (lS 12 p q [false,false]) 18 12 (.ptr 17 0) (.ptr 17 0) [0,0,0,0,0,0,0,0]:=⟨by kernel_rfl,by kernel_rfl⟩
theorem aSP:IsNd (lS 12 p q [false,false]) 17 [lowB p q,0,-lowT p q,lowT p q+lowB p q,0,0,0,0] (.lit nilP) (.lit nilP) (.ptr 2 0) (.lit nilP):=⟨by kernel_rfl,by kernel_rfl,by kernel_rfl⟩
theorem aSO:IsNd (lS 12 p q [false,false]) 16 [1,0,0,1,0,0,0,0] (.ptr 13 0) (.lit nilP) (.lit nilP) (.lit nilP):=⟨by kernel_rfl,by kernel_rfl,by kernel_rfl⟩
theorem aSN:IsCn (lS 12 p q [false,false]) 13 12 [lowT p q,lowB p q,lowT ((lowT p q)*lowT p q) ((lowB p q)*lowB p q),lowB ((lowT p q)*lowT p q) ((lowB p q)*lowB p q),0,0,0,0]:=⟨by kernel_rfl,by kernel_rfl⟩
theorem aST:clean (lS 12 p q [false,false])=true:=by kernel_rfl
theorem aS0:IsNd (lS 13 p q [false,true]) 65 [0,0,1,0,1,0,0,1] (.lit nilP) (.ptr 16 0) (.ptr 43 0) (.lit nilP):=⟨by kernel_rfl,by kernel_rfl,by kernel_rfl⟩
theorem aSZ:IsNd (lS 13 p q [false,true]) 43 (nsC 13 0) (.lit nilP) (.ptr 17 0) (.lit nilP) (.ptr 18 0):=⟨by kernel_rfl,by kernel_rfl,by kernel_rfl⟩
theorem aSY:IsNd (lS 13 p q [false,true]) 40 [1,0,0,0,0,0,0,1] (.lit nilP) (.ptr 17 0) (.ptr 17 0) (.lit nilP):=⟨by kernel_rfl,by kernel_rfl,by kernel_rfl⟩
theorem aSX:IsNs (lS 13 p q [false,true]) 18 13 (.ptr 17 0) (.ptr 40 0) [0,0,0,0,0,0,0,0]:=⟨by kernel_rfl,by kernel_rfl⟩
theorem aSW:IsNd (lS 13 p q [false,true]) 17 [lowB p q,lowT p q,-lowT p q,lowB p q,0,0,0,0] (.lit nilP) (.lit nilP) (.ptr 2 0) (.lit nilP):=⟨by kernel_rfl,by kernel_rfl,by kernel_rfl⟩
theorem aSV:IsNd (lS 13 p q [false,true]) 16 [1,0,0,1,0,0,0,0] (.ptr 13 0) (.lit nilP) (.lit nilP) (.lit nilP):=⟨by kernel_rfl,by kernel_rfl,by kernel_rfl⟩
theorem aSU:IsCn (lS 13 p q [false,true]) 13 13 [lowT p q,lowB p q,lowT ((lowT p q)*lowT p q) ((lowB p q)*lowB p q),lowB ((lowT p q)*lowT p q) ((lowB p q)*lowB p q),0,0,0,0]:=⟨by kernel_rfl,by kernel_rfl⟩
theorem aS1:clean (lS 13 p q [false,true])=true:=by kernel_rfl
theorem aSL:IsNd (lS 11 p q [false,true]) 67 [1,0,0,0,0,0,0,1] (.lit nilP) (.ptr 17 0) (.ptr 45 0) (.lit nilP):=⟨by kernel_rfl,by kernel_rfl,by kernel_rfl⟩
theorem aSK:IsNd (lS 11 p q [false,true]) 45 [1,-1,1,1,0,0,0,0] (.lit nilP) (.lit nilP) (.ptr 44 0) (.lit nilP):=⟨by kernel_rfl,by kernel_rfl,by kernel_rfl⟩
theorem aSJ:IsNd (lS 11 p q [false,true]) 44 (nsC 11 0) (.lit nilP) (.ptr 18 0) (.lit nilP) (.ptr 19 0):=⟨by kernel_rfl,by kernel_rfl,by kernel_rfl⟩
theorem aSI:IsNd (lS 11 p q [false,true]) 41 [1,0,0,0,0,0,0,1] (.lit nilP) (.ptr 18 0) (.ptr 18 0) (.lit nilP):=⟨by kernel_rfl,by kernel_rfl,by kernel_rfl⟩
theorem aSH:IsNs (lS 11 p q [false,true]) 19 11 (.ptr 18 0) (.ptr 41 0) [0,0,0,0,0,0,0,0]:=⟨by kernel_rfl,by kernel_rfl⟩
theorem aSG:IsNd (lS 11 p q [false,true]) 18 [lowB p q,0,-lowT p q,lowB p q,0,0,0,0] (.lit nilP) (.lit nilP) (.ptr 2 0) (.lit nilP):=⟨by kernel_rfl,by kernel_rfl,by kernel_rfl⟩
theorem aSF:IsNd (lS 11 p q [false,true]) 17 [1,-1,1,1,0,0,0,0] (.lit nilP) (.lit nilP) (.ptr 16 0) (.lit nilP):=⟨by kernel_rfl,by kernel_rfl,by kernel_rfl⟩
theorem aSE:IsNd (lS 11 p q [false,true]) 16 [1,0,0,1,0,0,0,0] (.ptr 13 0) (.lit nilP) (.lit nilP) (.lit nilP):=⟨by kernel_rfl,by kernel_rfl,by kernel_rfl⟩
theorem aSD:IsCn (lS 11 p q [false,true]) 13 11 [lowT p q,lowB p q,lowT ((lowT p q)*lowT p q) ((lowB p q)*lowB p q),lowB ((lowT p q)*lowT p q) ((lowB p q)*lowB p q),0,0,0,0]:=⟨by kernel_rfl,by kernel_rfl⟩
theorem aSM:clean (lS 11 p q [false,true])=true:=by kernel_rfl
theorem aUl:IsNd (lS 12 p q [true,false]) 9 [1,0,0,1,0,0,0,0] (.lit nilP) (.lit nilP) (.ptr 8 0) (.lit nilP):=⟨by kernel_rfl,by kernel_rfl,by kernel_rfl⟩
theorem aUk:IsNd (lS 12 p q [true,false]) 8 (nsC 12 0) (.lit nilP) (.ptr 2 0) (.lit nilP) (.ptr 6 0):=⟨by kernel_rfl,by kernel_rfl,by kernel_rfl⟩
theorem aUj:IsNs (lS 12 p q [true,false]) 6 12 (.ptr 2 0) (.ptr 2 0) [0,0,0,0,0,0,0,0]:=⟨by kernel_rfl,by kernel_rfl⟩
theorem aSx:clean (lS 12 p q [true,false])=true:=by kernel_rfl
theorem aSA:IsNd (lS 13 p q [true,true]) 32 [1,0,0,1,0,0,0,0] (.lit nilP) (.lit nilP) (.ptr 31 0) (.lit nilP):=⟨by kernel_rfl,by kernel_rfl,by kernel_rfl⟩
theorem aSz:IsNd (lS 13 p q [true,true]) 31 (nsC 13 0) (.lit nilP) (.ptr 2 0) (.lit nilP) (.ptr 6 0):=⟨by kernel_rfl,by kernel_rfl,by kernel_rfl⟩
theorem aSy:IsNd (lS 13 p q [true,true]) 28 [1,0,0,0,0,0,0,1] (.lit nilP) (.ptr 2 0) (.ptr 2 0) (.lit nilP):=⟨by kernel_rfl,by kernel_rfl,by kernel_rfl⟩
theorem aUm:IsNs (lS 13 p q [true,true]) 6 13 (.ptr 2 0) (.ptr 28 0) [0,0,0,0,0,0,0,0]:=⟨by kernel_rfl,by kernel_rfl⟩
theorem aSB:clean (lS 13 p q [true,true])=true:=by kernel_rfl
theorem aSv:IsNd (lS 11 p q [true,true]) 33 [1,0,0,1,0,0,0,0] (.lit nilP) (.lit nilP) (.ptr 32 0) (.lit nilP):=⟨by kernel_rfl,by kernel_rfl,by kernel_rfl⟩
theorem aSu:IsNd (lS 11 p q [true,true]) 32 [1,-1,1,1,0,0,0,0] (.lit nilP) (.lit nilP) (.ptr 31 0) (.lit nilP):=⟨by kernel_rfl,by kernel_rfl,by kernel_rfl⟩
theorem aSt:IsNd (lS 11 p q [true,true]) 31 (nsC 11 0) (.lit nilP) (.ptr 2 0) (.lit nilP) (.ptr 6 0):=⟨by kernel_rfl,by kernel_rfl,by kernel_rfl⟩
theorem aSs:IsNd (lS 11 p q [true,true]) 28 [1,0,0,0,0,0,0,1] (.lit nilP) (.ptr 2 0) (.ptr 2 0) (.lit nilP):=⟨by kernel_rfl,by kernel_rfl,by kernel_rfl⟩
theorem aUi:IsNs (lS 11 p q [true,true]) 6 11 (.ptr 2 0) (.ptr 28 0) [0,0,0,0,0,0,0,0]:=⟨by kernel_rfl,by kernel_rfl⟩
theorem aSw:clean (lS 11 p q [true,true])=true:=by kernel_rfl
end
end Ab
open Go.RowKit
namespace Ab
open Rf (Nd Inv NInv)
section
variable {w0 w:World} {ψ φ:Nat->Option (Nat×Nat)} {s:AS}
theorem aAh {ν:List (Int×Nat)}{v:Value}:∀ x,relC Z φ ν w (.lit v) x->x=v:=fun x h=>h.1
theorem aAo {ν:List (Int×Nat)}{b m:Nat}(h:φ b=some (m,0)):∀ x,relC Z φ ν w (.ptr b 0) x->x=ptrB m:=fun x hx=>aBp (ν:=ν) (w:=w) h hx
theorem IsNd.at {b:Nat}{zs:List Int}{cv lp rp nv:AC}{a c d e:Value}(h:IsNd s b zs cv lp rp nv)(l:RepW Z w0 ψ φ s w){m:Nat}(n:φ b=some (m,0))(o:∀ x,relC Z φ s.nums w cv x->x=a)(p:∀ x,relC Z φ s.nums w lp x->x=c)(q:∀ x,relC Z φ s.nums w rp x->x=d)(r:∀ x,relC Z φ s.nums w nv x->x=e):
  ∃ ys:List Value,w0.heap.size<=m/\w.heap[m]?=some (.cells ys.toArray 205 (0,0))/\ys.length=27/\(∀ y∈ys,One y)/\NodeAt w m zs false 0 0 0 0 0 c d nilS' a e:=by
 obtain ⟨t,ys,g,i,f,k⟩:=aB1 l h.look rfl rfl;rw [n] at g;cases g;have j:=f.len;refine ⟨ys,k,i,?_,aDa f,aJv f i h.len h.num (fun x hx=>hx) o (fun x hx=>hx) p (fun x hx=>hx) q (fun x hx=>hx) aAh (fun x hx=>hx) r (fun x hx=>hx)⟩;simp [h.len] at j;omega
theorem IsNs.at {b:Nat}{kd:Int}{zs:List Int}{fst fur:AC}{f g:Value}(h:IsNs s b kd fst fur zs)(k:RepW Z w0 ψ φ s w){m:Nat}(l:φ b=some (m,0))(n:∀ x,relC Z φ s.nums w fst x->x=f)(o:∀ x,relC Z φ s.nums w fur x->x=g):
  ∃ xs:List Value,w0.heap.size<=m/\w.heap[m]?=some (.cells (.int .i64 kd::f::g::xs).toArray 273 (0,0))/\Hold true w zs xs:=by
 obtain ⟨p,c,d,e,i,j⟩:=aB1 k h.look rfl rfl;rw [l] at d;cases d
 match c,i with
 | y1::y2::y3::c,⟨a,g2,g3,g4⟩=>
 have a:y1=.int .i64 kd:=a;rw [a,n y2 g2,o y3 g3] at e;exact ⟨c,j,e,aCJ _ _ _ h.num g4⟩
theorem IsCn.at {b:Nat}{kd:Int}{zs:List Int}(h:IsCn s b kd zs)(i:RepW Z w0 ψ φ s w){m:Nat}(j:φ b=some (m,0)):
  ∃ xs:List Value,w0.heap.size<=m/\w.heap[m]?=some (.cells (.int .i64 kd::nilS'::xs).toArray 224 (0,0))/\Hold true w zs xs:=by
 obtain ⟨k,c,d,e,f,g⟩:=aB1 i h.look rfl rfl;rw [j] at d;cases d
 match c,f with
 | y1::y2::c,⟨a,g2,g4⟩=>
 have a:y1=.int .i64 kd:=a;rw [a,show y2=nilS' from g2.1] at e;exact ⟨c,g,e,aCJ _ _ _ h.num g4⟩
theorem aAp {b:Nat}{B:Box}(a:RepW Z w0 ψ φ s w)(c:look s.boxes b=some B)(d:B.own=true)(e:B.ro=false):∃ m,φ b=some (m,0):=by
 obtain ⟨m,_,h,_⟩:=aB1 a c d e;exact ⟨m,h⟩
theorem aAT {b a m f:Nat}{B g:Box}(h:RepW Z w0 ψ φ s w)(i:look s.boxes b=some B)(j:B.ro=false)(c:look s.boxes a=some g)(k:φ b=some (m,0))(l:φ a=some (f,0))(d:b≠a):m≠f:=by
 rintro rfl
 rcases h.inj b a B g m 0 0 i c k l with e | ⟨e,_⟩
 ·exact d e
 ·rw [j] at e;cases e
end
theorem aBA {w:World}{xk:Nat}{kd p q:Int}{xs:List Value}(i:∃ ys:List Value,w.heap[xk]?=some (.cells (.bool false::ys).toArray 205 (0,0)))(k:Hold true w [p,q] xs)(e:∀ z∈[p,q],Bits 1 z){g:Tr}(l:tT kd p q=some g)(G:AT->AS->Prop)(f:g.ok G fun _ _=>False){R:Ending->World->Prop}
  (m:∀ r s φ v w',G r s->relT Z φ s.nums w' r v->RepW Z w (ph1 2 xk) φ s w'->R (.returned v) w'):Calls Tryz.prog 236 #[.int .i64 kd,ptrB xk,.agg xs.toArray] w R:=by
 obtain ⟨ys,d⟩:=i
 have c:RepW Z w (ph1 2 xk) (ph1 2 xk) (stS kd p q) w:=by
  refine aBh rfl ?_ ?_ ?_
  ·intro b B h;have:=aAy h;simp [stS] at this;obtain ⟨rfl,rfl⟩:=this;exact ⟨rfl,rfl,rfl,xk,0,rfl,[],[.bool false],ys,d,rfl,rfl,trivial⟩
  ·intro b e;have:3<=b:=e;unfold ph1;rw [if_neg (by omega)]
  ·intro b n o a;unfold ph1 at a;split at a
   ·cases a;exact aAf d
   ·cases a
 refine aBo (vs:=[.one (.int .i64 kd),.one (.ptr 2 0),.agg (numCs true 0 2)]) (args:=[.int .i64 kd,ptrB xk,.agg xs.toArray]) (aAj Tryz.func236 rfl rfl) (aAd aB6) aCd (by kernel_rfl) ⟨rfl,⟨xk,0,rfl,rfl⟩,⟨xs,rfl,?_⟩,trivial⟩ c l G f m
 exact aBe [p,q] xs 0 _ k e fun j z hz=>by
  match j,hz with
  | 0,hz=>cases hz;rfl
  | 1,hz=>cases hz;rfl
  | j+2,hz=>simp at hz
theorem aJp {p q:Int}(i:0<=p)(j:0<q):∃ g:Int,0<g/\gcdZ p q=g/\p=g*lowT p q/\q=g*lowB p q/\0<=lowT p q/\0<lowB p q/\(lowT p q=0↔p=0):=by
 have c:0<gcdZ p q:=by
  unfold gcdZ;have:0<Nat.gcd p.natAbs q.natAbs:=Nat.gcd_pos_of_pos_right _ (by omega);omega
 have b:lowT p q=p/gcdZ p q/\lowB p q=q/gcdZ p q:=by
  unfold lowT lowB;rw [Nm.aAt j];exact ⟨rfl,rfl⟩
 have d:gcdZ p q ∣ p:=by
  unfold gcdZ;exact Int.ofNat_dvd_left.2 (Nat.gcd_dvd_left _ _)
 have e:gcdZ p q ∣ q:=by
  unfold gcdZ;exact Int.ofNat_dvd_left.2 (Nat.gcd_dvd_right _ _)
 have a:p=gcdZ p q*(p/gcdZ p q):=(Int.mul_ediv_cancel' d).symm;have f:q=gcdZ p q*(q/gcdZ p q):=(Int.mul_ediv_cancel' e).symm;rw [b.1,b.2];refine ⟨gcdZ p q,c,rfl,a,f,Int.ediv_nonneg i (by omega),?_,?_⟩
 ·rcases Int.lt_or_le 0 (q/gcdZ p q) with h | h
  ·exact h
  ·exfalso;have:=Int.mul_nonpos_of_nonneg_of_nonpos (show (0:Int)<=gcdZ p q by omega) h;omega
 ·constructor
  ·intro h;rw [h] at a
   simpa using a
  ·intro h;rw [h];simp
theorem aS9 {a b:Int}:decide (Nm.cmp a b<=0)=decide (a<=b):=by
 rcases Int.lt_trichotomy a b with h | h | h
 ·rw [Nm.aAC h,decide_eq_true (by decide),decide_eq_true (by omega)]
 ·rw [Nm.aAz h,decide_eq_true (by decide),decide_eq_true (by omega)]
 ·rw [Nm.aAt h,decide_eq_false (by decide),decide_eq_false (by omega)]
theorem aLE {a:Rf.Op}(b:Rf.fn a)(c d lp e:Int):enoughZ (kindZ a) c d lp e=Pg.enough a (c,d) (lp,e):=by
 unfold enoughZ Pg.enough
 rcases b with rfl | rfl | rfl | rfl<;>simp [kindZ,aS9]
end Ab
open Go.RowKit
namespace Ab
open Rf (Nd Inv NInv)
structure Probe (w:World) (b0:Nat) (own:Nat->Option Own) (at1:Nat->Nat) (s:Rf.St) (rho:Nat->Nat) (i:Nat) (n:Nd) (a:Nat) (x:Nd) (e1 e2:Rf.V) (p0 q0 p1 q1 p2 q2 p3 q3 mt pl:Int) (gv cv nv:Value) (dd:Int):Prop where
 t:n.t=[(1,0),(0,1)]
 nest:n.nest=false
 args:n.args=[a]
 read:∃ r,n.read=[r]
 out:n.out=[]
 told:n.told=Rf.one
 had:n.had=[Rf.one]
 pos:n.pos=true
 k:n.k=0
 fn:Rf.fn n.op
 xat:s.nodes[a]?=some x
 xpos:x.pos=true
 rk:rho a<rho i
 ends:Rf.ends s.nodes n 0=some (e1,e2)
 seen:∃ l g cc nn,Seen w b0 own at1 s.nodes i n p0 q0 p1 q1 p2 q2 p3 q3 mt pl gv cv nv l g cc nn
 d0:0<dd
 c1:e1=Pg.sc dd (p0,q0)
 c2:e2=Pg.sc dd (p1,q1)
 lo:0<=p1
 lo2:0<q1
 bits:∀ z∈[p1,q1],Bits 1 z
 b1:Rf.VBits 6100 e2
theorem aFO {d x:Int}(a:0<d):(0<=d*x↔0<=x)/\(0<d*x↔0<x):=by
 constructor
 ·constructor
  ·intro h
   rcases Int.lt_or_le x 0 with h1 | h1
   ·have:=Int.mul_neg_of_pos_of_neg a h1;omega
   ·exact h1
  ·exact fun h=>Int.mul_nonneg (by omega) h
 ·constructor
  ·intro h
   rcases Int.lt_or_le 0 x with h1 | h1
   ·exact h1
   ·have:=Int.mul_nonpos_of_nonneg_of_nonpos (show (0:Int)<=d by omega) h1;omega
  ·exact fun h=>Int.mul_pos a h
section
variable {w:World} {b0 fb:Nat} {own:Nat->Option Own} {at1:Nat->Nat} {i:Nat} {n:Nd} {s:Rf.St} {rho:Nat->Nat} {c:Nat}
theorem aMQ (h:Net w b0 own at1 fb s)(H:Inv s.nodes rho c)(X:s.nodes[i]?=some n)(q:n.probe=true):∃ a x e1 e2 p0 q0 p1 q1 p2 q2 p3 q3 mt pl gv cv nv dd,Probe w b0 own at1 s rho i n a x e1 e2 p0 q0 p1 q1 p2 q2 p3 q3 mt pl gv cv nv dd:=by
 have f:=H.at' i n X;obtain ⟨j,M⟩:=(h.nd i n X).prb q
 have hS:∃ a',n.args=[a']/\n.pos=true/\Rf.fn n.op/\n.out=[]/\Rf.Pos s.nodes a'/\n.k=0:=by
  cases f.shp with
  | con j p hp' hc=>rw [q] at hp';cases hp'
  | frac v j p hp' hv=>rw [q] at hp';cases hp'
  | una v w a' j ha' hp'=>
   obtain ⟨k1,k2,k3,k4,k5,k6⟩:=hp' q;exact ⟨a',ha',k1,k2,k3,k4,k6⟩
  | bin a' b v w x y j ha' hp'=>rw [q] at hp';cases hp'
  | nest a' v w x y j ha' hp' hn' ok=>rw [q] at hp';cases hp'
 obtain ⟨a,p,D,O,P,⟨x,o,E⟩,hk⟩:=hS;obtain ⟨r,hr⟩:∃ r,n.read=[r]:=List.length_eq_one_iff.1 (by rw [f.len,p];rfl);have t:=f.fst P
 have u:n.had=[Rf.one]:=by
  have Y:=f.hadl;have I:=f.had0;rw [P] at Y;obtain ⟨m,hm⟩:=List.length_eq_one_iff.1 Y;rw [hm] at I ⊢;simp at I;rw [I]
 obtain ⟨m,x',r',g1,g2,R,g4⟩:=Rf.aBW H f (sd:=0) (a:=a) (by rw [p];rfl);rw [o] at g1;cases g1;have d:=H.at' a x o;have J:Rf.Up m:=(d.up E).2 m (List.mem_of_getElem? R);have L:=d.hadb r' m R
 have A:r'<=3000:=by have:=d.outu;have:=d.hadl;have:=(List.getElem?_eq_some_iff.1 R).1;omega
 obtain ⟨S,T⟩:=Rf.aMj L A;obtain ⟨l1,l2,_⟩:=Rf.aQX J;obtain ⟨p0,q0,p1,q1,p2,q2,p3,q3,mt,pl,gv,cv,nv,l,g,cc,nn,U⟩:=h.seen H X
 have B:Rf.corners s.nodes n=some [Rf.vat m (1,0),Rf.vat m (0,1)]:=by
  unfold Rf.corners;rw [Pg.aEx j,g4,t,Option.map_some,Option.map_some,Pg.aFc];have e:(⟨((1,0):Rf.V).1,((0,1):Rf.V).1,((1,0):Rf.V).2,((0,1):Rf.V).2⟩:Mt)=Rf.one:=rfl;rw [e];simp only [Pg.aEn]
 have C:=U.cof;have hl:=U.cor;rw [B] at hl;cases hl;obtain ⟨dd,F,c1,W,_,_⟩:=C.of2
 have hq:0<=p1/\0<q1:=by
  rw [W] at l1 l2;exact ⟨(aFO F).1.1 l1,(aFO F).2.1 l2⟩
 have hb:∀ z∈[p1,q1],Bits 1 z:=by
  rw [W] at S T;intro z hz;simp at hz
  rcases hz with rfl | rfl
  ·exact aBL (N:=6100) (by decide) (Nat.lt_of_le_of_lt (Pg.aES F _) S)
  ·exact aBL (N:=6100) (by decide) (Nat.lt_of_le_of_lt (Pg.aES F _) T)
 exact ⟨a,x,_,_,p0,q0,p1,q1,p2,q2,p3,q3,mt,pl,gv,cv,nv,dd,j,M,p,⟨r,hr⟩,P,t,u,D,hk,O,o,E,(f.arg 0 a (by rw [p];rfl)).2,g4,⟨_,g,cc,nn,U⟩,F,c1,W,hq.1,hq.2,hb,⟨S,T⟩⟩
theorem aH9 (h:Net w b0 own at1 fb s)(y:Inv s.nodes rho c){a:Nat}{x:Nd}(e:s.nodes[a]?=some x)(f:x.pos=true):∃ ys:List Value,w.heap[at1 a]?=some (.cells (.bool false::ys).toArray 205 (0,0)):=by
 obtain ⟨g,i,j,k,l,m,n,o,p,q,r,t,u,d,_⟩:=(h.nd a x e).ex;obtain ⟨v,b,_⟩:=d.nd.ex;rw [f] at b;exact ⟨_,b⟩
theorem aDj {a:Rf.Op}(h:Rf.fn a):kindZ a=10\/kindZ a=11\/kindZ a=12\/kindZ a=13:=by
 rcases h with rfl | rfl | rfl | rfl
 ·exact Or.inl rfl
 ·exact Or.inr (Or.inl rfl)
 ·exact Or.inr (Or.inr (Or.inl rfl))
 ·exact Or.inr (Or.inr (Or.inr rfl))
theorem aM5 (p:∀ (w:World) (b0 fb:Nat) (own:Nat->Option Own) (at1:Nat->Nat) (s:Rf.St) (rho:Nat->Nat) (c i:Nat) (n:Nd) (ns':List Nd) (a:Nat) (x:Nd) (e1 e2:Rf.V) (p0 q0 p1 q1 p2 q2 p3 q3 mt pl:Int) (gv cv nv:Value) (dd:Int),Net w b0 own at1 fb s->b0<=w.heap.size->c<=3000->Inv s.nodes rho c->s.nodes[i]?=some n->n.probe=true->Probe w b0 own at1 s rho i n a x e1 e2 p0 q0 p1 q1 p2 q2 p3 q3 mt pl gv cv nv dd->(n.op=.sqrt->0<p1)->Rf.turn (s.nodes.set i {n with read:=[0],probe:=false}) i {n with read:=[0],probe:=false} e2=some ns'->∀ w1 xs,Chg w w1 []->Hold true w1 [p1,q1] xs->
  Calls Tryz.prog 236 #[.int .i64 (kindZ n.op),ptrB (at1 a),.agg xs.toArray] w1 fun e w2=>∃ m,∃ ys:List Value,e=.returned (ptrB m)/\Chg w1 w2 []/\w1.heap.size<=m/\w2.heap[m]?=some (.cells ys.toArray 205 (0,0))/\ys.length=27/\(∀ y∈ys,One y)/\∀ w3,Chg w2 w3 [at1 i]->w3.heap[at1 i]?=some (.cells ys.toArray 205 (0,0))->Res w b0 own at1 fb s.nodes.length true ⟨ns',s.clock⟩ w3):SettleOk:=by
 intro w b0 fb own at1 s rho c i n ns' h P R o E b;have W:(⟨s.nodes,s.clock⟩:Rf.St)=s:=rfl
 have j:∀ {w':World},Chg w w' []->ns'=s.nodes->Res w b0 own at1 fb s.nodes.length true ⟨ns',s.clock⟩ w':=by
  intro w' q e;subst e;exact ⟨own,Kept.still q,fun _=>⟨at1,h.still o q,fun _ _=>rfl⟩⟩
 unfold Rf.settle at b
 cases u:n.probe with
 | false=>
  rw [u] at b;simp only [Bool.false_eq_true,if_false,Option.some.injEq] at b;obtain ⟨p0,q0,p1,q1,p2,q2,p3,q3,mt,pl,gv,cv,nv,l,g,cc,nn,O⟩:=h.seen o E
  have F:unsZ n=0:=by unfold unsZ;rw [u];rfl
  refine (aFt (h.pos2 O) (Or.inl F)).mono ?_;rintro e w' ⟨v,rfl,q⟩;exact ⟨v,rfl,j q b.symm⟩
 | true=>
  rw [u] at b;simp only [if_true] at b;obtain ⟨a,x,e1,e2,p0,q0,p1,q1,p2,q2,p3,q3,mt,pl,gv,cv,nv,dd,d⟩:=aMQ h o E u;obtain ⟨l,g,cc,nn,O⟩:=d.seen;rw [d.ends,Option.bind_some] at b
  have F:unsZ n=kindZ n.op:=by unfold unsZ;rw [u];rfl
  have z:Rf.known n.op e2 e1=enoughZ (kindZ n.op) p0 q0 p1 q1:=by
   rw [aLE d.fn,d.c1,d.c2];exact Pg.aOf d.fn d.d0 _ _
  have f:=h.pos2 O;rw [F] at f;simp only at b
  by_cases k:Rf.known n.op e2 e1=true
  ·rw [if_pos k] at b;obtain ⟨ad,D,b⟩:=Option.bind_eq_some_iff.1 b;have A:=(aDs D).1;subst A;obtain ⟨r,hr⟩:=d.read
   have H:n.read.set 0 0=[0]:=by rw [hr];rfl
   rw [H] at b
   have B:rArg n=some a:=by unfold rArg;rw [d.t,d.args];rfl
   have I:n.op=.sqrt->0<p1:=by
    intro e;rw [e] at k;have C:decide (e1.1*e2.2<=2*(e2.1*e1.2))=true:=k
    rcases Int.lt_or_le 0 p1 with h1 | h1
    ·exact h1
    ·exfalso
     have J:p1=0:=by have:=d.lo;omega
     -- the upper end is above the lower one
     have X:=o.at' i n E;obtain ⟨m,x',r',T,g2,g3,U⟩:=Rf.aBW o X (sd:=0) (a:=a) (by rw [d.args];rfl);rw [d.xat] at T;cases T;rw [d.ends] at U
     have L:e1=Rf.vat m (1,0)/\e2=Rf.vat m (0,1):=by
      have:=Option.some.inj U;exact ⟨congrArg Prod.fst this,congrArg Prod.snd this⟩
     have M:=o.at' a x d.xat;have N:Rf.Up m:=(M.up d.xpos).2 m (List.mem_of_getElem? g3);obtain ⟨_,_,l3⟩:=Rf.aQX N;rw [L.1,L.2] at k;have S:=l3 k;rw [<-L.2,d.c2,J] at S;simp [Pg.sc] at S
   refine aHL f (aDj d.fn) (by rw [<-z];exact k) fun w1 xs c1 hh=>?_
   rw [B];refine (p w b0 fb own at1 s rho c i n ns' a x e1 e2 p0 q0 p1 q1 p2 q2 p3 q3 mt pl gv cv nv dd h P R o E u d I b w1 xs c1 hh).mono ?_;rintro e w2 ⟨m,ys,rfl,c2,hm,k1,k2,k3,k4⟩;have Y:at1 i<w1.heap.size:=Nat.lt_of_lt_of_le f.nd.lt c1.on.size;refine ⟨m,ys,rfl,by omega,k1,k2,k3,?_,k4⟩;have:=(f.keep c1).keep c2;rw [B] at this;exact this
  ·rw [if_neg k] at b
   have C:enoughZ (kindZ n.op) p0 q0 p1 q1=false:=by
    rw [<-z]
    simpa using k
   refine (aFt f (Or.inr ⟨aDj d.fn,C⟩)).mono ?_;rintro e w' ⟨v,rfl,q⟩;exact ⟨v,rfl,j q (Option.some.inj b).symm⟩
end
end Ab
open Go.RowKit
namespace Ab
open Rf (Nd Inv NInv)
theorem aGM {α:Type}{l new:List α}{i:Nat}{a b:α}(c:i<l.length):((l.set i a)++new).set i b=(l++new).set i b:=by
 rw [List.set_append_left _ _ (by simpa using c),List.set_append_left _ _ c,List.set_set]
def TurnOk (P:Nd->Prop):Prop:=∀ (w:World) (b0 fb:Nat) (own:Nat->Option Own) (at1:Nat->Nat) (s:Rf.St) (rho:Nat->Nat) (c i:Nat) (n:Nd) (ns':List Nd) (a:Nat) (x:Nd) (e1 e2:Rf.V) (p0 q0 p1 q1 p2 q2 p3 q3 mt pl:Int) (gv cv nv:Value) (dd:Int),P n->Net w b0 own at1 fb s->b0<=w.heap.size->c<=3000->Inv s.nodes rho c->s.nodes[i]?=some n->n.probe=true->Probe w b0 own at1 s rho i n a x e1 e2 p0 q0 p1 q1 p2 q2 p3 q3 mt pl gv cv nv dd->(n.op=.sqrt->0<p1)->Rf.turn (s.nodes.set i {n with read:=[0],probe:=false}) i {n with read:=[0],probe:=false} e2=some ns'->∀ w1 xs,Chg w w1 []->Hold true w1 [p1,q1] xs->
  Calls Tryz.prog 236 #[.int .i64 (kindZ n.op),ptrB (at1 a),.agg xs.toArray] w1 fun e w2=>∃ m,∃ ys:List Value,e=.returned (ptrB m)/\Chg w1 w2 []/\w1.heap.size<=m/\w2.heap[m]?=some (.cells ys.toArray 205 (0,0))/\ys.length=27/\(∀ y∈ys,One y)/\∀ w3,Chg w2 w3 [at1 i]->w3.heap[at1 i]?=some (.cells ys.toArray 205 (0,0))->Res w b0 own at1 fb s.nodes.length true ⟨ns',s.clock⟩ w3
theorem holds1 {a:Prop}(h:a):Holds [a]:=fun x hx=>by simp at hx;rw [hx];exact h
theorem aMl {p q a:Int}{b:Rf.V}(m:0<=p)(n:0<q)(o:0<a)(c:b=Pg.sc a (p,q)):∃ g:Int,0<g/\b.1=g*lowT p q/\b.2=g*lowB p q/\0<gcdZ p q/\0<=lowT p q/\0<lowB p q/\(lowT p q=0↔b.1=0)/\(lowT p q=0↔p=0):=by
 obtain ⟨g,e,f,i,j,k,l,d⟩:=aJp m n;refine ⟨a*g,Int.mul_pos o e,?_,?_,by omega,k,l,?_,d⟩
 ·rw [c];show a*p=_;rw [Int.mul_assoc,<-i]
 ·rw [c];show a*q=_;rw [Int.mul_assoc,<-j]
 ·rw [d,c];show p=0↔a*p=0;constructor
  ·intro h;rw [h];simp
  ·intro h
   rcases Int.mul_eq_zero.1 h with h | h
   ·omega
   ·exact h
theorem aNt:TurnOk fun n=>n.op=.sqrt:=by
 intro w b0 fb bq p s br c i n ns' a x e1 e2 p0 q0 f q1 p2 q2 p3 q3 mt pl gv cv nv dd q h bs bt hI M hp b av o w1 xs c1 hh;have hi:=(List.getElem?_eq_some_iff.1 M).1;have a7:=(List.getElem?_eq_some_iff.1 b.xat).1;obtain ⟨g,hg,E1,E2,S,t0,T,hz,an⟩:=aMl b.lo b.lo2 b.d0 b.c2;have a8:=av q
 have hT:0<lowT f q1:=by
  rcases Int.lt_or_le 0 (lowT f q1) with h1 | h1
  ·exact h1
  ·have:lowT f q1=0:=by omega
   have:=an.1 this;omega
 -- the machine
 unfold Rf.turn at o;simp only [b.args,List.getElem?_cons_zero,Option.bind_some] at o;rw [if_pos q] at o;obtain ⟨d,l,U⟩:=Option.bind_eq_some_iff.1 o;have E:=(aDs U).1;rw [List.set_set] at E;rw [E1,E2,Pg.aMr hg] at l
 have hA:nearA (lowT f q1) (lowB f q1)=d.1/\nearB (lowT f q1) (lowB f q1)=d.2:=by
  unfold nearA nearB;rw [l];exact ⟨rfl,rfl⟩
 obtain ⟨l1,l2⟩:=aIp S
 have O:Rf.VBits 6100 (lowT f q1,lowB f q1):=by
  have hb:=b.b1
  have k:∀ {z y:Int},z.natAbs<=(dd*y).natAbs->(dd*y).natAbs<2^6100->z.natAbs<2^6100:=fun h1 h2=>Nat.lt_of_le_of_lt h1 h2
  rw [b.c2] at hb;exact ⟨k (Nat.le_trans l1 (Pg.aES b.d0 _)) hb.1,k (Nat.le_trans l2 (Pg.aES b.d0 _)) hb.2⟩
 obtain ⟨A,B,W,_,bf,bA,bB⟩:=Rf.aFd hT T O.1 O.2;have P:d=(A,B):=Option.some.inj (l.symm.trans W)
 have bA:Nat.lt d.1.natAbs (2^12300):=by rw [P];exact bA
 have bB:Nat.lt d.2.natAbs (2^3100):=by rw [P];exact bB
 have F:(Rf.near (lowT f q1) (lowB f q1) 20000 1).isSome=true:=by rw [l];rfl
 clear W;generalize Rf.near (lowT f q1) (lowB f q1) 20000 1=NR at l;obtain ⟨ao,X⟩:=aH9 (h.still hI c1) hI b.xat b.xpos;rw [q];refine aBA (kd:=10) ⟨ao,X⟩ hh b.bits (aVd f q1) (fun r st=>r=.val (.one (.ptr 24 0))/\IsNd st 24 [0,0,nearB (lowT f q1) (lowB f q1),0,nearA (lowT f q1) (lowB f q1),nearB (lowT f q1) (lowB f q1),0,nearA (lowT f q1) (lowB f q1)] (.lit nilP) (.ptr 2 0) (.lit nilP) (.ptr 22 0)/\IsNs st 22 10 (.ptr 2 0) (.ptr 2 0) [0,0,nearB (lowT f q1) (lowB f q1),0,nearA (lowT f q1) (lowB f q1),nearB (lowT f q1) (lowB f q1),0,nearA (lowT f q1) (lowB f q1)]/\clean st=true) ⟨holds1 S,holds1 ⟨hT,T,F⟩,rfl,aS6 f q1,aS5 f q1,aS7 f q1⟩ ?_;rintro r st φ v w2 ⟨rfl,ad,ae,ar⟩ hrel L;obtain ⟨m,hm⟩:=aAp L ad.look rfl rfl;obtain ⟨nb,Y⟩:=aAp L ae.look rfl rfl;have H:φ 2=some (p a,0):=L.base 2 (p a,0) rfl;have hv:v=ptrB m:=aAo (ν:=st.nums) (w:=w2) hm v hrel;obtain ⟨ys,k1,k2,k3,k4,k5⟩:=ad.at L hm aAh (aAo H) aAh (aAo Y);obtain ⟨ap,j1,j2,j3⟩:=ae.at L Y (aAo H) (aAo H);have u:=RepF.below L ar;refine ⟨m,ys,by rw [hv],Chg.aAi u,k1,k2,k3,k4,fun w3 c3 h3=>?_⟩;rw [hA.1,hA.2] at k5 j3;have I:=k5.copy k2 h3 c3.on;have ai:Chg w w3 [p i]:=((c1.weak (by simp)).trans ((Chg.aAi u).weak (by simp))).trans c3;have a0:p i<w1.heap.size:=Nat.lt_of_lt_of_le (by obtain ⟨cs,aq⟩:=aD1 h M;exact aAf aq) c1.on.size
 have R:nb ∉ [p i]:=by simp;omega
 have C:=c3.at j2 R
 have J:(s.nodes++([]:List Nd)).set i {n with read:=[0],probe:=false,t:=[(0,0),(d.2,0),(d.1,d.2),(0,d.1)],nest:=true}=ns':=by rw [List.append_nil,E,b.args]
 have aj:Pg.Go s.nodes ns':=by rw [E];exact aB0 M rfl rfl rfl
 obtain ⟨xa,g1,_,g3,_⟩:=aj.at' a x b.xat;have ak:=g3 0 _ (h.nd a x b.xat).hc.fst;have D:Pg.Cof [(0,0),(d.2,0),(d.1,d.2),(0,d.1)] (colsZ [0,0,d.2,0,d.1,d.2,0,d.1]):=.mk4 (e:=1) (by decide) (Pg.aAu _).symm (Pg.aAu _).symm (Pg.aAu _).symm (Pg.aAu _).symm
 have al:∀ z∈[0,0,d.2,0,d.1,d.2,0,d.1],Bits 1 z:=by
  have u1:Bits 1 d.1:=aBL (N:=12300) (by decide) bA;have u2:Bits 1 d.2:=aBL (N:=3100) (by decide) bB;have u0:Bits 1 0:=aBL (N:=1) (by decide) (by decide);intro z hz
  have am:z=0\/z=d.1\/z=d.2:=by simp at hz;omega
  rcases am with rfl | rfl | rfl<;>assumption
 refine aDW h hI M (n':={n with read:=[0],probe:=false,t:=[(0,0),(d.2,0),(d.1,d.2),(0,d.1)],nest:=true}) (new:=[]) J.symm rfl rfl rfl ai (fun _ _=>rfl) (fun _ _=>rfl) ?_ (fun j mm hj=>by simp at hj);refine aBz (a:=a) I rfl b.pos rfl rfl b.args rfl b.out b.told b.had rfl g1 ak ⟨_,C⟩ ?_ D (h.nd i n M).own (h.nd i n M).lo;exact ⟨ap,[0,0,d.2,0,d.1,d.2,0,d.1],_,_,by rw [show kindZ n.op=10 by rw [q];rfl];exact C,aAm c3.on j3,rfl,al,fun _=>⟨a,by simp only;rw [b.args];rfl,rfl,rfl,D⟩,fun e=>absurd q e⟩
end Ab
open Go.RowKit
namespace Ab
open Rf (Nd Inv NInv)
structure LfA (W:Nat) (w2:World) (kd:Int) (xk m nst ra nb pb:Nat) (fur:Value) (xs:List Value):Prop where
 n0:W<=nst
 nd:NodeAt w2 nst (nsC kd 0) false 0 0 0 0 0 (ptrB xk) nilP nilS' nilP (ptrB nb)
 b0:W<=nb
 blk:w2.heap[nb]?=some (.cells (.int .i64 kd::ptrB xk::fur::xs).toArray 273 (0,0))
 hold:Hold true w2 [0,0,0,0,0,0,0,0] xs
 ln:kd=12->fur=ptrB xk
 sq:kd≠12->fur=ptrB pb/\W<=pb/\pb≠nst/\(kd=11->pb≠ra)/\NodeAt w2 pb [1,0,0,0,0,0,0,1] false 0 0 0 0 0 (ptrB xk) (ptrB xk) nilS' nilP nilP
 top:kd≠11->NodeAt w2 m [1,0,0,1,0,0,0,0] false 0 0 0 0 0 nilP (ptrB nst) nilS' nilP nilP
 ex:kd=11->W<=ra/\ra≠nst/\NodeAt w2 ra [1,-1,1,1,0,0,0,0] false 0 0 0 0 0 nilP (ptrB nst) nilS' nilP nilP/\NodeAt w2 m [1,0,0,1,0,0,0,0] false 0 0 0 0 0 nilP (ptrB ra) nilS' nilP nilP
abbrev Told (w1:World)(e:Ending)(w2:World)(K:Nat->Prop):Prop:=∃ m,∃ ys:List Value,e=.returned (ptrB m)/\Chg w1 w2 []/\w1.heap.size<=m/\w2.heap[m]?=some (.cells ys.toArray 205 (0,0))/\ys.length=27/\(∀ y∈ys,One y)/\K m
section
variable {w1:World} {xk:Nat} {p q:Int} {xs:List Value}
theorem aRx (E:∃ ys:List Value,w1.heap[xk]?=some (.cells (.bool false::ys).toArray 205 (0,0)))(F:Hold true w1 [p,q] xs)(H:∀ z∈[p,q],Bits 1 z)(I:0<gcdZ p q)(J:lowT p q=0):Calls Tryz.prog 236 #[.int .i64 12,ptrB xk,.agg xs.toArray] w1 fun e w2=>Told w1 e w2 fun m=>∃ nst ra nb pb fur xs,LfA w1.heap.size w2 12 xk m nst ra nb pb fur xs:=by
 refine aBA (kd:=12) E F H (aT8 p q) (fun r c=>r=.val (.one (.ptr 9 0))/\IsNd c 9 [1,0,0,1,0,0,0,0] (.lit nilP) (.lit nilP) (.ptr 8 0) (.lit nilP)/\IsNd c 8 (nsC 12 0) (.lit nilP) (.ptr 2 0) (.lit nilP) (.ptr 6 0)/\IsNs c 6 12 (.ptr 2 0) (.ptr 2 0) [0,0,0,0,0,0,0,0]/\clean c=true) ⟨holds1 I,fun _=>⟨fun e=>(by cases e),fun _=>⟨holds1 (by decide),holds1 (by decide),rfl,aUl p q,aUk p q,aUj p q,aSx p q⟩⟩,fun e=>absurd (show Nm.cmp (lowT p q) 0=0 from Nm.aAz J) (of_decide_eq_false e)⟩ ?_;rintro r c φ v w2 ⟨rfl,j,k,l,g⟩ hrel a;obtain ⟨m,h⟩:=aAp a j.look rfl rfl;obtain ⟨nst,i⟩:=aAp a k.look rfl rfl;obtain ⟨nb,d⟩:=aAp a l.look rfl rfl;have b:φ 2=some (xk,0):=a.base 2 (xk,0) rfl;have n:v=ptrB m:=aAo (ν:=c.nums) (w:=w2) h v hrel;obtain ⟨ys,o,s,t,u,x⟩:=j.at a h aAh aAh (aAo i) aAh;obtain ⟨_,y,_,_,_,A⟩:=k.at a i aAh (aAo b) aAh (aAo d);obtain ⟨f,B,C,D⟩:=l.at a d (aAo b) (aAo b);exact ⟨m,ys,by rw [n],Chg.aAi (RepF.below a g),o,s,t,u,nst,0,nb,0,_,f,y,A,B,C,D,fun _=>rfl,fun e=>absurd rfl e,fun _=>x,fun e=>by cases e⟩
theorem aRy (J:∃ ys:List Value,w1.heap[xk]?=some (.cells (.bool false::ys).toArray 205 (0,0)))(L:Hold true w1 [p,q] xs)(M:∀ z∈[p,q],Bits 1 z)(N:0<gcdZ p q)(O:lowT p q=0):Calls Tryz.prog 236 #[.int .i64 13,ptrB xk,.agg xs.toArray] w1 fun e w2=>Told w1 e w2 fun m=>∃ nst ra nb pb fur xs,LfA w1.heap.size w2 13 xk m nst ra nb pb fur xs:=by
 refine aBA (kd:=13) J L M (aT9 p q) (fun r d=>r=.val (.one (.ptr 32 0))/\IsNd d 32 [1,0,0,1,0,0,0,0] (.lit nilP) (.lit nilP) (.ptr 31 0) (.lit nilP)/\IsNd d 31 (nsC 13 0) (.lit nilP) (.ptr 2 0) (.lit nilP) (.ptr 6 0)/\IsNd d 28 [1,0,0,0,0,0,0,1] (.lit nilP) (.ptr 2 0) (.ptr 2 0) (.lit nilP)/\IsNs d 6 13 (.ptr 2 0) (.ptr 28 0) [0,0,0,0,0,0,0,0]/\clean d=true) ⟨holds1 N,fun _=>⟨fun _=>⟨holds1 (by decide),holds1 (by decide),rfl,aSA p q,aSz p q,aSy p q,aUm p q,aSB p q⟩,fun e=>(by cases e)⟩,fun e=>absurd (show Nm.cmp (lowT p q) 0=0 from Nm.aAz O) (of_decide_eq_false e)⟩ ?_;rintro r d φ v w2 ⟨rfl,n,i,j,o,k⟩ hrel a;obtain ⟨m,l⟩:=aAp a n.look rfl rfl;obtain ⟨nst,g⟩:=aAp a i.look rfl rfl;obtain ⟨nb,f⟩:=aAp a o.look rfl rfl;obtain ⟨pb,c⟩:=aAp a j.look rfl rfl;have b:φ 2=some (xk,0):=a.base 2 (xk,0) rfl;have s:v=ptrB m:=aAo (ν:=d.nums) (w:=w2) l v hrel;obtain ⟨ys,t,u,x,y,A⟩:=n.at a l aAh aAh (aAo g) aAh;obtain ⟨_,B,_,_,_,C⟩:=i.at a g aAh (aAo b) aAh (aAo f);obtain ⟨_,D,_,_,_,E⟩:=j.at a c aAh (aAo b) (aAo b) aAh;obtain ⟨h,F,H,I⟩:=o.at a f (aAo b) (aAo c);exact ⟨m,ys,by rw [s],Chg.aAi (RepF.below a k),t,u,x,y,nst,0,nb,pb,_,h,B,C,F,H,I,fun e=>(by cases e),fun _=>⟨rfl,D,aAT a j.look rfl i.look c g (by decide),fun e=>(by cases e),E⟩,fun _=>A,fun e=>by cases e⟩
theorem aRw (O:∃ ys:List Value,w1.heap[xk]?=some (.cells (.bool false::ys).toArray 205 (0,0)))(P:Hold true w1 [p,q] xs)(R:∀ z∈[p,q],Bits 1 z)(S:0<gcdZ p q)(T:lowT p q=0):Calls Tryz.prog 236 #[.int .i64 11,ptrB xk,.agg xs.toArray] w1 fun e w2=>Told w1 e w2 fun m=>∃ nst ra nb pb fur xs,LfA w1.heap.size w2 11 xk m nst ra nb pb fur xs:=by
 refine aBA (kd:=11) O P R (aT7 p q) (fun r f=>r=.val (.one (.ptr 33 0))/\IsNd f 33 [1,0,0,1,0,0,0,0] (.lit nilP) (.lit nilP) (.ptr 32 0) (.lit nilP)/\IsNd f 32 [1,-1,1,1,0,0,0,0] (.lit nilP) (.lit nilP) (.ptr 31 0) (.lit nilP)/\IsNd f 31 (nsC 11 0) (.lit nilP) (.ptr 2 0) (.lit nilP) (.ptr 6 0)/\IsNd f 28 [1,0,0,0,0,0,0,1] (.lit nilP) (.ptr 2 0) (.ptr 2 0) (.lit nilP)/\IsNs f 6 11 (.ptr 2 0) (.ptr 28 0) [0,0,0,0,0,0,0,0]/\clean f=true) ⟨holds1 S,fun _=>⟨fun _=>⟨holds1 (by decide),holds1 (by decide),rfl,aSv p q,aSu p q,aSt p q,aSs p q,aUi p q,aSw p q⟩,fun e=>(by cases e)⟩,fun e=>absurd (show Nm.cmp (lowT p q) 0=0 from Nm.aAz T) (of_decide_eq_false e)⟩ ?_;rintro r f φ v w2 ⟨rfl,s,i,j,k,t,n⟩ hrel a;obtain ⟨m,o⟩:=aAp a s.look rfl rfl;obtain ⟨nst,h⟩:=aAp a j.look rfl rfl;obtain ⟨nb,g⟩:=aAp a t.look rfl rfl;obtain ⟨pb,c⟩:=aAp a k.look rfl rfl;obtain ⟨ra,d⟩:=aAp a i.look rfl rfl;have b:φ 2=some (xk,0):=a.base 2 (xk,0) rfl;have u:v=ptrB m:=aAo (ν:=f.nums) (w:=w2) o v hrel;obtain ⟨ys,x,y,A,B,C⟩:=s.at a o aAh aAh (aAo d) aAh;obtain ⟨_,D,_,_,_,E⟩:=j.at a h aAh (aAo b) aAh (aAo g);obtain ⟨_,F,_,_,_,H⟩:=k.at a c aAh (aAo b) (aAo b) aAh;obtain ⟨l,I,J,L⟩:=t.at a g (aAo b) (aAo c);obtain ⟨_,M,_,_,_,N⟩:=i.at a d aAh aAh (aAo h) aAh;exact ⟨m,ys,by rw [u],Chg.aAi (RepF.below a n),x,y,A,B,nst,ra,nb,pb,_,l,D,E,I,J,L,fun e=>(by cases e),fun _=>⟨rfl,F,aAT a k.look rfl j.look c h (by decide),fun _=>aAT a k.look rfl i.look c d (by decide),H⟩,fun e=>absurd rfl e,fun _=>⟨M,aAT a i.look rfl j.look d h (by decide),N,C⟩⟩
end
section
variable {w w3:World} {b0 fb:Nat} {own own':Nat->Option Own} {at1 at2:Nat->Nat} {i:Nat} {n n':Nd} {s:Rf.St} {rho:Nat->Nat} {c:Nat}
theorem aFu {ns1:List Nd}{N a:Nat}{xa:Nd}{zs:List Int}{u v:Rf.V}{mN:Nd}(b:NodeAt w (at2 N) zs false 0 0 0 0 0 nilP (ptrB (at2 a)) nilS' nilP nilP)(J:zs.length=8)(L:mN.pos=true)(m:mN.probe=false)(c:mN.t=[u,v])(n:mN.args=[a])(o:mN.read=[0])(f:mN.out=[])(p:mN.told=Rf.one)(g:mN.had=[Rf.one])(M:mN.nest=false)(i:ns1[a]?=some xa)(j:xa.had[0]?=some Rf.one)(d:Pg.Cof [u,v] (colsZ zs))(k:own' (at2 N)=some (.nd N))(l:b0<=at2 N):NodeOk w b0 own' at2 ns1 N mN:=by
 obtain ⟨A,B,C,D,E,F,H,I,rfl⟩:=eight J;refine ⟨⟨A,B,C,D,E,F,H,I,0,0,nilS',nilP,nilP,⟨?_,Or.inl ⟨rfl,f⟩,fun e=>?_,fun _=>rfl,fun _=>rfl,fun e=>?_⟩,[u,v],Pg.aCY c (by rw [n];rfl) (by rw [o];rfl) i j p,d⟩,⟨by rw [g,f];rfl,by rw [g];rfl,by rw [g,f,p];rfl,fun r cc mm h=>by rw [f] at h;simp at h⟩,k,l,fun e=>by rw [m] at e;cases e⟩
 ·have q:lArg mN=none:=by unfold lArg;rw [c];rfl
  have s:rArg mN=some a:=by unfold rArg;rw [c,n];rfl
  have x:lRd mN=0:=by unfold lRd;rw [c];rfl
  have y:rRd mN=0:=by unfold rRd;rw [c,o];rfl
  have z:unsZ mN=0:=by unfold unsZ;rw [m];rfl
  rw [q,s,x,y,z,L];exact b
 ·rw [c] at e;cases e
 ·rw [M] at e;cases e
theorem aEW {ns1:List Nd}{N a b:Nat}{xa xb:Nd}{zs:List Int}{u v y z:Rf.V}{mN:Nd}(c:NodeAt w (at2 N) zs false 0 0 0 0 0 (ptrB (at2 a)) (ptrB (at2 b)) nilS' nilP nilP)(R:zs.length=8)(S:mN.pos=true)(s:mN.probe=false)(d:mN.t=[u,v,y,z])(j:mN.args=[a,b])(k:mN.read=[0,0])(i:mN.out=[])(x:mN.told=Rf.one)(l:mN.had=[Rf.one])(T:mN.nest=false)(m:ns1[a]?=some xa)(n:xa.had[0]?=some Rf.one)(o:ns1[b]?=some xb)(f:xb.had[0]?=some Rf.one)(g:Pg.Cof [u,v,y,z] (colsZ zs))(p:own' (at2 N)=some (.nd N))(q:b0<=at2 N):NodeOk w b0 own' at2 ns1 N mN:=by
 obtain ⟨F,H,I,J,L,M,O,P,rfl⟩:=eight R;refine ⟨⟨F,H,I,J,L,M,O,P,0,0,nilS',nilP,nilP,⟨?_,Or.inl ⟨rfl,i⟩,fun e=>?_,fun _=>rfl,fun _=>rfl,fun e=>?_⟩,[u,v,y,z],Pg.aCZ d j k m n o f x,g⟩,⟨by rw [l,i];rfl,by rw [l];rfl,by rw [l,i,x];rfl,fun r cc mm h=>by rw [i] at h;simp at h⟩,p,q,fun e=>by rw [s] at e;cases e⟩
 ·have A:lArg mN=some a:=by unfold lArg;rw [d,j];rfl
  have B:rArg mN=some b:=by unfold rArg;rw [d,j];rfl
  have C:lRd mN=0:=by unfold lRd;rw [d,k];rfl
  have D:rRd mN=0:=by unfold rRd;rw [d,k];rfl
  have E:unsZ mN=0:=by unfold unsZ;rw [s];rfl
  rw [A,B,C,D,E,S];exact c
 ·rw [d] at e;cases e
 ·rw [T] at e;cases e
end
end Ab
open Go.RowKit
namespace Ab
open Rf (Nd Inv NInv)
def ownT (kd:Int)(pb N len:Nat)(blks:List Nat)(own:Nat->Option Own):Nat->Option Own:=if kd=12 then ownL len blks own else ownA pb (.pd N) (ownL len blks own)
theorem aC3 {kd:Int}{pb N a W k:Nat}{blks:List Nat}{own:Nat->Option Own}(f:k<W)(c:∀ b∈blks,W<=b)(d:kd≠12->W<=pb):ownT kd pb N a blks own k=own k:=by
 unfold ownT
 have e:ownL a blks own k=own k:=aMG fun h=>by have:=c k h;omega
 split
 ·exact e
 ·rename_i h;have:=d h;rw [aCL (by omega)];exact e
theorem aDy {kd:Int}{pb N a j b:Nat}{blks:List Nat}{own:Nat->Option Own}(c:blks.Nodup)(d:blks[j]?=some b)(f:kd≠12->pb≠b):ownT kd pb N a blks own b=some (.nd (a+j)):=by
 unfold ownT;split
 ·exact aFl c d
 ·rename_i h;rw [aCL (fun e=>f h e.symm)];exact aFl c d
theorem aGz {kd:Int}{pb N a:Nat}{blks:List Nat}{own:Nat->Option Own}(h:kd≠12):ownT kd pb N a blks own pb=some (.pd N):=by
 unfold ownT;rw [if_neg h];exact aGy
theorem bits0:∀ z∈([0,0,0,0,0,0,0,0]:List Int),Bits 1 z:=by
 intro z a;simp at a;subst a;exact aBL (N:=1) (by decide) (by decide)
theorem aGv {w:World}{b0 N A nb pb:Nat}{own':Nat->Option Own}{at2:Nat->Nat}{op:Rf.Op}{fur:Value}{xs:List Value}(hop:op≠.sqrt)(hblk:w.heap[nb]?=some (.cells (.int .i64 (kindZ op)::ptrB (at2 A)::fur::xs).toArray 273 (0,0)))(hold:Hold true w [0,0,0,0,0,0,0,0] xs)(h1:op=.ln1p->fur=ptrB (at2 A))(h2:op≠.ln1p->fur=ptrB pb/\own' pb=some (.pd N)/\b0<=pb/\NodeAt w pb [1,0,0,0,0,0,0,1] false 0 0 0 0 0 (ptrB (at2 A)) (ptrB (at2 A)) nilS' nilP nilP):NstAt w b0 own' at2 N (Rf.nestNd op 0 A A none) nb 0:=
 ⟨xs,_,_,fur,hblk,hold,rfl,bits0,fun e=>absurd e hop,fun _=>⟨rfl,A,rfl,rfl,h1,fun hl=>⟨fun s e=>(by cases e),fun _=>⟨pb,h2 hl⟩⟩⟩⟩
theorem aCX:Pg.Cof [((1,0):Rf.V),(0,1)] (colsZ [1,0,0,1,0,0,0,0]):=.mk2 (e:=1) (by decide) (Pg.aAu _).symm (Pg.aAu _).symm (Pg.aAu _).symm (Pg.aAu _).symm
theorem aDd:Pg.Cof [((1,-1):Rf.V),(1,1)] (colsZ [1,-1,1,1,0,0,0,0]):=.mk2 (e:=1) (by decide) (Pg.aAu _).symm (Pg.aAu _).symm (Pg.aAu _).symm (Pg.aAu _).symm
theorem aEA {a:Rf.Op}(b:Rf.fn a)(c:a≠.sqrt)(A:Nat):Pg.Cof (Rf.nestNd a 0 A A none).t (colsZ (nsC (kindZ a) 0)):=by
 have:=(aGa b c (k:=0) (by omega)).1;rw [show ((0:Nat):Int)=0 from rfl] at this;rw [this];exact .mk4 (e:=1) (by decide) (Pg.aAu _).symm (Pg.aAu _).symm (Pg.aAu _).symm (Pg.aAu _).symm
theorem aMe {a:Rf.Op}(b:Rf.fn a):kindZ a=12↔a=.ln1p:=by
 rcases b with rfl | rfl | rfl | rfl<;>simp [kindZ]
theorem aKz {a:Rf.Op}(b:Rf.fn a):kindZ a=11↔a=.exp:=by
 rcases b with rfl | rfl | rfl | rfl<;>simp [kindZ]
theorem setA {w1:World}{xk:Nat}{p q:Int}{xs:List Value}{a:Rf.Op}(b:Rf.fn a)(c:a≠.sqrt)(d:∃ ys:List Value,w1.heap[xk]?=some (.cells (.bool false::ys).toArray 205 (0,0)))(f:Hold true w1 [p,q] xs)(g:∀ z∈[p,q],Bits 1 z)(h:0<gcdZ p q)(i:lowT p q=0):Calls Tryz.prog 236 #[.int .i64 (kindZ a),ptrB xk,.agg xs.toArray] w1 fun e w2=>Told w1 e w2 fun m=>∃ nst ra nb pb fur xs,LfA w1.heap.size w2 (kindZ a) xk m nst ra nb pb fur xs:=by
 rcases b with rfl | rfl | rfl | rfl
 ·exact absurd rfl c
 ·exact aRw d f g h i
 ·exact aRx d f g h i
 ·exact aRy d f g h i
theorem aUb {w w1:World}{b0 fb:Nat}{own:Nat->Option Own}{at1:Nat->Nat}{s:Rf.St}{rho:Nat->Nat}{c i:Nat}{n:Nd}{ns':List Nd}{a:Nat}{x:Nd}{e1 e2:Rf.V}{p0 q0 p1 q1 p2 q2 p3 q3 mt pl:Int}{gv cv nv:Value}{dd:Int}{xs:List Value}(E:n.op≠.sqrt)(h:Net w b0 own at1 fb s)(bt:b0<=w.heap.size)(hI:Inv s.nodes rho c)(F:s.nodes[i]?=some n)(f:Probe w b0 own at1 s rho i n a x e1 e2 p0 q0 p1 q1 p2 q2 p3 q3 mt pl gv cv nv dd)(hz:e2.1=0)(d:Rf.turn (s.nodes.set i {n with read:=[0],probe:=false}) i {n with read:=[0],probe:=false} e2=some ns')(c1:Chg w w1 [])(hh:Hold true w1 [p1,q1] xs):
  Calls Tryz.prog 236 #[.int .i64 (kindZ n.op),ptrB (at1 a),.agg xs.toArray] w1 fun e w2=>∃ m,∃ ys:List Value,e=.returned (ptrB m)/\Chg w1 w2 []/\w1.heap.size<=m/\w2.heap[m]?=some (.cells ys.toArray 205 (0,0))/\ys.length=27/\(∀ y∈ys,One y)/\∀ w3,Chg w2 w3 [at1 i]->w3.heap[at1 i]?=some (.cells ys.toArray 205 (0,0))->Res w b0 own at1 fb s.nodes.length true ⟨ns',s.clock⟩ w3:=by
 have hi:=(List.getElem?_eq_some_iff.1 F).1;have ao:=(List.getElem?_eq_some_iff.1 f.xat).1;obtain ⟨g,hg,E1,E2,ar,t0,bb,au,bc⟩:=aMl f.lo f.lo2 f.d0 f.c2;have hT:lowT p1 q1=0:=au.2 hz;have r:=f.fn;obtain ⟨av,ai⟩:=aH9 (h.still hI c1) hI f.xat f.xpos;refine (setA r E ⟨av,ai⟩ hh f.bits ar hT).mono ?_;rintro e w2 ⟨m,ys,rfl,c2,k1,k2,k3,k4,nst,ra,nb,pb,bo,bp,L⟩;refine ⟨m,ys,rfl,c2,k1,k2,k3,k4,fun w3 c3 h3=>?_⟩;have ba:w.heap.size<=w1.heap.size:=c1.on.size
 have M:at1 i<w.heap.size:=by obtain ⟨cs,ax⟩:=aD1 h F;exact aAf ax
 have ad:Chg w w3 [at1 i]:=((c1.weak (by simp)).trans (c2.weak (by simp))).trans c3
 have up:∀ {k:Nat} {zs:List Int} {lp rp cv nv:Value},w1.heap.size<=k->NodeAt w2 k zs false 0 0 0 0 0 lp rp nilS' cv nv->NodeAt w3 k zs false 0 0 0 0 0 lp rp nilS' cv nv:=fun hk F=>F.keep c3.on (c3.low _ F.lt (by simp;omega))
 have N:=up L.n0 L.nd;have z:=c3.at L.blk (by have:=L.b0;simp;omega);have H:=aAm c3.on L.hold;have p:∀ {blks:List Nat},atL s.nodes.length blks at1 a=at1 a:=aCl ao
 have ap:kindZ n.op≠12->n.op≠.ln1p:=fun h e=>h ((aMe r).2 e)
 -- the machine
 unfold Rf.turn at d;simp only [f.args,List.getElem?_cons_zero,Option.bind_some] at d;rw [if_neg E,if_neg (by omega)] at d;simp only [Option.bind_some] at d;obtain ⟨bd,C,d⟩:=Option.bind_eq_some_iff.1 d;unfold Rf.nest at C;rw [if_neg (by omega)] at C;obtain ⟨be,U,ay⟩:=Option.map_eq_some_iff.1 C;have ae:=aBM U;subst ae;subst ay;simp only at d
 by_cases D:n.op=.exp
 ·rw [if_pos D] at d;obtain ⟨rb,az,d⟩:=Option.bind_eq_some_iff.1 d;obtain ⟨bf,a0,a1⟩:=Option.map_eq_some_iff.1 az;have af:=aBM a0;subst af;subst a1;rw [if_pos hz] at d;have l:=(aDs d).1;simp only [List.length_set,List.length_append,List.length_singleton] at l;rw [List.append_assoc,aGM hi] at l;obtain ⟨r1,r2,r3,r4⟩:=L.ex ((aKz r).2 D)
  have I:kindZ n.op≠12:=fun e=>by rw [D] at e;cases e
  obtain ⟨X,Y,aj,a2,aa⟩:=L.sq I;have ag:=a2 ((aKz r).2 D)
  have o:[nst,ra].Nodup:=by simp;exact fun e=>r2 e.symm
  have q:∀ b∈[nst,ra],w.heap.size<=b:=by
   intro b hb;simp at hb;have:=L.n0
   rcases hb with rfl | rfl<;>omega
  have P:Pg.Go s.nodes ns':=by
   rw [l];exact (Pg.Go.more _ _).trans (aB0 (n:=n) (by rw [List.getElem?_append_left hi];exact F) rfl rfl rfl)
  obtain ⟨xa,g1,_,g3,_⟩:=P.at' a x f.xat;have R:=g3 0 _ (h.nd a x f.xat).hc.fst
  have S:ns'[s.nodes.length]?=some (Rf.nestNd n.op 0 a a none):=by
   rw [l,List.getElem?_set_ne (by omega),List.getElem?_append_right (Nat.le_refl _)];simp
  have aq:ns'[s.nodes.length+1]?=some (Rf.raised s.nodes.length):=by
   rw [l,List.getElem?_set_ne (by omega),List.getElem?_append_right (by omega)];simp
  have B:ownT (kindZ n.op) pb s.nodes.length s.nodes.length [nst,ra] own (at1 i)=some (.nd i):=by
   rw [aC3 (W:=w.heap.size) M q (fun _=>by omega)];exact (h.nd i n F).own
  have J:atL s.nodes.length [nst,ra] at1 s.nodes.length=nst:=aDq (j:=0) rfl;have A1:atL s.nodes.length [nst,ra] at1 (s.nodes.length+1)=ra:=aDq (j:=1) rfl;have T:atL s.nodes.length [nst,ra] at1 i=at1 i:=aCl hi;refine aDW h hI F (own':=ownT (kindZ n.op) pb s.nodes.length s.nodes.length [nst,ra] own) (at2:=atL s.nodes.length [nst,ra] at1) l rfl rfl rfl ad (fun a ha=>aCl ha) (fun k hk=>aC3 hk q (fun _=>by omega)) ?_ ?_
  ·refine aFu (a:=s.nodes.length+1) (xa:=Rf.raised s.nodes.length) (u:=(1,0)) (v:=(0,1)) ?_ rfl f.pos rfl f.t rfl rfl f.out f.told f.had f.nest aq rfl aCX (by rw [T];exact B) (by rw [T];exact (h.nd i n F).lo);rw [T,A1];exact r4.copy k2 h3 c3.on
  ·intro j mm A
   match j,A with
   | 0,A=>
    simp at A;subst A;refine aBz (a:=a) (nb:=nb) ?_ rfl rfl rfl rfl rfl rfl rfl rfl rfl rfl g1 R ⟨_,z⟩ (aGv E (by rw [p];exact z) H (fun e=>by rw [D] at e;cases e) (fun _=>⟨X,aGz I,by omega,by rw [p];exact up Y aa⟩)) (aEA r E a) ?_ ?_
    ·rw [Nat.add_zero,J,p];exact N
    ·rw [Nat.add_zero,J];exact aDy (j:=0) o rfl (fun _=>aj)
    ·rw [Nat.add_zero,J];have:=L.n0;omega
   | 1,A=>
    simp at A;subst A;refine aCF (a:=s.nodes.length) ?_ rfl S rfl aDd ?_ ?_
    ·rw [A1,J];exact up r1 r3
    ·rw [A1];exact aDy (j:=1) o rfl (fun _=>ag)
    ·rw [A1];omega
   | j+2,A=>simp at A
 ·rw [if_neg D] at d;simp only [Option.bind_some] at d;rw [if_pos hz] at d;have l:=(aDs d).1;simp only [List.length_set] at l;rw [aGM hi] at l;have ah:=L.top (fun e=>D ((aKz r).1 e))
  have o:[nst].Nodup:=by simp
  have q:∀ b∈[nst],w.heap.size<=b:=by
   intro b hb;simp at hb;have:=L.n0;omega
  have O:kindZ n.op≠12->w.heap.size<=pb:=fun h=>by have:=(L.sq h).2.1;omega
  have P:Pg.Go s.nodes ns':=by
   rw [l];exact (Pg.Go.more _ _).trans (aB0 (n:=n) (by rw [List.getElem?_append_left hi];exact F) rfl rfl rfl)
  obtain ⟨xa,g1,_,g3,_⟩:=P.at' a x f.xat;have R:=g3 0 _ (h.nd a x f.xat).hc.fst
  have S:ns'[s.nodes.length]?=some (Rf.nestNd n.op 0 a a none):=by
   rw [l,List.getElem?_set_ne (by omega),List.getElem?_append_right (Nat.le_refl _)];simp
  have B:ownT (kindZ n.op) pb s.nodes.length s.nodes.length [nst] own (at1 i)=some (.nd i):=by
   rw [aC3 (W:=w.heap.size) M q O];exact (h.nd i n F).own
  have J:atL s.nodes.length [nst] at1 s.nodes.length=nst:=aDq (j:=0) rfl;have T:atL s.nodes.length [nst] at1 i=at1 i:=aCl hi;refine aDW h hI F (own':=ownT (kindZ n.op) pb s.nodes.length s.nodes.length [nst] own) (at2:=atL s.nodes.length [nst] at1) l rfl rfl rfl ad (fun a ha=>aCl ha) (fun k hk=>aC3 hk q O) ?_ ?_
  ·refine aFu (a:=s.nodes.length) (xa:=Rf.nestNd n.op 0 a a none) (u:=(1,0)) (v:=(0,1)) ?_ rfl f.pos rfl f.t rfl rfl f.out f.told f.had f.nest S rfl aCX (by rw [T];exact B) (by rw [T];exact (h.nd i n F).lo);rw [T,J];exact ah.copy k2 h3 c3.on
  ·intro j mm A
   match j,A with
   | 0,A=>
    simp at A;subst A;refine aBz (a:=a) (nb:=nb) ?_ rfl rfl rfl rfl rfl rfl rfl rfl rfl rfl g1 R ⟨_,z⟩ (aGv (pb:=pb) E (by rw [p];exact z) H (fun e=>by rw [p];exact L.ln ((aMe r).2 e)) (fun hl=>?_)) (aEA r E a) ?_ ?_
    ·rw [Nat.add_zero,J,p];exact N
    ·have I:kindZ n.op≠12:=fun e=>hl ((aMe r).1 e)
     obtain ⟨X,Y,aj,_,aa⟩:=L.sq I;exact ⟨X,aGz I,by omega,by rw [p];exact up Y aa⟩
    ·rw [Nat.add_zero,J];exact aDy (j:=0) o rfl (fun h=>(L.sq h).2.2.1)
    ·rw [Nat.add_zero,J];have:=L.n0;omega
   | j+1,A=>simp at A
end Ab
open Go.RowKit
namespace Ab
open Rf (Nd Inv NInv)
def restZ (kd T B:Int):List Int:=[B,if kd=13 then T else 0,-T,if kd=12 then T+B else B,0,0,0,0]
structure LfB (W:Nat) (w2:World) (kd T B T2 B2:Int) (xk m z nst ra far0 far nb pb cb:Nat) (fur:Value) (xs cs:List Value):Prop where
 z0:W<=z
 zn:NodeAt w2 z (restZ kd T B) false 0 0 0 0 0 nilP (ptrB xk) nilS' nilP nilP
 n0:W<=nst
 nd:NodeAt w2 nst (nsC kd 0) false 0 0 0 0 0 (ptrB z) nilP nilS' nilP (ptrB nb)
 b0:W<=nb
 blk:w2.heap[nb]?=some (.cells (.int .i64 kd::ptrB z::fur::xs).toArray 273 (0,0))
 hold:Hold true w2 [0,0,0,0,0,0,0,0] xs
 f0:W<=far0
 fn:NodeAt w2 far0 [1,0,0,1,0,0,0,0] false 0 0 0 0 0 nilP nilP nilS' (ptrB cb) nilP
 c0:W<=cb
 con:w2.heap[cb]?=some (.cells (.int .i64 kd::nilS'::cs).toArray 224 (0,0))
 chold:Hold true w2 [T,B,T2,B2,0,0,0,0] cs
 d1:z≠nst
 d2:z≠far0
 d3:nst≠far0
 ln:kd=12->fur=ptrB z
 sq:kd≠12->fur=ptrB pb/\W<=pb/\(pb≠z/\pb≠nst/\pb≠far0)/\(kd=11->pb≠ra/\pb≠far)/\NodeAt w2 pb [1,0,0,0,0,0,0,1] false 0 0 0 0 0 (ptrB z) (ptrB z) nilS' nilP nilP
 top:kd≠11->NodeAt w2 m [0,0,1,0,1,0,0,1] false 0 0 0 0 0 (ptrB far0) (ptrB nst) nilS' nilP nilP
 ex:kd=11->W<=ra/\W<=far/\(ra≠z/\ra≠nst/\ra≠far0/\ra≠far)/\(far≠z/\far≠nst/\far≠far0)/\NodeAt w2 ra [1,-1,1,1,0,0,0,0] false 0 0 0 0 0 nilP (ptrB nst) nilS' nilP nilP/\NodeAt w2 far [1,-1,1,1,0,0,0,0] false 0 0 0 0 0 nilP (ptrB far0) nilS' nilP nilP/\NodeAt w2 m [1,0,0,0,0,0,0,1] false 0 0 0 0 0 (ptrB far) (ptrB ra) nilS' nilP nilP
section
variable {w1:World} {xk:Nat} {p q:Int} {xs:List Value}
theorem aRA (W:∃ ys:List Value,w1.heap[xk]?=some (.cells (.bool false::ys).toArray 205 (0,0)))(X:Hold true w1 [p,q] xs)(Y:∀ z∈[p,q],Bits 1 z)(hg:0<gcdZ p q)(hz:0<lowT p q)(y:0<gcdZ (lowT p q*lowT p q) (lowB p q*lowB p q)):Calls Tryz.prog 236 #[.int .i64 12,ptrB xk,.agg xs.toArray] w1 fun e w2=>Told w1 e w2 fun m=>∃ z nst ra far0 far nb pb cb fur xs cs,LfB w1.heap.size w2 12 (lowT p q) (lowB p q) (lowT (lowT p q*lowT p q) (lowB p q*lowB p q)) (lowB (lowT p q*lowT p q) (lowB p q*lowB p q)) xk m z nst ra far0 far nb pb cb fur xs cs:=by
 refine aBA (kd:=12) W X Y (aT8 p q) (fun r h=>r=.val (.one (.ptr 42 0))/\IsNd h 42 [0,0,1,0,1,0,0,1] (.lit nilP) (.ptr 16 0) (.ptr 20 0) (.lit nilP)/\IsNd h 20 (nsC 12 0) (.lit nilP) (.ptr 17 0) (.lit nilP) (.ptr 18 0)/\IsNs h 18 12 (.ptr 17 0) (.ptr 17 0) [0,0,0,0,0,0,0,0]/\IsNd h 17 [lowB p q,0,-lowT p q,lowT p q+lowB p q,0,0,0,0] (.lit nilP) (.lit nilP) (.ptr 2 0) (.lit nilP)/\IsNd h 16 [1,0,0,1,0,0,0,0] (.ptr 13 0) (.lit nilP) (.lit nilP) (.lit nilP)/\IsCn h 13 12 [lowT p q,lowB p q,lowT ((lowT p q)*lowT p q) ((lowB p q)*lowB p q),lowB ((lowT p q)*lowT p q) ((lowB p q)*lowB p q),0,0,0,0]/\clean h=true) ⟨holds1 hg,fun e=>absurd (of_decide_eq_true e) (by rw [Nm.aAt hz];decide),fun _=>⟨holds1 y,⟨fun e=>(by cases e),fun _=>⟨holds1 (by decide),holds1 (by decide),rfl,aSS p q,aSR p q,aSQ p q,aSP p q,aSO p q,aSN p q,aST p q⟩⟩⟩⟩ ?_;rintro r h φ v w2 ⟨rfl,s,d,l,i,b,n,x⟩ hrel f;obtain ⟨m,o⟩:=aAp f s.look rfl rfl;obtain ⟨nst,c⟩:=aAp f d.look rfl rfl;obtain ⟨nb,j⟩:=aAp f l.look rfl rfl;obtain ⟨z,g⟩:=aAp f i.look rfl rfl;obtain ⟨far0,a⟩:=aAp f b.look rfl rfl;obtain ⟨cb,k⟩:=aAp f n.look rfl rfl;have t:φ 2=some (xk,0):=f.base 2 (xk,0) rfl;have A:v=ptrB m:=aAo (ν:=h.nums) (w:=w2) o v hrel;obtain ⟨ys,B,C,D,E,F⟩:=s.at f o aAh (aAo a) (aAo c) aAh;obtain ⟨_,H,_,_,_,I⟩:=d.at f c aAh (aAo g) aAh (aAo j);obtain ⟨u,J,L,M⟩:=l.at f j (aAo g) (aAo g);obtain ⟨_,N,_,_,_,O⟩:=i.at f g aAh aAh (aAo t) aAh;obtain ⟨_,P,_,_,_,R⟩:=b.at f a (aAo k) aAh aAh aAh;obtain ⟨cs,S,T,U⟩:=n.at f k;exact ⟨m,ys,by rw [A],Chg.aAi (RepF.below f x),B,C,D,E,z,nst,0,far0,0,nb,0,cb,_,u,cs,N,O,H,I,J,L,M,P,R,S,T,U,aAT f i.look rfl d.look g c (by decide),aAT f i.look rfl b.look g a (by decide),aAT f d.look rfl b.look c a (by decide),fun _=>rfl,fun e=>absurd rfl e,fun _=>F,fun e=>by cases e⟩
theorem aRB (hx:∃ ys:List Value,w1.heap[xk]?=some (.cells (.bool false::ys).toArray 205 (0,0)))(hh:Hold true w1 [p,q] xs)(hb:∀ z∈[p,q],Bits 1 z)(hg:0<gcdZ p q)(hz:0<lowT p q)(B:0<gcdZ (lowT p q*lowT p q) (lowB p q*lowB p q)):Calls Tryz.prog 236 #[.int .i64 13,ptrB xk,.agg xs.toArray] w1 fun e w2=>Told w1 e w2 fun m=>∃ z nst ra far0 far nb pb cb fur xs cs,LfB w1.heap.size w2 13 (lowT p q) (lowB p q) (lowT (lowT p q*lowT p q) (lowB p q*lowB p q)) (lowB (lowT p q*lowT p q) (lowB p q*lowB p q)) xk m z nst ra far0 far nb pb cb fur xs cs:=by
 refine aBA (kd:=13) hx hh hb (aT9 p q) (fun r k=>r=.val (.one (.ptr 65 0))/\IsNd k 65 [0,0,1,0,1,0,0,1] (.lit nilP) (.ptr 16 0) (.ptr 43 0) (.lit nilP)/\IsNd k 43 (nsC 13 0) (.lit nilP) (.ptr 17 0) (.lit nilP) (.ptr 18 0)/\IsNd k 40 [1,0,0,0,0,0,0,1] (.lit nilP) (.ptr 17 0) (.ptr 17 0) (.lit nilP)/\IsNs k 18 13 (.ptr 17 0) (.ptr 40 0) [0,0,0,0,0,0,0,0]/\IsNd k 17 [lowB p q,lowT p q,-lowT p q,lowB p q,0,0,0,0] (.lit nilP) (.lit nilP) (.ptr 2 0) (.lit nilP)/\IsNd k 16 [1,0,0,1,0,0,0,0] (.ptr 13 0) (.lit nilP) (.lit nilP) (.lit nilP)/\IsCn k 13 13 [lowT p q,lowB p q,lowT ((lowT p q)*lowT p q) ((lowB p q)*lowB p q),lowB ((lowT p q)*lowT p q) ((lowB p q)*lowB p q),0,0,0,0]/\clean k=true) ⟨holds1 hg,fun e=>absurd (of_decide_eq_true e) (by rw [Nm.aAt hz];decide),fun _=>⟨holds1 B,⟨fun _=>⟨holds1 (by decide),holds1 (by decide),rfl,aS0 p q,aSZ p q,aSY p q,aSX p q,aSW p q,aSV p q,aSU p q,aS1 p q⟩,fun e=>(by cases e)⟩⟩⟩ ?_;rintro r k φ v w2 ⟨rfl,u,d,i,o,j,b,s,A⟩ hrel f;obtain ⟨m,t⟩:=aAp f u.look rfl rfl;obtain ⟨nst,c⟩:=aAp f d.look rfl rfl;obtain ⟨pb,g⟩:=aAp f i.look rfl rfl;obtain ⟨nb,l⟩:=aAp f o.look rfl rfl;obtain ⟨z,h⟩:=aAp f j.look rfl rfl;obtain ⟨far0,a⟩:=aAp f b.look rfl rfl;obtain ⟨cb,n⟩:=aAp f s.look rfl rfl;have x:φ 2=some (xk,0):=f.base 2 (xk,0) rfl;have C:v=ptrB m:=aAo (ν:=k.nums) (w:=w2) t v hrel;obtain ⟨ys,D,E,F,H,I⟩:=u.at f t aAh (aAo a) (aAo c) aAh;obtain ⟨_,J,_,_,_,L⟩:=d.at f c aAh (aAo h) aAh (aAo l);obtain ⟨_,M,_,_,_,N⟩:=i.at f g aAh (aAo h) (aAo h) aAh;obtain ⟨y,O,P,R⟩:=o.at f l (aAo h) (aAo g);obtain ⟨_,S,_,_,_,T⟩:=j.at f h aAh aAh (aAo x) aAh;obtain ⟨_,U,_,_,_,W⟩:=b.at f a (aAo n) aAh aAh aAh;obtain ⟨cs,X,Y,c3⟩:=s.at f n;exact ⟨m,ys,by rw [C],Chg.aAi (RepF.below f A),D,E,F,H,z,nst,0,far0,0,nb,pb,cb,_,y,cs,S,T,J,L,O,P,R,U,W,X,Y,c3,aAT f j.look rfl d.look h c (by decide),aAT f j.look rfl b.look h a (by decide),aAT f d.look rfl b.look c a (by decide),fun e=>(by cases e),fun _=>⟨rfl,M,⟨aAT f i.look rfl j.look g h (by decide),aAT f i.look rfl d.look g c (by decide),aAT f i.look rfl b.look g a (by decide)⟩,fun e=>(by cases e),N⟩,fun _=>I,fun e=>by cases e⟩
theorem aRz (hx:∃ ys:List Value,w1.heap[xk]?=some (.cells (.bool false::ys).toArray 205 (0,0)))(hh:Hold true w1 [p,q] xs)(hb:∀ z∈[p,q],Bits 1 z)(hg:0<gcdZ p q)(hz:0<lowT p q)(F:0<gcdZ (lowT p q*lowT p q) (lowB p q*lowB p q)):Calls Tryz.prog 236 #[.int .i64 11,ptrB xk,.agg xs.toArray] w1 fun e w2=>Told w1 e w2 fun m=>∃ z nst ra far0 far nb pb cb fur xs cs,LfB w1.heap.size w2 11 (lowT p q) (lowB p q) (lowT (lowT p q*lowT p q) (lowB p q*lowB p q)) (lowB (lowT p q*lowT p q) (lowB p q*lowB p q)) xk m z nst ra far0 far nb pb cb fur xs cs:=by
 refine aBA (kd:=11) hx hh hb (aT7 p q) (fun r s=>r=.val (.one (.ptr 67 0))/\IsNd s 67 [1,0,0,0,0,0,0,1] (.lit nilP) (.ptr 17 0) (.ptr 45 0) (.lit nilP)/\IsNd s 45 [1,-1,1,1,0,0,0,0] (.lit nilP) (.lit nilP) (.ptr 44 0) (.lit nilP)/\IsNd s 44 (nsC 11 0) (.lit nilP) (.ptr 18 0) (.lit nilP) (.ptr 19 0)/\IsNd s 41 [1,0,0,0,0,0,0,1] (.lit nilP) (.ptr 18 0) (.ptr 18 0) (.lit nilP)/\IsNs s 19 11 (.ptr 18 0) (.ptr 41 0) [0,0,0,0,0,0,0,0]/\IsNd s 18 [lowB p q,0,-lowT p q,lowB p q,0,0,0,0] (.lit nilP) (.lit nilP) (.ptr 2 0) (.lit nilP)/\IsNd s 17 [1,-1,1,1,0,0,0,0] (.lit nilP) (.lit nilP) (.ptr 16 0) (.lit nilP)/\IsNd s 16 [1,0,0,1,0,0,0,0] (.ptr 13 0) (.lit nilP) (.lit nilP) (.lit nilP)/\IsCn s 13 11 [lowT p q,lowB p q,lowT ((lowT p q)*lowT p q) ((lowB p q)*lowB p q),lowB ((lowT p q)*lowT p q) ((lowB p q)*lowB p q),0,0,0,0]/\clean s=true) ⟨holds1 hg,fun e=>absurd (of_decide_eq_true e) (by rw [Nm.aAt hz];decide),fun _=>⟨holds1 F,⟨fun _=>⟨holds1 (by decide),holds1 (by decide),rfl,aSL p q,aSK p q,aSJ p q,aSI p q,aSH p q,aSG p q,aSF p q,aSE p q,aSD p q,aSM p q⟩,fun e=>(by cases e)⟩⟩⟩ ?_;rintro r s φ v w2 ⟨rfl,B,k,g,l,x,o,h,b,y,E⟩ hrel c;obtain ⟨m,A⟩:=aAp c B.look rfl rfl;obtain ⟨ra,i⟩:=aAp c k.look rfl rfl;obtain ⟨nst,d⟩:=aAp c g.look rfl rfl;obtain ⟨pb,j⟩:=aAp c l.look rfl rfl;obtain ⟨nb,t⟩:=aAp c x.look rfl rfl;obtain ⟨z,n⟩:=aAp c o.look rfl rfl;obtain ⟨far,f⟩:=aAp c h.look rfl rfl;obtain ⟨far0,a⟩:=aAp c b.look rfl rfl;obtain ⟨cb,u⟩:=aAp c y.look rfl rfl;have C:φ 2=some (xk,0):=c.base 2 (xk,0) rfl;have H:v=ptrB m:=aAo (ν:=s.nums) (w:=w2) A v hrel;obtain ⟨ys,I,J,L,M,N⟩:=B.at c A aAh (aAo f) (aAo i) aAh;obtain ⟨_,O,_,_,_,P⟩:=g.at c d aAh (aAo n) aAh (aAo t);obtain ⟨_,R,_,_,_,S⟩:=l.at c j aAh (aAo n) (aAo n) aAh;obtain ⟨D,T,U,W⟩:=x.at c t (aAo n) (aAo j);obtain ⟨_,X,_,_,_,Y⟩:=o.at c n aAh aAh (aAo C) aAh;obtain ⟨_,o1,_,_,_,o5⟩:=b.at c a (aAo u) aAh aAh aAh;obtain ⟨cs,c1,c2,c3⟩:=y.at c u;obtain ⟨_,r1,_,_,_,r5⟩:=k.at c i aAh aAh (aAo d) aAh;obtain ⟨_,u1,_,_,_,u5⟩:=h.at c f aAh aAh (aAo a) aAh;exact ⟨m,ys,by rw [H],Chg.aAi (RepF.below c E),I,J,L,M,z,nst,ra,far0,far,nb,pb,cb,_,D,cs,X,Y,O,P,T,U,W,o1,o5,c1,c2,c3,aAT c o.look rfl g.look n d (by decide),aAT c o.look rfl b.look n a (by decide),aAT c g.look rfl b.look d a (by decide),fun e=>(by cases e),fun _=>⟨rfl,R,⟨aAT c l.look rfl o.look j n (by decide),aAT c l.look rfl g.look j d (by decide),aAT c l.look rfl b.look j a (by decide)⟩,fun _=>⟨aAT c l.look rfl k.look j i (by decide),aAT c l.look rfl h.look j f (by decide)⟩,S⟩,fun e=>absurd rfl e,fun _=>⟨r1,u1,⟨aAT c k.look rfl o.look i n (by decide),aAT c k.look rfl g.look i d (by decide),aAT c k.look rfl b.look i a (by decide),aAT c k.look rfl h.look i f (by decide)⟩,⟨aAT c h.look rfl o.look f n (by decide),aAT c h.look rfl g.look f d (by decide),aAT c h.look rfl b.look f a (by decide)⟩,r5,u5,N⟩⟩
theorem setBB {b:Rf.Op}(c:Rf.fn b)(d:b≠.sqrt)(f:∃ ys:List Value,w1.heap[xk]?=some (.cells (.bool false::ys).toArray 205 (0,0)))(g:Hold true w1 [p,q] xs)(h:∀ z∈[p,q],Bits 1 z)(i:0<gcdZ p q)(j:0<lowT p q)(a:0<gcdZ (lowT p q*lowT p q) (lowB p q*lowB p q)):Calls Tryz.prog 236 #[.int .i64 (kindZ b),ptrB xk,.agg xs.toArray] w1 fun e w2=>Told w1 e w2 fun m=>∃ z nst ra far0 far nb pb cb fur xs cs,LfB w1.heap.size w2 (kindZ b) (lowT p q) (lowB p q) (lowT (lowT p q*lowT p q) (lowB p q*lowB p q)) (lowB (lowT p q*lowT p q) (lowB p q*lowB p q)) xk m z nst ra far0 far nb pb cb fur xs cs:=by
 rcases c with rfl | rfl | rfl | rfl
 ·exact absurd rfl d
 ·exact aRz f g h i j a
 ·exact aRA f g h i j a
 ·exact aRB f g h i j a
end
end Ab
end Go.Proofs.YteghhlfmcjmnoaaGreatDoor
