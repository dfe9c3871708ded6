import Derived.Test.YteghhlfmcjmnoaaGreatDoorCKn08
set_option linter.unusedSimpArgs false
set_option linter.unusedVariables false
set_option maxRecDepth 100000
set_option maxHeartbeats 2000000
namespace Go.Proofs.YteghhlfmcjmnoaaGreatDoor
namespace Rf
open Nw
abbrev V:=Int×Int
def vat (m:Mt)(v:V):V:=(m.at1 v.1 v.2,m.at2 v.1 v.2)
def vag (m:Mt)(v:V):V:=(m.ag1 v.1 v.2,m.ag2 v.1 v.2)
def one:Mt:=⟨1,0,0,1⟩
inductive Op where
 | none | pi | e | cf | sqrt | exp | ln1p | atan
 deriving DecidableEq
structure Nd where
 pos:Bool
 t:List V
 args:List Nat
 read:List Nat
 out:List Int
 told:Mt
 had:List Mt
 op:Op
 probe:Bool
 nest:Bool
 k:Nat
 part:Mt
 p:Int
 q:Int
 terms:List Int
 x:Option Nat
 square:Option Nat
def fresh (pos:Bool)(t:List V)(args:List Nat):Nd:=⟨pos,t,args,args.map (fun _=>0),[],one,[one],.none,false,false,0,one,0,0,[],none,none⟩
structure St where
 nodes:List Nd
 clock:Int
structure Ok (n:Nd):Prop where
 t:∀ v∈n.t,Bits 20000 v.1/\Bits 20000 v.2
 told:MBits 20000 n.told
 had:∀ m∈n.had,MBits 20000 m
 part:MBits 100000000 n.part
 p:Bits 20000 n.p
 q:Bits 20000 n.q
 read:∀ r∈n.read,r<=10000
 out:n.out.length<=10000
 k:n.k<=10000
def ends (ns:List Nd)(n:Nd)(side:Nat):Option (V×V):=
 (n.args[side]?).bind fun a=>(ns[a]?).bind fun x=>(n.read[side]?).bind fun r=>(x.had[r]?).map fun m=>(vat m (1,0),vat m (0,1))
def tensor (t:List V)(x y:V):V:=
 match t with
 | [a,b,c,d]=>(((a.1*(x.1*y.1)+b.1*(x.1*y.2))+c.1*(x.2*y.1))+d.1*(x.2*y.2),((a.2*(x.1*y.1)+b.2*(x.1*y.2))+c.2*(x.2*y.1))+d.2*(x.2*y.2))
 | _=>(0,0)
def bare (ns:List Nd)(n:Nd):Option (List V):=
 match n.t with
 | []=>some [vat n.part (1,0),vat n.part (0,1)]
 | [c]=>some [c]
 | [c,d]=>(ends ns n 0).map fun e=>[vat ⟨c.1,d.1,c.2,d.2⟩ e.1,vat ⟨c.1,d.1,c.2,d.2⟩ e.2]
 | [a,b,c,d]=>(ends ns n 0).bind fun e=>(if n.args.length=2 then ends ns n 1 else some ((1,0),(0,1))).map fun r=>
   [tensor [a,b,c,d] e.1 r.1,tensor [a,b,c,d] e.1 r.2,tensor [a,b,c,d] e.2 r.1,tensor [a,b,c,d] e.2 r.2]
 | _=>none
def corners (ns:List Nd)(n:Nd):Option (List V):=(bare ns n).map (·.map (vag n.told))
def waits (ns:List Nd):List Nat->List Nat->Bool
 | a::ar,r::rs=>(match ns[a]? with | some x=>!x.pos&&r==0 | none=>false)||waits ns ar rs
 | _,_=>false
def tries (n:Nd):List Int:=if n.pos=false/\n.out=[] then [43,45,111,119] else [-1,1,0]
def can (l:List V)(s:Int):Bool:=fits (l.map (vag (Mt.sym s)))
def next (ns:List Nd)(n:Nd):Option (Option Int):=
 if waits ns n.args n.read then some none else (corners ns n).map fun l=>(tries n).find? (can l)
def digits (ns:List Nd)(n:Nd)(side:Nat):Option (Option Nat):=
 if side<n.args.length then
  (n.args[side]?).bind fun a=>(ns[a]?).bind fun x=>(n.read[side]?).map fun r=>if x.pos then some r else if r=0 then none else some (r-1)
 else some (some 0)
def apart (a b:V):V:=
 if a.1+a.2=0\/b.1+b.2=0 then (0,1) else (((((a.1-a.2)*(b.1+b.2)-(b.1-b.2)*(a.1+a.2)).natAbs:Nat):Int),((((a.1+a.2)*(b.1+b.2)).natAbs:Nat):Int))
def greater (a b:V):V:=if b.1*a.2<=a.1*b.2 then a else b
def wider (far:Int)(l:List V):Int:=
 match l with
 | [a,b,c,d]=>
  let p:=greater (apart a c) (apart b d)
  let q:=greater (apart a b) (apart c d)
  Nm.cmp (far*p.1*q.2) (q.1*p.2)
 | _=>0
def side (ns:List Nd)(n:Nd):Option Nat:=
 if n.t.length<4 then some 0 else
 (digits ns n 0).bind fun
  | none=>some 0
  | some a=>(digits ns n 1).bind fun
   | none=>some 1
   | some b=>(corners ns n).map fun l=>
    let c:=if fits l then wider (if n.nest then 8 else 1) l else 0
    if c=1 then 0 else if c=-1 then 1 else if a<=b then 0 else 1
def isqrt:Nat->Nat->Nat
 | 0,_=>0
 | k+1,n=>if (2*isqrt k (n/4)+1)*(2*isqrt k (n/4)+1)<=n then 2*isqrt k (n/4)+1 else 2*isqrt k (n/4)
def root (z:Int):Int:=isqrt (z.toNat.log2/2+1) z.toNat
def near (p q:Int):Nat->Int->Option (Int×Int)
 | 0,_=>none
 | k+1,t=>if 16<=root ((t*t*p)/q) then some (root ((t*t*p)/q),t) else near p q k (t+t)
def shape (op:Op)(k:Nat):Int×Int:=
 if op=.ln1p then (if k=0 then (1,1) else ((((k+1)/2*((k+1)/2):Nat):Int),((k+1:Nat):Int)))
 else if op=.atan then (if k=0 then (1,1) else (((k*k:Nat):Int),((2*k+1:Nat):Int)))
 else (1,((4*k+2:Nat):Int))
def eterm (k:Nat):Int:=if k=0 then 2 else if k%3=2 then (((k+1)/3*2:Nat):Int) else 1
def constant (n:Nd)(k:Nat):Option Mt:=
 match n.op with
 | .pi=>some (if k=0 then ⟨0,4,1,1⟩ else ⟨0,((k*k:Nat):Int),1,((2*k+1:Nat):Int)⟩)
 | .e=>some ⟨eterm k,1,1,0⟩
 | .cf=>(n.terms[if k=0 then 0 else 1+(k-1)%(n.terms.length-1)]?).map fun a=>⟨a,1,1,0⟩
 | .sqrt=>(near n.p n.q 20000 1).map fun ab=>⟨ab.1*n.q,ab.2*n.p,ab.2*n.q,ab.1*n.q⟩
 | .none=>none
 | op=>some (if op≠.ln1p/\0<k then ⟨0,(shape op k).1*(n.p*n.p),n.q*n.q,(shape op k).2*(n.q*n.q)⟩ else ⟨0,(shape op k).1*n.p,n.q,(shape op k).2*n.q⟩)
def known (op:Op)(lo hi:V):Bool:=
 let d:=4*(hi.1*lo.2-lo.1*hi.2)
 let q:=lo.2*hi.2
 if op=.sqrt then decide (hi.1*lo.2<=2*(lo.1*hi.2))
 else if op=.exp then decide (d<=q)
 else if op=.ln1p then decide (d<=q+hi.2*lo.1)
 else decide (d<=q+hi.1*lo.1)
inductive Kind where
 | add | sub | mul | div
 deriving DecidableEq
def Kind.cols:Kind->List V
 | .add=>[(0,0),(1,0),(1,0),(0,1)]
 | .sub=>[(0,0),(1,0),(-1,0),(0,1)]
 | .mul=>[(1,0),(0,0),(0,0),(0,1)]
 | .div=>[(0,0),(1,0),(0,1),(0,0)]
def two (kd:Kind)(ap bp:Bool)(a b:Nat):Nd:=fresh (ap&&bp&&decide (kd≠.sub)) kd.cols [a,b]
def raised (t:Nat):Nd:=fresh true [(1,-1),(1,1)] [t]
def row (op:Op)(p q:Int):Nd:={ fresh true [] [] with op:=op,p:=p,q:=q}
open Classical in
noncomputable def more (ns:List Nd)(n:Nd):Option (List Nd):=if Ok n then some (ns++[n]) else none
open Classical in
noncomputable def put (ns:List Nd)(i:Nat)(n:Nd):Option (List Nd):=if Ok n/\i<ns.length then some (ns.set i n) else none
noncomputable def outright (ns:List Nd)(op:Op)(p q:Int):Option (List Nd×Nat):=
 (more ns (row op p q)).bind fun ns1=>if op=.exp then (more ns1 (raised ns.length)).map fun ns2=>(ns2,ns.length+1) else some (ns1,ns.length)
def nestNd (op:Op)(k:Nat)(a x:Nat)(sq:Option Nat):Nd:={ fresh true [(0,0),((shape op k).1,0),(0,1),(0,(shape op k).2)] [a] with op:=op,nest:=true,k:=k,x:=some x,square:=sq}
noncomputable def nest (ns:List Nd)(op:Op)(k x:Nat)(sq:Option Nat):Option (List Nd×Nat):=
 if 0<k/\op≠.ln1p then
  match sq with
  | some s=>(more ns (nestNd op k s x (some s))).map fun ns1=>(ns1,ns.length)
  | none=>(ns[x]?).bind fun nx=>(more ns (two .mul nx.pos nx.pos x x)).bind fun ns1=>(more ns1 (nestNd op k ns.length x (some ns.length))).map fun ns2=>(ns2,ns.length+1)
 else (more ns (nestNd op k x x sq)).map fun ns1=>(ns1,ns.length)
noncomputable def deeper (ns:List Nd)(n:Nd):Option (List Nd×Nat):=
 if n.op=.sqrt then (n.args[0]?).bind fun a=>(more ns { fresh true n.t [a] with op:=n.op,nest:=true}).map fun ns1=>(ns1,ns.length)
 else n.x.bind fun x=>nest ns n.op (n.k+1) x n.square
def restCols (op:Op)(lo:V):List V:=[(lo.2,if op=.atan then lo.1 else 0),(-lo.1,if op=.ln1p then lo.1+lo.2 else lo.2)]
noncomputable def turn (ns:List Nd)(i:Nat)(n:Nd)(lo:V):Option (List Nd):=
 (n.args[0]?).bind fun x=>
 if n.op=.sqrt then (near lo.1 lo.2 20000 1).bind fun ab=>put ns i {n with t:=[(0,0),(ab.2,0),(ab.1,ab.2),(0,ab.1)],nest:=true}
 else
  (if 0<lo.1 then (more ns (fresh true (restCols n.op lo) [x])).map fun ns1=>(ns1,ns.length) else some (ns,x)).bind fun zb=>
  (nest zb.1 n.op 0 zb.2 none).bind fun nb=>
  (if n.op=.exp then (more nb.1 (raised nb.2)).map fun ns3=>(ns3,nb.1.length) else some nb).bind fun rb=>
  if lo.1=0 then put rb.1 i {n with args:=[rb.2]}
  else (outright rb.1 n.op lo.1 lo.2).bind fun fb=>
   put fb.1 i {n with t:=(if n.op=.exp then Kind.mul else Kind.add).cols,args:=[fb.2,rb.2],read:=[0,0]}
noncomputable def give (s:St)(i:Nat)(n:Nd)(c:Int):Option St:=
 (put s.nodes i {n with out:=n.out++[c],told:=n.told.mul (Mt.sym c),had:=n.had++[n.told.mul (Mt.sym c)]}).map fun ns=>⟨ns,s.clock-1⟩
def bump:List Nat->Nat->List Nat
 | [],_=>[]
 | r::rs,0=>(r+1)::rs
 | r::rs,k+1=>r::bump rs k
noncomputable def wide (s:St)(i:Nat)(n:Nd)(sd:Nat):Option St:=
 if sd=n.args.length then
  (deeper s.nodes n).bind fun d=>(put d.1 i {n with args:=n.args++[d.2],read:=n.read++[0]}).map fun ns=>⟨ns,s.clock⟩
 else some s
noncomputable def settle (ns:List Nd)(i:Nat)(n:Nd):Option (List Nd):=
 if n.probe then
  (ends ns n 0).bind fun e=>
  if known n.op e.2 e.1 then (put ns i {n with read:=n.read.set 0 0,probe:=false}).bind fun ns1=>turn ns1 i {n with read:=n.read.set 0 0,probe:=false} e.2
  else some ns
 else some ns
noncomputable def after (s:St)(i sd:Nat):Option (St×Bool):=
 (s.nodes[i]?).bind fun n=>
 (put s.nodes i {n with read:=bump n.read sd}).bind fun ns=>
 if s.clock-1<0 then some (⟨ns,s.clock-1⟩,false) else
 (settle ns i {n with read:=bump n.read sd}).map fun ns1=>(⟨ns1,s.clock-1⟩,true)
noncomputable def reads (rec:St->Nat->Nat->Option (St×Option Int))(s:St)(i:Nat)(n:Nd):Option (St×Bool):=
 if n.t=[] then
  (constant n n.k).bind fun m=>(put s.nodes i {n with part:=n.part.mul m,k:=n.k+1}).map fun ns=>(⟨ns,s.clock-1⟩,decide (0<=s.clock-1))
 else
  (side s.nodes n).bind fun sd=>(wide s i n sd).bind fun s1=>
  (s1.nodes[i]?).bind fun n1=>(n1.args[sd]?).bind fun a=>(n1.read[sd]?).bind fun r=>
  (rec s1 a r).bind fun x=>match x.2 with
   | none=>some (x.1,false)
   | some _=>after x.1 i sd
noncomputable def sym:Nat->St->Nat->Nat->Option (St×Option Int)
 | 0,_,_,_=>none
 | f+1,s,i,j=>
  (s.nodes[i]?).bind fun n=>
  match n.out[j]? with
  | some c=>some (s,some c)
  | none=>
   (if n.probe then some none else next s.nodes n).bind fun o=>match o with
   | some c=>if s.clock-1<0 then some (⟨s.nodes,s.clock-1⟩,none) else (give s i n c).bind fun s1=>sym f s1 i j
   | none=>(reads (sym f) s i n).bind fun x=>if x.2 then sym f x.1 i j else some (x.1,none)
end Rf
namespace Rf
open Nw
theorem aHw {n:Nat}{m:Mt}(h:MBits n m)(c:Int):MBits (n+2) (m.mul (Mt.sym c)):=by
 obtain ⟨a,b,d,f⟩:=h;unfold Bits at a b d f
 have e:2^(n+2)=4*2^n:=by rw [Nat.pow_add];omega
 unfold Mt.mul Mt.sym
 constructor<;>(unfold Bits;rw [e];generalize 2^n=N at *)<;>(repeat' split)<;>simp<;>omega
structure Up (m:Mt):Prop where
 a:0<=m.a
 b:0<=m.b
 c:0<=m.c
 d:0<=m.d
 det:0<m.a*m.d-m.b*m.c
theorem aP1:Up one:=⟨by decide,by decide,by decide,by decide,by decide⟩
theorem aUf {m:Mt}(h:Up m){s:Int}(hs:s∈[(-1:Int),1,0]):Up (m.mul (Mt.sym s)):=by
 obtain ⟨a,b,c,d,e⟩:=h;simp at hs
 rcases hs with rfl | rfl | rfl
 ·refine ⟨?_,?_,?_,?_,?_⟩<;>simp [Mt.mul,Mt.sym]<;>(first | omega | grind)
 ·refine ⟨?_,?_,?_,?_,?_⟩<;>simp [Mt.mul,Mt.sym]<;>(first | omega | grind)
 ·refine ⟨?_,?_,?_,?_,?_⟩<;>simp [Mt.mul,Mt.sym]<;>(first | omega | grind)
theorem aIR (m s:Mt)(v:V):vag (m.mul s) v=vag s (vag m v):=by
 unfold vag Mt.mul Mt.ag1 Mt.ag2;simp only [Prod.mk.injEq]
 constructor<;>grind
theorem aC7 (v:V):vag one v=v:=by
 unfold vag one Mt.ag1 Mt.ag2;simp
theorem fits1 (v:V):fits [v]=true↔((0<=v.1/\0<=v.2/\(0<v.1\/0<v.2))\/(v.1<=0/\v.2<=0/\(v.1<0\/v.2<0))):=by
 unfold fits ups downs;simp
 by_cases a:0<v.1<;>by_cases b:0<v.2<;>by_cases c:v.1<0<;>by_cases d:v.2<0<;>simp [a,b,c,d]<;>omega
theorem aLq {v:V}(h:fits [v]=true):∃ s,[(-1:Int),1,0].find? (can [v])=some s:=by
 have:([(-1:Int),1,0].find? (can [v])).isSome=true:=by
  rw [List.find?_isSome];have b:=(fits1 v).1 h
  have a:can [v] (-1)=true\/can [v] 1=true:=by
   unfold can;simp only [List.map_cons,List.map_nil];rw [fits1,fits1];simp [vag,Mt.sym,Mt.ag1,Mt.ag2];omega
  rcases a with k | k
  ·exact ⟨-1,by simp,k⟩
  ·exact ⟨1,by simp,k⟩
 exact Option.isSome_iff_exists.1 this
theorem aNP {v:V}(a:v.1<0)(b:0<v.2):∃ s,[(43:Int),45,111,119].find? (can [v])=some s:=by
 have:([(43:Int),45,111,119].find? (can [v])).isSome=true:=by
  rw [List.find?_isSome];refine ⟨45,by simp,?_⟩;unfold can;simp only [List.map_cons,List.map_nil];rw [fits1];simp [vag,Mt.sym,Mt.ag1,Mt.ag2];omega
 exact Option.isSome_iff_exists.1 this
theorem aN3 {l:List V}{ts:List Int}{s:Int}(h:ts.find? (can l)=some s):can l s=true/\s∈ts:=⟨List.find?_some h,List.mem_of_find?_eq_some h⟩
theorem aFJ:∀ (k n:Nat),n<4^k->isqrt k n*isqrt k n<=n/\n<(isqrt k n+1)*(isqrt k n+1)
 | 0,n,h=>by
  have:n=0:=by simpa using h
  subst this;simp [isqrt]
 | k+1,n,h=>by
  have hk:n/4<4^k:=by
   rw [Nat.pow_succ] at h;omega
  obtain ⟨g,f⟩:=aFJ k (n/4) hk;unfold isqrt;generalize isqrt k (n/4)=r at*
  have b:2*r*(2*r)=4*(r*r):=by grind
  have c:(2*r+1)*(2*r+1)=4*(r*r)+4*r+1:=by grind
  have d:(2*r+1+1)*(2*r+1+1)=4*(r*r)+8*r+4:=by grind
  have e:(r+1)*(r+1)=r*r+2*r+1:=by grind
  rw [e] at f;split
  ·rename_i a;refine ⟨a,?_⟩;rw [d];omega
  ·rename_i a;rw [b,c] at*;exact ⟨by omega,by omega⟩
theorem aC6 {z:Int}(h:0<=z):0<=root z/\root z*root z<=z/\z<(root z+1)*(root z+1):=by
 obtain ⟨n,rfl⟩:=Int.eq_ofNat_of_zero_le h;unfold root;rw [Int.toNat_natCast]
 have a:n<4^(n.log2/2+1):=by
  rw [show (4:Nat)=2^2 by rfl,<-Nat.pow_mul];refine Nat.lt_of_lt_of_le (Nat.lt_log2_self) (Nat.pow_le_pow_right (by decide) (by omega))
 obtain ⟨b,c⟩:=aFJ _ n a;generalize isqrt (n.log2/2+1) n=r at*;refine ⟨by omega,?_,?_⟩
 ·rw [<-Int.natCast_mul];exact Int.ofNat_le.2 b
 ·have:((r:Int)+1)*((r:Int)+1)=(((r+1)*(r+1):Nat):Int):=by simp
  rw [this];exact Int.ofNat_lt.2 c
theorem aRr {z k:Int}(a:0<=k)(h:k*k<=z):k<=root z:=by
 have b:0<=z:=Int.le_trans (Int.mul_nonneg a a) h;obtain ⟨c,d,e⟩:=aC6 b
 rcases Int.lt_or_le (root z) k with h4 | h4
 ·have:(root z+1)*(root z+1)<=k*k:=Int.mul_le_mul (by omega) (by omega) (by omega) (by omega);omega
 ·exact h4
theorem aGK {z:Int}(h:0<=z):root z<=z:=by
 obtain ⟨a,b,c⟩:=aC6 h
 rcases Int.lt_or_le (root z) 1 with h4 | h4
 ·omega
 ·have:root z*1<=root z*root z:=Int.mul_le_mul_of_nonneg_left h4 a;omega
theorem aHy {p q:Int}(l:0<p)(d:0<q):∀ (k:Nat) (t:Int),0<t->q*256<=t*t*4^k->∃ a b,near p q (k+1) t=some (a,b)/\16<=a/\a<=b*b*p/\0<b/\b<=t*2^k
 | 0,t,ht,h=>by
  have h0:0<=t*t*p:=Int.mul_nonneg (Int.mul_nonneg (by omega) (by omega)) (by omega)
  have h1:256<=t*t*p/q:=by
   refine (Int.le_ediv_iff_mul_le d).2 ?_;have:t*t*1<=t*t*p:=Int.mul_le_mul_of_nonneg_left (by omega) (Int.mul_nonneg (by omega) (by omega));simp at h;omega
  have c:16<=root (t*t*p/q):=aRr (by decide) (by omega);exact ⟨_,_,by unfold near;rw [if_pos c],c,Int.le_trans (aGK (by omega)) (Int.ediv_le_self _ h0),ht,by simp⟩
 | k+1,t,ht,h=>by
  have h0:0<=t*t*p:=Int.mul_nonneg (Int.mul_nonneg (by omega) (by omega)) (by omega)
  by_cases c:16<=root (t*t*p/q)
  ·refine ⟨_,_,by unfold near;rw [if_pos c],c,Int.le_trans (aGK (Int.ediv_nonneg h0 (by omega))) (Int.ediv_le_self _ h0),ht,?_⟩
   have:(1:Int)<=2^(k+1):=by have:(0:Int)<2^(k+1):=Int.pow_pos (by decide);omega
   have:=Int.mul_le_mul_of_nonneg_left this (show 0<=t by omega);omega
  ·obtain ⟨a,b,f,g,i,j,m⟩:=aHy l d k (t+t) (by omega) (by
    have e:(t+t)*(t+t)=t*t*4:=by grind
    rw [e,Int.mul_assoc,<-Int.pow_succ']
    exact h)
   refine ⟨a,b,by unfold near;rw [if_neg c];exact f,g,i,j,?_⟩;rw [Int.pow_succ]
   have:(t+t)*2^k=t*(2^k*2):=by grind
   omega
theorem aHx {p q:Int}{r:Int×Int}:∀ (k m:Nat) (t:Int),k<=m->near p q k t=some r->near p q m t=some r
 | 0,_,_,_,h=>by simp [near] at h
 | k+1,0,_,hm,_=>by omega
 | k+1,m+1,t,hm,h=>by
  unfold near at h ⊢;split at h
  ·rename_i hc;rw [if_pos hc];exact h
  ·rename_i hc;rw [if_neg hc];exact aHx k m _ (by omega) h
theorem aPx {n:Nat}{q:Int}(h:Bits n q):q<2^n:=by
 unfold Bits at h;have:((q.natAbs:Nat):Int)<((2^n:Nat):Int):=Int.ofNat_lt.2 h;rw [Int.natCast_pow] at this;have e:(((2:Nat):Int))=2:=rfl;rw [e] at this;generalize (2:Int)^n=N at*;omega
theorem aTD {n:Nat}{b:Int}(a:0<=b)(h:b<=2^n):Bits (n+1) b:=by
 unfold Bits;rw [Nat.pow_succ]
 have e:(2:Int)^n=((2^n:Nat):Int):=by rw [Int.natCast_pow];rfl
 rw [e] at h;have:0<2^n:=Nat.pow_pos (by decide);generalize (2:Nat)^n=N at*;omega
theorem aFd {p q:Int}(j:0<p)(k:0<q)(l:Bits 6100 p)(m:Bits 6100 q):∃ a b,near p q 20000 1=some (a,b)/\16<=a/\0<b/\Bits 12300 a/\Bits 3100 b:=by
 have f:q<2^6100:=aPx m
 obtain ⟨a,b,g,h,n,i,d⟩:=aHy j k 3060 1 (by decide) (by
  have e:(1:Int)*1*4^3060=2^6100*2^20:=by
   rw [<-Int.pow_add,show (4:Int)=2^2 by rfl,<-Int.pow_mul,Int.one_mul,Int.one_mul]
  rw [e]
  have:(2:Int)^20=1048576:=by decide
  rw [this];generalize (2:Int)^6100=N at*
  omega)
 have c:Bits 3061 b:=aTD (by omega) (by rw [Int.one_mul] at d;exact d);refine ⟨a,b,aHx _ _ _ (by decide) g,h,i,?_,aAg c (by decide)⟩;exact aDv (aAk (aAk c c) l) (by omega) (by decide)
end Rf
open Go.RowKit
namespace Ab
def gcdZ (x y:Int):Int:=(Nat.gcd x.natAbs y.natAbs:Nat)
theorem aTv:TEok Z 138 (teG true (f2 gcdZ) noNd (fun ns=>ns.foldr max 0) [90,90]):=by
 refine aN1 (aAj Tryz.func138 rfl rfl).en (fun x y n m hx hy=>?_) (fun w x y u v h1 h2 h3 h4=>aKk w x y u v (10000000*90) h1 h2 h3 h4 (by decide));have a:Bits (max n (max m 0)) x:=aAg hx (by omega);have b:Bits (max n (max m 0)) y:=aAg hy (by omega);show ((Nat.gcd x.natAbs y.natAbs:Nat):Int).natAbs<2^(10000000*max n (max m 0))
 have e:((Nat.gcd x.natAbs y.natAbs:Nat):Int).natAbs=Nat.gcd x.natAbs y.natAbs:=by omega
 rw [e]
 rcases Nat.eq_zero_or_pos x.natAbs with h | h
 ·rw [h,Nat.gcd_zero_left];exact b
 ·exact Nat.lt_of_le_of_lt (Nat.gcd_le_left _ h) a
noncomputable def tW1:List (FuncId×TE):=(226,teG true (f4i cp) noNd (fun _=>0) [40,40,40,40])::(138,teG true (f2 gcdZ) noNd (fun ns=>ns.foldr max 0) [90,90])::tW0
theorem aPU:AllTE Z tW1:=⟨aUw,aTv,aNj⟩
def sPow (base times i p:Int):AS:=
 ⟨[.top,.val (.one (.sint .i64 times)),.top,.top,.val (.one (.ptr 0 0)),.val (.one (.ptr 1 0)),.val (.one (.ptr 2 0)),.val (.one (.sint .i64 i)),.top,.top,.top,.top,.top,.top,.top,.top,.top,.top,.top,.top],
  [(0,⟨[.bool false,.lit (.slice none 0 0)],80,true,false,false⟩),(1,⟨[.sg 0,.dg true 0],80,true,false,false⟩),(2,⟨[.sg 1,.dg true 1],80,true,false,false⟩)],3,[(p,80),(base,1)],[]⟩
theorem aMO (base times:Int):(run Z (orSp spL (tabSp tW0)) (fun _=>none) (drawA Z (orSp spL (tabSp tW0))) atLoop 300 [.code (bodyOf Tryz.f110),.top Tryz.f110] (start Tryz.f110 (tokGs true [.i .i64 base,.i .i64 times] [0,0]))).bind (outL true [0,1,2] [1,4,5,6,1007] 3 [80,1])=
  some (.need [base.natAbs<1000000000000000000] (.need [Bits 80 1,Bits 1 base] (.again (.code (.loop (lpB (bodyOf Tryz.f110) Tryz.f110))::lpK (bodyOf Tryz.f110) Tryz.f110) (sPow base times 0 1)))):=by kernel_rfl
theorem aMP (base times i p:Int)(n:Nat):(run Z (orSp spL (tabSp tW0)) (fun _=>none) (drawA Z (orSp spL (tabSp tW0))) atRound 300 (.code (lpB (bodyOf Tryz.f110) Tryz.f110)::.lp (lpB (bodyOf Tryz.f110) Tryz.f110) n::lpK (bodyOf Tryz.f110) Tryz.f110) (sPow base times i p)).bind (outL true [0,1,2] [1,4,5,6,1007] 3 [80,1])=
  some (.br (decide (i<times)) (.need [Bits 80 (p*base),Bits 1 base] (.again (.lp (lpB (bodyOf Tryz.f110) Tryz.f110) n::lpK (bodyOf Tryz.f110) Tryz.f110) (sPow base times (Wr (i+1)) (p*base)))) (.ret (.one (.ns [p])))):=by kernel_rfl
def fPow:List G->Option RG
 | [.i .i64 b,.i .i64 t]=>some (.one (.ns [b^t.toNat]))
 | _=>none
def ndPow:List G->List Prop
 | [.i .i64 b,.i .i64 t]=>[b.natAbs<=16/\0<=t/\t<=100000]
 | _=>[]
theorem aGA {b:Int}(a:b.natAbs<=16)(k:Nat):Go.Proofs.YteghhlfmcjmnoaaGreatDoor.Bits (4*k+1) (b^k):=by
 show (b^k).natAbs<2^(4*k+1);rw [Int.natAbs_pow];have:b.natAbs^k<=16^k:=Nat.pow_le_pow_left a k
 have e:(2:Nat)^(4*k+1)=2*16^k:=by rw [Nat.pow_succ,Nat.pow_mul,show (2:Nat)^4=16 from rfl,Nat.mul_comm]
 have:0<16^k:=Nat.pow_pos (by decide);omega
theorem aTV:TEok Z 110 (teG true fPow ndPow (fun _=>1) [0,0]):=by
 refine walkL (l:=tW0) aNj aHO (aAj Tryz.func110 rfl rfl) (kb:=[0,1,2]) (kt:=[1,4,5,6,1007]) (nx:=3) (rb:=[80,1]) ?_ (by kernel_rfl) ?_
 ·intro k q g h c o r;unfold fPow at h;split at h
  ·rename_i b t;cases h;have c:b.natAbs<=16/\0<=t/\t<=100000:=c.one;intro z j;simp at j;subst j;exact aCI (aGA c.1 _) (by omega)
  ·cases h
 ·intro k g h c o;unfold fPow at h;split at h
  ·rename_i b t;cases h;have c:b.natAbs<=16/\0<=t/\t<=100000:=c.one;have a:Bits 1 b:=bits60 (by omega);refine ⟨fun m s=>∃ i:Nat,s=sPow b t i (b^i)/\(i:Int)<=t/\m=t.toNat-i,⟨300,_,aMO b t,?_⟩,?_⟩
   ·refine ⟨aAe (by omega) aAc,aAe ?_ (aAe a aAc),rfl,_,0,by simp,by omega,rfl⟩;exact aCI (aGA (b:=1) (by decide) 0) (by decide)
   ·rintro m s ⟨i,rfl,p,rfl⟩ n;refine ⟨300,_,aMP b t i (b^i) n,?_,?_⟩
    ·intro d
     have d:(i:Int)<t:=by simpa using d
     have e:b^i*b=b^(i+1):=by rw [Int.pow_succ]
     refine ⟨aAe ?_ (aAe a aAc),rfl,t.toNat-(i+1),by omega,i+1,?_,by omega,rfl⟩
     ·rw [e];exact aCI (aGA c.1 _) (by omega)
     ·rw [e,aAv (by omega) (by omega)];simp
    ·intro f
     have f:¬(i:Int)<t:=by simpa using f
     show RG.one (.ns [b^i])=_
     have:t.toNat=i:=by omega
     rw [this]
  ·cases h
theorem newt {z r:Int}(o:0<z)(f:0<r):0<(r+z/r)/2/\z<((r+z/r)/2+1)*((r+z/r)/2+1)/\(r<=(r+z/r)/2->r*r<=z):=by
 have g:0<=z/r:=Int.ediv_nonneg (by omega) (by omega);have i:r*(z/r)<=z:=Int.mul_ediv_self_le (by omega)
 have j:z<r*(z/r+1):=by
  have:=Int.lt_mul_ediv_self_add (x:=z) f;rw [Int.mul_add];omega
 generalize z/r=q at*;have k:0<=(r+q)/2:=Int.ediv_nonneg (by omega) (by omega)
 have c:r+q+1<=2*((r+q)/2+1):=by omega
 have d:(r<=(r+q)/2)->r<=q:=by omega
 generalize (r+q)/2=b at*
 have l:4*(r*(q+1))<=(r+q+1)*(r+q+1):=by
  have:0<=(r-(q+1))*(r-(q+1)):=by
   rcases Int.le_total 0 (r-(q+1)) with h | h
   ·exact Int.mul_nonneg h h
   ·exact Int.mul_nonneg_of_nonpos_of_nonpos h h
  have e:(r+q+1)*(r+q+1)=4*(r*(q+1))+(r-(q+1))*(r-(q+1)):=by grind
  omega
 have m:(r+q+1)*(r+q+1)<=(2*(b+1))*(2*(b+1)):=Int.mul_le_mul c c (by omega) (by omega)
 have n:(2*(b+1))*(2*(b+1))=4*((b+1)*(b+1)):=by grind
 have a:z<(b+1)*(b+1):=by omega
 refine ⟨?_,a,fun h=>?_⟩
 ·rcases Int.lt_or_le 0 b with h | h
  ·exact h
  ·have:b=0:=by omega
   subst this;omega
 ·have:=d h;have:r*r<=r*q:=Int.mul_le_mul_of_nonneg_left this (by omega);omega
theorem half1 {x:Int}(h:0<=x):halfZ x 1=x/2:=by
 unfold halfZ Nm.half;rw [show decide ((1:Int)<1)=false from rfl,cond_false,if_neg (by omega)]
 have a:(x.natAbs:Int)=x:=by omega
 have b:(2:Int)^((1:Int).toNat)=2:=rfl;rw [a,b]
theorem aMY {z r:Int}(a:0<=z)(e:0<=r)(f:r*r<=z)(g:z<(r+1)*(r+1)):Rf.root z=r:=by
 obtain ⟨b,c,d⟩:=Rf.aC6 a
 rcases Int.lt_trichotomy (Rf.root z) r with h | h | h
 ·have:(Rf.root z+1)*(Rf.root z+1)<=r*r:=Int.mul_le_mul (by omega) (by omega) (by omega) (by omega);omega
 ·exact h
 ·have:(r+1)*(r+1)<=Rf.root z*Rf.root z:=Int.mul_le_mul (by omega) (by omega) (by omega) (by omega);omega
theorem aFn (k:Nat):Go.Proofs.YteghhlfmcjmnoaaGreatDoor.Bits (k+1) ((2:Int)^k):=by
 show ((2:Int)^k).natAbs<2^(k+1);rw [Int.natAbs_pow];exact Nat.pow_lt_pow_right (by decide) (by omega)
def sRoot (z r:Int):AS:=
 ⟨[.top,.val (.one (.ptr 0 0)),.val (.one (.ptr 1 0)),.top,.val (.one (.ptr 10 0))]++List.replicate 36 .top,
  [(0,⟨[.sg 0,.dg true 0],80,true,false,false⟩),(1,⟨[.bool false,.lit (.slice none 0 0)],80,true,false,false⟩),(10,⟨[.sg 1,.dg true 1],80,true,false,false⟩)],11,[(z,10),(r,11)],[]⟩
def rootT (z:Int):Int:=Wr ((Wr ((Nm.bl z:Int)+1)).tdiv 2)
theorem aKQ (z:Int):(run Z (orSp spL (tabSp tW1)) (fun _=>none) (drawA Z (orSp spL (tabSp tW1))) atLoop 300 [.code (bodyOf Tryz.f214),.top Tryz.f214] (start Tryz.f214 (tokGs true [.ns [z]] [10]))).bind (outL true [0,1,10] [1,2,4] 11 [10,11])=
  some (.br (decide (Nm.cmp z 0<=0)) (.ret (.one (.ns [0]))) (.need [0<=rootT z/\rootT z<=900000000/\10000000*1+(rootT z).toNat<=1000000000] (.need [0<=((1:Int).natAbs:Int)*2^(rootT z).toNat,Bits 10 z,Bits 11 (((1:Int).natAbs:Int)*2^(rootT z).toNat)] (.again (.code (.loop (lpB (bodyOf Tryz.f214) Tryz.f214))::lpK (bodyOf Tryz.f214) Tryz.f214) (sRoot z (((1:Int).natAbs:Int)*2^(rootT z).toNat)))))):=by kernel_rfl
theorem aKR (z r:Int)(n:Nat):(run Z (orSp spL (tabSp tW1)) (fun _=>none) (drawA Z (orSp spL (tabSp tW1))) atRound 300 (.code (lpB (bodyOf Tryz.f214) Tryz.f214)::.lp (lpB (bodyOf Tryz.f214) Tryz.f214) n::lpK (bodyOf Tryz.f214) Tryz.f214) (sRoot z r)).bind (outL true [0,1,10] [1,2,4] 11 [10,11])=
  some (.br (decide (0<Nm.cmp r 0)) (.need [0<r] (.need [(1:Int)<=1/\(1:Int)<=1000000000] (.br (decide (0<=Nm.cmp (halfZ (r+z/r) 1) r)) (.ret (.one (.ns [r]))) (.need [Bits 10 z,Bits 11 (halfZ (r+z/r) 1)] (.again (.lp (lpB (bodyOf Tryz.f214) Tryz.f214) n::lpK (bodyOf Tryz.f214) Tryz.f214) (sRoot z (halfZ (r+z/r) 1))))))) (.ret (.one (.ns [r])))):=by kernel_rfl
def fRoot:List G->Option RG
 | [.ns [z]]=>some (.one (.ns [Rf.root z]))
 | _=>none
def ndRoot:List G->List Prop
 | [.ns [z]]=>[0<=z]
 | _=>[]
theorem aRs:TEok Z 214 (teG true fRoot ndRoot (fun ns=>ns.headD 0) [10]):=by
 refine walkL (l:=tW1) aPU aHO (aAj Tryz.func214 rfl rfl) (kb:=[0,1,10]) (kt:=[1,2,4]) (nx:=11) (rb:=[10,11]) ?_ (by kernel_rfl) ?_
 ·intro N ns p h b f R;unfold fRoot at h;split at h
  ·rename_i z;cases h;have b:0<=z:=b.one
   match ns,f with
   | [n],⟨f,_⟩=>
    intro y x;simp at x;subst x;have i:=f z (by simp);have A:=Rf.aGK b;have B:=(Rf.aC6 b).1;exact aDv i (by omega) (Nat.le_refl _)
  ·cases h
 ·intro N p h b f;unfold fRoot at h;split at h
  ·rename_i z;cases h;have b:0<=z:=b.one;have j:Bits 10 z:=f.1 z (by simp);have C:=aLl j
   have D:rootT z=(((Nm.bl z+1)/2:Nat):Int):=by
    have E:Wr ((Nm.bl z:Int)+1)=(Nm.bl z:Int)+1:=aAv (by omega) (by omega);unfold rootT;rw [E]
    have:((Nm.bl z:Int)+1).tdiv 2=(((Nm.bl z+1)/2:Nat):Int):=by
     rw [Int.tdiv_eq_ediv_of_nonneg (by omega)];omega
    rw [this];exact aAv (by omega) (by omega)
   have F:((1:Int).natAbs:Int)*2^(rootT z).toNat=2^((Nm.bl z+1)/2):=by
    rw [D,Int.toNat_natCast];show (1:Int)*_=_;rw [Int.one_mul]
   have H:(0:Int)<2^((Nm.bl z+1)/2):=Nm.aAq (by decide) _;have q:Bits 11 (2^((Nm.bl z+1)/2):Int):=aCI (aFn ((Nm.bl z+1)/2)) (by omega);refine ⟨fun m s=>∃ r:Int,s=sRoot z r/\0<r/\0<z/\z<(r+1)*(r+1)/\Bits 11 r/\m=r.toNat,⟨300,_,aKQ z,?_,?_⟩,?_⟩
   ·intro c
    have c:Nm.cmp z 0<=0:=by simpa using c
    have:z=0:=by
     rcases Int.lt_or_eq_of_le b with h | h
     ·rw [Nm.aAt h] at c;omega
     ·exact h.symm
    subst this;rw [aMY (r:=0) (by decide) (by decide) (by decide) (by decide)];exact rfl
   ·intro c
    have c:¬Nm.cmp z 0<=0:=by simpa using c
    have g:0<z:=by
     rcases Int.lt_or_eq_of_le b with h | h
     ·exact h
     ·exfalso;apply c;rw [Nm.aAz h.symm];decide
    rw [F];refine ⟨aAe ⟨by omega,by omega,by omega⟩ aAc,aAe (by omega) (aAe j (aAe q aAc)),rfl,_,_,rfl,H,g,?_,q,rfl⟩;have i:=(aG4 (z:=z) (by omega)).2.2
    have A:(2:Int)^Nm.bl z<=2^((Nm.bl z+1)/2)*2^((Nm.bl z+1)/2):=by
     rw [<-Int.pow_add];exact Nm.aAY (by decide) (by omega)
    have B:z<(2:Int)^Nm.bl z:=by
     have:((z.natAbs:Nat):Int)<((2^Nm.bl z:Nat):Int):=Int.ofNat_lt.2 i;rw [Int.natCast_pow] at this;have e:((2:Nat):Int)=2:=rfl;rw [e] at this;omega
    generalize (2:Int)^((Nm.bl z+1)/2)=P at*
    have e:(P+1)*(P+1)=P*P+2*P+1:=by grind
    omega
   ·rintro m s ⟨r,rfl,k,g,o,M,rfl⟩ n;obtain ⟨I,J,L⟩:=newt g k;have O:0<=z/r:=Int.ediv_nonneg (by omega) (by omega);have t:halfZ (r+z/r) 1=(r+z/r)/2:=half1 (by omega);refine ⟨300,_,aKR z r n,?_,?_⟩
    ·intro _;refine ⟨aAe k aAc,aAe (by decide) aAc,?_,?_⟩
     ·intro a
      have a:0<=Nm.cmp (halfZ (r+z/r) 1) r:=by simpa using a
      rw [t] at a
      have u:r<=(r+z/r)/2:=by
       rcases Int.lt_or_le ((r+z/r)/2) r with h | h
       ·rw [Nm.aAC h] at a;omega
       ·exact h
      rw [aMY b (by omega) (L u) o];exact rfl
     ·intro a
      have a:¬0<=Nm.cmp (halfZ (r+z/r) 1) r:=by simpa using a
      rw [t] at a ⊢
      have u:(r+z/r)/2<r:=by
       rcases Int.lt_or_le ((r+z/r)/2) r with h | h
       ·exact h
       ·exfalso;apply a
        rcases Int.lt_or_eq_of_le h with h | h
        ·rw [Nm.aAt h];decide
        ·rw [Nm.aAz h.symm];decide
      have v:Bits 11 ((r+z/r)/2):=aDv M (by omega) (Nat.le_refl _);exact ⟨aAe j (aAe v aAc),rfl,((r+z/r)/2).toNat,by omega,_,rfl,I,g,J,v,rfl⟩
    ·intro d
     have d:¬0<Nm.cmp r 0:=by simpa using d
     exfalso;apply d;rw [Nm.aAt k];decide
  ·cases h
noncomputable def tW:List (FuncId×TE):=(214,teG true fRoot ndRoot (fun ns=>ns.headD 0) [10])::(110,teG true fPow ndPow (fun _=>1) [0,0])::tW1
theorem aIK:AllTE Z tW:=⟨aRs,aTV,aPU⟩
end Ab
open Go.RowKit
namespace Ab
def outN (k:Bool):Out->Option (List Prop×RG×Nat)
 | .ret (.val v)=>(gT k v).map fun g=>([],.one g.1,g.2)
 | .ret (.tup vs)=>(mapO (gT k) vs).map fun gs=>([],.tup (gs.map (·.1)),(gs.map (·.2)).foldr max 0)
 | .br t x y=>(outN k x).bind fun a=>(outN k y).bind fun b=>(mrgR t a.2.1 b.2.1).map fun c=>(a.1.map (fun p=>t=true->p)++b.1.map (fun p=>t=false->p),c,max a.2.2 b.2.2)
 | .need p o=>(outN k o).map fun a=>(p++a.1,a.2)
theorem aPs {k:Bool}{n:Nat}{w:World}:∀ {vs:List VT} {gs:List (G×Nat)} {xs:List Value},mapO (gT k) vs=some gs->(gs.map (·.2)).foldr max 0<=n->All2 (RVT Z w) vs xs->All2 (RVT Z w) ((gs.map (·.1)).map (tokG k n)) xs
 | [],gs,[],h,_,_=>by simp [mapO] at h;subst h;trivial
 | v::vs,gs,x::xs,h,hb,⟨r1,r2⟩=>by
  unfold mapO at h;obtain ⟨y,h1,h2⟩:=bnd h;obtain ⟨ys,h3,rfl⟩:=mpd h2;simp only [List.map_cons,List.foldr_cons] at hb;obtain ⟨k1,k2⟩:=aKt h1 r1;exact ⟨k2 n (k1.mono (by omega)),aPs h3 (by omega) r2⟩
 | [],_,_::_,_,_,h=>h.elim
 | _::_,_,[],_,_,h=>h.elim
theorem aCK {k:Bool}{n:Nat}:∀ {o:Out} {ps:List Prop} {out:RG} {m:Nat},outN k o=some (ps,out,m)->Holds ps->m<=n->o.ok fun r'=>∀ w v,RRV Z w r' v->RRV Z w (rvG k n out) v
 | .ret (.val t),ps,out,m,h,_,hb=>by
  simp only [outN] at h;obtain ⟨⟨g,m'⟩,h1,h2⟩:=mpd h;cases h2;intro w v hv;obtain ⟨k1,k2⟩:=aKt h1 hv;exact k2 n (k1.mono hb)
 | .ret (.tup vs),ps,out,m,h,_,hb=>by
  simp only [outN] at h;obtain ⟨gs,h1,h2⟩:=mpd h;cases h2;rintro w v ⟨xs,e,hv⟩;exact ⟨xs,e,aPs h1 hb hv⟩
 | .br t x y,ps,out,m,h,hp,hb=>by
  simp only [outN] at h;obtain ⟨⟨p1,a,m1⟩,h1,h2⟩:=bnd h;obtain ⟨⟨p2,b,m2⟩,h3,h4⟩:=bnd h2;obtain ⟨c,h5,h6⟩:=mpd h4;cases h6;have h7:=aMn h5;refine ⟨fun e=>?_,fun e=>?_⟩
  ·subst e;subst h7;exact aCK h1 (fun q hq=>hp (true=true->q) (List.mem_append_left _ (List.mem_map.2 ⟨q,hq,rfl⟩)) rfl) (by simp only at hb ⊢;omega)
  ·subst e;subst h7;exact aCK h3 (fun q hq=>hp (false=false->q) (List.mem_append_right _ (List.mem_map.2 ⟨q,hq,rfl⟩)) rfl) (by simp only at hb ⊢;omega)
 | .need p o,ps,out,m,h,hp,hb=>by
  simp only [outN] at h;obtain ⟨⟨p1,a,m1⟩,h1,h2⟩:=mpd h;cases h2;exact ⟨fun q hq=>hp q (by simp [hq]),aCK h1 (fun q hq=>hp q (by simp [hq])) hb⟩
abbrev teN (k:Bool)(F:List G->Option RG)(nd:List G->List Prop)(N:Nat)(lim:List Nat):TE:=teG k F nd (fun _=>N) lim
theorem walkN {l:List (FuncId×TE)}(q:AllTE Z l){bodies:FuncId->Option Func}(j:BodiesOk Z bodies){f:FuncId}{fn:Func}(c:Fn f fn){k:Bool}{F:List G->Option RG}{t:List G->List Prop}{N:Nat}{a:List Nat}
  (h:∀ gs out,F gs=some out->∃ ps m,((run Z (tabSp l) bodies (drawA Z (tabSp l)) (fun _=>false) 2000 [.code (bodyOf fn),.top fn] (start fn (tokGs k gs a))).bind outcome).bind (outN k)=some (ps,out,m)/\m<=N/\(Holds (t gs)->GBs gs a->Holds ps)):TEok Z f (teN k F t N a):=by
 refine ⟨c.en,fun ts r p hts hp w vs hvs=>?_⟩;unfold teN teG at hts;obtain ⟨g,x,d⟩:=bnd hts
 cases b:leAll (g.map (·.2)) a with
 | false=>rw [b] at d;cases d
 | true=>
  rw [b] at d;simp only [cond_true] at d;obtain ⟨out,z,A⟩:=mpd d;cases A;obtain ⟨B,U,C⟩:=aDC ts g a vs x b hvs;obtain ⟨ps,m,D,E,n⟩:=h _ out z;have e:=n hp C;clear n;generalize g.map (·.1)=gs at*;obtain ⟨o,H,I⟩:=bnd D;obtain ⟨W,J,L⟩:=bnd H
  have u:At (avsOf 0 (tokGs k gs a)).2 0 (avsOf 0 (tokGs k gs a)).2:=fun i y hy=>by rw [Nat.zero_add];exact hy
  refine engine (w0:=w) (ψ:=fun _=>none) (φ:=fun _=>none) (s:=start fn (tokGs k gs a)) (vs:=(avsOf 0 (tokGs k gs a)).1) (aAd q) j (aAI mixed (aAd q)) c.at' c.body rfl (aCH _ 0 vs u B) (aC5 fn _ w) 2000 J _ (fun _ _=>False) (fun _ _ h=>h.elim) (aAV L (aCK I e E)) ?_;rintro X s φ v M ⟨O,Y,P,R⟩ S T;exact ⟨v,rfl,R M v (aCu P S),RepF.below T O⟩
theorem aHS {f:FuncId}{k:Bool}{F l:List G->Option RG}{g d:List G->List Prop}{i:List Nat->Nat}{a:List Nat}(h:TEok Z f (teG k F g i a))(t:∀ gs out,l gs=some out->Holds (d gs)->GBs gs a->F gs=some out/\Holds (g gs)):TEok Z f (teG k l d i a):=by
 refine ⟨h.1,fun ts r p hts hp w vs hvs=>?_⟩;unfold teG at hts;obtain ⟨e,j,c⟩:=bnd hts
 cases b:leAll (e.map (·.2)) a with
 | false=>rw [b] at c;cases c
 | true=>
  rw [b] at c;simp only [cond_true] at c;obtain ⟨out,m,n⟩:=mpd c;cases n;obtain ⟨u,v,o⟩:=aDC ts e a vs j b hvs;obtain ⟨q,s⟩:=t _ out m hp o;exact h.2 ts (rvG k (i (e.map (·.2))) out) (g (e.map (·.1))) (by unfold teG;rw [j];simp only [Option.bind_some,b,cond_true,q,Option.map_some]) s w vs hvs
end Ab
open Go.RowKit
namespace Ab
def lowT (t b:Int):Int:=bif decide (Nm.cmp b 0<0) then -t/gcdZ t b else bif Nm.cmp b 0==0 then (bif decide (Nm.cmp t 0<0) then -t/gcdZ t b else t/gcdZ t b) else t/gcdZ t b
def lowB (t b:Int):Int:=bif decide (Nm.cmp b 0<0) then -b/gcdZ t b else bif Nm.cmp b 0==0 then (bif decide (Nm.cmp t 0<0) then -b/gcdZ t b else b/gcdZ t b) else b/gcdZ t b
def fLow:List G->Option RG
 | [.ns [t],.ns [b]]=>some (.one (.ns [lowT t b,lowB t b]))
 | _=>none
def ndLow:List G->List Prop
 | [.ns [t],.ns [b]]=>[0<gcdZ t b]
 | _=>[]
theorem aPw:TEok Z 96 (teN true fLow ndLow 41 [40,40]):=by
 refine walkN (l:=tW) aIK nobody (aAj Tryz.func96 rfl rfl) ?_;intro d c h;unfold fLow at h;split at h
 ·rename_i t b;cases h;refine ⟨[decide (Nm.cmp b 0<0)=true->0<gcdZ t b,decide (Nm.cmp b 0<0)=true->0<gcdZ t b,decide (Nm.cmp b 0<0)=false->(Nm.cmp b 0==0)=true->decide (Nm.cmp t 0<0)=true->0<gcdZ t b,decide (Nm.cmp b 0<0)=false->(Nm.cmp b 0==0)=true->decide (Nm.cmp t 0<0)=true->0<gcdZ t b,decide (Nm.cmp b 0<0)=false->(Nm.cmp b 0==0)=true->decide (Nm.cmp t 0<0)=false->0<gcdZ t b,decide (Nm.cmp b 0<0)=false->(Nm.cmp b 0==0)=true->decide (Nm.cmp t 0<0)=false->0<gcdZ t b,decide (Nm.cmp b 0<0)=false->(Nm.cmp b 0==0)=false->0<gcdZ t b,decide (Nm.cmp b 0<0)=false->(Nm.cmp b 0==0)=false->0<gcdZ t b],41,by kernel_rfl,by decide,fun a hg=>?_⟩;have a:0<gcdZ t b:=a.one;exact aAe (fun _=>a) (aAe (fun _=>a) (aAe (fun _ _ _=>a) (aAe (fun _ _ _=>a) (aAe (fun _ _ _=>a) (aAe (fun _ _ _=>a) (aAe (fun _ _=>a) (aAe (fun _ _=>a) aAc)))))))
 ·cases h
def fFrOf:List Int->Option (List Int)
 | [n]=>some [n,1]
 | _=>none
theorem aQK:TEok Z 102 (teI true fFrOf):=by
 refine walkI aIK (aAj Tryz.func102 rfl rfl) ?_ ?_
 ·intro c b h;unfold fFrOf at h;split at h
  ·rename_i n;cases h;exact ⟨[n.natAbs<1000000000000000000],by kernel_rfl,fun h=>aAe (h n (by simp)) aAc⟩
  ·cases h
 ·intro c b h d;unfold fFrOf at h;split at h
  ·rename_i n;cases h;intro z a;simp at a
   rcases a with rfl | rfl
   ·exact bits60 (d _ (by simp))
   ·exact bits60 (by decide)
  ·cases h
def fFrSign:List G->Option RG
 | [.ns [t,b]]=>some (.one (.i .i64 (Nm.cmp t 0)))
 | _=>none
theorem aLX:TEok Z 80 (teN true fFrSign noNd 0 [90]):=by
 refine walkN (l:=tW) aIK nobody (aAj Tryz.func80 rfl rfl) ?_;intro b a h;unfold fFrSign at h;split at h
 ·cases h;exact ⟨[],0,by kernel_rfl,by decide,fun _ _=>aAc⟩
 ·cases h
def fFrNeg:List G->Option RG
 | [.ns [t,b]]=>some (.one (.ns [-t,b]))
 | _=>none
theorem aN6:TEok Z 127 (teN true fFrNeg noNd 10 [10]):=by
 refine walkN (l:=tW) aIK nobody (aAj Tryz.func127 rfl rfl) ?_;intro b a h;unfold fFrNeg at h;split at h
 ·cases h;exact ⟨[],10,by kernel_rfl,by decide,fun _ _=>aAc⟩
 ·cases h
noncomputable def tF0:List (FuncId×TE):=(96,teN true fLow ndLow 41 [40,40])::(102,teI true fFrOf)::(80,teN true fFrSign noNd 0 [90])::(127,teN true fFrNeg noNd 10 [10])::tW
theorem aJW:AllTE Z tF0:=⟨aPw,aQK,aLX,aN6,aIK⟩
def fFr2 (top bot:Int->Int->Int->Int->Int):List G->Option RG
 | [.ns [a,b],.ns [c,d]]=>some (.one (.ns [lowT (top a b c d) (bot a b c d),lowB (top a b c d) (bot a b c d)]))
 | _=>none
def ndFr2 (top bot:Int->Int->Int->Int->Int):List G->List Prop
 | [.ns [a,b],.ns [c,d]]=>[0<gcdZ (top a b c d) (bot a b c d)]
 | _=>[]
theorem aLW:TEok Z 126 (teN true (fFr2 (fun a b c d=>a*d+c*b) (fun a b c d=>b*d)) (ndFr2 (fun a b c d=>a*d+c*b) (fun a b c d=>b*d)) 41 [10,10]):=by
 refine walkN (l:=tF0) aJW nobody (aAj Tryz.func126 rfl rfl) ?_;intro f e h;unfold fFr2 at h;split at h
 ·rename_i a b c d;cases h;exact ⟨[0<gcdZ (a*d+c*b) (b*d)],41,by kernel_rfl,by decide,fun hn _=>aAe hn.one aAc⟩
 ·cases h
theorem aKq:TEok Z 172 (teN true (fFr2 (fun a b c d=>a*c) (fun a b c d=>b*d)) (ndFr2 (fun a b c d=>a*c) (fun a b c d=>b*d)) 41 [10,10]):=by
 refine walkN (l:=tF0) aJW nobody (aAj Tryz.func172 rfl rfl) ?_;intro f e h;unfold fFr2 at h;split at h
 ·rename_i a b c d;cases h;exact ⟨[0<gcdZ (a*c) (b*d)],41,by kernel_rfl,by decide,fun hn _=>aAe hn.one aAc⟩
 ·cases h
theorem aLV:TEok Z 173 (teN true (fFr2 (fun a b c d=>a*d) (fun a b c d=>b*c)) (ndFr2 (fun a b c d=>a*d) (fun a b c d=>b*c)) 41 [10,10]):=by
 refine walkN (l:=tF0) aJW nobody (aAj Tryz.func173 rfl rfl) ?_;intro f e h;unfold fFr2 at h;split at h
 ·rename_i a b c d;cases h;exact ⟨[0<gcdZ (a*d) (b*c)],41,by kernel_rfl,by decide,fun hn _=>aAe hn.one aAc⟩
 ·cases h
noncomputable def tF1:List (FuncId×TE):=(126,teN true (fFr2 (fun a b c d=>a*d+c*b) (fun a b c d=>b*d)) (ndFr2 (fun a b c d=>a*d+c*b) (fun a b c d=>b*d)) 41 [10,10])::(172,teN true (fFr2 (fun a b c d=>a*c) (fun a b c d=>b*d)) (ndFr2 (fun a b c d=>a*c) (fun a b c d=>b*d)) 41 [10,10])::(173,teN true (fFr2 (fun a b c d=>a*d) (fun a b c d=>b*c)) (ndFr2 (fun a b c d=>a*d) (fun a b c d=>b*c)) 41 [10,10])::tF0
theorem aPQ:AllTE Z tF1:=⟨aLW,aKq,aLV,aJW⟩
theorem aKp:TEok Z 79 (teN true (fFr2 (fun a b c d=>a*d+-c*b) (fun a b c d=>b*d)) (ndFr2 (fun a b c d=>a*d+-c*b) (fun a b c d=>b*d)) 41 [10,10]):=by
 refine walkN (l:=tF1) aPQ nobody (aAj Tryz.func79 rfl rfl) ?_;intro f e h;unfold fFr2 at h;split at h
 ·rename_i a b c d;cases h;exact ⟨[0<gcdZ (a*d+-c*b) (b*d)],41,by kernel_rfl,by decide,fun hn _=>aAe hn.one aAc⟩
 ·cases h
noncomputable def tF:List (FuncId×TE):=(79,teN true (fFr2 (fun a b c d=>a*d+-c*b) (fun a b c d=>b*d)) (ndFr2 (fun a b c d=>a*d+-c*b) (fun a b c d=>b*d)) 41 [10,10])::tF1
theorem aT6:AllTE Z tF:=⟨aKp,aPQ⟩
def fMOf:List Int->Option (List Int)
 | [a,b,c,d]=>some [a,b,c,d]
 | _=>none
theorem aTE:TEok Z 56 (teI true fMOf):=by
 refine walkI aIK (aAj Tryz.func56 rfl rfl) ?_ ?_
 ·intro f e h;unfold fMOf at h;split at h
  ·rename_i a b c d;cases h;exact ⟨[a.natAbs<1000000000000000000,b.natAbs<1000000000000000000,c.natAbs<1000000000000000000,d.natAbs<1000000000000000000],by kernel_rfl,fun h=>by simp at h;exact aAe h.1 (aAe h.2.1 (aAe h.2.2.1 (aAe h.2.2.2 aAc)))⟩
  ·cases h
 ·intro f e h g;unfold fMOf at h;split at h
  ·cases h
   exact fun z hz'=>bits60 (g z hz')
  ·cases h
def fPairs:List G->Option RG
 | [.ns [a],.ns [x],.ns [b],.ns [y]]=>some (.one (.ns [a*x+b*y]))
 | _=>none
theorem aOt:TEok Z 95 (teN true fPairs noNd 7 [3,3,3,3]):=by
 refine walkN (l:=tW) aIK nobody (aAj Tryz.func95 rfl rfl) ?_;intro b a h;unfold fPairs at h;split at h
 ·cases h;exact ⟨[],7,by kernel_rfl,by decide,fun _ _=>aAc⟩
 ·cases h
noncomputable def tM0:List (FuncId×TE):=(56,teI true fMOf)::(95,teN true fPairs noNd 7 [3,3,3,3])::tF
theorem aNi:AllTE Z tM0:=⟨aTE,aOt,aT6⟩
end Ab
open Go.RowKit
namespace Ab
def symA (s:Int):Int:=bif s==2 then -1 else bif s==3 then 1 else bif s==4 then 1 else bif s==5 then 1 else bif s==6 then 3 else bif s==7 then 2 else 1
def symB (s:Int):Int:=bif s==2 then 0 else bif s==3 then -1 else bif s==4 then 1 else bif s==5 then 0 else bif s==6 then 1 else bif s==7 then 1 else 0
def symC (s:Int):Int:=bif s==2 then 0 else bif s==3 then 1 else bif s==4 then -1 else bif s==5 then 1 else bif s==6 then 1 else bif s==7 then 0 else 0
def symD (s:Int):Int:=bif s==2 then 1 else bif s==3 then 1 else bif s==4 then 1 else bif s==5 then 2 else bif s==6 then 3 else bif s==7 then 1 else 1
def fSymM:List G->Option RG
 | [.i .i64 s]=>some (.one (.ns [symA s,symB s,symC s,symD s]))
 | _=>none
theorem aQc:TEok Z 58 (teN true fSymM noNd 1 [0]):=by
 refine walkN (l:=tM0) aNi nobody (aAj Tryz.func58 rfl rfl) ?_;intro b a h;unfold fSymM at h;split at h
 ·cases h;exact ⟨[],1,by kernel_rfl,by decide,fun _ _=>aAc⟩
 ·cases h
def fAfter:List G->Option RG
 | [.ns [a,b,c,d],.ns [e,f,g,h]]=>some (.one (.ns [a*e+b*g,a*f+b*h,c*e+d*g,c*f+d*h]))
 | _=>none
theorem aNJ:TEok Z 57 (teN true fAfter noNd 7 [3,3]):=by
 refine walkN (l:=tM0) aNi nobody (aAj Tryz.func57 rfl rfl) ?_;intro b a h;unfold fAfter at h;split at h
 ·cases h;exact ⟨[],7,by kernel_rfl,by decide,fun _ _=>aAc⟩
 ·cases h
noncomputable def tM:List (FuncId×TE):=(58,teN true fSymM noNd 1 [0])::(57,teN true fAfter noNd 7 [3,3])::tM0
theorem aOO:AllTE Z tM:=⟨aQc,aNJ,aNi⟩
def fPair:List Int->Option (List Int)
 | [p,q]=>some [p,q]
 | _=>none
theorem aRf:TEok Z 180 (teI true fPair):=by
 refine walkI aOO (aAj Tryz.func180 rfl rfl) ?_ ?_
 ·intro b a h;unfold fPair at h;split at h
  ·rename_i p q;cases h;exact ⟨[p.natAbs<1000000000000000000,q.natAbs<1000000000000000000],by kernel_rfl,fun h=>by simp at h;exact aAe h.1 (aAe h.2 aAc)⟩
  ·cases h
 ·intro b a h c;unfold fPair at h;split at h
  ·cases h
   exact fun z hz'=>bits60 (c z hz')
  ·cases h
def fColT:List G->Option RG
 | [.ns [p,q],.ns [n]]=>some (.one (.ns [p*n,q*n]))
 | _=>none
theorem aP7:TEok Z 240 (teN true fColT noNd 18 [15,3]):=by
 refine walkN (l:=tM) aOO nobody (aAj Tryz.func240 rfl rfl) ?_;intro b a h;unfold fColT at h;split at h
 ·cases h;exact ⟨[],18,by kernel_rfl,by decide,fun _ _=>aAc⟩
 ·cases h
def fColP:List G->Option RG
 | [.ns [p,q],.ns [r,s]]=>some (.one (.ns [p+r,q+s]))
 | _=>none
theorem aP6:TEok Z 241 (teN true fColP noNd 19 [18,18]):=by
 refine walkN (l:=tM) aOO nobody (aAj Tryz.func241 rfl rfl) ?_;intro b a h;unfold fColP at h;split at h
 ·cases h;exact ⟨[],19,by kernel_rfl,by decide,fun _ _=>aAc⟩
 ·cases h
noncomputable def tC0:List (FuncId×TE):=(180,teI true fPair)::(240,teN true fColT noNd 18 [15,3])::(241,teN true fColP noNd 19 [18,18])::tM
theorem aPN:AllTE Z tC0:=⟨aRf,aP7,aP6,aOO⟩
def fRead:List G->Option RG
 | [.ns [p,q],.ns [r,s],.ns [a,b,c,d]]=>some (.tup [.ns [p*a+r*c,q*a+s*c],.ns [p*b+r*d,q*b+s*d]])
 | _=>none
theorem aQa:TEok Z 231 (teN true fRead noNd 19 [15,15,3]):=by
 refine walkN (l:=tC0) aPN nobody (aAj Tryz.func231 rfl rfl) ?_;intro b a h;unfold fRead at h;split at h
 ·cases h;exact ⟨[],19,by kernel_rfl,by decide,fun _ _=>aAc⟩
 ·cases h
noncomputable def tC1:List (FuncId×TE):=(231,teN true fRead noNd 19 [15,15,3])::tC0
theorem aJV:AllTE Z tC1:=⟨aQa,aPN⟩
def fRdL:List G->Option RG
 | [.ns [p0,q0,p1,q1,p2,q2,p3,q3],.ns [a,b,c,d]]=>some (.one (.ns [p0*a+p2*c,q0*a+q2*c,p1*a+p3*c,q1*a+q3*c,p0*b+p2*d,q0*b+q2*d,p1*b+p3*d,q1*b+q3*d]))
 | _=>none
theorem aSl:TEok Z 222 (teN true fRdL noNd 19 [15,3]):=by
 refine walkN (l:=tC1) aJV nobody (aAj Tryz.func222 rfl rfl) ?_;intro b a h;unfold fRdL at h;split at h
 ·cases h;exact ⟨[],19,by kernel_rfl,by decide,fun _ _=>aAc⟩
 ·cases h
def fRdR:List G->Option RG
 | [.ns [p0,q0,p1,q1,p2,q2,p3,q3],.ns [a,b,c,d]]=>some (.one (.ns [p0*a+p1*c,q0*a+q1*c,p0*b+p1*d,q0*b+q1*d,p2*a+p3*c,q2*a+q3*c,p2*b+p3*d,q2*b+q3*d]))
 | _=>none
theorem aSm:TEok Z 217 (teN true fRdR noNd 19 [15,3]):=by
 refine walkN (l:=tC1) aJV nobody (aAj Tryz.func217 rfl rfl) ?_;intro b a h;unfold fRdR at h;split at h
 ·cases h;exact ⟨[],19,by kernel_rfl,by decide,fun _ _=>aAc⟩
 ·cases h
def fGive:List G->Option RG
 | [.ns [p0,q0,p1,q1,p2,q2,p3,q3],.ns [a,b,c,d]]=>some (.one (.ns [d*p0-b*q0,a*q0-c*p0,d*p1-b*q1,a*q1-c*p1,d*p2-b*q2,a*q2-c*p2,d*p3-b*q3,a*q3-c*p3]))
 | _=>none
theorem aP9:TEok Z 199 (teN true fGive noNd 19 [15,3]):=by
 refine walkN (l:=tC1) aJV nobody (aAj Tryz.func199 rfl rfl) ?_;intro b a h;unfold fGive at h;split at h
 ·cases h;exact ⟨[],19,by kernel_rfl,by decide,fun _ _=>aAc⟩
 ·cases h
noncomputable def tC2:List (FuncId×TE):=(222,teN true fRdL noNd 19 [15,3])::(217,teN true fRdR noNd 19 [15,3])::(199,teN true fGive noNd 19 [15,3])::tC1
theorem aDt:AllTE Z tC2:=⟨aSl,aSm,aP9,aJV⟩
noncomputable def fewer (t z:Int):Int:=bif Nm.cmp z 0==0 then t else bif decide (t<0) then (Nm.tz z:Int) else bif decide ((Nm.tz z:Int)<t) then (Nm.tz z:Int) else t
def fac1 (kd k:Int):Int:=bif kd==11 then 1 else bif k==0 then 1 else bif kd==13 then Wr (k*k) else Wr (Wr ((Wr (k+1)).tdiv 2)*Wr ((Wr (k+1)).tdiv 2))
def fac2 (kd k:Int):Int:=bif kd==11 then Wr (Wr (4*k)+2) else bif k==0 then 1 else bif kd==13 then Wr (Wr (2*k)+1) else Wr (k+1)
def eterm (k:Int):Int:=bif k==0 then 2 else bif k.tmod 3==2 then Wr ((Wr (2*Wr (k+1))).tdiv 3) else 1
theorem aRi {k:Int}(h:0<=k/\k<=100000000):Holds [(k==0)=false->(Wr (k*k)).natAbs<1000000000000000000,(k==0)=false->(Wr (Wr (2*k)+1)).natAbs<1000000000000000000]:=by
 have d:0<=k*k:=Int.mul_nonneg h.1 h.1;have e:k*k<=100000000*100000000:=Int.mul_le_mul h.2 h.2 h.1 (by decide);have a:Wr (k*k)=k*k:=aAv (by omega) (by omega);have b:Wr (2*k)=2*k:=aAv (by omega) (by omega);have c:Wr (2*k+1)=2*k+1:=aAv (by omega) (by omega);rw [a,b,c];exact aAe (fun _=>by omega) (aAe (fun _=>by omega) aAc)
def ndPi:List G->List Prop
 | [.i .i64 k]=>[0<=k/\k<=100000000]
 | _=>[]
noncomputable def fFew:List G->Option RG
 | [.i .i64 t,.ns [z]]=>some (.one (.i .i64 (fewer t z)))
 | _=>none
theorem aSa:TEok Z 211 (teN true fFew noNd 0 [0,19]):=by
 refine walkN (l:=tC2) aDt nobody (aAj Tryz.func211 rfl rfl) ?_;intro b a h;unfold fFew at h;split at h
 ·cases h;exact ⟨[],0,by kernel_rfl,by decide,fun _ _=>aAc⟩
 ·cases h
def fNought:List G->Option RG
 | [.ns [p,q]]=>some (.one (.b ((Nm.cmp p 0==0)&&(Nm.cmp q 0==0))))
 | _=>none
theorem aK8:TEok Z 246 (teN true fNought noNd 0 [19]):=by
 refine walkN (l:=tC2) aDt nobody (aAj Tryz.func246 rfl rfl) ?_;intro b a h;unfold fNought at h;split at h
 ·cases h;exact ⟨[],0,by kernel_rfl,by decide,fun _ _=>aAc⟩
 ·cases h
def fGrt:List G->Option RG
 | [.ns [a],.ns [b]]=>some (.one (.ns [bif decide (Nm.cmp a b<0) then b else a]))
 | _=>none
theorem aSb:TEok Z 232 (teN true fGrt noNd 80 [80,80]):=by
 refine walkN (l:=tC2) aDt nobody (aAj Tryz.func232 rfl rfl) ?_;intro b a h;unfold fGrt at h;split at h
 ·cases h;exact ⟨[],80,by kernel_rfl,by decide,fun _ _=>aAc⟩
 ·cases h
def fSqs:List G->Option RG
 | [.i .i64 k]=>some (.one (.b ((k==13)||(k==11))))
 | _=>none
theorem aSp:TEok Z 238 (teN true fSqs noNd 0 [0]):=by
 refine walkN (l:=tC2) aDt nobody (aAj Tryz.func238 rfl rfl) ?_;intro b a h;unfold fSqs at h;split at h
 ·cases h;exact ⟨[],0,by kernel_rfl,by decide,fun _ _=>aAc⟩
 ·cases h
def fFac:List G->Option RG
 | [.i .i64 kd,.i .i64 k]=>some (.tup [.i .i64 (fac1 kd k),.i .i64 (fac2 kd k)])
 | _=>none
theorem aR9:TEok Z 239 (teN true fFac noNd 0 [0,0]):=by
 refine walkN (l:=tC2) aDt nobody (aAj Tryz.func239 rfl rfl) ?_;intro b a h;unfold fFac at h;split at h
 ·cases h;exact ⟨[],0,by kernel_rfl,by decide,fun _ _=>aAc⟩
 ·cases h
def fETm:List G->Option RG
 | [.i .i64 k]=>some (.one (.i .i64 (eterm k)))
 | _=>none
theorem aR6:TEok Z 228 (teN true fETm noNd 0 [0]):=by
 refine walkN (l:=tC2) aDt nobody (aAj Tryz.func228 rfl rfl) ?_;intro b a h;unfold fETm at h;split at h
 ·cases h;exact ⟨[],0,by kernel_rfl,by decide,fun _ _=>aAc⟩
 ·cases h
def fPiM:List G->Option RG
 | [.i .i64 k]=>some (.one (.ns [bif k==0 then 0 else 0,bif k==0 then 4 else Wr (k*k),bif k==0 then 1 else 1,bif k==0 then 1 else Wr (Wr (2*k)+1)]))
 | _=>none
theorem aSk:TEok Z 227 (teN true fPiM ndPi 1 [0]):=by
 refine walkN (l:=tC2) aDt nobody (aAj Tryz.func227 rfl rfl) ?_;intro b a h;unfold fPiM at h;split at h
 ·rename_i k;cases h;exact ⟨[(k==0)=false->(Wr (k*k)).natAbs<1000000000000000000,(k==0)=false->(Wr (Wr (2*k)+1)).natAbs<1000000000000000000],1,by kernel_rfl,by decide,fun hn _=>aRi hn.one⟩
 ·cases h
def fOpC:List G->Option RG
 | [.i .i64 k]=>some (.one (.ns [bif k==6 then 0 else bif k==7 then 0 else bif k==8 then 1 else 0,bif k==6 then 0 else bif k==7 then 0 else bif k==8 then 0 else 0,bif k==6 then 1 else bif k==7 then 1 else bif k==8 then 0 else 1,bif k==6 then 0 else bif k==7 then 0 else bif k==8 then 0 else 0,bif k==6 then 1 else bif k==7 then -1 else bif k==8 then 0 else 0,bif k==6 then 0 else bif k==7 then 0 else bif k==8 then 0 else 1,bif k==6 then 0 else bif k==7 then 0 else bif k==8 then 0 else 0,bif k==6 then 1 else bif k==7 then 1 else bif k==8 then 1 else 0]))
 | _=>none
theorem aSj:TEok Z 181 (teN true fOpC noNd 1 [0]):=by
 refine walkN (l:=tC2) aDt nobody (aAj Tryz.func181 rfl rfl) ?_;intro b a h;unfold fOpC at h;split at h
 ·cases h;exact ⟨[],1,by kernel_rfl,by decide,fun _ _=>aAc⟩
 ·cases h
def fRstC:List G->Option RG
 | [.i .i64 k,.ns [p,q]]=>some (.one (.ns [bif k==12 then q else bif k==13 then q else q,bif k==12 then 0 else bif k==13 then p else 0,bif k==12 then -p else bif k==13 then -p else -p,bif k==12 then p+q else bif k==13 then q else q,bif k==12 then 0 else bif k==13 then 0 else 0,bif k==12 then 0 else bif k==13 then 0 else 0,bif k==12 then 0 else bif k==13 then 0 else 0,bif k==12 then 0 else bif k==13 then 0 else 0]))
 | _=>none
theorem aQb:TEok Z 245 (teN true fRstC noNd 11 [0,10]):=by
 refine walkN (l:=tC2) aDt nobody (aAj Tryz.func245 rfl rfl) ?_;intro b a h;unfold fRstC at h;split at h
 ·cases h;exact ⟨[],11,by kernel_rfl,by decide,fun _ _=>aAc⟩
 ·cases h
noncomputable def tC3:List (FuncId×TE):=(211,teN true fFew noNd 0 [0,19])::(246,teN true fNought noNd 0 [19])::(232,teN true fGrt noNd 80 [80,80])::(238,teN true fSqs noNd 0 [0])::(239,teN true fFac noNd 0 [0,0])::(228,teN true fETm noNd 0 [0])::(227,teN true fPiM ndPi 1 [0])::(181,teN true fOpC noNd 1 [0])::(245,teN true fRstC noNd 11 [0,10])::tC2
theorem aNf:AllTE Z tC3:=⟨aSa,aK8,aSb,aSp,aR9,aR6,aSk,aSj,aQb,aDt⟩
def sumZ (p q:Int):Int:=bif (Nm.cmp p 0==0)&&(Nm.cmp q 0==0) then 1 else p+q
def enoughZ (k hp hq lp lq:Int):Bool:=
 bif k==10 then decide (Nm.cmp (hp*lq) (lp*hq+lp*hq)<=0)
 else bif k==12 then decide (Nm.cmp ((hp*lq-lp*hq)*4) (hq*lq+lp*hq)<=0)
 else bif k==13 then decide (Nm.cmp ((hp*lq-lp*hq)*4) (hq*lq+hp*lp)<=0)
 else decide (Nm.cmp ((hp*lq-lp*hq)*4) (hq*lq)<=0)
def fSum:List G->Option RG
 | [.ns [p,q]]=>some (.one (.ns [sumZ p q]))
 | _=>none
theorem aSq:TEok Z 242 (teN true fSum noNd 16 [15]):=by
 refine walkN (l:=tC3) aNf nobody (aAj Tryz.func242 rfl rfl) ?_;intro b a h;unfold fSum at h;split at h
 ·cases h;exact ⟨[],16,by kernel_rfl,by decide,fun _ _=>aAc⟩
 ·cases h
def fEno:List G->Option RG
 | [.i .i64 k,.ns [hp,hq],.ns [lp,lq]]=>some (.one (.b (enoughZ k hp hq lp lq)))
 | _=>none
theorem aR8:TEok Z 235 (teN true fEno noNd 0 [0,15,15]):=by
 refine walkN (l:=tC3) aNf nobody (aAj Tryz.func235 rfl rfl) ?_;intro b a h;unfold fEno at h;split at h
 ·cases h;exact ⟨[],0,by kernel_rfl,by decide,fun _ _=>aAc⟩
 ·cases h
noncomputable def tC4:List (FuncId×TE):=(242,teN true fSum noNd 16 [15])::(235,teN true fEno noNd 0 [0,15,15])::tC3
theorem aPO:AllTE Z tC4:=⟨aSq,aR8,aNf⟩
def scaledZ (up uq vp vq op oq rp rq:Int):Int:=(((up*vq-uq*vp)*(sumZ op oq*sumZ rp rq)).natAbs:Int)
def grZ (a b:Int):Int:=bif decide (Nm.cmp a b<0) then b else a
def fScl:List G->Option RG
 | [.ns [up,uq],.ns [vp,vq],.ns [op,oq],.ns [rp,rq]]=>some (.one (.ns [scaledZ up uq vp vq op oq rp rq]))
 | _=>none
theorem aSo:TEok Z 233 (teN true fScl noNd 63 [15,15,15,15]):=by
 refine walkN (l:=tC4) aPO nobody (aAj Tryz.func233 rfl rfl) ?_;intro b a h;unfold fScl at h;split at h
 ·cases h;exact ⟨[],63,by kernel_rfl,by decide,fun _ _=>aAc⟩
 ·cases h
noncomputable def tC5:List (FuncId×TE):=(233,teN true fScl noNd 63 [15,15,15,15])::tC4
theorem aPP:AllTE Z tC5:=⟨aSo,aPO⟩
def widthsZ (p0 q0 p1 q1 p2 q2 p3 q3 t:Int):Int:=
 Nm.cmp (grZ (scaledZ p0 q0 p2 q2 p1 q1 p3 q3) (scaledZ p1 q1 p3 q3 p0 q0 p2 q2)*t) (grZ (scaledZ p0 q0 p1 q1 p2 q2 p3 q3) (scaledZ p2 q2 p3 q3 p0 q0 p1 q1))
def ndWid:List G->List Prop
 | [.ns _,.i .i64 t]=>[t.natAbs<1000000000000000000]
 | _=>[]
inductive SF where
 | st (b:Bool)
 | sy (b:Bool)
def SF.val:SF->Bool
 | .st b=>b
 | .sy b=>b
def fWid:List G->Option RG
 | [.ns [p0,q0,p1,q1,p2,q2,p3,q3],.i .i64 t]=>some (.one (.i .i64 (widthsZ p0 q0 p1 q1 p2 q2 p3 q3 t)))
 | _=>none
theorem aPi:TEok Z 219 (teN true fWid ndWid 0 [15,0]):=by
 refine walkN (l:=tC5) aPP nobody (aAj Tryz.func219 rfl rfl) ?_;intro b a h;unfold fWid at h;split at h
 ·rename_i c d e f g i j k t;cases h;exact ⟨[t.natAbs<1000000000000000000],0,by kernel_rfl,by decide,fun hn _=>aAe hn.one aAc⟩
 ·cases h
noncomputable def tC6:List (FuncId×TE):=(219,teN true fWid ndWid 0 [15,0])::tC5
theorem aHQ:AllTE Z tC6:=⟨aPi,aPP⟩
end Ab
open Go.RowKit
namespace Ab
def orL (u x y:Bool)(k:SF->LT):LT:=.br u (k (.st true)) (.br x (k (.st true)) (k (.sy y)))
def andL (d:SF)(k:LT):LT:=
 match d with
 | .st true=>.ret (.one (.b false))
 | .st false=>k
 | .sy t=>.br t (.ret (.one (.b false))) k
def cutL (u d:SF)(k:LT):LT:=
 match u with
 | .st true=>andL d k
 | .st false=>k
 | .sy t=>.br t (andL d k) k
theorem aPD {u x y:Bool}{k:SF->LT}{P:RG->Prop}{Q:List (K (List AT))->AS->Prop}(h:∀ s:SF,s.val=(u||x||y)->(k s).ok P Q):(orL u x y k).ok P Q:=by
 refine ⟨fun e=>h _ (by rw [e];rfl),fun e=>⟨fun e2=>h _ (by rw [e,e2];rfl),fun e2=>h _ (by rw [e,e2];rfl)⟩⟩
theorem aQs {u d:SF}{k:LT}{P:RG->Prop}{Q:List (K (List AT))->AS->Prop}(g:u.val=true->d.val=true->P (.one (.b false)))(a:k.ok P Q):(cutL u d k).ok P Q:=by
 have c:u.val=true->(andL d k).ok P Q:=by
  intro f
  cases d with
  | st b=>cases b with
   | true=>exact g f rfl
   | false=>exact a
  | sy t=>exact ⟨fun e=>g f e,fun _=>a⟩
 cases u with
 | st b=>cases b with
  | true=>exact c rfl
  | false=>exact a
 | sy t=>exact ⟨fun e=>c e,fun _=>a⟩
def fitN (u d:Bool)(l:List (Int×Int)):Bool:=!((u||l.any fun c=>decide (c.1<0)||decide (c.2<0))==(d||l.any fun c=>decide (c.1>0)||decide (c.2>0)))
theorem aLL (u d:Bool)(p q:Int)(l:List (Int×Int)):fitN u d ((p,q)::l)=fitN (u||decide (p<0)||decide (q<0)) (d||decide (p>0)||decide (q>0)) l:=by
 unfold fitN;simp only [List.any_cons,Bool.or_assoc]
theorem aLK (l:List (Int×Int)):fitN true true l=false:=by unfold fitN;simp
def sFit (zs:List Int)(ms:List Int)(i:Nat)(u d:Bool):AS:=
 ⟨[.top,.top,.val (.one (.ptr 0 0)),.val (.one (.ptr 1 0)),.top,.val (.one (.sbool u)),.val (.one (.sbool d)),.val (.one (.int .i64 i))]++List.replicate 57 .top,
  [(0,⟨numCs true 0 8,201,true,false,false⟩),(1,⟨numCs true 8 4,115,true,false,false⟩)],2,(zs.map fun z=>(z,19))++ms.map (fun z=>(z,3)),[]⟩
def cl (p q a b c d:Int):Int×Int:=(cp d p b q,cp a q c p)
def fitZ (p0 q0 p1 q1 p2 q2 p3 q3 a b c d:Int):Bool:=fitN false false [cl p0 q0 a b c d,cl p1 q1 a b c d,cl p2 q2 a b c d,cl p3 q3 a b c d]
section
variable (p0 q0 p1 q1 p2 q2 p3 q3 a b c d:Int)
theorem aLS:(run Z (orSp spL (tabSp tC6)) (fun _=>none) (drawA Z (orSp spL (tabSp tC6))) atLoop 300 [.code (bodyOf Tryz.f215),.top Tryz.f215] (start Tryz.f215 (tokGs true [.ns [p0,q0,p1,q1,p2,q2,p3,q3],.ns [a,b,c,d]] [19,3]))).bind (outL true [0,1] [2,3,1005,1006,7] 2 [])=
  some (.again (.code (.loop (lpB (bodyOf Tryz.f215) Tryz.f215))::lpK (bodyOf Tryz.f215) Tryz.f215) (sFit [p0,q0,p1,q1,p2,q2,p3,q3] [a,b,c,d] 0 false false)):=by kernel_rfl
noncomputable def fitRun (i:Nat)(n:Nat)(u v:Bool):Option LT:=(run Z (orSp spL (tabSp tC6)) (fun _=>none) (drawA Z (orSp spL (tabSp tC6))) atRound 300 (.code (lpB (bodyOf Tryz.f215) Tryz.f215)::.lp (lpB (bodyOf Tryz.f215) Tryz.f215) n::lpK (bodyOf Tryz.f215) Tryz.f215) (sFit [p0,q0,p1,q1,p2,q2,p3,q3] [a,b,c,d] i u v)).bind (outL true [0,1] [2,3,1005,1006,7] 2 [])
noncomputable def fitStep (i:Nat)(n:Nat)(u v:Bool)(p q:Int):LT:=orL u (decide ((cl p q a b c d).1<0)) (decide ((cl p q a b c d).2<0)) fun u'=>orL v (decide ((cl p q a b c d).1>0)) (decide ((cl p q a b c d).2>0)) fun v'=>cutL u' v' (.again (.lp (lpB (bodyOf Tryz.f215) Tryz.f215) n::lpK (bodyOf Tryz.f215) Tryz.f215) (sFit [p0,q0,p1,q1,p2,q2,p3,q3] [a,b,c,d] (i+1) u'.val v'.val))
theorem aLN (n:Nat)(u v:Bool):fitRun p0 q0 p1 q1 p2 q2 p3 q3 a b c d 0 n u v=some (fitStep p0 q0 p1 q1 p2 q2 p3 q3 a b c d 0 n u v p0 q0):=by kernel_rfl
theorem aLO (n:Nat)(u v:Bool):fitRun p0 q0 p1 q1 p2 q2 p3 q3 a b c d 1 n u v=some (fitStep p0 q0 p1 q1 p2 q2 p3 q3 a b c d 1 n u v p1 q1):=by kernel_rfl
theorem aLP (n:Nat)(u v:Bool):fitRun p0 q0 p1 q1 p2 q2 p3 q3 a b c d 2 n u v=some (fitStep p0 q0 p1 q1 p2 q2 p3 q3 a b c d 2 n u v p2 q2):=by kernel_rfl
theorem aLQ (n:Nat)(u v:Bool):fitRun p0 q0 p1 q1 p2 q2 p3 q3 a b c d 3 n u v=some (fitStep p0 q0 p1 q1 p2 q2 p3 q3 a b c d 3 n u v p3 q3):=by kernel_rfl
theorem aLR (n:Nat)(u v:Bool):fitRun p0 q0 p1 q1 p2 q2 p3 q3 a b c d 4 n u v=some (.ret (.one (.b !(u==v)))):=by kernel_rfl
end
def fFit:List G->Option RG
 | [.ns [p0,q0,p1,q1,p2,q2,p3,q3],.ns [a,b,c,d]]=>some (.one (.b (fitZ p0 q0 p1 q1 p2 q2 p3 q3 a b c d)))
 | _=>none
theorem aPe:TEok Z 215 (teN true fFit noNd 0 [19,3]):=by
 refine walkL (l:=tC6) aHQ aHO (aAj Tryz.func215 rfl rfl) (kb:=[0,1]) (kt:=[2,3,1005,1006,7]) (nx:=2) (rb:=[]) ?_ (by kernel_rfl) ?_
 ·intro H M D h E F N;unfold fFit at h;split at h
  ·cases h;trivial
  ·cases h
 ·intro H D h O P;unfold fFit at h;split at h
  ·rename_i e f k o t x y z a b c d;cases h;refine ⟨fun m s=>∃ (i:Nat) (u v:Bool),m=5-i/\i<=4/\s=sFit [e,f,k,o,t,x,y,z] [a,b,c,d] i u v/\fitN u v ([cl e f a b c d,cl k o a b c d,cl t x a b c d,cl y z a b c d].drop i)=fitZ e f k o t x y z a b c d,⟨300,_,aLS e f k o t x y z a b c d,rfl,5,0,false,false,rfl,by omega,rfl,rfl⟩,?_⟩;rintro m s ⟨i,u,v,rfl,L,rfl,C⟩ n
   have A:∀ (j:Nat) (p q:Int) (r:List (Int×Int)),j<4->fitN u v (cl p q a b c d::r)=fitZ e f k o t x y z a b c d->r=[cl e f a b c d,cl k o a b c d,cl t x a b c d,cl y z a b c d].drop (j+1)->
     (fitStep e f k o t x y z a b c d j n u v p q).ok (fun g=>g=.one (.b (fitZ e f k o t x y z a b c d))) fun ks s'=>ks=.lp (lpB (bodyOf Tryz.f215) Tryz.f215) n::lpK (bodyOf Tryz.f215) Tryz.f215/\∃ m',m'<5-j/\∃ (i:Nat) (u v:Bool),m'=5-i/\i<=4/\s'=sFit [e,f,k,o,t,x,y,z] [a,b,c,d] i u v/\fitN u v ([cl e f a b c d,cl k o a b c d,cl t x a b c d,cl y z a b c d].drop i)=fitZ e f k o t x y z a b c d:=by
    intro j p q r R E F
    have B:fitN (u||decide ((cl p q a b c d).1<0)||decide ((cl p q a b c d).2<0)) (v||decide ((cl p q a b c d).1>0)||decide ((cl p q a b c d).2>0)) r=fitZ e f k o t x y z a b c d:=by rw [<-aLL];exact E
    refine aPD fun u' hu'=>aPD fun v' hv'=>aQs ?_ ?_
    ·intro I J;rw [<-hu',<-hv',I,J,aLK] at B;rw [B]
    ·refine ⟨rfl,5-(j+1),by omega,j+1,u'.val,v'.val,rfl,by omega,rfl,?_⟩;rw [hu',hv',<-F];exact B
   rcases (by omega:i=0\/i=1\/i=2\/i=3\/i=4) with rfl | rfl | rfl | rfl | rfl
   ·exact ⟨300,_,aLN e f k o t x y z a b c d n u v,A 0 e f _ (by omega) C rfl⟩
   ·exact ⟨300,_,aLO e f k o t x y z a b c d n u v,A 1 k o _ (by omega) C rfl⟩
   ·exact ⟨300,_,aLP e f k o t x y z a b c d n u v,A 2 t x _ (by omega) C rfl⟩
   ·exact ⟨300,_,aLQ e f k o t x y z a b c d n u v,A 3 y z _ (by omega) C rfl⟩
   ·refine ⟨300,_,aLR e f k o t x y z a b c d n u v,?_⟩
    have:(!(u==v))=fitZ e f k o t x y z a b c d:=by rw [<-C];simp [fitN]
    show RG.one (.b !(u==v))=_;rw [this]
  ·cases h
end Ab
end Go.Proofs.YteghhlfmcjmnoaaGreatDoor
