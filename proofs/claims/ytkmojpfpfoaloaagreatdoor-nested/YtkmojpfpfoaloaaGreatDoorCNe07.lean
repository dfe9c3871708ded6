import Derived.Test.YtkmojpfpfoaloaaGreatDoorCNe06
set_option linter.all false
set_option maxRecDepth 100000
set_option maxHeartbeats 2000000
namespace Go.Proofs.YtkmojpfpfoaloaaGreatDoor
open Go.Proofs.Tryz
namespace Rf
open Nw
abbrev V:=Int×Int
def eU (m:Mt)(v:V):V:=(m.at1 v.1 v.2,m.at2 v.1 v.2)
def fH (m:Mt)(v:V):V:=(m.vD v.1 v.2,m.vE v.1 v.2)
def one:Mt:=⟨1,0,0,1⟩
inductive Op where
 |none|pi|e|cf|sqrt|exp|fK|atan
 deriving DecidableEq
structure Nd where
 pos:Bool
 t:List V
 args:List Nat
 read:List Nat
 out:List Int
 told:Mt
 dP:List Mt
 op:Op
 aR:Bool
 nest:Bool
 k:Nat
 part:Mt
 p:Int
 q:Int
 terms:List Int
 x:Option Nat
 eX:Option Nat
def fresh (pos:Bool)(t:List V)(args:List Nat):Nd:=⟨pos,t,args,args.map (fun _=>0),[],one,[one],.none,false,false,0,one,0,0,[],none,none⟩
structure St where
 nodes:List Nd
 clock:Int
structure Ok (n:Nd):Prop where
 t:∀v∈n.t,Bits 20000 v.1/\Bits 20000 v.2
 told:cY 20000 n.told
 dP:∀m∈n.dP,cY 20000 m
 part:cY 100000000 n.part
 p:Bits 20000 n.p
 q:Bits 20000 n.q
 read:∀r∈n.read,r<=10000
 out:n.out.length<=10000
 k:n.k<=10000
def ends (ns:List Nd)(n:Nd)(side:Nat):Option (V×V):=
 (n.args[side]?).bind fun a=>(ns[a]?).bind fun x=>(n.read[side]?).bind fun r=>(x.dP[r]?).map fun m=>(eU m (1,0),eU m (0,1))
def bM (t:List V)(x y:V):V:=
 match t with
 | [a,b,c,d]=>(((a.1*(x.1*y.1)+b.1*(x.1*y.2))+c.1*(x.2*y.1))+d.1*(x.2*y.2),((a.2*(x.1*y.1)+b.2*(x.1*y.2))+c.2*(x.2*y.1))+d.2*(x.2*y.2))
 |_=>(0,0)
def bare (ns:List Nd)(n:Nd):Option (List V):=
 match n.t with
 | []=>some [eU n.part (1,0),eU n.part (0,1)]
 | [c]=>some [c]
 | [c,d]=>(ends ns n 0).map fun e=>[eU ⟨c.1,d.1,c.2,d.2⟩ e.1,eU ⟨c.1,d.1,c.2,d.2⟩ e.2]
 | [a,b,c,d]=>(ends ns n 0).bind fun e=>(if n.args.length=2 then ends ns n 1 else some ((1,0),(0,1))).map fun r=>
   [bM [a,b,c,d] e.1 r.1,bM [a,b,c,d] e.1 r.2,bM [a,b,c,d] e.2 r.1,bM [a,b,c,d] e.2 r.2]
 |_=>none
def corners (ns:List Nd)(n:Nd):Option (List V):=(bare ns n).map (·.map (fH n.told))
def waits (ns:List Nd):List Nat->List Nat->Bool
 |a::b,r::d=>(match ns[a]? with|some x=>!x.pos&&r==0|none=>false)||waits ns b d
 |_,_=>false
def tries (n:Nd):List Int:=if n.pos=false/\n.out=[]then [43,45,111,119]else [-1,1,0]
def can (l:List V)(s:Int):Bool:=fits (l.map (fH (Mt.sym s)))
def next (ns:List Nd)(n:Nd):Option (Option Int):=
 if waits ns n.args n.read then some none else(corners ns n).map fun l=>(tries n).find? (can l)
def digits (ns:List Nd)(n:Nd)(side:Nat):Option (Option Nat):=
 if side<n.args.length then
  (n.args[side]?).bind fun a=>(ns[a]?).bind fun x=>(n.read[side]?).map fun r=>if x.pos then some r else if r=0 then none else some (r-1)
 else some (some 0)
def apart (a b:V):V:=
 if a.1+a.2=0\/b.1+b.2=0 then(0,1)else(((((a.1-a.2)*(b.1+b.2)-(b.1-b.2)*(a.1+a.2)).natAbs:Nat):Int),((((a.1+a.2)*(b.1+b.2)).natAbs:Nat):Int))
def dS (a b:V):V:=if b.1*a.2<=a.1*b.2 then a else b
def wider (e:Int)(l:List V):Int:=
 match l with
 | [a,b,c,d]=>
  let p:=dS (apart a c) (apart b d)
  let q:=dS (apart a b) (apart c d)
  Nm.cmp (e*p.1*q.2) (q.1*p.2)
 |_=>0
def side (ns:List Nd)(n:Nd):Option Nat:=
 if n.t.length<4 then some 0 else
 (digits ns n 0).bind fun
  |none=>some 0
  |some a=>(digits ns n 1).bind fun
   |none=>some 1
   |some b=>(corners ns n).map fun l=>
    let c:=if fits l then wider (if n.nest then 8 else 1) l else 0
    if c=1 then 0 else if c=-1 then 1 else if a<=b then 0 else 1
def isqrt:Nat->Nat->Nat
 |0,_=>0
 |k+1,n=>if(2*isqrt k (n/4)+1)*(2*isqrt k (n/4)+1)<=n then 2*isqrt k (n/4)+1 else 2*isqrt k (n/4)
def root (z:Int):Int:=isqrt (z.toNat.log2/2+1) z.toNat
def near (p q:Int):Nat->Int->Option (Int×Int)
 |0,_=>none
 |k+1,t=>if 16<=root ((t*t*p)/q)then some (root ((t*t*p)/q),t)else near p q k (t+t)
def shape (op:Op)(k:Nat):Int×Int:=
 if op=.fK then(if k=0 then(1,1)else((((k+1)/2*((k+1)/2):Nat):Int),((k+1:Nat):Int)))
 else if op=.atan then(if k=0 then(1,1)else(((k*k:Nat):Int),((2*k+1:Nat):Int)))
 else(1,((4*k+2:Nat):Int))
def gW (k:Nat):Int:=if k=0 then 2 else if k%3=2 then(((k+1)/3*2:Nat):Int)else 1
def constant (n:Nd)(k:Nat):Option Mt:=
 match n.op with
 |.pi=>some (if k=0 then⟨0,4,1,1⟩else⟨0,((k*k:Nat):Int),1,((2*k+1:Nat):Int)⟩)
 |.e=>some ⟨gW k,1,1,0⟩
 |.cf=>(n.terms[if k=0 then 0 else 1+(k-1)%(n.terms.length-1)]?).map fun a=>⟨a,1,1,0⟩
 |.sqrt=>(near n.p n.q 20000 1).map fun b=>⟨b.1*n.q,b.2*n.p,b.2*n.q,b.1*n.q⟩
 |.none=>none
 |op=>some (if op≠.fK/\0<k then⟨0,(shape op k).1*(n.p*n.p),n.q*n.q,(shape op k).2*(n.q*n.q)⟩else⟨0,(shape op k).1*n.p,n.q,(shape op k).2*n.q⟩)
def known (op:Op)(lo hi:V):Bool:=
 let d:=4*(hi.1*lo.2-lo.1*hi.2)
 let q:=lo.2*hi.2
 if op=.sqrt then decide (hi.1*lo.2<=2*(lo.1*hi.2))
 else if op=.exp then decide (d<=q)
 else if op=.fK then decide (d<=q+hi.2*lo.1)
 else decide (d<=q+hi.1*lo.1)
inductive Kind where
 |add|sub|mul|div
 deriving DecidableEq
def Kind.cols:Kind->List V
 |.add=>[(0,0),(1,0),(1,0),(0,1)]
 |.sub=>[(0,0),(1,0),(-1,0),(0,1)]
 |.mul=>[(1,0),(0,0),(0,0),(0,1)]
 |.div=>[(0,0),(1,0),(0,1),(0,0)]
def two (d:Kind)(e f:Bool)(a b:Nat):Nd:=fresh (e&&f&&decide (d≠.sub)) d.cols [a,b]
def raised (t:Nat):Nd:=fresh true [(1,-1),(1,1)] [t]
def row (op:Op)(p q:Int):Nd:={ fresh true [] []with op:=op,p:=p,q:=q}
open Classical in
noncomputable def more (ns:List Nd)(n:Nd):Option (List Nd):=if Ok n then some (ns++[n])else none
open Classical in
noncomputable def put (ns:List Nd)(i:Nat)(n:Nd):Option (List Nd):=if Ok n/\i<ns.length then some (ns.set i n)else none
noncomputable def outright (ns:List Nd)(op:Op)(p q:Int):Option (List Nd×Nat):=
 (more ns (row op p q)).bind fun a=>if op=.exp then(more a (raised ns.length)).map fun b=>(b,ns.length+1)else some (a,ns.length)
def eP (op:Op)(k:Nat)(a x:Nat)(sq:Option Nat):Nd:={ fresh true [(0,0),((shape op k).1,0),(0,1),(0,(shape op k).2)] [a]with op:=op,nest:=true,k:=k,x:=some x,eX:=sq}
noncomputable def nest (ns:List Nd)(op:Op)(k x:Nat)(sq:Option Nat):Option (List Nd×Nat):=
 if 0<k/\op≠.fK then
  match sq with
  |some s=>(more ns (eP op k s x (some s))).map fun a=>(a,ns.length)
  |none=>(ns[x]?).bind fun d=>(more ns (two .mul d.pos d.pos x x)).bind fun a=>(more a (eP op k ns.length x (some ns.length))).map fun b=>(b,ns.length+1)
 else(more ns (eP op k x x sq)).map fun a=>(a,ns.length)
noncomputable def deeper (ns:List Nd)(n:Nd):Option (List Nd×Nat):=
 if n.op=.sqrt then(n.args[0]?).bind fun a=>(more ns { fresh true n.t [a]with op:=n.op,nest:=true}).map fun b=>(b,ns.length)
 else n.x.bind fun x=>nest ns n.op (n.k+1) x n.eX
def jW (op:Op)(lo:V):List V:=[(lo.2,if op=.atan then lo.1 else 0),(-lo.1,if op=.fK then lo.1+lo.2 else lo.2)]
noncomputable def turn (ns:List Nd)(i:Nat)(n:Nd)(lo:V):Option (List Nd):=
 (n.args[0]?).bind fun x=>
 if n.op=.sqrt then(near lo.1 lo.2 20000 1).bind fun a=>put ns i {n with t:=[(0,0),(a.2,0),(a.1,a.2),(0,a.1)],nest:=true}
 else
  (if 0<lo.1 then(more ns (fresh true (jW n.op lo) [x])).map fun e=>(e,ns.length)else some (ns,x)).bind fun h=>
  (nest h.1 n.op 0 h.2 none).bind fun b=>
  (if n.op=.exp then(more b.1 (raised b.2)).map fun f=>(f,b.1.length)else some b).bind fun d=>
  if lo.1=0 then put d.1 i {n with args:=[d.2]}
  else(outright d.1 n.op lo.1 lo.2).bind fun g=>
   put g.1 i {n with t:=(if n.op=.exp then Kind.mul else Kind.add).cols,args:=[g.2,d.2],read:=[0,0]}
noncomputable def give (s:St)(i:Nat)(n:Nd)(c:Int):Option St:=
 (put s.nodes i {n with out:=n.out++[c],told:=n.told.mul (Mt.sym c),dP:=n.dP++[n.told.mul (Mt.sym c)]}).map fun ns=>⟨ns,s.clock-1⟩
def bump:List Nat->Nat->List Nat
 | [],_=>[]
 |r::a,0=>(r+1)::a
 |r::a,k+1=>r::bump a k
noncomputable def wide (s:St)(i:Nat)(n:Nd)(a:Nat):Option St:=
 if a=n.args.length then
  (deeper s.nodes n).bind fun d=>(put d.1 i {n with args:=n.args++[d.2],read:=n.read++[0]}).map fun ns=>⟨ns,s.clock⟩
 else some s
noncomputable def settle (ns:List Nd)(i:Nat)(n:Nd):Option (List Nd):=
 if n.aR then
  (ends ns n 0).bind fun e=>
  if known n.op e.2 e.1 then(put ns i {n with read:=n.read.set 0 0,aR:=false}).bind fun a=>turn a i {n with read:=n.read.set 0 0,aR:=false} e.2
  else some ns
 else some ns
noncomputable def after (s:St)(i b:Nat):Option (St×Bool):=
 (s.nodes[i]?).bind fun n=>
 (put s.nodes i {n with read:=bump n.read b}).bind fun ns=>
 if s.clock-1<0 then some (⟨ns,s.clock-1⟩,false)else
 (settle ns i {n with read:=bump n.read b}).map fun a=>(⟨a,s.clock-1⟩,true)
noncomputable def reads (d:St->Nat->Nat->Option (St×Option Int))(s:St)(i:Nat)(n:Nd):Option (St×Bool):=
 if n.t=[]then
  (constant n n.k).bind fun m=>(put s.nodes i {n with part:=n.part.mul m,k:=n.k+1}).map fun ns=>(⟨ns,s.clock-1⟩,decide (0<=s.clock-1))
 else
  (side s.nodes n).bind fun b=>(wide s i n b).bind fun f=>
  (f.nodes[i]?).bind fun e=>(e.args[b]?).bind fun a=>(e.read[b]?).bind fun r=>
  (d f a r).bind fun x=>match x.2 with
   |none=>some (x.1,false)
   |some _=>after x.1 i b
noncomputable def sym:Nat->St->Nat->Nat->Option (St×Option Int)
 |0,_,_,_=>none
 |f+1,s,i,j=>
  (s.nodes[i]?).bind fun n=>
  match n.out[j]? with
  |some c=>some (s,some c)
  |none=>
   (if n.aR then some none else next s.nodes n).bind fun o=>match o with
   |some c=>if s.clock-1<0 then some (⟨s.nodes,s.clock-1⟩,none)else(give s i n c).bind fun a=>sym f a i j
   |none=>(reads (sym f) s i n).bind fun x=>if x.2 then sym f x.1 i j else some (x.1,none)
end Rf
namespace Rf
open Nw
variable {w:Nat}
theorem aIk {m:Mt}(h:cY w m)(c:Int):cY (w+2) (m.mul (Mt.sym c)):=by
 obtain⟨a,b,d,f⟩:=h;unfold Bits at a b d f
 have e:2^(w+2)=4*2^w:=by rw[Nat.pow_add];omega
 unfold Mt.mul Mt.sym
 constructor<;>(unfold Bits;rw[e];generalize 2^w=N at *)<;>(repeat' split)<;>simp<;>omega
structure Up (m:Mt):Prop where
 a:0<=m.a
 b:0<=m.b
 c:0<=m.c
 d:0<=m.d
 det:0<m.a*m.d-m.b*m.c
theorem aRr:Up one:=⟨by decide,by decide,by decide,by decide,by decide⟩
theorem aVI {m:Mt}(h:Up m){s:Int}(a:s∈[(-1:Int),1,0]):Up (m.mul (Mt.sym s)):=by
 obtain⟨b,d,e,f,g⟩:=h;simp at a
 rcases a with rfl|rfl|rfl
 ·refine⟨?_,?_,?_,?_,?_⟩<;>simp[Mt.mul,Mt.sym]<;>(first|omega|grind)
 ·refine⟨?_,?_,?_,?_,?_⟩<;>simp[Mt.mul,Mt.sym]<;>(first|omega|grind)
 ·refine⟨?_,?_,?_,?_,?_⟩<;>simp[Mt.mul,Mt.sym]<;>(first|omega|grind)
theorem aJU (m s:Mt)(v:V):fH (m.mul s) v=fH s (fH m v):=by
 unfold fH Mt.mul Mt.vD Mt.vE;simp only[Prod.mk.injEq]
 constructor<;>grind
theorem Fm (v:V):fH one v=v:=by
 unfold fH one Mt.vD Mt.vE;simp
theorem mL (v:V):fits [v]=true↔((0<=v.1/\0<=v.2/\(0<v.1\/0<v.2))\/(v.1<=0/\v.2<=0/\(v.1<0\/v.2<0))):=by
 unfold fits oT lJ;simp
 by_cases a:0<v.1<;>by_cases b:0<v.2<;>by_cases c:v.1<0<;>by_cases d:v.2<0<;>simp[a,b,c,d]<;>omega
theorem aMI {B:V}(h:fits [B]=true):∃s,[(-1:Int),1,0].find? (can [B])=some s:=by
 have:([(-1:Int),1,0].find? (can [B])).isSome=true:=by
  rw[List.find?_isSome];have a:=(mL B).1 h
  have k1:can [B] (-1)=true\/can [B] 1=true:=by
   unfold can;simp only[List.map_cons,List.map_nil];rw[mL,mL];simp[fH,Mt.sym,Mt.vD,Mt.vE];omega
  rcases k1 with k|k
  ·exact⟨-1,by simp,k⟩
  ·exact⟨1,by simp,k⟩
 exact Option.isSome_iff_exists.1 this
theorem aO6 {B:V}(a:B.1<0)(b:0<B.2):∃s,[(43:Int),45,111,119].find? (can [B])=some s:=by
 have:([(43:Int),45,111,119].find? (can [B])).isSome=true:=by
  rw[List.find?_isSome];refine⟨45,by simp,?_⟩;unfold can;simp only[List.map_cons,List.map_nil];rw[mL];simp[fH,Mt.sym,Mt.vD,Mt.vE];omega
 exact Option.isSome_iff_exists.1 this
theorem aPk {L:List V}{ts:List Int}{s:Int}(h:ts.find? (can L)=some s):can L s=true/\s∈ts:=⟨List.find?_some h,List.mem_of_find?_eq_some h⟩
theorem aGp:∀(k n:Nat),n<4^k->isqrt k n*isqrt k n<=n/\n<(isqrt k n+1)*(isqrt k n+1)
 |0,n,h=>by
  have:n=0:=by simpa using h
  subst this;simp[isqrt]
 |k+1,n,h=>by
  have g:n/4<4^k:=by
   rw[Nat.pow_succ]at h;omega
  obtain⟨i,f⟩:=aGp k (n/4) g;unfold isqrt;generalize isqrt k (n/4)=r at*
  have a:2*r*(2*r)=4*(r*r):=by grind
  have b:(2*r+1)*(2*r+1)=4*(r*r)+4*r+1:=by grind
  have d:(2*r+1+1)*(2*r+1+1)=4*(r*r)+8*r+4:=by grind
  have e:(r+1)*(r+1)=r*r+2*r+1:=by grind
  rw[e]at f;split
  ·rename_i hc;refine⟨hc,?_⟩;rw[d];omega
  ·rename_i hc;rw[a,b]at*;exact⟨by omega,by omega⟩
variable {v:Int}
theorem Ni (h:0<=v):0<=root v/\root v*root v<=v/\v<(root v+1)*(root v+1):=by
 obtain⟨n,rfl⟩:=Int.eq_ofNat_of_zero_le h;unfold root;rw[Int.toNat_natCast]
 have d:n<4^(n.log2/2+1):=by
  rw[show(4:Nat)=2^2 by rfl,<-Nat.pow_mul];refine Nat.lt_of_lt_of_le (Nat.lt_log2_self) (Nat.pow_le_pow_right (by decide) (by omega))
 obtain⟨a,b⟩:=aGp _ n d;generalize isqrt (n.log2/2+1) n=r at*;refine⟨by omega,?_,?_⟩
 ·rw[<-Int.natCast_mul];exact Int.ofNat_le.2 a
 ·have:((r:Int)+1)*((r:Int)+1)=(((r+1)*(r+1):Nat):Int):=by simp
  rw[this];exact Int.ofNat_lt.2 b
theorem aSS {k:Int}(a:0<=k)(h:k*k<=v):k<=root v:=by
 have b:0<=v:=Int.le_trans (Int.mul_nonneg a a) h;obtain⟨d,e,f⟩:=Ni b
 rcases Int.lt_or_le (root v) k with h4|h4
 ·have:(root v+1)*(root v+1)<=k*k:=Int.mul_le_mul (by omega) (by omega) (by omega) (by omega);omega
 ·exact h4
theorem Uq (h:0<=v):root v<=v:=by
 obtain⟨a,b,d⟩:=Ni h
 rcases Int.lt_or_le (root v) 1 with h4|h4
 ·omega
 ·have:root v*1<=root v*root v:=Int.mul_le_mul_of_nonneg_left h4 a;omega
theorem aIn {p q:Int}(r:0<p)(i:0<q):∀(k:Nat) (t:Int),0<t->q*256<=t*t*4^k->∃a b,near p q (k+1) t=some (a,b)/\16<=a/\a<=b*b*p/\0<b/\b<=t*2^k
 |0,t,g,h=>by
  have f:0<=t*t*p:=Int.mul_nonneg (Int.mul_nonneg (by omega) (by omega)) (by omega)
  have s:256<=t*t*p/q:=by
   refine(Int.le_ediv_iff_mul_le i).2 ?_;have:t*t*1<=t*t*p:=Int.mul_le_mul_of_nonneg_left (by omega) (Int.mul_nonneg (by omega) (by omega));simp at h;omega
  have d:16<=root (t*t*p/q):=aSS (by decide) (by omega);exact⟨_,_,by unfold near;rw[if_pos d],d,Int.le_trans (Uq (by omega)) (Int.ediv_le_self _ f),g,by simp⟩
 |k+1,t,g,h=>by
  have f:0<=t*t*p:=Int.mul_nonneg (Int.mul_nonneg (by omega) (by omega)) (by omega)
  by_cases d:16<=root (t*t*p/q)
  ·refine⟨_,_,by unfold near;rw[if_pos d],d,Int.le_trans (Uq (Int.ediv_nonneg f (by omega))) (Int.ediv_le_self _ f),g,?_⟩
   have:(1:Int)<=2^(k+1):=by have:(0:Int)<2^(k+1):=Int.pow_pos (by decide);omega
   have:=Int.mul_le_mul_of_nonneg_left this (show 0<=t by omega);omega
  ·obtain ⟨a,b,j,l,n,o,u⟩:=aIn r i k (t+t) (by omega) (by
    have e:(t+t)*(t+t)=t*t*4:=by grind
    rw[e,Int.mul_assoc,<-Int.pow_succ']
    exact h)
   refine⟨a,b,by unfold near;rw[if_neg d];exact j,l,n,o,?_⟩;rw[Int.pow_succ]
   have:(t+t)*2^k=t*(2^k*2):=by grind
   omega
theorem aIm {p q:Int}{r:Int×Int}:∀(k m:Nat) (t:Int),k<=m->near p q k t=some r->near p q m t=some r
 |0,_,_,_,h=>by simp[near]at h
 |k+1,0,_,a,_=>by omega
 |k+1,m+1,t,a,h=>by
  unfold near at h ⊢;split at h
  ·rename_i hc;rw[if_pos hc];exact h
  ·rename_i hc;rw[if_neg hc];exact aIm k m _ (by omega) h
theorem aQY {q:Int}(h:Bits w q):q<2^w:=by
 unfold Bits at h;have:((q.natAbs:Nat):Int)<((2^w:Nat):Int):=Int.ofNat_lt.2 h;rw[Int.natCast_pow]at this;have e:(((2:Nat):Int))=2:=rfl;rw[e]at this;generalize (2:Int)^w=N at*;omega
theorem aU3 {b:Int}(a:0<=b)(h:b<=2^w):Bits (w+1) b:=by
 unfold Bits;rw[Nat.pow_succ]
 have e:(2:Int)^w=((2^w:Nat):Int):=by rw[Int.natCast_pow];rfl
 rw[e]at h;have:0<2^w:=Nat.pow_pos (by decide);generalize (2:Nat)^w=N at*;omega
theorem Ny {p q:Int}(l:0<p)(n:0<q)(g:Bits 6100 p)(h:Bits 6100 q):∃a b,near p q 20000 1=some (a,b)/\16<=a/\0<b/\Bits 12300 a/\Bits 3100 b:=by
 have o:q<2^6100:=aQY h
 obtain ⟨a,b,i,j,r,k,f⟩:=aIn l n 3060 1 (by decide) (by
  have e:(1:Int)*1*4^3060=2^6100*2^20:=by
   rw[<-Int.pow_add,show(4:Int)=2^2 by rfl,<-Int.pow_mul,Int.one_mul,Int.one_mul]
  rw[e]
  have:(2:Int)^20=1048576:=by decide
  rw[this];generalize (2:Int)^6100=N at*
  omega)
 have d:Bits 3061 b:=aU3 (by omega) (by rw[Int.one_mul]at f;exact f);refine⟨a,b,aIm _ _ _ (by decide) i,j,k,?_,eG d (by decide)⟩;exact Hk (fW (fW d d) g) (by omega) (by decide)
end Rf
open Go.RowKit
namespace Ab
def aV (x y:Int):Int:=(Nat.gcd x.natAbs y.natAbs:Nat)
theorem aUV:bQ Z 138 (gZ true (f2 aV) bJ (fun ns=>ns.foldr max 0) [90,90]):=by
 refine Vu (bI func138 rfl rfl).en (fun x y n m j k=>?_) (fun w x y u v d f g i=>aLo w x y u v (10000000*90) d f g i (by decide));have a:Bits (max n (max m 0)) x:=eG j (by omega);have b:Bits (max n (max m 0)) y:=eG k (by omega);show((Nat.gcd x.natAbs y.natAbs:Nat):Int).natAbs<2^(10000000*max n (max m 0))
 have e:((Nat.gcd x.natAbs y.natAbs:Nat):Int).natAbs=Nat.gcd x.natAbs y.natAbs:=by omega
 rw[e]
 rcases Nat.eq_zero_or_pos x.natAbs with h|h
 ·rw[h,Nat.gcd_zero_left];exact b
 ·exact Nat.lt_of_le_of_lt (Nat.gcd_le_left _ h) a
noncomputable def Jq:List (FuncId×TE):=(165,gZ true (yN cp) bJ (fun _=>0) [40,40,40,40])::(138,gZ true (f2 aV) bJ (fun ns=>ns.foldr max 0) [90,90])::tW0
theorem aRl:cX Z Jq:=⟨aV5,aUV,aRk⟩
theorem aYi {v r:Int}(f:0<v)(d:0<r):0<(r+v/r)/2/\v<((r+v/r)/2+1)*((r+v/r)/2+1)/\(r<=(r+v/r)/2->r*r<=v):=by
 have g:0<=v/r:=Int.ediv_nonneg (by omega) (by omega);have i:r*(v/r)<=v:=Int.mul_ediv_self_le (by omega)
 have j:v<r*(v/r+1):=by
  have:=Int.lt_mul_ediv_self_add (x:=v) d;rw[Int.mul_add];omega
 generalize v/r=q at*;have b0:0<=(r+q)/2:=Int.ediv_nonneg (by omega) (by omega)
 have b1:r+q+1<=2*((r+q)/2+1):=by omega
 have b2:(r<=(r+q)/2)->r<=q:=by omega
 generalize (r+q)/2=b at*
 have k:4*(r*(q+1))<=(r+q+1)*(r+q+1):=by
  have:0<=(r-(q+1))*(r-(q+1)):=by
   rcases Int.le_total 0 (r-(q+1))with h|h
   ·exact Int.mul_nonneg h h
   ·exact Int.mul_nonneg_of_nonpos_of_nonpos h h
  have e:(r+q+1)*(r+q+1)=4*(r*(q+1))+(r-(q+1))*(r-(q+1)):=by grind
  omega
 have l:(r+q+1)*(r+q+1)<=(2*(b+1))*(2*(b+1)):=Int.mul_le_mul b1 b1 (by omega) (by omega)
 have n:(2*(b+1))*(2*(b+1))=4*((b+1)*(b+1)):=by grind
 have a:v<(b+1)*(b+1):=by omega
 refine⟨?_,a,fun h=>?_⟩
 ·rcases Int.lt_or_le 0 b with h|h
  ·exact h
  ·have:b=0:=by omega
   subst this;omega
 ·have:=b2 h;have:r*r<=r*q:=Int.mul_le_mul_of_nonneg_left this (by omega);omega
theorem Qk {x:Int}(h:0<=x):iA x 1=x/2:=by
 unfold iA Nm.half;rw[show decide ((1:Int)<1)=false from rfl,cond_false,if_neg (by omega)]
 have a:(x.natAbs:Int)=x:=by omega
 have b:(2:Int)^((1:Int).toNat)=2:=rfl;rw[a,b]
theorem aOi {v r:Int}(a:0<=v)(i:0<=r)(f:r*r<=v)(g:v<(r+1)*(r+1)):Rf.root v=r:=by
 obtain⟨b,d,e⟩:=Rf.Ni a
 rcases Int.lt_trichotomy (Rf.root v) r with h|h|h
 ·have:(Rf.root v+1)*(Rf.root v+1)<=r*r:=Int.mul_le_mul (by omega) (by omega) (by omega) (by omega);omega
 ·exact h
 ·have:(r+1)*(r+1)<=Rf.root v*Rf.root v:=Int.mul_le_mul (by omega) (by omega) (by omega) (by omega);omega
theorem Yi (k:Nat):Go.Proofs.YtkmojpfpfoaloaaGreatDoor.Bits (k+1) ((2:Int)^k):=by
 show((2:Int)^k).natAbs<2^(k+1);rw[Int.natAbs_pow];exact Nat.pow_lt_pow_right (by decide) (by omega)
def wI (z r:Int):AS:=
 ⟨[.top,.val (.one (.ptr 0 0)),.val (.one (.ptr 1 0)),.top,.val (.one (.ptr 10 0))]++List.replicate 36 .top,
  [(0,⟨[.sg 0,.dg true 0],89,true,false,false⟩),(1,⟨[.bool false,.lit (.slice none 0 0)],89,true,false,false⟩),(10,⟨[.sg 1,.dg true 1],89,true,false,false⟩)],11,[(z,10),(r,11)],[]⟩
def lV (z:Int):Int:=Wr ((Wr ((Nm.bl z:Int)+1)).tdiv 2)
theorem aLX (z:Int):(run Z (fJ wJ (aE Jq)) (fun _=>none) (aO Z (fJ wJ (aE Jq))) qJ 300 [.code (aF f143),.top f143] (start f143 (dY true [.ns [z]] [10]))).bind (jU true [0,1,10] [1,2,4] 11 [10,11])=
  some (.br (decide (Nm.cmp z 0<=0)) (.ret (.one (.ns [0]))) (.need [0<=lV z/\lV z<=900000000/\10000000*1+(lV z).toNat<=1000000000] (.need [0<=((1:Int).natAbs:Int)*2^(lV z).toNat,Bits 10 z,Bits 11 (((1:Int).natAbs:Int)*2^(lV z).toNat)] (.again (.code (.loop (rL (aF f143) f143))::wA (aF f143) f143) (wI z (((1:Int).natAbs:Int)*2^(lV z).toNat)))))):=by kernel_rfl
theorem aLY (z r:Int)(n:Nat):(run Z (fJ wJ (aE Jq)) (fun _=>none) (aO Z (fJ wJ (aE Jq))) kB 300 (.code (rL (aF f143) f143)::.lp (rL (aF f143) f143) n::wA (aF f143) f143) (wI z r)).bind (jU true [0,1,10] [1,2,4] 11 [10,11])=
  some (.br (decide (0<Nm.cmp r 0)) (.need [0<r] (.need [(1:Int)<=1/\(1:Int)<=1000000000] (.br (decide (0<=Nm.cmp (iA (r+z/r) 1) r)) (.ret (.one (.ns [r]))) (.need [Bits 10 z,Bits 11 (iA (r+z/r) 1)] (.again (.lp (rL (aF f143) f143) n::wA (aF f143) f143) (wI z (iA (r+z/r) 1))))))) (.ret (.one (.ns [r])))):=by kernel_rfl
def vQ:List G->Option RG
 | [.ns [z]]=>some (.one (.ns [Rf.root z]))
 |_=>none
def Au:List G->List Prop
 | [.ns [z]]=>[0<=z]
 |_=>[]
theorem aST:bQ Z 143 (gZ true vQ Au (fun ns=>ns.headD 0) [10]):=by
 refine Bv (l:=Jq) aRl Ve (bI func143 rfl rfl) (kb:=[0,1,10]) (kt:=[1,2,4]) (nx:=11) (rb:=[10,11]) ?_ (by kernel_rfl) ?_
 ·intro x ns out h b g L;unfold vQ at h;split at h
  ·rename_i z;cases h;have b:0<=z:=b.one
   match ns,g with
   | [n],⟨g,_⟩=>
    intro y v;simp at v;subst v;have k:=g z (by simp);have A:=Rf.Uq b;have B:=(Rf.Ni b).1;exact Hk k (by omega) (Nat.le_refl _)
  ·cases h
 ·intro x out h b g;unfold vQ at h;split at h
  ·rename_i z;cases h;have b:0<=z:=b.one;have j:Bits 10 z:=g.1 z (by simp);have D:=Oz j
   have C:lV z=(((Nm.bl z+1)/2:Nat):Int):=by
    have J:Wr ((Nm.bl z:Int)+1)=(Nm.bl z:Int)+1:=mI (by omega) (by omega);unfold lV;rw[J]
    have:((Nm.bl z:Int)+1).tdiv 2=(((Nm.bl z+1)/2:Nat):Int):=by
     rw[Int.tdiv_eq_ediv_of_nonneg (by omega)];omega
    rw[this];exact mI (by omega) (by omega)
   have w:((1:Int).natAbs:Int)*2^(lV z).toNat=2^((Nm.bl z+1)/2):=by
    rw[C,Int.toNat_natCast];show(1:Int)*_=_;rw[Int.one_mul]
   have E:(0:Int)<2^((Nm.bl z+1)/2):=Nm.jZ (by decide) _;have b2:Bits 11 (2^((Nm.bl z+1)/2):Int):=Kr (Yi ((Nm.bl z+1)/2)) (by omega);refine⟨fun m s=>∃r:Int,s=wI z r/\0<r/\0<z/\z<(r+1)*(r+1)/\Bits 11 r/\m=r.toNat,⟨300,_,aLX z,?_,?_⟩,?_⟩
   ·intro d
    have d:Nm.cmp z 0<=0:=by simpa using d
    have:z=0:=by
     rcases Int.lt_or_eq_of_le b with h|h
     ·rw[Nm.gV h]at d;omega
     ·exact h.symm
    subst this;rw[aOi (r:=0) (by decide) (by decide) (by decide) (by decide)];exact rfl
   ·intro d
    have d:¬Nm.cmp z 0<=0:=by simpa using d
    have i:0<z:=by
     rcases Int.lt_or_eq_of_le b with h|h
     ·exact h
     ·exfalso;apply d;rw[Nm.jA h.symm];decide
    rw[w];refine⟨gR ⟨by omega,by omega,by omega⟩ iC,gR (by omega) (gR j (gR b2 iC)),rfl,_,_,rfl,E,i,?_,b2,rfl⟩;have k:=(Fs (z:=z) (by omega)).2.2
    have A:(2:Int)^Nm.bl z<=2^((Nm.bl z+1)/2)*2^((Nm.bl z+1)/2):=by
     rw[<-Int.pow_add];exact Nm.tK (by decide) (by omega)
    have B:z<(2:Int)^Nm.bl z:=by
     have:((z.natAbs:Nat):Int)<((2^Nm.bl z:Nat):Int):=Int.ofNat_lt.2 k;rw[Int.natCast_pow]at this;have e:((2:Nat):Int)=2:=rfl;rw[e]at this;omega
    generalize (2:Int)^((Nm.bl z+1)/2)=P at*
    have e:(P+1)*(P+1)=P*P+2*P+1:=by grind
    omega
   ·rintro m s⟨r,rfl,p,i,o,br,rfl⟩ n;obtain⟨F,H,I⟩:=aYi i p;have M:0<=z/r:=Int.ediv_nonneg (by omega) (by omega);have u:iA (r+z/r) 1=(r+z/r)/2:=Qk (by omega);refine⟨300,_,aLY z r n,?_,?_⟩
    ·intro _;refine⟨gR p iC,gR (by decide) iC,?_,?_⟩
     ·intro a
      have a:0<=Nm.cmp (iA (r+z/r) 1) r:=by simpa using a
      rw[u]at a
      have h8:r<=(r+z/r)/2:=by
       rcases Int.lt_or_le ((r+z/r)/2) r with h|h
       ·rw[Nm.jB h]at a;omega
       ·exact h
      rw[aOi b (by omega) (I h8) o];exact rfl
     ·intro a
      have a:¬0<=Nm.cmp (iA (r+z/r) 1) r:=by simpa using a
      rw[u]at a ⊢
      have h8:(r+z/r)/2<r:=by
       rcases Int.lt_or_le ((r+z/r)/2) r with h|h
       ·exact h
       ·exfalso;apply a
        rcases Int.lt_or_eq_of_le h with h|h
        ·rw[Nm.gV h];decide
        ·rw[Nm.jA h.symm];decide
      have q:Bits 11 ((r+z/r)/2):=Hk br (by omega) (Nat.le_refl _);exact⟨gR j (gR q iC),rfl,((r+z/r)/2).toNat,by omega,_,rfl,F,i,H,q,rfl⟩
    ·intro f
     have f:¬0<Nm.cmp r 0:=by simpa using f
     exfalso;apply f;rw[Nm.gV p];decide
  ·cases h
noncomputable def tW:List (FuncId×TE):=(143,gZ true vQ Au (fun ns=>ns.headD 0) [10])::Jq
theorem Lc:cX Z tW:=⟨aST,aRl⟩
def jJ (k:Bool):Out->Option (List Prop×RG×Nat)
 |.ret (.val v)=>(gT k v).map fun g=>([],.one g.1,g.2)
 |.ret (.tup e)=>(eW (gT k) e).map fun d=>([],.tup (d.map (·.1)),(d.map (·.2)).foldr max 0)
 |.br t x y=>(jJ k x).bind fun a=>(jJ k y).bind fun b=>(Dv t a.2.1 b.2.1).map fun c=>(a.1.map (fun p=>t=true->p)++b.1.map (fun p=>t=false->p),c,max a.2.2 b.2.2)
 |.need p o=>(jJ k o).map fun a=>(p++a.1,a.2)
theorem aQT {k:Bool}{w:Nat}{n:World}:∀{b:List VT} {a:List (G×Nat)} {d:List Value},eW (gT k) b=some a->(a.map (·.2)).foldr max 0<=w->All2 (lG Z n) b d->All2 (lG Z n) ((a.map (·.1)).map (oQ k w)) d
 | [],a,[],h,_,_=>by simp[eW]at h;subst h;trivial
 |v::b,a,x::d,h,i,⟨l,o⟩=>by
  unfold eW at h;obtain⟨y,e,f⟩:=aU h;obtain⟨p,g,rfl⟩:=cA f;simp only[List.map_cons,List.foldr_cons]at i;obtain⟨k1,j⟩:=Lg e l;exact⟨j w (k1.mono (by omega)),aQT g (by omega) o⟩
 | [],_,_::_,_,_,h=>h.elim
 |_::_,_,[],_,_,h=>h.elim
theorem Db {k:Bool}{w:Nat}:∀{o:Out} {r:List Prop} {out:RG} {m:Nat},jJ k o=some (r,out,m)->Holds r->m<=w->o.ok fun F=>∀d v,RRV Z d F v->RRV Z d (wG k w out) v
 |.ret (.val t),r,out,m,h,_,f=>by
  simp only[jJ]at h;obtain⟨⟨g,J⟩,i,j⟩:=cA h;cases j;intro d v hv;obtain⟨k1,D⟩:=Lg i hv;exact D w (k1.mono f)
 |.ret (.tup vs),r,out,m,h,_,f=>by
  simp only[jJ]at h;obtain⟨I,i,j⟩:=cA h;cases j;rintro d v⟨H,e,hv⟩;exact⟨H,e,aQT i f hv⟩
 |.br t x y,r,out,m,h,s,f=>by
  simp only[jJ]at h;obtain⟨⟨p1,a,E⟩,i,j⟩:=aU h;obtain⟨⟨M,b,L⟩,z,A⟩:=aU j;obtain⟨c,B,C⟩:=cA A;cases C;have u:=aNB B;refine⟨fun e=>?_,fun e=>?_⟩
  ·subst e;subst u;exact Db i (fun q l=>s (true=true->q) (List.mem_append_left _ (List.mem_map.2 ⟨q,l,rfl⟩)) rfl) (by simp only at f ⊢;omega)
  ·subst e;subst u;exact Db z (fun q l=>s (false=false->q) (List.mem_append_right _ (List.mem_map.2 ⟨q,l,rfl⟩)) rfl) (by simp only at f ⊢;omega)
 |.need p o,r,out,m,h,s,f=>by
  simp only[jJ]at h;obtain⟨⟨p1,a,E⟩,i,j⟩:=cA h;cases j;exact⟨fun q l=>s q (by simp[l]),Db i (fun q l=>s q (by simp[l])) f⟩
abbrev eM (k:Bool)(F:List G->Option RG)(nd:List G->List Prop)(N:Nat)(a:List Nat):TE:=gZ k F nd (fun _=>N) a
variable {l:List (FuncId×TE)}{P:FuncId}{F:List G->Option RG}{nd:List G->List Prop}{d:List Nat}
theorem jG (D:cX Z l){b:FuncId->Option Func}(u:bV Z b){fn:Func}(g:Fn P fn){k:Bool}{w:Nat}
  (h:∀e out,F e=some out->∃A m,((run Z (aE l) b (aO Z (aE l)) (fun _=>false) 2000 [.code (aF fn),.top fn] (start fn (dY k e d))).bind outcome).bind (jJ k)=some (A,out,m)/\m<=w/\(Holds (nd e)->pL e d->Holds A)):bQ Z P (eM k F nd w d):=by
 refine⟨g.en,fun ts r p q S a B x=>?_⟩;unfold eM gZ at q;obtain⟨C,J,n⟩:=aU q
 cases j:mO (C.map (·.2)) d with
 |false=>rw[j]at n;cases n
 |true=>
  rw[j]at n;simp only[cond_true]at n;obtain⟨out,L,M⟩:=cA n;cases M;obtain⟨H,g2,I⟩:=Mv ts C d B J j x;obtain⟨A,m,k1,X,E⟩:=h _ out L;have z:=E S I;clear E;generalize C.map (·.1)=e at*;obtain⟨o,Y,k5⟩:=aU k1;obtain⟨tr,k6,k7⟩:=aU Y
  have R:At (eA 0 (dY k e d)).2 0 (eA 0 (dY k e d)).2:=fun i y W=>by rw[Nat.zero_add];exact W
  refine mC (w0:=a) (ψ:=fun _=>none) (φ:=fun _=>none) (s:=start fn (dY k e d)) (vs:=(eA 0 (dY k e d)).1) (dH D) u (rD mixed (dH D)) g.at' g.body rfl (Hd _ 0 B R H) (Nh fn _ a) 2000 k6 _ (fun _ _=>False) (fun _ _ h=>h.elim) (yD k7 (Db k5 z X)) ?_;rintro r0 s φ v w'⟨hc,r',O,h8⟩ T U;exact⟨v,rfl,h8 w' v (Ce O T),RepF.below U hc⟩
theorem fD (g:cX Z l){fn:Func}(b:Fn P fn){w:Nat}
  (h:∀a out,F a=some out->((run Z (aE l) (fun _=>none) (aO Z (aE l)) (fun _=>false) 2000 [.code (aF fn),.top fn] (start fn (dY true a d))).bind outcome).bind (jJ true)=some ([],out,w)):bQ Z P (eM true F bJ w d):=
 jG g dT b fun a out e=>⟨[],w,h a out e,Nat.le_refl _,fun _ _=>iC⟩
theorem aIM {k:Bool}{o:List G->Option RG}{j:List G->List Prop}{n:List Nat->Nat}(h:bQ Z P (gZ k F nd n d))(y:∀b out,o b=some out->Holds (j b)->pL b d->F b=some out/\Holds (nd b)):bQ Z P (gZ k o j n d):=by
 refine⟨h.1,fun ts r p g z w s i=>?_⟩;unfold gZ at g;obtain⟨l,q,e⟩:=aU g
 cases a:mO (l.map (·.2)) d with
 |false=>rw[a]at e;cases e
 |true=>
  rw[a]at e;simp only[cond_true]at e;obtain⟨out,v,x⟩:=cA e;cases x;obtain⟨B,C,u⟩:=Mv ts l d s q a i;obtain⟨k1,A⟩:=y _ out v z u;exact h.2 ts (wG k (n (l.map (·.2))) out) (nd (l.map (·.1))) (by unfold gZ;rw[q];simp only[Option.bind_some,a,cond_true,k1,Option.map_some]) A w s i
def aH (t b:Int):Int:=bif decide (Nm.cmp b 0<0)then -t/aV t b else bif Nm.cmp b 0==0 then(bif decide (Nm.cmp t 0<0)then -t/aV t b else t/aV t b)else t/aV t b
def aK (t b:Int):Int:=bif decide (Nm.cmp b 0<0)then -b/aV t b else bif Nm.cmp b 0==0 then(bif decide (Nm.cmp t 0<0)then -b/aV t b else b/aV t b)else b/aV t b
def xM:List G->Option RG
 | [.ns [t],.ns [b]]=>some (.one (.ns [aH t b,aK t b]))
 |_=>none
def sP:List G->List Prop
 | [.ns [t],.ns [b]]=>[0<aV t b]
 |_=>[]
theorem aQX:bQ Z 113 (eM true xM sP 41 [40,40]):=by
 refine jG (l:=tW) Lc dT (bI func113 rfl rfl) ?_;intro d out h;unfold xM at h;split at h
 ·rename_i t b;cases h;refine⟨[decide (Nm.cmp b 0<0)=true->0<aV t b,decide (Nm.cmp b 0<0)=true->0<aV t b,decide (Nm.cmp b 0<0)=false->(Nm.cmp b 0==0)=true->decide (Nm.cmp t 0<0)=true->0<aV t b,decide (Nm.cmp b 0<0)=false->(Nm.cmp b 0==0)=true->decide (Nm.cmp t 0<0)=true->0<aV t b,decide (Nm.cmp b 0<0)=false->(Nm.cmp b 0==0)=true->decide (Nm.cmp t 0<0)=false->0<aV t b,decide (Nm.cmp b 0<0)=false->(Nm.cmp b 0==0)=true->decide (Nm.cmp t 0<0)=false->0<aV t b,decide (Nm.cmp b 0<0)=false->(Nm.cmp b 0==0)=false->0<aV t b,decide (Nm.cmp b 0<0)=false->(Nm.cmp b 0==0)=false->0<aV t b],41,by kernel_rfl,by decide,fun a e=>?_⟩;have a:0<aV t b:=a.one;exact gR (fun _=>a) (gR (fun _=>a) (gR (fun _ _ _=>a) (gR (fun _ _ _=>a) (gR (fun _ _ _=>a) (gR (fun _ _ _=>a) (gR (fun _ _=>a) (gR (fun _ _=>a) iC)))))))
 ·cases h
def vK:List Int->Option (List Int)
 | [n]=>some [n,1]
 |_=>none
theorem aR7:bQ Z 56 (Bo true vK):=by
 refine Bu Lc (bI func56 rfl rfl) ?_ ?_
 ·intro d out h;unfold vK at h;split at h
  ·rename_i n;cases h;exact⟨[n.natAbs<1000000000000000000],by kernel_rfl,fun h=>gR (h n (by simp)) iC⟩
  ·cases h
 ·intro d out h b;unfold vK at h;split at h
  ·rename_i n;cases h;intro z a;simp at a
   rcases a with rfl|rfl
   ·exact iQ (b _ (by simp))
   ·exact iQ (by decide)
  ·cases h
def qP:List G->Option RG
 | [.ns [t,b]]=>some (.one (.i .i64 (Nm.cmp t 0)))
 |_=>none
theorem aNa:bQ Z 75 (eM true qP bJ 0 [90]):=fD Lc (bI func75 rfl rfl) fun _ _ h=>by
 unfold qP at h
 split at h<;>cases h
 kernel_rfl
def uK:List G->Option RG
 | [.ns [t,b]]=>some (.one (.ns [-t,b]))
 |_=>none
theorem aPm:bQ Z 74 (eM true uK bJ 10 [10]):=fD Lc (bI func74 rfl rfl) fun _ _ h=>by
 unfold uK at h
 split at h<;>cases h
 kernel_rfl
noncomputable def Rj:List (FuncId×TE):=(113,eM true xM sP 41 [40,40])::(56,Bo true vK)::(75,eM true qP bJ 0 [90])::(74,eM true uK bJ 10 [10])::tW
theorem Uw:cX Z Rj:=⟨aQX,aR7,aNa,aPm,Lc⟩
def mZ (top e:Int->Int->Int->Int->Int):List G->Option RG
 | [.ns [a,b],.ns [c,d]]=>some (.one (.ns [aH (top a b c d) (e a b c d),aK (top a b c d) (e a b c d)]))
 |_=>none
def mP (top e:Int->Int->Int->Int->Int):List G->List Prop
 | [.ns [a,b],.ns [c,d]]=>[0<aV (top a b c d) (e a b c d)]
 |_=>[]
theorem aM9:bQ Z 91 (eM true (mZ (fun a b c d=>a*d+c*b) (fun a b c d=>b*d)) (mP (fun a b c d=>a*d+c*b) (fun a b c d=>b*d)) 41 [10,10]):=by
 refine jG (l:=Rj) Uw dT (bI func91 rfl rfl) ?_;intro f out h;unfold mZ at h;split at h
 ·rename_i a b c d;cases h;exact⟨[0<aV (a*d+c*b) (b*d)],41,by kernel_rfl,by decide,fun e _=>gR e.one iC⟩
 ·cases h
theorem aLv:bQ Z 93 (eM true (mZ (fun a b c d=>a*c) (fun a b c d=>b*d)) (mP (fun a b c d=>a*c) (fun a b c d=>b*d)) 41 [10,10]):=by
 refine jG (l:=Rj) Uw dT (bI func93 rfl rfl) ?_;intro f out h;unfold mZ at h;split at h
 ·rename_i a b c d;cases h;exact⟨[0<aV (a*c) (b*d)],41,by kernel_rfl,by decide,fun e _=>gR e.one iC⟩
 ·cases h
theorem aM8:bQ Z 94 (eM true (mZ (fun a b c d=>a*d) (fun a b c d=>b*c)) (mP (fun a b c d=>a*d) (fun a b c d=>b*c)) 41 [10,10]):=by
 refine jG (l:=Rj) Uw dT (bI func94 rfl rfl) ?_;intro f out h;unfold mZ at h;split at h
 ·rename_i a b c d;cases h;exact⟨[0<aV (a*d) (b*c)],41,by kernel_rfl,by decide,fun e _=>gR e.one iC⟩
 ·cases h
noncomputable def tF1:List (FuncId×TE):=(91,eM true (mZ (fun a b c d=>a*d+c*b) (fun a b c d=>b*d)) (mP (fun a b c d=>a*d+c*b) (fun a b c d=>b*d)) 41 [10,10])::(93,eM true (mZ (fun a b c d=>a*c) (fun a b c d=>b*d)) (mP (fun a b c d=>a*c) (fun a b c d=>b*d)) 41 [10,10])::(94,eM true (mZ (fun a b c d=>a*d) (fun a b c d=>b*c)) (mP (fun a b c d=>a*d) (fun a b c d=>b*c)) 41 [10,10])::Rj
theorem aRh:cX Z tF1:=⟨aM9,aLv,aM8,Uw⟩
theorem aLu:bQ Z 92 (eM true (mZ (fun a b c d=>a*d+-c*b) (fun a b c d=>b*d)) (mP (fun a b c d=>a*d+-c*b) (fun a b c d=>b*d)) 41 [10,10]):=by
 refine jG (l:=tF1) aRh dT (bI func92 rfl rfl) ?_;intro f out h;unfold mZ at h;split at h
 ·rename_i a b c d;cases h;exact⟨[0<aV (a*d+-c*b) (b*d)],41,by kernel_rfl,by decide,fun e _=>gR e.one iC⟩
 ·cases h
noncomputable def tF:List (FuncId×TE):=(92,eM true (mZ (fun a b c d=>a*d+-c*b) (fun a b c d=>b*d)) (mP (fun a b c d=>a*d+-c*b) (fun a b c d=>b*d)) 41 [10,10])::tF1
theorem aVz:cX Z tF:=⟨aLu,aRh⟩
def Dq:List Int->Option (List Int)
 | [a,b,c,d]=>some [a,b,c,d]
 |_=>none
theorem aU4:bQ Z 123 (Bo true Dq):=by
 refine Bu Lc (bI func123 rfl rfl) ?_ ?_
 ·intro g out h;unfold Dq at h;split at h
  ·rename_i a b c d;cases h;exact⟨[a.natAbs<1000000000000000000,b.natAbs<1000000000000000000,c.natAbs<1000000000000000000,d.natAbs<1000000000000000000],by kernel_rfl,fun h=>by simp at h;exact gR h.1 (gR h.2.1 (gR h.2.2.1 (gR h.2.2.2 iC)))⟩
  ·cases h
 ·intro g out h f;unfold Dq at h;split at h
  ·cases h
   exact fun z e=>iQ (f z e)
  ·cases h
noncomputable def tM0:List (FuncId×TE):=(123,Bo true Dq)::tF
theorem aRi:cX Z tM0:=⟨aU4,aVz⟩
def iK (s:Int):Int:=bif s==2 then -1 else bif s==3 then 1 else bif s==4 then 1 else bif s==5 then 1 else bif s==6 then 3 else bif s==7 then 2 else 1
def iL (s:Int):Int:=bif s==2 then 0 else bif s==3 then -1 else bif s==4 then 1 else bif s==5 then 0 else bif s==6 then 1 else bif s==7 then 1 else 0
def iM (s:Int):Int:=bif s==2 then 0 else bif s==3 then 1 else bif s==4 then -1 else bif s==5 then 1 else bif s==6 then 1 else bif s==7 then 0 else 0
def iN (s:Int):Int:=bif s==2 then 1 else bif s==3 then 1 else bif s==4 then 1 else bif s==5 then 2 else bif s==6 then 3 else bif s==7 then 1 else 1
def Ad:List G->Option RG
 | [.i .i64 s]=>some (.one (.ns [iK s,iL s,iM s,iN s]))
 |_=>none
theorem aRC:bQ Z 102 (eM true Ad bJ 1 [0]):=fD aRi (bI func102 rfl rfl) fun _ _ h=>by
 unfold Ad at h
 split at h<;>cases h
 kernel_rfl
noncomputable def tM:List (FuncId×TE):=(102,eM true Ad bJ 1 [0])::tM0
theorem Vv:cX Z tM:=⟨aRC,aRi⟩
def vO:List Int->Option (List Int)
 | [p,q]=>some [p,q]
 |_=>none
theorem aSD:bQ Z 81 (Bo true vO):=by
 refine Bu Vv (bI func81 rfl rfl) ?_ ?_
 ·intro d out h;unfold vO at h;split at h
  ·rename_i p q;cases h;exact⟨[p.natAbs<1000000000000000000,q.natAbs<1000000000000000000],by kernel_rfl,fun h=>by simp at h;exact gR h.1 (gR h.2 iC)⟩
  ·cases h
 ·intro d out h b;unfold vO at h;split at h
  ·cases h
   exact fun z a=>iQ (b z a)
  ·cases h
def zV:List G->Option RG
 | [.ns [p,q],.ns [n]]=>some (.one (.ns [p*n,q*n]))
 |_=>none
theorem aRx:bQ Z 182 (eM true zV bJ 18 [15,3]):=fD Vv (bI func182 rfl rfl) fun _ _ h=>by
 unfold zV at h
 split at h<;>cases h
 kernel_rfl
def zU:List G->Option RG
 | [.ns [p,q],.ns [r,s]]=>some (.one (.ns [p+r,q+s]))
 |_=>none
theorem aRw:bQ Z 183 (eM true zU bJ 19 [18,18]):=fD Vv (bI func183 rfl rfl) fun _ _ h=>by
 unfold zU at h
 split at h<;>cases h
 kernel_rfl
noncomputable def tC0:List (FuncId×TE):=(81,Bo true vO)::(182,eM true zV bJ 18 [15,3])::(183,eM true zU bJ 19 [18,18])::tM
theorem aRe:cX Z tC0:=⟨aSD,aRx,aRw,Vv⟩
def zZ:List G->Option RG
 | [.ns [p,q],.ns [r,s],.ns [a,b,c,d]]=>some (.tup [.ns [p*a+r*c,q*a+s*c],.ns [p*b+r*d,q*b+s*d]])
 |_=>none
theorem aRA:bQ Z 170 (eM true zZ bJ 19 [15,15,3]):=fD aRe (bI func170 rfl rfl) fun _ _ h=>by
 unfold zZ at h
 split at h<;>cases h
 kernel_rfl
noncomputable def tC1:List (FuncId×TE):=(170,eM true zZ bJ 19 [15,15,3])::tC0
theorem Uv:cX Z tC1:=⟨aRA,aRe⟩
def Ig:List G->Option RG
 | [.ns [e,g,p1,h,f,i,p3,j],.ns [a,b,c,d]]=>some (.one (.ns [e*a+f*c,g*a+i*c,p1*a+p3*c,h*a+j*c,e*b+f*d,g*b+i*d,p1*b+p3*d,h*b+j*d]))
 |_=>none
theorem aTJ:bQ Z 152 (eM true Ig bJ 19 [15,3]):=fD Uv (bI func152 rfl rfl) fun _ _ h=>by
 unfold Ig at h
 split at h<;>cases h
 kernel_rfl
def Ih:List G->Option RG
 | [.ns [e,g,p1,h,f,i,p3,j],.ns [a,b,c,d]]=>some (.one (.ns [e*a+p1*c,g*a+h*c,e*b+p1*d,g*b+h*d,f*a+p3*c,i*a+j*c,f*b+p3*d,i*b+j*d]))
 |_=>none
theorem aTK:bQ Z 147 (eM true Ih bJ 19 [15,3]):=fD Uv (bI func147 rfl rfl) fun _ _ h=>by
 unfold Ih at h
 split at h<;>cases h
 kernel_rfl
def zY:List G->Option RG
 | [.ns [e,g,p1,h,f,i,p3,j],.ns [a,b,c,d]]=>some (.one (.ns [d*e-b*g,a*g-c*e,d*p1-b*h,a*h-c*p1,d*f-b*i,a*i-c*f,d*p3-b*j,a*j-c*p3]))
 |_=>none
theorem aRz:bQ Z 101 (eM true zY bJ 19 [15,3]):=fD Uv (bI func101 rfl rfl) fun _ _ h=>by
 unfold zY at h
 split at h<;>cases h
 kernel_rfl
noncomputable def tC2:List (FuncId×TE):=(152,eM true Ig bJ 19 [15,3])::(147,eM true Ih bJ 19 [15,3])::(101,eM true zY bJ 19 [15,3])::tC1
theorem Cj:cX Z tC2:=⟨aTJ,aTK,aRz,Uv⟩
noncomputable def cT (t z:Int):Int:=bif Nm.cmp z 0==0 then t else bif decide (t<0)then(Nm.tz z:Int)else bif decide ((Nm.tz z:Int)<t)then(Nm.tz z:Int)else t
def gE (a k:Int):Int:=bif a==11 then 1 else bif k==0 then 1 else bif a==13 then Wr (k*k)else Wr (Wr ((Wr (k+1)).tdiv 2)*Wr ((Wr (k+1)).tdiv 2))
def gG (a k:Int):Int:=bif a==11 then Wr (Wr (4*k)+2)else bif k==0 then 1 else bif a==13 then Wr (Wr (2*k)+1)else Wr (k+1)
def gW (k:Int):Int:=bif k==0 then 2 else bif k.tmod 3==2 then Wr ((Wr (2*Wr (k+1))).tdiv 3)else 1
theorem aSG {k:Int}(h:0<=k/\k<=100000000):Holds [(k==0)=false->(Wr (k*k)).natAbs<1000000000000000000,(k==0)=false->(Wr (Wr (2*k)+1)).natAbs<1000000000000000000]:=by
 have e:0<=k*k:=Int.mul_nonneg h.1 h.1;have f:k*k<=100000000*100000000:=Int.mul_le_mul h.2 h.2 h.1 (by decide);have a:Wr (k*k)=k*k:=mI (by omega) (by omega);have b:Wr (2*k)=2*k:=mI (by omega) (by omega);have d:Wr (2*k+1)=2*k+1:=mI (by omega) (by omega);rw[a,b,d];exact gR (fun _=>by omega) (gR (fun _=>by omega) iC)
def Qp:List G->List Prop
 | [.i .i64 k]=>[0<=k/\k<=100000000]
 |_=>[]
noncomputable def Hz:List G->Option RG
 | [.i .i64 t,.ns [z]]=>some (.one (.i .i64 (cT t z)))
 |_=>none
theorem aTE:bQ Z 124 (eM true Hz bJ 0 [0,19]):=fD Cj (bI func124 rfl rfl) fun _ _ h=>by
 unfold Hz at h
 split at h<;>cases h
 kernel_rfl
def qQ:List G->Option RG
 | [.ns [p,q]]=>some (.one (.b ((Nm.cmp p 0==0)&&(Nm.cmp q 0==0))))
 |_=>none
theorem aMp:bQ Z 188 (eM true qQ bJ 0 [19]):=fD Cj (bI func188 rfl rfl) fun _ _ h=>by
 unfold qQ at h
 split at h<;>cases h
 kernel_rfl
def Ia:List G->Option RG
 | [.ns [a],.ns [b]]=>some (.one (.ns [bif decide (Nm.cmp a b<0)then b else a]))
 |_=>none
theorem aTF:bQ Z 171 (eM true Ia bJ 80 [80,80]):=fD Cj (bI func171 rfl rfl) fun _ _ h=>by
 unfold Ia at h
 split at h<;>cases h
 kernel_rfl
def Ik:List G->Option RG
 | [.i .i64 k]=>some (.one (.b ((k==13)||(k==11))))
 |_=>none
theorem aTN:bQ Z 180 (eM true Ik bJ 0 [0]):=fD Cj (bI func180 rfl rfl) fun _ _ h=>by
 unfold Ik at h
 split at h<;>cases h
 kernel_rfl
def Hy:List G->Option RG
 | [.i .i64 a,.i .i64 k]=>some (.tup [.i .i64 (gE a k),.i .i64 (gG a k)])
 |_=>none
theorem aTD:bQ Z 181 (eM true Hy bJ 0 [0,0]):=fD Cj (bI func181 rfl rfl) fun _ _ h=>by
 unfold Hy at h
 split at h<;>cases h
 kernel_rfl
def Hw:List G->Option RG
 | [.i .i64 k]=>some (.one (.i .i64 (gW k)))
 |_=>none
theorem aTB:bQ Z 167 (eM true Hw bJ 0 [0]):=fD Cj (bI func167 rfl rfl) fun _ _ h=>by
 unfold Hw at h
 split at h<;>cases h
 kernel_rfl
def Ie:List G->Option RG
 | [.i .i64 k]=>some (.one (.ns [bif k==0 then 0 else 0,bif k==0 then 4 else Wr (k*k),bif k==0 then 1 else 1,bif k==0 then 1 else Wr (Wr (2*k)+1)]))
 |_=>none
theorem aTI:bQ Z 166 (eM true Ie Qp 1 [0]):=by
 refine jG (l:=tC2) Cj dT (bI func166 rfl rfl) ?_;intro b out h;unfold Ie at h;split at h
 ·rename_i k;cases h;exact⟨[(k==0)=false->(Wr (k*k)).natAbs<1000000000000000000,(k==0)=false->(Wr (Wr (2*k)+1)).natAbs<1000000000000000000],1,by kernel_rfl,by decide,fun a _=>aSG a.one⟩
 ·cases h
def Ic:List G->Option RG
 | [.i .i64 k]=>some (.one (.ns [bif k==6 then 0 else bif k==7 then 0 else bif k==8 then 1 else 0,bif k==6 then 0 else bif k==7 then 0 else bif k==8 then 0 else 0,bif k==6 then 1 else bif k==7 then 1 else bif k==8 then 0 else 1,bif k==6 then 0 else bif k==7 then 0 else bif k==8 then 0 else 0,bif k==6 then 1 else bif k==7 then -1 else bif k==8 then 0 else 0,bif k==6 then 0 else bif k==7 then 0 else bif k==8 then 0 else 1,bif k==6 then 0 else bif k==7 then 0 else bif k==8 then 0 else 0,bif k==6 then 1 else bif k==7 then 1 else bif k==8 then 1 else 0]))
 |_=>none
theorem aTH:bQ Z 82 (eM true Ic bJ 1 [0]):=fD Cj (bI func82 rfl rfl) fun _ _ h=>by
 unfold Ic at h
 split at h<;>cases h
 kernel_rfl
def Ac:List G->Option RG
 | [.i .i64 k,.ns [p,q]]=>some (.one (.ns [bif k==12 then q else bif k==13 then q else q,bif k==12 then 0 else bif k==13 then p else 0,bif k==12 then -p else bif k==13 then -p else -p,bif k==12 then p+q else bif k==13 then q else q,bif k==12 then 0 else bif k==13 then 0 else 0,bif k==12 then 0 else bif k==13 then 0 else 0,bif k==12 then 0 else bif k==13 then 0 else 0,bif k==12 then 0 else bif k==13 then 0 else 0]))
 |_=>none
theorem aRB:bQ Z 187 (eM true Ac bJ 11 [0,10]):=fD Cj (bI func187 rfl rfl) fun _ _ h=>by
 unfold Ac at h
 split at h<;>cases h
 kernel_rfl
noncomputable def tC3:List (FuncId×TE):=(124,eM true Hz bJ 0 [0,19])::(188,eM true qQ bJ 0 [19])::(171,eM true Ia bJ 80 [80,80])::(180,eM true Ik bJ 0 [0])::(181,eM true Hy bJ 0 [0,0])::(167,eM true Hw bJ 0 [0])::(166,eM true Ie Qp 1 [0])::(82,eM true Ic bJ 1 [0])::(187,eM true Ac bJ 11 [0,10])::tC2
theorem aOy:cX Z tC3:=⟨aTE,aMp,aTF,aTN,aTD,aTB,aTI,aTH,aRB,Cj⟩
def Bj (p q:Int):Int:=bif (Nm.cmp p 0==0)&&(Nm.cmp q 0==0)then 1 else p+q
def hZ (k d a lp b:Int):Bool:=
 bif k==10 then decide (Nm.cmp (d*b) (lp*a+lp*a)<=0)
 else bif k==12 then decide (Nm.cmp ((d*b-lp*a)*4) (a*b+lp*a)<=0)
 else bif k==13 then decide (Nm.cmp ((d*b-lp*a)*4) (a*b+d*lp)<=0)
 else decide (Nm.cmp ((d*b-lp*a)*4) (a*b)<=0)
def Il:List G->Option RG
 | [.ns [p,q]]=>some (.one (.ns [Bj p q]))
 |_=>none
theorem aTO:bQ Z 184 (eM true Il bJ 16 [15]):=fD aOy (bI func184 rfl rfl) fun _ _ h=>by
 unfold Il at h
 split at h<;>cases h
 kernel_rfl
def Hx:List G->Option RG
 | [.i .i64 k,.ns [a,d],.ns [lp,e]]=>some (.one (.b (hZ k a d lp e)))
 |_=>none
theorem aTC:bQ Z 174 (eM true Hx bJ 0 [0,15,15]):=fD aOy (bI func174 rfl rfl) fun _ _ h=>by
 unfold Hx at h
 split at h<;>cases h
 kernel_rfl
noncomputable def tC4:List (FuncId×TE):=(184,eM true Il bJ 16 [15])::(174,eM true Hx bJ 0 [0,15,15])::tC3
theorem aRf:cX Z tC4:=⟨aTO,aTC,aOy⟩
def iX (up d e f op a rp b:Int):Int:=(((up*f-d*e)*(Bj op a*Bj rp b)).natAbs:Int)
def Wb (a b:Int):Int:=bif decide (Nm.cmp a b<0)then b else a
def Ij:List G->Option RG
 | [.ns [up,d],.ns [e,f],.ns [op,a],.ns [rp,b]]=>some (.one (.ns [iX up d e f op a rp b]))
 |_=>none
theorem aTM:bQ Z 172 (eM true Ij bJ 63 [15,15,15,15]):=fD aRf (bI func172 rfl rfl) fun _ _ h=>by
 unfold Ij at h
 split at h<;>cases h
 kernel_rfl
noncomputable def tC5:List (FuncId×TE):=(172,eM true Ij bJ 63 [15,15,15,15])::tC4
theorem aRg:cX Z tC5:=⟨aTM,aRf⟩
def kD (a d p1 e b f p3 g t:Int):Int:=
 Nm.cmp (Wb (iX a d b f p1 e p3 g) (iX p1 e p3 g a d b f)*t) (Wb (iX a d p1 e b f p3 g) (iX b f p3 g a d p1 e))
def Gi:List G->List Prop
 | [.ns _,.i .i64 t]=>[t.natAbs<1000000000000000000]
 |_=>[]
inductive SF where
 |st (b:Bool)
 |sy (b:Bool)
def SF.val:SF->Bool
 |.st b=>b
 |.sy b=>b
def Im:List G->Option RG
 | [.ns [a,d,p1,e,b,f,p3,g],.i .i64 t]=>some (.one (.i .i64 (kD a d p1 e b f p3 g t)))
 |_=>none
theorem aQI:bQ Z 149 (eM true Im Gi 0 [15,0]):=by
 refine jG (l:=tC5) aRg dT (bI func149 rfl rfl) ?_;intro b out h;unfold Im at h;split at h
 ·rename_i d f p1 g e i p3 j t;cases h;exact⟨[t.natAbs<1000000000000000000],0,by kernel_rfl,by decide,fun a _=>gR a.one iC⟩
 ·cases h
noncomputable def wL:List (FuncId×TE):=(149,eM true Im Gi 0 [15,0])::tC5
theorem Ot:cX Z wL:=⟨aQI,aRg⟩
def orL (u x y:Bool)(k:SF->LT):LT:=.br u (k (.st true)) (.br x (k (.st true)) (k (.sy y)))
def Ho (d:SF)(k:LT):LT:=
 match d with
 |.st true=>.ret (.one (.b false))
 |.st false=>k
 |.sy t=>.br t (.ret (.one (.b false))) k
def Pv (u d:SF)(k:LT):LT:=
 match u with
 |.st true=>Ho d k
 |.st false=>k
 |.sy t=>.br t (Ho d k) k
variable {P:RG->Prop}{Q:List (K (List AT))->AS->Prop}
theorem aQ4 {a x y:Bool}{k:SF->LT}(h:∀s:SF,s.val=(a||x||y)->(k s).ok P Q):(orL a x y k).ok P Q:=by
 refine⟨fun e=>h _ (by rw[e];rfl),fun e=>⟨fun f=>h _ (by rw[e,f];rfl),fun f=>h _ (by rw[e,f];rfl)⟩⟩
theorem aRV {u d:SF}{k:LT}(g:u.val=true->d.val=true->P (.one (.b false)))(f:k.ok P Q):(Pv u d k).ok P Q:=by
 have h:u.val=true->(Ho d k).ok P Q:=by
  intro i
  cases d with
  |st b=>cases b with
   |true=>exact g i rfl
   |false=>exact f
  |sy t=>exact⟨fun e=>g i e,fun _=>f⟩
 cases u with
 |st b=>cases b with
  |true=>exact h rfl
  |false=>exact f
 |sy t=>exact⟨fun e=>h e,fun _=>f⟩
def nA (u d:Bool)(l:List (Int×Int)):Bool:=!((u||l.any fun c=>decide (c.1<0)||decide (c.2<0))==(d||l.any fun c=>decide (c.1>0)||decide (c.2>0)))
theorem aMZ (u d:Bool)(p q:Int)(l:List (Int×Int)):nA u d ((p,q)::l)=nA (u||decide (p<0)||decide (q<0)) (d||decide (p>0)||decide (q>0)) l:=by
 unfold nA;simp only[List.any_cons,Bool.or_assoc]
theorem aMY (l:List (Int×Int)):nA true true l=false:=by unfold nA;simp
def Bg (f:List Int)(e:List Int)(i:Nat)(u d:Bool):AS:=
 ⟨[.top,.top,.val (.one (.ptr 0 0)),.val (.one (.ptr 1 0)),.top,.val (.one (.sbool u)),.val (.one (.sbool d)),.val (.one (.int .i64 i))]++List.replicate 57 .top,
  [(0,⟨bH true 0 8,93,true,false,false⟩),(1,⟨bH true 8 4,130,true,false,false⟩)],2,(f.map fun z=>(z,19))++e.map (fun z=>(z,3)),[]⟩
def cl (p q a b c d:Int):Int×Int:=(cp d p b q,cp a q c p)
def mE (p0 q0 p1 q1 p2 q2 p3 q3 a b c d:Int):Bool:=nA false false [cl p0 q0 a b c d,cl p1 q1 a b c d,cl p2 q2 a b c d,cl p3 q3 a b c d]
section
variable (p0 q0 p1 q1 p2 q2 p3 q3 a b c d:Int)
theorem aM6:(run Z (fJ wJ (aE wL)) (fun _=>none) (aO Z (fJ wJ (aE wL))) qJ 300 [.code (aF f145),.top f145] (start f145 (dY true [.ns [p0,q0,p1,q1,p2,q2,p3,q3],.ns [a,b,c,d]] [19,3]))).bind (jU true [0,1] [2,3,1005,1006,7] 2 [])=
  some (.again (.code (.loop (rL (aF f145) f145))::wA (aF f145) f145) (Bg [p0,q0,p1,q1,p2,q2,p3,q3] [a,b,c,d] 0 false false)):=by kernel_rfl
noncomputable def nW (i:Nat)(n:Nat)(u v:Bool):Option LT:=(run Z (fJ wJ (aE wL)) (fun _=>none) (aO Z (fJ wJ (aE wL))) kB 300 (.code (rL (aF f145) f145)::.lp (rL (aF f145) f145) n::wA (aF f145) f145) (Bg [p0,q0,p1,q1,p2,q2,p3,q3] [a,b,c,d] i u v)).bind (jU true [0,1] [2,3,1005,1006,7] 2 [])
noncomputable def lK (i:Nat)(n:Nat)(u v:Bool)(p q:Int):LT:=orL u (decide ((cl p q a b c d).1<0)) (decide ((cl p q a b c d).2<0)) fun e=>orL v (decide ((cl p q a b c d).1>0)) (decide ((cl p q a b c d).2>0)) fun f=>Pv e f (.again (.lp (rL (aF f145) f145) n::wA (aF f145) f145) (Bg [p0,q0,p1,q1,p2,q2,p3,q3] [a,b,c,d] (i+1) e.val f.val))
theorem aM1 (n:Nat)(u v:Bool):nW p0 q0 p1 q1 p2 q2 p3 q3 a b c d 0 n u v=some (lK p0 q0 p1 q1 p2 q2 p3 q3 a b c d 0 n u v p0 q0):=by kernel_rfl
theorem aM2 (n:Nat)(u v:Bool):nW p0 q0 p1 q1 p2 q2 p3 q3 a b c d 1 n u v=some (lK p0 q0 p1 q1 p2 q2 p3 q3 a b c d 1 n u v p1 q1):=by kernel_rfl
theorem aM3 (n:Nat)(u v:Bool):nW p0 q0 p1 q1 p2 q2 p3 q3 a b c d 2 n u v=some (lK p0 q0 p1 q1 p2 q2 p3 q3 a b c d 2 n u v p2 q2):=by kernel_rfl
theorem aM4 (n:Nat)(u v:Bool):nW p0 q0 p1 q1 p2 q2 p3 q3 a b c d 3 n u v=some (lK p0 q0 p1 q1 p2 q2 p3 q3 a b c d 3 n u v p3 q3):=by kernel_rfl
theorem aM5 (n:Nat)(u v:Bool):nW p0 q0 p1 q1 p2 q2 p3 q3 a b c d 4 n u v=some (.ret (.one (.b !(u==v)))):=by kernel_rfl
end
def zW:List G->Option RG
 | [.ns [p0,q0,p1,q1,p2,q2,p3,q3],.ns [a,b,c,d]]=>some (.one (.b (mE p0 q0 p1 q1 p2 q2 p3 q3 a b c d)))
 |_=>none
theorem aQH:bQ Z 145 (eM true zW bJ 0 [19,3]):=by
 refine Bv (l:=wL) Ot Ve (bI func145 rfl rfl) (kb:=[0,1]) (kt:=[2,3,1005,1006,7]) (nx:=2) (rb:=[]) ?_ (by kernel_rfl) ?_
 ·intro C ns out h x y I;unfold zW at h;split at h
  ·cases h;trivial
  ·cases h
 ·intro C out h M J;unfold zW at h;split at h
  ·rename_i p0 q0 p1 q1 p2 q2 p3 q3 a b c d;cases h;refine⟨fun m s=>∃(i:Nat) (u v:Bool),m=5-i/\i<=4/\s=Bg [p0,q0,p1,q1,p2,q2,p3,q3] [a,b,c,d] i u v/\nA u v ([cl p0 q0 a b c d,cl p1 q1 a b c d,cl p2 q2 a b c d,cl p3 q3 a b c d].drop i)=mE p0 q0 p1 q1 p2 q2 p3 q3 a b c d,⟨300,_,aM6 p0 q0 p1 q1 p2 q2 p3 q3 a b c d,rfl,5,0,false,false,rfl,by omega,rfl,rfl⟩,?_⟩;rintro m s⟨i,u,v,rfl,hi,rfl,k⟩ n
   have e:∀(j:Nat) (p q:Int) (r:List (Int×Int)),j<4->nA u v (cl p q a b c d::r)=mE p0 q0 p1 q1 p2 q2 p3 q3 a b c d->r=[cl p0 q0 a b c d,cl p1 q1 a b c d,cl p2 q2 a b c d,cl p3 q3 a b c d].drop (j+1)->
     (lK p0 q0 p1 q1 p2 q2 p3 q3 a b c d j n u v p q).ok (fun g=>g=.one (.b (mE p0 q0 p1 q1 p2 q2 p3 q3 a b c d))) fun D E=>D=.lp (rL (aF f145) f145) n::wA (aF f145) f145/\∃z,z<5-j/\∃(i:Nat) (u v:Bool),z=5-i/\i<=4/\E=Bg [p0,q0,p1,q1,p2,q2,p3,q3] [a,b,c,d] i u v/\nA u v ([cl p0 q0 a b c d,cl p1 q1 a b c d,cl p2 q2 a b c d,cl p3 q3 a b c d].drop i)=mE p0 q0 p1 q1 p2 q2 p3 q3 a b c d:=by
    intro j p q r L x y
    have f:nA (u||decide ((cl p q a b c d).1<0)||decide ((cl p q a b c d).2<0)) (v||decide ((cl p q a b c d).1>0)||decide ((cl p q a b c d).2>0)) r=mE p0 q0 p1 q1 p2 q2 p3 q3 a b c d:=by rw[<-aMZ];exact x
    refine aQ4 fun F o=>aQ4 fun H w=>aRV ?_ ?_
    ·intro A B;rw[<-o,<-w,A,B,aMY]at f;rw[f]
    ·refine⟨rfl,5-(j+1),by omega,j+1,F.val,H.val,rfl,by omega,rfl,?_⟩;rw[o,w,<-y];exact f
   rcases(by omega:i=0\/i=1\/i=2\/i=3\/i=4)with rfl|rfl|rfl|rfl|rfl
   ·exact⟨300,_,aM1 p0 q0 p1 q1 p2 q2 p3 q3 a b c d n u v,e 0 p0 q0 _ (by omega) k rfl⟩
   ·exact⟨300,_,aM2 p0 q0 p1 q1 p2 q2 p3 q3 a b c d n u v,e 1 p1 q1 _ (by omega) k rfl⟩
   ·exact⟨300,_,aM3 p0 q0 p1 q1 p2 q2 p3 q3 a b c d n u v,e 2 p2 q2 _ (by omega) k rfl⟩
   ·exact⟨300,_,aM4 p0 q0 p1 q1 p2 q2 p3 q3 a b c d n u v,e 3 p3 q3 _ (by omega) k rfl⟩
   ·refine⟨300,_,aM5 p0 q0 p1 q1 p2 q2 p3 q3 a b c d n u v,?_⟩
    have:(!(u==v))=mE p0 q0 p1 q1 p2 q2 p3 q3 a b c d:=by rw[<-k];simp[nA]
    show RG.one (.b !(u==v))=_;rw[this]
  ·cases h
noncomputable def tw8 (a d p1 e b f p3 g:Int):Int:=cT (cT (cT (cT (cT (cT (cT (cT (-1) a) d) p1) e) b) f) p3) g
theorem Fo {t x:Int}(b:t<=190000000)(f:Bits 19 x):cT t x<=190000000:=by
 have h:(Nm.cmp x 0==0)=false->(Nm.tz x:Int)<=190000000:=by
  intro h
  have a:x≠0:=fun e=>by rw[Nm.jA e]at h;cases h
  have:=Nm.aWS a f;omega
 unfold cT
 cases d:(Nm.cmp x 0==0)with
 |true=>exact b
 |false=>
  have:=h d;simp only[cond_false]
  cases decide (t<0)with
  |true=>exact this
  |false=>
   simp only[cond_false]
   cases decide ((Nm.tz x:Int)<t)with
   |true=>exact this
   |false=>exact b
noncomputable def hv (t z:Int):Int:=bif decide (t<1)then z else iA z t
noncomputable def Ib:List G->Option RG
 | [.ns [a,d,p1,e,b,f,p3,g]]=>some (.one (.ns [hv (tw8 a d p1 e b f p3 g) a,hv (tw8 a d p1 e b f p3 g) d,hv (tw8 a d p1 e b f p3 g) p1,hv (tw8 a d p1 e b f p3 g) e,hv (tw8 a d p1 e b f p3 g) b,hv (tw8 a d p1 e b f p3 g) f,hv (tw8 a d p1 e b f p3 g) p3,hv (tw8 a d p1 e b f p3 g) g]))
 |_=>none
theorem aTG:bQ Z 103 (eM true Ib bJ 19 [19]):=by
 refine jG (l:=wL) Ot dT (bI func103 rfl rfl) ?_;intro r out h;unfold Ib at h;split at h
 ·rename_i a e p1 f d g p3 i;cases h;refine⟨List.replicate 8 (decide (tw8 a e p1 f d g p3 i<1)=false->1<=tw8 a e p1 f d g p3 i/\tw8 a e p1 f d g p3 i<=1000000000),19,by kernel_rfl,by decide,fun _ p=>?_⟩;have b:∀z∈[a,e,p1,f,d,g,p3,i],Bits 19 z:=p.1;simp at b;obtain⟨b0,b1,b2,n,b4,b5,b6,o⟩:=b;have q:tw8 a e p1 f d g p3 i<=190000000:=Fo (Fo (Fo (Fo (Fo (Fo (Fo (Fo (by decide) b0) b1) b2) n) b4) b5) b6) o;intro P j;have j:=List.eq_of_mem_replicate j;subst j;intro k
  have k:¬tw8 a e p1 f d g p3 i<1:=by simpa using k
  exact⟨by omega,by omega⟩
 ·cases h
def zX:List G->Option RG
 | [.ns [a,e,p1,f,d,g,p3,h]]=>some (.one (.b (mE a e p1 f d g p3 h 1 0 0 1)))
 |_=>none
theorem aRy:bQ Z 148 (eM true zX bJ 0 [19]):=by
 refine jG (l:=(145,eM true zW bJ 0 [19,3])::wL) ⟨aQH,Ot⟩ dT (bI func148 rfl rfl) ?_;intro a out h;unfold zX at h;split at h
 ·cases h;exact⟨[],0,by kernel_rfl,by decide,fun _ _=>iC⟩
 ·cases h
def wH (p q t:Int):AS:=
 ⟨[.top,.val (.one (.ptr 0 0)),.val (.one (.ptr 1 0)),.val (.one (.ptr 2 0)),.val (.one (.ptr 3 0)),.val (.one (.ptr 4 0))]++List.replicate 42 .top,
  [(0,⟨bH true 0 2,119,true,false,false⟩),(1,⟨[.bool false,.lit (.slice none 0 0)],89,true,false,false⟩),(2,⟨[.bool false,.lit (.slice none 0 0)],89,true,false,false⟩),(3,⟨bH true 2 1,89,true,false,false⟩),(4,⟨bH true 3 1,89,true,false,false⟩)],5,[(p,1),(q,1),(16,1),(t,1)],[]⟩
theorem aLJ (p q:Int):(run Z (fJ wJ (aE wL)) (fun _=>none) (aO Z (fJ wJ (aE wL))) qJ 300 [.code (aF f115),.top f115] (start f115 (dY true [.ns [p,q]] [1]))).bind (jU true [0,1,2,3,4] [1,2,3,4,5] 5 [1,1,1,1])=
  some (.need [Bits 1 p,Bits 1 q,Bits 1 16,Bits 1 1] (.again (.code (.loop (rL (aF f115) f115))::wA (aF f115) f115) (wH p q 1))):=by kernel_rfl
theorem aLK (p q t:Int)(n:Nat):(run Z (fJ wJ (aE wL)) (fun _=>none) (aO Z (fJ wJ (aE wL))) kB 300 (.code (rL (aF f115) f115)::.lp (rL (aF f115) f115) n::wA (aF f115) f115) (wH p q t)).bind (jU true [0,1,2,3,4] [1,2,3,4,5] 5 [1,1,1,1])=
  some (.br (decide (0<Nm.cmp p 0)) (.br (decide (0<Nm.cmp q 0)) (.need [0<q] (.need [0<=t*t*p/q] (.br (decide (0<=Nm.cmp (Rf.root (t*t*p/q)) 16)) (.ret (.tup [.ns [Rf.root (t*t*p/q)],.ns [t]])) (.need [Bits 1 p,Bits 1 q,Bits 1 16,Bits 1 (t+t)] (.again (.lp (rL (aF f115) f115) n::wA (aF f115) f115) (wH p q (t+t))))))) (.ret (.tup [.ns [16],.ns [t]]))) (.ret (.tup [.ns [16],.ns [t]]))):=by kernel_rfl
def vN:List G->Option RG
 | [.ns [p,q]]=>(Rf.near p q 20000 1).map fun a=>.tup [.ns [a.1],.ns [a.2]]
 |_=>none
def Ar:List G->List Prop
 | [.ns [p,q]]=>[0<p/\0<q]
 |_=>[]
theorem aKe {x:Int}(h:0<x):decide (0<Nm.cmp x 0)=true:=by rw[Nm.gV h];rfl
theorem aNG:bQ Z 115 (gZ true vN Ar (fun _=>2) [1]):=by
 refine Bv (l:=wL) Ot Ve (bI func115 rfl rfl) (kb:=[0,1,2,3,4]) (kt:=[1,2,3,4,5]) (nx:=5) (rb:=[1,1,1,1]) ?_ (by kernel_rfl) ?_
 ·intro P ns out h r w S;unfold vN at h;split at h
  ·rename_i p q;obtain⟨⟨a,b⟩,x,rfl⟩:=cA h;have r:0<p/\0<q:=r.one;have A:Bits 1 p:=S.1 p (by simp);obtain⟨k,rfl,N,L,M⟩:=near_form r.1 r.2 20000 0 (a,b) x;have D:Go.Proofs.YtkmojpfpfoaloaaGreatDoor.Bits (k+1) ((2:Int)^k):=Yi k;have E:Bits 1 ((2:Int)^k):=Kr D (by omega)
   have R:Bits 2 a:=by
    have B:0<=(2:Int)^k*2^k*p/q:=Int.ediv_nonneg (Int.mul_nonneg (Int.mul_nonneg (Int.le_of_lt (Nm.jZ (by decide) _)) (Int.le_of_lt (Nm.jZ (by decide) _))) (by omega)) (by omega);have U:=Rf.Uq B;have I:=(Rf.Ni B).1;have O:(2:Int)^k*2^k*p/q<=2^k*2^k*p:=Int.ediv_le_self _ (Int.mul_nonneg (Int.mul_nonneg (Int.le_of_lt (Nm.jZ (by decide) _)) (Int.le_of_lt (Nm.jZ (by decide) _))) (by omega));have F:Go.Proofs.YtkmojpfpfoaloaaGreatDoor.Bits ((k+1)+(k+1)+10000000*1) ((2:Int)^k*2^k*p):=Go.Proofs.YtkmojpfpfoaloaaGreatDoor.fW (Go.Proofs.YtkmojpfpfoaloaaGreatDoor.fW D D) A;have C:a=Rf.root ((2:Int)^k*2^k*p/q):=L;rw[<-C]at U I;exact Kr (Go.Proofs.YtkmojpfpfoaloaaGreatDoor.Hk F (by omega) (Nat.le_refl _)) (by omega)
   intro g w;simp at w
   rcases w with rfl|rfl
   ·intro z y;simp at y;subst y;exact R
   ·intro z y;simp at y;subst y;exact eG E (by decide)
  ·cases h
 ·intro P out h r w;unfold vN at h;split at h
  ·rename_i p q;obtain⟨u,x,rfl⟩:=cA h;have r:0<p/\0<q:=r.one;have A:Bits 1 p:=w.1 p (by simp);have J:Bits 1 q:=w.1 q (by simp);refine⟨fun m s=>∃j:Nat,m=20000-j/\j<20000/\s=wH p q (2^j)/\Rf.near p q (20000-j) (2^j)=some u,⟨300,_,aLJ p q,gR A (gR J (gR (iQ (by decide)) (gR (iQ (by decide)) iC))),rfl,20000,0,rfl,by decide,rfl,x⟩,?_⟩;rintro m s⟨j,rfl,W,rfl,d⟩ n;have X:(0:Int)<2^j:=Nm.jZ (by decide) j;have B:0<=(2:Int)^j*2^j*p/q:=Int.ediv_nonneg (Int.mul_nonneg (Int.mul_nonneg (by omega) (by omega)) (by omega)) (by omega)
   obtain⟨k,N⟩:∃k,20000-j=k+1:=⟨20000-j-1,by omega⟩
   rw[N]at d;unfold Rf.near at d;refine⟨300,_,aLK p q (2^j) n,?_,?_⟩
   ·intro _;refine⟨fun _=>⟨gR r.2 iC,gR B iC,?_,?_⟩,?_⟩
    ·intro i
     have i:0<=Nm.cmp (Rf.root ((2:Int)^j*2^j*p/q)) 16:=by simpa using i
     have v:16<=Rf.root ((2:Int)^j*2^j*p/q):=by
      rcases Int.lt_or_le (Rf.root ((2:Int)^j*2^j*p/q)) 16 with h|h
      ·rw[Nm.jB h]at i;omega
      ·exact h
     rw[if_pos v]at d;cases d;exact rfl
    ·intro i
     have i:¬0<=Nm.cmp (Rf.root ((2:Int)^j*2^j*p/q)) 16:=by simpa using i
     have v:¬16<=Rf.root ((2:Int)^j*2^j*p/q):=by
      intro h;apply i
      rcases Int.lt_or_eq_of_le h with h|h
      ·rw[Nm.gV h];decide
      ·rw[Nm.jA h.symm];decide
     rw[if_neg v]at d
     have e:(2:Int)^j+2^j=2^(j+1):=by rw[Int.pow_succ];omega
     rw[e]at d ⊢
     have H:j+1<20000:=by
      rcases Nat.lt_or_ge (j+1) 20000 with h|h
      ·exact h
      ·have:k=0:=by omega
       subst this;cases d
     refine⟨gR A (gR J (gR (iQ (by decide)) (gR (Kr (Yi (j+1)) (by omega)) iC))),rfl,20000-(j+1),by omega,j+1,rfl,H,rfl,?_⟩;rw[show 20000-(j+1)=k by omega];exact d
    ·intro o;rw[aKe r.2]at o;cases o
   ·intro o;rw[aKe r.1]at o;cases o
  ·cases h
where
 near_form {p q:Int} (T:0<p) (O:0<q):∀(f j:Nat) (u:Int×Int),Rf.near p q f (2^j)=some u->∃k:Nat,u.2=2^k/\k<=j+f/\u.1=Rf.root ((2:Int)^k*2^k*p/q)/\True
  |0,j,u,h=>by cases h
  |f+1,j,u,h=>by
   unfold Rf.near at h;split at h
   ·cases h;exact⟨j,rfl,by omega,rfl,trivial⟩
   ·have e:(2:Int)^j+2^j=2^(j+1):=by rw[Int.pow_succ];omega
    rw[e]at h;obtain⟨k,x,L,M,_⟩:=near_form T O f (j+1) u h;exact⟨k,x,by omega,M,trivial⟩
noncomputable def tC7:List (FuncId×TE):=(145,eM true zW bJ 0 [19,3])::(103,eM true Ib bJ 19 [19])::(148,eM true zX bJ 0 [19])::(115,gZ true vN Ar (fun _=>2) [1])::wL
theorem aVy:cX Z tC7:=⟨aQH,aTG,aRy,aNG,Ot⟩
end Ab
namespace Pg
open Rf Nw
def sc (d:Int)(v:V):V:=(d*v.1,d*v.2)
def hV (u v:V):V:=(u.1+v.1,u.2+v.2)
theorem Vn (m:Mt)(d:Int)(v:V):eU m (sc d v)=sc d (eU m v):=by
 unfold eU sc Mt.at1 Mt.at2
 ext<;>simp<;>grind
theorem Ov (m:Mt)(d:Int)(v:V):fH m (sc d v)=sc d (fH m v):=by
 unfold fH sc Mt.vD Mt.vE
 ext<;>simp<;>grind
theorem aOP (m:Mt)(u v:V):eU m (hV u v)=hV (eU m u) (eU m v):=by
 unfold eU hV Mt.at1 Mt.at2
 ext<;>simp<;>grind
theorem aOL (m:Mt)(u v:V):fH m (hV u v)=hV (fH m u) (fH m v):=by
 unfold fH hV Mt.vD Mt.vE
 ext<;>simp<;>grind
theorem aVq (d e:Int)(v:V):sc d (sc e v)=sc (d*e) v:=by
 unfold sc
 ext<;>simp<;>grind
theorem gJ (v:V):sc 1 v=v:=by unfold sc;simp
theorem aQt (m:Mt):fH m (0,0)=(0,0):=by unfold fH Mt.vD Mt.vE;simp
theorem aJU (m k:Mt)(v:V):fH (m.mul k) v=fH k (fH m v):=by
 unfold fH Mt.vD Mt.vE Mt.mul
 ext<;>simp<;>grind
theorem Fm (v:V):fH one v=v:=by unfold fH Mt.vD Mt.vE one;simp
theorem Ko (v:V):eU one v=v:=by unfold eU Mt.at1 Mt.at2 one;simp
def iJ (u v:V)(m:Mt):V:=hV (sc m.a u) (sc m.c v)
def rd2 (u v:V)(m:Mt):V:=hV (sc m.b u) (sc m.d v)
def tA:List V->Mt->List V
 | [a,b,c,d],m=>[iJ a c m,iJ b d m,rd2 a c m,rd2 b d m]
 |_,_=>[]
def oG:List V->Mt->List V
 | [a,b,c,d],m=>[iJ a b m,rd2 a b m,iJ c d m,rd2 c d m]
 |_,_=>[]
theorem Kz (d:Int)(u v:V)(m:Mt):iJ (sc d u) (sc d v) m=sc d (iJ u v m):=by
 unfold iJ sc hV
 ext<;>simp<;>grind
theorem La (d:Int)(u v:V)(m:Mt):rd2 (sc d u) (sc d v) m=sc d (rd2 u v m):=by
 unfold rd2 sc hV
 ext<;>simp<;>grind
theorem aPR (m:Mt):iJ (0,0) (0,0) m=(0,0):=by unfold iJ sc hV;simp
theorem aPS (m:Mt):rd2 (0,0) (0,0) m=(0,0):=by unfold rd2 sc hV;simp
theorem Kj (k:Mt)(u v:V)(m:Mt):iJ (fH k u) (fH k v) m=fH k (iJ u v m):=by
 unfold iJ;rw[aOL,Ov,Ov]
theorem Kk (k:Mt)(u v:V)(m:Mt):rd2 (fH k u) (fH k v) m=fH k (rd2 u v m):=by
 unfold rd2;rw[aOL,Ov,Ov]
theorem aSM (k:Mt)(u v:V)(m:Mt):iJ (eU k u) (eU k v) m=eU k (iJ u v m):=by
 unfold iJ;rw[aOP,Vn,Vn]
theorem aSO (k:Mt)(u v:V)(m:Mt):rd2 (eU k u) (eU k v) m=eU k (rd2 u v m):=by
 unfold rd2;rw[aOP,Vn,Vn]
theorem Qc (h m:Mt):eU (h.mul m) (1,0)=iJ (eU h (1,0)) (eU h (0,1)) m:=by
 unfold iJ sc hV eU Mt.at1 Mt.at2 Mt.mul
 ext<;>simp<;>grind
theorem Qd (h m:Mt):eU (h.mul m) (0,1)=rd2 (eU h (1,0)) (eU h (0,1)) m:=by
 unfold rd2 sc hV eU Mt.at1 Mt.at2 Mt.mul
 ext<;>simp<;>grind
theorem aIN (t:List V)(u v y:V)(m:Mt):bM t (iJ u v m) y=iJ (bM t u y) (bM t v y) m:=by
 unfold bM iJ sc hV;split
 ·ext<;>simp<;>grind
 ·ext<;>simp
theorem aIO (t:List V)(u v y:V)(m:Mt):bM t (rd2 u v m) y=rd2 (bM t u y) (bM t v y) m:=by
 unfold bM rd2 sc hV;split
 ·ext<;>simp<;>grind
 ·ext<;>simp
theorem aIP (t:List V)(u v y:V)(m:Mt):bM t y (iJ u v m)=iJ (bM t y u) (bM t y v) m:=by
 unfold bM iJ sc hV;split
 ·ext<;>simp<;>grind
 ·ext<;>simp
theorem aIQ (t:List V)(u v y:V)(m:Mt):bM t y (rd2 u v m)=rd2 (bM t y u) (bM t y v) m:=by
 unfold bM rd2 sc hV;split
 ·ext<;>simp<;>grind
 ·ext<;>simp
def wB (g:Int)(m:Mt):Mt:=⟨g*m.a,g*m.b,g*m.c,g*m.d⟩
theorem aSL (g:Int)(u v:V)(m:Mt):iJ u v (wB g m)=sc g (iJ u v m):=by
 unfold iJ sc hV wB
 ext<;>simp<;>grind
theorem aSN (g:Int)(u v:V)(m:Mt):rd2 u v (wB g m)=sc g (rd2 u v m):=by
 unfold rd2 sc hV wB
 ext<;>simp<;>grind
def pad:List V->List V
 | []=>[(0,0),(0,0),(0,0),(0,0)]
 | [a]=>[a,(0,0),(0,0),(0,0)]
 | [a,b]=>[a,b,(0,0),(0,0)]
 | [a,b,c]=>[a,b,c,(0,0)]
 |l=>l
structure eL (l cs:List V):Prop where
 ex:∃d:Int,0<d/\pad l=cs.map (sc d)
 len:cs.length=4
variable {d:Int}
theorem aVJ (a:0<d)(v:V):oT (sc d v)=oT v:=by
 have h:∀x:Int,decide (0<d*x)=decide (0<x):=fun x=>by
  rw[decide_eq_decide];exact⟨fun h=>Int.pos_of_mul_pos_left h a,fun h=>Int.mul_pos a h⟩
 unfold oT sc;rw[h,h]
where
 Int.pos_of_mul_pos_left {d x:Int} (h:0<d*x) (a:0<d):0<x:=by
  rcases Int.lt_or_le 0 x with h1|h1
  ·exact h1
  ·have:=Int.mul_nonpos_of_nonneg_of_nonpos (Int.le_of_lt a) h1;omega
theorem aPf (a:0<d)(v:V):lJ (sc d v)=lJ v:=by
 have h:∀x:Int,decide (d*x<0)=decide (x<0):=fun x=>by
  rw[decide_eq_decide];constructor
  ·intro h
   rcases Int.lt_or_le x 0 with h1|h1
   ·exact h1
   ·have:=Int.mul_nonneg (Int.le_of_lt a) h1;omega
  ·exact fun h=>Int.mul_neg_of_pos_of_neg a h
 unfold lJ sc;rw[h,h]
theorem aR6 (a:0<d)(l:List V):fits (l.map (sc d))=fits l:=by
 unfold fits;rw[List.any_map,List.any_map];congr 1
 ·congr 1;funext v;exact aVJ a v
 ·congr 1;funext v;exact aPf a v
theorem aPl (l:List V):fits (pad l)=fits l:=by
 unfold pad fits
 split<;>simp[oT,lJ]
theorem aN2 {f:V->V}(e:f (0,0)=(0,0))(l:List V):pad (l.map f)=(pad l).map f:=by
 unfold pad
 match l with
 | []=>simp[e]
 | [a]=>simp[e]
 | [a,b]=>simp[e]
 | [a,b,c]=>simp[e]
 |a::b::c::d::r=>simp
theorem eL.fits {L cs:List V}(h:eL L cs):Nw.fits L=Nw.fits cs:=by
 obtain⟨d,a,e⟩:=h.ex;rw[<-aPl,e,aR6 a]
theorem eL.fH {L cs:List V}(h:eL L cs)(m:Mt):eL (L.map (Rf.fH m)) (cs.map (Rf.fH m)):=by
 obtain⟨d,a,e⟩:=h.ex;refine⟨⟨d,a,?_⟩,by simp[h.len]⟩;rw[aN2 (aQt m),e,List.map_map,List.map_map];congr 1;funext v;exact Ov m d v
theorem eL.can {L cs:List V}(h:eL L cs)(s:Int):Rf.can L s=Nw.fits (cs.map (Rf.fH (Mt.sym s))):=(h.fH _).fits
variable {cs:List V}
theorem eL.over {L a:List V}{t:Int}(h:eL L cs)(g:0<t)(e:cs=a.map (sc t)):eL L a:=by
 obtain⟨d,f,b⟩:=h.ex;refine⟨⟨d*t,Int.mul_pos f g,?_⟩,by have:=h.len;rw[e]at this;simpa using this⟩;rw[b,e,List.map_map];congr 1;funext v;exact aVq d t v
theorem eL.times {L:List V}{t:Int}(h:eL L cs)(b:0<t):eL (L.map (sc t)) cs:=by
 obtain⟨d,a,e⟩:=h.ex;refine⟨⟨t*d,Int.mul_pos b a,?_⟩,h.len⟩;rw[aN2 (by unfold sc;simp),e,List.map_map];congr 1;funext v;exact aVq t d v
theorem four (h:cs.length=4):∃a b c d,cs=[a,b,c,d]:=by
 match cs,h with
 | [a,b,c,d],_=>exact⟨a,b,c,d,rfl⟩
variable {a b x y z:V}
theorem eL.of4 {c d t:V}(h:eL [a,b,c,d] [x,y,z,t]):∃e:Int,0<e/\a=sc e x/\b=sc e y/\c=sc e z/\d=sc e t:=by
 obtain⟨e,g,f⟩:=h.ex;simp[pad]at f;exact⟨e,g,f⟩
theorem eL.Du {c d t:V}{e:Int}(j:0<e)(f:a=sc e x)(g:b=sc e y)(h:c=sc e z)(i:d=sc e t):eL [a,b,c,d] [x,y,z,t]:=⟨⟨e,j,by simp[pad,f,g,h,i]⟩,rfl⟩
theorem eL.of2 {t:V}(h:eL [a,b] [x,y,z,t]):∃e:Int,0<e/\a=sc e x/\b=sc e y/\(0,0)=sc e z/\(0,0)=sc e t:=by
 obtain⟨e,f,d⟩:=h.ex;simp[pad]at d;exact⟨e,f,d⟩
theorem eL.Dt {t:V}{e:Int}(i:0<e)(d:a=sc e x)(f:b=sc e y)(g:(0,0)=sc e z)(h:(0,0)=sc e t):eL [a,b] [x,y,z,t]:=⟨⟨e,i,by simp only[pad,List.map_cons,List.map_nil,<-d,<-f,<-g,<-h]⟩,rfl⟩
theorem eL.tA {a b c d:V}{cs:List V}(m:Mt)(h:eL [a,b,c,d] cs):eL [iJ a c m,iJ b d m,rd2 a c m,rd2 b d m] (Pg.tA cs m):=by
 obtain⟨x,y,z,t,rfl⟩:=four h.len;obtain⟨e,f,rfl,rfl,rfl,rfl⟩:=h.of4;exact .Du f (Kz ..) (Kz ..) (La ..) (La ..)
theorem eL.oG {a b c d:V}{cs:List V}(m:Mt)(h:eL [a,b,c,d] cs):eL [iJ a b m,rd2 a b m,iJ c d m,rd2 c d m] (Pg.oG cs m):=by
 obtain⟨x,y,z,t,rfl⟩:=four h.len;obtain⟨e,f,rfl,rfl,rfl,rfl⟩:=h.of4;exact .Du f (Kz ..) (La ..) (Kz ..) (La ..)
theorem eL.Be (m:Mt)(h:eL [a,b] cs):eL [iJ a b m,rd2 a b m] (Pg.oG cs m):=by
 obtain⟨x,y,z,t,rfl⟩:=four h.len;obtain⟨e,g,rfl,rfl,d,f⟩:=h.of2;refine .Dt g (Kz ..) (La ..) ?_ ?_
 ·rw[<-Kz,<-d,<-f,aPR]
 ·rw[<-La,<-d,<-f,aPS]
theorem eL.Jl (m:Mt){v:Int}(d:0<v)(h:eL [a,b] cs):eL [iJ a b (wB v m),rd2 a b (wB v m)] (Pg.oG cs m):=by
 have:=(h.Be m).times d
 simpa[aSL,aSN]using this
end Pg
end Go.Proofs.YtkmojpfpfoaloaaGreatDoor
