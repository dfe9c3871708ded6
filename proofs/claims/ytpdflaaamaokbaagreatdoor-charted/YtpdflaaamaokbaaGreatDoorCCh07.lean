import Derived.Test.YtpdflaaamaokbaaGreatDoorCCh06
set_option linter.all false
set_option maxRecDepth 100000
set_option maxHeartbeats 2000000
namespace Go.Proofs.YtpdflaaamaokbaaGreatDoor
open Int renaming toNat_natCast->j8,ofNat_lt->j9,le_trans->k8,mul_nonneg->k9,lt_or_le->l4,mul_le_mul->l5,mul_le_mul_of_nonneg_left->l7,ediv_le_self->l8,ediv_nonneg->l9,pow_succ->n4,pow_add->n5,one_mul->n6,lt_or_eq_of_le->n7,le_of_lt->n8,pos_of_mul_pos_left->n9,mul_pos->o8
open List renaming find?_isSome->o9,map_cons->p7,map_nil->p8,replicate->p9,mem_map->q7,any_map->q8,map_map->q9
open Nat renaming gcd->s4,le_refl->s8
open Nm (bl jZ hO jB jC tz)
open Go.Proofs.Tryz
namespace Rf
open Nw
abbrev V:=Int×Int
def eX (m:Mt)(v:V):V:=(m.at1 v.1 v.2,m.at2 v.1 v.2)
def fG (m:Mt)(v:V):V:=(m.vG v.1 v.2,m.vH v.1 v.2)
def one:Mt:=⟨1,0,0,1⟩
inductive Op where
 |none|pi|e|cf|sqrt|exp|fK|atan
 deriving DecidableEq
structure Nd where
 pos:Bool
 t:List V
 args:List Nat
 read:List Nat
 out:List Int
 told:Mt
 dR:List Mt
 op:Op
 aP:Bool
 nest:Bool
 k:Nat
 part:Mt
 p:Int
 q:Int
 terms:List Int
 x:Option Nat
 fA:Option Nat
def fresh (pos:Bool)(t:List V)(args:NU):Nd:=⟨pos,t,args,args.map (λ_=>0),[],one,[one],.none,false,false,0,one,0,0,[],none,none⟩
structure St where
 nodes:List Nd
 clock:Int
structure Ok (n:Nd):Prop where
 t:∀v∈n.t,Bits 20000 v.1/\Bits 20000 v.2
 told:cW 20000 n.told
 dR:∀m∈n.dR,cW 20000 m
 part:cW 100000000 n.part
 p:Bits 20000 n.p
 q:Bits 20000 n.q
 read:∀r∈n.read,r<=10000
 out:n.out.length<=10000
 k:n.k<=10000
def ends (ns:List Nd)(n:Nd)(side:Nat):Option (V×V):=
 (n.args[side]?).bind λa=>(ns[a]?).bind λx=>(n.read[side]?).bind λr=>(x.dR[r]?).map λm=>(eX m (1,0),eX m (0,1))
def bK (t:List V)(x y:V):V:=
 match t with
 | [a,b,c,d]=>(((a.1*(x.1*y.1)+b.1*(x.1*y.2))+c.1*(x.2*y.1))+d.1*(x.2*y.2),((a.2*(x.1*y.1)+b.2*(x.1*y.2))+c.2*(x.2*y.1))+d.2*(x.2*y.2))
 |_=>(0,0)
def bare (ns:List Nd)(n:Nd):Option (List V):=
 match n.t with
 | []=>some [eX n.part (1,0),eX n.part (0,1)]
 | [c]=>some [c]
 | [c,d]=>(ends ns n 0).map λe=>[eX ⟨c.1,d.1,c.2,d.2⟩ e.1,eX ⟨c.1,d.1,c.2,d.2⟩ e.2]
 | [a,b,c,d]=>(ends ns n 0).bind λe=>(if n.args.length=2 then ends ns n 1 else some ((1,0),(0,1))).map λr=>
   [bK [a,b,c,d] e.1 r.1,bK [a,b,c,d] e.1 r.2,bK [a,b,c,d] e.2 r.1,bK [a,b,c,d] e.2 r.2]
 |_=>none
def corners (ns:List Nd)(n:Nd):Option (List V):=(bare ns n).map (·.map (fG n.told))
def waits (ns:List Nd):List Nat->List Nat->Bool
 |a::b,r::d=>(match ns[a]? with|some x=>!x.pos&&r==0|none=>false)||waits ns b d
 |_,_=>false
def tries (n:Nd):LN:=if n.pos=false/\n.out=[]then [43,45,111,119]else [-1,1,0]
def can (l:List V)(s:Int):Bool:=fits (l.map (fG (Mt.sym s)))
def next (ns:List Nd)(n:Nd):Option (Option Int):=
 if waits ns n.args n.read then some none else(corners ns n).map λl=>(tries n).find? (can l)
def digits (ns:List Nd)(n:Nd)(side:Nat):Option (Option Nat):=
 if side<n.args.length then
  (n.args[side]?).bind λa=>(ns[a]?).bind λx=>(n.read[side]?).map λr=>if x.pos then some r else if r=0 then none else some (r-1)
 else some (some 0)
def apart (a b:V):V:=
 if a.1+a.2=0\/b.1+b.2=0 then(0,1)else(((((a.1-a.2)*(b.1+b.2)-(b.1-b.2)*(a.1+a.2)).natAbs:Nat):Int),((((a.1+a.2)*(b.1+b.2)).natAbs:Nat):Int))
def dW (a b:V):V:=if b.1*a.2<=a.1*b.2 then a else b
def wider (e:Int)(l:List V):Int:=
 match l with
 | [a,b,c,d]=>
  let p:=dW (apart a c) (apart b d)
  let q:=dW (apart a b) (apart c d)
  Nm.cmp (e*p.1*q.2) (q.1*p.2)
 |_=>0
def side (ns:List Nd)(n:Nd):FF:=
 if n.t.length<4 then some 0 else
 (digits ns n 0).bind fun
  |none=>some 0
  |some a=>(digits ns n 1).bind fun
   |none=>some 1
   |some b=>(corners ns n).map λl=>
    let c:=if fits l then wider (if n.nest then 8 else 1) l else 0
    if c=1 then 0 else if c=-1 then 1 else if a<=b then 0 else 1
def isqrt:Nat->Nat->Nat
 |0,_=>0
 |k+1,n=>if(2*isqrt k (n/4)+1)*(2*isqrt k (n/4)+1)<=n then 2*isqrt k (n/4)+1 else 2*isqrt k (n/4)
def root (z:Int):Int:=isqrt (z.toNat.log2/2+1) z.toNat
def near (p q:Int):Nat->Int->Option (Int×Int)
 |0,_=>none
 |k+1,t=>if 16<=root ((t*t*p)/q)then some (root ((t*t*p)/q),t)else near p q k (t+t)
def shape (op:Op)(k:Nat):Int×Int:=
 if op=.fK then(if k=0 then(1,1)else((((k+1)/2*((k+1)/2):Nat):Int),((k+1:Nat):Int)))
 else if op=.atan then(if k=0 then(1,1)else(((k*k:Nat):Int),((2*k+1:Nat):Int)))
 else(1,((4*k+2:Nat):Int))
def hP (k:Nat):Int:=if k=0 then 2 else if k%3=2 then(((k+1)/3*2:Nat):Int)else 1
def constant (n:Nd)(k:Nat):Option Mt:=
 match n.op with
 |.pi=>some (if k=0 then⟨0,4,1,1⟩else⟨0,((k*k:Nat):Int),1,((2*k+1:Nat):Int)⟩)
 |.e=>some ⟨hP k,1,1,0⟩
 |.cf=>(n.terms[if k=0 then 0 else 1+(k-1)%(n.terms.length-1)]?).map λa=>⟨a,1,1,0⟩
 |.sqrt=>(near n.p n.q 20000 1).map λb=>⟨b.1*n.q,b.2*n.p,b.2*n.q,b.1*n.q⟩
 |.none=>none
 |op=>some (if op≠.fK/\0<k then⟨0,(shape op k).1*(n.p*n.p),n.q*n.q,(shape op k).2*(n.q*n.q)⟩else⟨0,(shape op k).1*n.p,n.q,(shape op k).2*n.q⟩)
def known (op:Op)(lo hi:V):Bool:=
 let d:=4*(hi.1*lo.2-lo.1*hi.2)
 let q:=lo.2*hi.2
 if op=.sqrt then decide (hi.1*lo.2<=2*(lo.1*hi.2))
 else if op=.exp then decide (d<=q)
 else if op=.fK then decide (d<=q+hi.2*lo.1)
 else decide (d<=q+hi.1*lo.1)
inductive Kind where
 |add|sub|mul|div
 deriving DecidableEq
def Kind.cols:Kind->List V
 |.add=>[(0,0),(1,0),(1,0),(0,1)]
 |.sub=>[(0,0),(1,0),(-1,0),(0,1)]
 |.mul=>[(1,0),(0,0),(0,0),(0,1)]
 |.div=>[(0,0),(1,0),(0,1),(0,0)]
def two (d:Kind)(e f:Bool)(a b:Nat):Nd:=fresh (e&&f&&decide (d≠.sub)) d.cols [a,b]
def raised (t:Nat):Nd:=fresh true [(1,-1),(1,1)] [t]
def row (op:Op)(p q:Int):Nd:={ fresh true [] []with op:=op,p:=p,q:=q}
open Classical in
noncomputable def more (ns:List Nd)(n:Nd):Option (List Nd):=if Ok n then some (ns++[n])else none
open Classical in
noncomputable def put (ns:List Nd)(i:Nat)(n:Nd):Option (List Nd):=if Ok n/\i<ns.length then some (ns.set i n)else none
noncomputable def outright (ns:List Nd)(op:Op)(p q:Int):Option (List Nd×Nat):=
 (more ns (row op p q)).bind λa=>if op=.exp then(more a (raised ns.length)).map λb=>(b,ns.length+1)else some (a,ns.length)
def eR (op:Op)(k:Nat)(a x:Nat)(sq:FF):Nd:={ fresh true [(0,0),((shape op k).1,0),(0,1),(0,(shape op k).2)] [a]with op:=op,nest:=true,k:=k,x:=some x,fA:=sq}
noncomputable def nest (ns:List Nd)(op:Op)(k x:Nat)(sq:FF):Option (List Nd×Nat):=
 if 0<k/\op≠.fK then
  match sq with
  |some s=>(more ns (eR op k s x (some s))).map λa=>(a,ns.length)
  |none=>(ns[x]?).bind λd=>(more ns (two .mul d.pos d.pos x x)).bind λa=>(more a (eR op k ns.length x (some ns.length))).map λb=>(b,ns.length+1)
 else(more ns (eR op k x x sq)).map λa=>(a,ns.length)
noncomputable def deeper (ns:List Nd)(n:Nd):Option (List Nd×Nat):=
 if n.op=.sqrt then(n.args[0]?).bind λa=>(more ns { fresh true n.t [a]with op:=n.op,nest:=true}).map λb=>(b,ns.length)
 else n.x.bind λx=>nest ns n.op (n.k+1) x n.fA
def jV (op:Op)(lo:V):List V:=[(lo.2,if op=.atan then lo.1 else 0),(-lo.1,if op=.fK then lo.1+lo.2 else lo.2)]
noncomputable def turn (ns:List Nd)(i:Nat)(n:Nd)(lo:V):Option (List Nd):=
 (n.args[0]?).bind λx=>
 if n.op=.sqrt then(near lo.1 lo.2 20000 1).bind λa=>put ns i {n with t:=[(0,0),(a.2,0),(a.1,a.2),(0,a.1)],nest:=true}
 else
  (if 0<lo.1 then(more ns (fresh true (jV n.op lo) [x])).map λe=>(e,ns.length)else some (ns,x)).bind λh=>
  (nest h.1 n.op 0 h.2 none).bind λb=>
  (if n.op=.exp then(more b.1 (raised b.2)).map λf=>(f,b.1.length)else some b).bind λd=>
  if lo.1=0 then put d.1 i {n with args:=[d.2]}
  else(outright d.1 n.op lo.1 lo.2).bind λg=>
   put g.1 i {n with t:=(if n.op=.exp then Kind.mul else Kind.add).cols,args:=[g.2,d.2],read:=[0,0]}
noncomputable def give (s:St)(i:Nat)(n:Nd)(c:Int):Option St:=
 (put s.nodes i {n with out:=n.out++[c],told:=n.told.mul (Mt.sym c),dR:=n.dR++[n.told.mul (Mt.sym c)]}).map λns=>⟨ns,s.clock-1⟩
def bump:List Nat->Nat->List Nat
 | [],_=>[]
 |r::a,0=>(r+1)::a
 |r::a,k+1=>r::bump a k
noncomputable def wide (s:St)(i:Nat)(n:Nd)(a:Nat):Option St:=
 if a=n.args.length then
  (deeper s.nodes n).bind λd=>(put d.1 i {n with args:=n.args++[d.2],read:=n.read++[0]}).map λns=>⟨ns,s.clock⟩
 else some s
noncomputable def settle (ns:List Nd)(i:Nat)(n:Nd):Option (List Nd):=
 if n.aP then
  (ends ns n 0).bind λe=>
  if known n.op e.2 e.1 then(put ns i {n with read:=n.read.set 0 0,aP:=false}).bind λa=>turn a i {n with read:=n.read.set 0 0,aP:=false} e.2
  else some ns
 else some ns
noncomputable def after (s:St)(i b:Nat):Option (St×Bool):=
 (s.nodes[i]?).bind λn=>
 (put s.nodes i {n with read:=bump n.read b}).bind λns=>
 if s.clock-1<0 then some (⟨ns,s.clock-1⟩,false)else
 (settle ns i {n with read:=bump n.read b}).map λa=>(⟨a,s.clock-1⟩,true)
noncomputable def reads (d:St->Nat->Nat->Option (St×Option Int))(s:St)(i:Nat)(n:Nd):Option (St×Bool):=
 if n.t=[]then
  (constant n n.k).bind λm=>(put s.nodes i {n with part:=n.part.mul m,k:=n.k+1}).map λns=>(⟨ns,s.clock-1⟩,decide (0<=s.clock-1))
 else
  (side s.nodes n).bind λb=>(wide s i n b).bind λf=>
  (f.nodes[i]?).bind λe=>(e.args[b]?).bind λa=>(e.read[b]?).bind λr=>
  (d f a r).bind λx=>match x.2 with
   |none=>some (x.1,false)
   |some _=>after x.1 i b
noncomputable def sym:Nat->St->Nat->Nat->Option (St×Option Int)
 |0,_,_,_=>none
 |f+1,s,i,j=>
  (s.nodes[i]?).bind λn=>
  match n.out[j]? with
  |some c=>some (s,some c)
  |none=>
   (if n.aP then some none else next s.nodes n).bind λo=>match o with
   |some c=>if s.clock-1<0 then some (⟨s.nodes,s.clock-1⟩,none)else(give s i n c).bind λa=>sym f a i j
   |none=>(reads (sym f) s i n).bind λx=>if x.2 then sym f x.1 i j else some (x.1,none)
end Rf
namespace Rf
open Nw
variable {w:Nat}
theorem aIz {m:Mt}(h:cW w m)(c:Int):cW (w+2) (m.mul (Mt.sym c)):=by
 obtain⟨a,b,d,f⟩:=h;unfold Bits at a b d f
 have e:2^(w+2)=4*2^w:=by rw[Nat.pow_add];omega
 unfold Mt.mul Mt.sym
 constructor<;>(unfold Bits;rw[e];generalize 2^w=N at *)<;>(repeat' split)<;>simp<;>omega
structure Up (m:Mt):Prop where
 a:0<=m.a
 b:0<=m.b
 c:0<=m.c
 d:0<=m.d
 det:0<m.a*m.d-m.b*m.c
theorem aSe:Up one:=⟨by decide,by decide,by decide,by decide,by decide⟩
theorem aWN {m:Mt}(h:Up m){s:Int}(a:s∈[(-1:Int),1,0]):Up (m.mul (Mt.sym s)):=by
 obtain⟨b,d,e,f,g⟩:=h;simp at a
 rcases a with rfl|rfl|rfl
 .refine⟨?_,?_,?_,?_,?_⟩<;>simp[Mt.mul,Mt.sym]<;>(first|omega|grind)
 .refine⟨?_,?_,?_,?_,?_⟩<;>simp[Mt.mul,Mt.sym]<;>(first|omega|grind)
 .refine⟨?_,?_,?_,?_,?_⟩<;>simp[Mt.mul,Mt.sym]<;>(first|omega|grind)
theorem aKd (m s:Mt)(v:V):fG (m.mul s) v=fG s (fG m v):=by grind [fG,Mt.mul,Mt.vG,Mt.vH]
theorem Gi (v:V):fG one v=v:=by
 unfold fG one Mt.vG Mt.vH;simp
theorem mX (v:V):fits [v]=true↔((0<=v.1/\0<=v.2/\(0<v.1\/0<v.2))\/(v.1<=0/\v.2<=0/\(v.1<0\/v.2<0))):=by grind [fits,pC,lO]
theorem aM8 {M:V}(h:fits [M]=true):∃s,[(-1:Int),1,0].find? (can [M])=some s:=by
 have:([(-1:Int),1,0].find? (can [M])).isSome=true:=by
  rw[o9];have a:=(mX M).1 h
  have k1:can [M] (-1)=true\/can [M] 1=true:=by
   unfold can;simp only[p7,p8];rw[mX,mX];simp[fG,Mt.sym,Mt.vG,Mt.vH];omega
  rcases k1 with k|k
  .exact⟨-1,by simp,k⟩
  .exact⟨1,by simp,k⟩
 exact Option.isSome_iff_exists.1 this
theorem aPO {M:V}(a:M.1<0)(b:0<M.2):∃s,[(43:Int),45,111,119].find? (can [M])=some s:=by
 have:([(43:Int),45,111,119].find? (can [M])).isSome=true:=by
  rw[o9];refine⟨45,by simp,?_⟩;unfold can;simp only[p7,p8];rw[mX];simp[fG,Mt.sym,Mt.vG,Mt.vH];omega
 exact Option.isSome_iff_exists.1 this
theorem aP2 {D:List V}{ts:LN}{s:Int}(h:ts.find? (can D)=some s):can D s=true/\s∈ts:=by grind
theorem aGC:∀(k n:Nat),n<4^k->isqrt k n*isqrt k n<=n/\n<(isqrt k n+1)*(isqrt k n+1)
 |0,n,h=>by
  have:n=0:=by simpa using h
  subst this;simp[isqrt]
 |k+1,n,h=>by
  have g:n/4<4^k:=by
   rw[Nat.pow_succ]at h;omega
  obtain⟨i,f⟩:=aGC k (n/4) g;unfold isqrt;generalize isqrt k (n/4)=r at*
  have a:2*r*(2*r)=4*(r*r):=by grind
  have b:(2*r+1)*(2*r+1)=4*(r*r)+4*r+1:=by grind
  have d:(2*r+1+1)*(2*r+1+1)=4*(r*r)+8*r+4:=by grind
  have e:(r+1)*(r+1)=r*r+2*r+1:=by grind
  rw[e]at f;split
  .rename_i hc;refine⟨hc,?_⟩;rw[d];omega
  .rename_i hc;rw[a,b]at*;exact⟨by omega,by omega⟩
variable {v:Int}
theorem Oi (h:0<=v):0<=root v/\root v*root v<=v/\v<(root v+1)*(root v+1):=by
 obtain⟨n,rfl⟩:=Int.eq_ofNat_of_zero_le h;unfold root;rw[j8]
 have d:n<4^(n.log2/2+1):=by
  rw[show(4:Nat)=2^2 by rfl,<-Nat.pow_mul];refine Nat.lt_of_lt_of_le (Nat.lt_log2_self) (Nat.pow_le_pow_right (by decide) (by omega))
 obtain⟨a,b⟩:=aGC _ n d;generalize isqrt (n.log2/2+1) n=r at*;refine⟨by omega,?_,?_⟩
 .rw[<-Int.natCast_mul];exact Int.ofNat_le.2 a
 .have:((r:Int)+1)*((r:Int)+1)=(((r+1)*(r+1):Nat):Int):=by simp
  rw[this];exact j9.2 b
theorem aTR {k:Int}(a:0<=k)(h:k*k<=v):k<=root v:=by
 have b:0<=v:=k8 (k9 a a) h;obtain⟨d,e,f⟩:=Oi b
 rcases l4 (root v) k with h4|h4
 .have:(root v+1)*(root v+1)<=k*k:=l5 (by omega) (by omega) (by omega) (by omega);omega
 .exact h4
theorem Vw (h:0<=v):root v<=v:=by
 obtain⟨a,b,d⟩:=Oi h
 rcases l4 (root v) 1 with h4|h4
 .omega
 .have:root v*1<=root v*root v:=l7 h4 a;omega
theorem aIC {p q:Int}(r:0<p)(i:0<q):∀(k:Nat) (t:Int),0<t->q*256<=t*t*4^k->∃a b,near p q (k+1) t=some (a,b)/\16<=a/\a<=b*b*p/\0<b/\b<=t*2^k
 |0,t,g,h=>by
  have f:0<=t*t*p:=k9 (k9 (by omega) (by omega)) (by omega)
  have s:256<=t*t*p/q:=by
   refine(Int.le_ediv_iff_mul_le i).2 ?_;have:t*t*1<=t*t*p:=l7 (by omega) (k9 (by omega) (by omega));simp at h;omega
  have d:16<=root (t*t*p/q):=aTR (by decide) (by omega);exact⟨_,_,by unfold near;rw[if_pos d],d,k8 (Vw (by omega)) (l8 _ f),g,by simp⟩
 |k+1,t,g,h=>by
  have f:0<=t*t*p:=k9 (k9 (by omega) (by omega)) (by omega)
  by_cases d:16<=root (t*t*p/q)
  .refine⟨_,_,by unfold near;rw[if_pos d],d,k8 (Vw (l9 f (by omega))) (l8 _ f),g,?_⟩
   have:(1:Int)<=2^(k+1):=by have:(0:Int)<2^(k+1):=Int.pow_pos (by decide);omega
   have:=l7 this (show 0<=t by omega);omega
  .obtain ⟨a,b,j,l,n,o,u⟩:=aIC r i k (t+t) (by omega) (by
    have e:(t+t)*(t+t)=t*t*4:=by grind
    rw[e,Int.mul_assoc,<-Int.pow_succ']
    exact h)
   refine⟨a,b,by unfold near;rw[if_neg d];exact j,l,n,o,?_⟩;rw[n4]
   have:(t+t)*2^k=t*(2^k*2):=by grind
   omega
theorem aIB {p q:Int}{r:Int×Int}:∀(k m:Nat) (t:Int),k<=m->near p q k t=some r->near p q m t=some r
 |0,_,_,_,h=>by simp[near]at h
 |k+1,0,_,a,_=>by omega
 |k+1,m+1,t,a,h=>by
  unfold near at h ⊢;split at h
  .rename_i hc;rw[if_pos hc];exact h
  .rename_i hc;rw[if_neg hc];exact aIB k m _ (by omega) h
theorem aRG {q:Int}(h:Bits w q):q<2^w:=by grind [Bits]
theorem aV4 {b:Int}(a:0<=b)(h:b<=2^w):Bits (w+1) b:=by grind [Bits]
theorem Ox {p q:Int}(l:0<p)(n:0<q)(g:Bits 6100 p)(h:Bits 6100 q):∃a b,near p q 20000 1=some (a,b)/\16<=a/\0<b/\Bits 12300 a/\Bits 3100 b:=by
 have o:q<2^6100:=aRG h
 obtain ⟨a,b,i,j,r,k,f⟩:=aIC l n 3060 1 (by decide) (by
  have e:(1:Int)*1*4^3060=2^6100*2^20:=by
   rw[<-n5,show(4:Int)=2^2 by rfl,<-Int.pow_mul,n6,n6]
  rw[e]
  have:(2:Int)^20=1048576:=by decide
  rw[this];generalize (2:Int)^6100=N at*
  omega)
 have d:Bits 3061 b:=aV4 (by omega) (by rw[n6]at f;exact f);refine⟨a,b,aIB _ _ _ (by decide) i,j,k,?_,eI d (by decide)⟩;exact Ic (fY (fY d d) g) (by omega) (by decide)
end Rf
open Go.RowKit
namespace Ab
def aK (x y:Int):Int:=(s4 x.natAbs y.natAbs:Nat)
theorem aVW:bI Z 65 (hY true (f2 aK) bF (λns=>ns.foldr max 0) [90,90]):=by
 refine Xh (bD func65 rfl rfl).en (λx y n m j k=>?_) (λw x y u v d f g i=>aLP w x y u v (10000000*90) d f g i (by decide));have a:Bits (max n (max m 0)) x:=eI j (by omega);have b:Bits (max n (max m 0)) y:=eI k (by omega);show((s4 x.natAbs y.natAbs:Nat):Int).natAbs<2^(10000000*max n (max m 0))
 have e:((s4 x.natAbs y.natAbs:Nat):Int).natAbs=s4 x.natAbs y.natAbs:=by omega
 rw[e]
 rcases Nat.eq_zero_or_pos x.natAbs with h|h
 .rw[h,Nat.gcd_zero_left];exact b
 .exact Nat.lt_of_le_of_lt (Nat.gcd_le_left _ h) a
noncomputable def Kj:List (FuncId×TE):=(180,hY true (yS cp) bF (λ_=>0) [40,40,40,40])::(65,hY true (f2 aK) bF (λns=>ns.foldr max 0) [90,90])::tW0
theorem aR8:cV Z Kj:=⟨aXb,aVW,aR7⟩
theorem bAd {v r:Int}(f:0<v)(d:0<r):0<(r+v/r)/2/\v<((r+v/r)/2+1)*((r+v/r)/2+1)/\(r<=(r+v/r)/2->r*r<=v):=by
 have g:0<=v/r:=l9 (by omega) (by omega);have i:r*(v/r)<=v:=Int.mul_ediv_self_le (by omega)
 have j:v<r*(v/r+1):=by
  have:=Int.lt_mul_ediv_self_add (x:=v) d;rw[Int.mul_add];omega
 generalize v/r=q at*;have b0:0<=(r+q)/2:=l9 (by omega) (by omega)
 have b1:r+q+1<=2*((r+q)/2+1):=by omega
 have b2:(r<=(r+q)/2)->r<=q:=by omega
 generalize (r+q)/2=b at*
 have k:4*(r*(q+1))<=(r+q+1)*(r+q+1):=by
  have:0<=(r-(q+1))*(r-(q+1)):=by
   rcases Int.le_total 0 (r-(q+1))with h|h
   .exact k9 h h
   .exact Int.mul_nonneg_of_nonpos_of_nonpos h h
  have e:(r+q+1)*(r+q+1)=4*(r*(q+1))+(r-(q+1))*(r-(q+1)):=by grind
  omega
 have l:(r+q+1)*(r+q+1)<=(2*(b+1))*(2*(b+1)):=l5 b1 b1 (by omega) (by omega)
 have n:(2*(b+1))*(2*(b+1))=4*((b+1)*(b+1)):=by grind
 have a:v<(b+1)*(b+1):=by omega
 refine⟨?_,a,λh=>?_⟩
 .rcases l4 0 b with h|h
  .exact h
  .have:b=0:=by omega
   subst this;omega
 .have:=b2 h;have:r*r<=r*q:=l7 this (by omega);omega
theorem Rr {x:Int}(h:0<=x):iE x 1=x/2:=by
 unfold iE Nm.half;rw[show decide ((1:Int)<1)=false from rfl,cond_false,if_neg (by omega)]
 have a:(x.natAbs:Int)=x:=by omega
 have b:(2:Int)^((1:Int).toNat)=2:=rfl;rw[a,b]
theorem aOS {v r:Int}(a:0<=v)(i:0<=r)(f:r*r<=v)(g:v<(r+1)*(r+1)):Rf.root v=r:=by
 obtain⟨b,d,e⟩:=Rf.Oi a
 rcases Int.lt_trichotomy (Rf.root v) r with h|h|h
 .have:(Rf.root v+1)*(Rf.root v+1)<=r*r:=l5 (by omega) (by omega) (by omega) (by omega);omega
 .exact h
 .have:(r+1)*(r+1)<=Rf.root v*Rf.root v:=l5 (by omega) (by omega) (by omega) (by omega);omega
theorem aGc (k:Nat):Go.Proofs.YtpdflaaamaokbaaGreatDoor.Bits (k+1) ((2:Int)^k):=by
 show((2:Int)^k).natAbs<2^(k+1);rw[Int.natAbs_pow];exact Nat.pow_lt_pow_right (by decide) (by omega)
def wJ (z r:Int):AS:=
 ⟨[.top,.val (.one (.ptr 0 0)),.val (.one (.ptr 1 0)),.top,.val (.one (.ptr 10 0))]++p9 36 .top,
  [(0,⟨[.sg 0,.dg true 0],66,true,false,false⟩),(1,⟨[.bool false,.lit (.slice none 0 0)],66,true,false,false⟩),(10,⟨[.sg 1,.dg true 1],66,true,false,false⟩)],11,[(z,10),(r,11)],[]⟩
def lX (z:Int):Int:=Wr ((Wr ((bl z:Int)+1)).tdiv 2)
theorem aMn (z:Int):(run Z (fI wK (aE Kj)) (λ_=>none) (aL Z (fI wK (aE Kj))) qM 300 [.code (aF f164),.top f164] (start f164 (eA true [.ns [z]] [10]))).bind (jS true [0,1,10] [1,2,4] 11 [10,11])=
  some (.br (decide (Nm.cmp z 0<=0)) (.ret (.one (.ns [0]))) (.need [0<=lX z/\lX z<=900000000/\10000000*1+(lX z).toNat<=1000000000] (.need [0<=((1:Int).natAbs:Int)*2^(lX z).toNat,Bits 10 z,Bits 11 (((1:Int).natAbs:Int)*2^(lX z).toNat)] (.again (.code (.loop (rU (aF f164) f164))::wB (aF f164) f164) (wJ z (((1:Int).natAbs:Int)*2^(lX z).toNat)))))):=by kernel_rfl
theorem aMo (z r:Int)(n:Nat):(run Z (fI wK (aE Kj)) (λ_=>none) (aL Z (fI wK (aE Kj))) kB 300 (.code (rU (aF f164) f164)::.lp (rU (aF f164) f164) n::wB (aF f164) f164) (wJ z r)).bind (jS true [0,1,10] [1,2,4] 11 [10,11])=
  some (.br (decide (0<Nm.cmp r 0)) (.need [0<r] (.need [(1:Int)<=1/\(1:Int)<=1000000000] (.br (decide (0<=Nm.cmp (iE (r+z/r) 1) r)) (.ret (.one (.ns [r]))) (.need [Bits 10 z,Bits 11 (iE (r+z/r) 1)] (.again (.lp (rU (aF f164) f164) n::wB (aF f164) f164) (wJ z (iE (r+z/r) 1))))))) (.ret (.one (.ns [r])))):=by kernel_rfl
def vR:List G->Option RG
 | [.ns [z]]=>some (.one (.ns [Rf.root z]))
 |_=>none
def Bg:List G->List Prop
 | [.ns [z]]=>[0<=z]
 |_=>[]
theorem aTS:bI Z 164 (hY true vR Bg (λns=>ns.headD 0) [10]):=by
 refine Cj (l:=Kj) aR8 Wz (bD func164 rfl rfl) (kb:=[0,1,10]) (kt:=[1,2,4]) (nx:=11) (rb:=[10,11]) ?_ (by kernel_rfl) ?_
 .intro x ns out h b g L;unfold vR at h;split at h
  .rename_i z;cases h;have b:0<=z:=b.one
   match ns,g with
   | [n],⟨g,_⟩=>
    intro y v;simp at v;subst v;have k:=g z (by simp);have A:=Rf.Vw b;have B:=(Rf.Oi b).1;exact Ic k (by omega) (s8 _)
  .cases h
 .intro x out h b g;unfold vR at h;split at h
  .rename_i z;cases h;have b:0<=z:=b.one;have j:Bits 10 z:=g.1 z (by simp);have D:=Qc j
   have C:lX z=(((bl z+1)/2:Nat):Int):=by
    have J:Wr ((bl z:Int)+1)=(bl z:Int)+1:=mV (by omega) (by omega);unfold lX;rw[J]
    have:((bl z:Int)+1).tdiv 2=(((bl z+1)/2:Nat):Int):=by
     rw[Int.tdiv_eq_ediv_of_nonneg (by omega)];omega
    rw[this];exact mV (by omega) (by omega)
   have w:((1:Int).natAbs:Int)*2^(lX z).toNat=2^((bl z+1)/2):=by
    rw[C,j8];show(1:Int)*_=_;rw[n6]
   have E:(0:Int)<2^((bl z+1)/2):=jZ (by decide) _;have b2:Bits 11 (2^((bl z+1)/2):Int):=Lq (aGc ((bl z+1)/2)) (by omega);refine⟨λm s=>∃r:Int,s=wJ z r/\0<r/\0<z/\z<(r+1)*(r+1)/\Bits 11 r/\m=r.toNat,⟨300,_,aMn z,?_,?_⟩,?_⟩
   .intro d
    have d:Nm.cmp z 0<=0:=by simpa using d
    have:z=0:=by
     rcases n7 b with h|h
     .rw[hO h]at d;omega
     .exact h.symm
    subst this;rw[aOS (r:=0) (by decide) (by decide) (by decide) (by decide)];exact rfl
   .intro d
    have d:¬Nm.cmp z 0<=0:=by simpa using d
    have i:0<z:=by
     rcases n7 b with h|h
     .exact h
     .exfalso;apply d;rw[jB h.symm];decide
    rw[w];refine⟨gB ⟨by omega,by omega,by omega⟩ gJ,gB (by omega) (gB j (gB b2 gJ)),rfl,_,_,rfl,E,i,?_,b2,rfl⟩;have k:=(Gn (z:=z) (by omega)).2.2
    have A:(2:Int)^bl z<=2^((bl z+1)/2)*2^((bl z+1)/2):=by
     rw[<-n5];exact Nm.tQ (by decide) (by omega)
    have B:z<(2:Int)^bl z:=by
     have:((z.natAbs:Nat):Int)<((2^bl z:Nat):Int):=j9.2 k;rw[Int.natCast_pow]at this;have e:((2:Nat):Int)=2:=rfl;rw[e]at this;omega
    generalize (2:Int)^((bl z+1)/2)=P at*
    have e:(P+1)*(P+1)=P*P+2*P+1:=by grind
    omega
   .rintro m s⟨r,rfl,p,i,o,br,rfl⟩ n;obtain⟨F,H,I⟩:=bAd i p;have M:0<=z/r:=l9 (by omega) (by omega);have u:iE (r+z/r) 1=(r+z/r)/2:=Rr (by omega);refine⟨300,_,aMo z r n,?_,?_⟩
    .intro _;refine⟨gB p gJ,gB (by decide) gJ,?_,?_⟩
     .intro a
      have a:0<=Nm.cmp (iE (r+z/r) 1) r:=by simpa using a
      rw[u]at a
      have h8:r<=(r+z/r)/2:=by
       rcases l4 ((r+z/r)/2) r with h|h
       .rw[jC h]at a;omega
       .exact h
      rw[aOS b (by omega) (I h8) o];exact rfl
     .intro a
      have a:¬0<=Nm.cmp (iE (r+z/r) 1) r:=by simpa using a
      rw[u]at a ⊢
      have h8:(r+z/r)/2<r:=by
       rcases l4 ((r+z/r)/2) r with h|h
       .exact h
       .exfalso;apply a
        rcases n7 h with h|h
        .rw[hO h];decide
        .rw[jB h.symm];decide
      have q:Bits 11 ((r+z/r)/2):=Ic br (by omega) (s8 _);exact⟨gB j (gB q gJ),rfl,((r+z/r)/2).toNat,by omega,_,rfl,F,i,H,q,rfl⟩
    .intro f
     have f:¬0<Nm.cmp r 0:=by simpa using f
     exfalso;apply f;rw[hO p];decide
  .cases h
noncomputable def tW:List (FuncId×TE):=(164,hY true vR Bg (λns=>ns.headD 0) [10])::Kj
theorem Ih:cV Z tW:=⟨aTS,aR8⟩
def jH (k:Bool):Out->Option (List Prop×RG×Nat)
 |.ret (.val v)=>(gT k v).map λg=>([],.one g.1,g.2)
 |.ret (.tup e)=>(eZ (gT k) e).map λd=>([],.tup (d.map (·.1)),(d.map (·.2)).foldr max 0)
 |.br t x y=>(jH k x).bind λa=>(jH k y).bind λb=>(Em t a.2.1 b.2.1).map λc=>(a.1.map (λp=>t=true->p)++b.1.map (λp=>t=false->p),c,max a.2.2 b.2.2)
 |.need p o=>(jH k o).map λa=>(p++a.1,a.2)
theorem aRz {k:Bool}{w:Nat}{n:World}:∀{b:List VT} {a:List (G×Nat)} {d:LB},eZ (gT k) b=some a->(a.map (·.2)).foldr max 0<=w->All2 (lJ Z n) b d->All2 (lJ Z n) ((a.map (·.1)).map (oZ k w)) d
 | [],a,[],h,_,_=>by simp[eZ]at h;subst h;trivial
 |v::b,a,x::d,h,i,⟨l,o⟩=>by
  unfold eZ at h;obtain⟨y,e,f⟩:=aS h;obtain⟨p,g,rfl⟩:=bU f;simp only[p7,List.foldr_cons]at i;obtain⟨k1,j⟩:=Mb e l;exact⟨j w (k1.mono (by omega)),aRz g (by omega) o⟩
 | [],_,_::_,_,_,h=>h.elim
 |_::_,_,[],_,_,h=>h.elim
theorem Dq {k:Bool}{w:Nat}:∀{o:Out} {r:List Prop} {out:RG} {m:Nat},jH k o=some (r,out,m)->Holds r->m<=w->o.ok λF=>∀d v,RRV Z d F v->RRV Z d (wH k w out) v
 |.ret (.val t),r,out,m,h,_,f=>by
  simp only[jH]at h;obtain⟨⟨g,J⟩,i,j⟩:=bU h;cases j;intro d v hv;obtain⟨k1,D⟩:=Mb i hv;exact D w (k1.mono f)
 |.ret (.tup vs),r,out,m,h,_,f=>by
  simp only[jH]at h;obtain⟨I,i,j⟩:=bU h;cases j;rintro d v⟨H,e,hv⟩;exact⟨H,e,aRz i f hv⟩
 |.br t x y,r,out,m,h,s,f=>by
  simp only[jH]at h;obtain⟨⟨p1,a,E⟩,i,j⟩:=aS h;obtain⟨⟨M,b,L⟩,z,A⟩:=aS j;obtain⟨c,B,C⟩:=bU A;cases C;have u:=aN7 B;refine⟨λe=>?_,λe=>?_⟩
  .subst e;subst u;exact Dq i (λq l=>s (true=true->q) (List.mem_append_left _ (q7.2 ⟨q,l,rfl⟩)) rfl) (by simp only at f ⊢;omega)
  .subst e;subst u;exact Dq z (λq l=>s (false=false->q) (List.mem_append_right _ (q7.2 ⟨q,l,rfl⟩)) rfl) (by simp only at f ⊢;omega)
 |.need p o,r,out,m,h,s,f=>by
  simp only[jH]at h;obtain⟨⟨p1,a,E⟩,i,j⟩:=bU h;cases j;exact⟨λq l=>s q (by simp[l]),Dq i (λq l=>s q (by simp[l])) f⟩
abbrev eB (k:Bool)(F:List G->Option RG)(nd:List G->List Prop)(N:Nat)(a:NU):TE:=hY k F nd (λ_=>N) a
variable {l:List (FuncId×TE)}{B:FuncId}{F:List G->Option RG}{nd:List G->List Prop}{f:NU}
theorem iG (D:cV Z l){b:XW}(q:bQ Z b){fn:Func}(e:Fn B fn){k:Bool}{w:Nat}
  (h:∀d out,F d=some out->∃z m,((run Z (aE l) b (aL Z (aE l)) (λ_=>false) 2000 [.code (aF fn),.top fn] (start fn (eA k d f))).bind outcome).bind (jH k)=some (z,out,m)/\m<=w/\(Holds (nd d)->pU d f->Holds z)):bI Z B (eB k F nd w f):=by
 refine⟨e.en,λts r p n R a A u=>?_⟩;unfold eB hY at n;obtain⟨C,J,j⟩:=aS n
 cases g:mZ (C.map (·.2)) f with
 |false=>rw[g]at j;cases j
 |true=>
  rw[g]at j;simp only[cond_true]at j;obtain⟨out,L,M⟩:=bU j;cases M;obtain⟨H,g2,I⟩:=Ob ts C f A J g u;obtain⟨z,m,k1,W,E⟩:=h _ out L;have x:=E R I;clear E;generalize C.map (·.1)=d at*;obtain⟨o,X,Y⟩:=aS k1;obtain⟨tr,k6,k7⟩:=aS X
  have P:At (eD 0 (eA k d f)).2 0 (eD 0 (eA k d f)).2:=λi y U=>by rw[Nat.zero_add];exact U
  refine mO (w0:=a) (ψ:=λ_=>none) (φ:=λ_=>none) (s:=start fn (eA k d f)) (vs:=(eD 0 (eA k d f)).1) (dL D) q (rJ mixed (dL D)) e.at' e.body rfl (Hv _ 0 A P H) (Oh fn _ a) 2000 k6 _ (λ_ _=>False) (λ_ _ h=>h.elim) (yK k7 (Dq Y x W)) ?_;rintro r0 s φ v w'⟨hc,r',O,h8⟩ S T;exact⟨v,rfl,h8 w' v (Cr O S),RepF.below T hc⟩
theorem eP (d:cV Z l){fn:Func}(b:Fn B fn){w:Nat}
  (h:∀a out,F a=some out->((run Z (aE l) (λ_=>none) (aL Z (aE l)) (λ_=>false) 2000 [.code (aF fn),.top fn] (start fn (eA true a f))).bind outcome).bind (jH true)=some ([],out,w)):bI Z B (eB true F bF w f):=
 iG d dJ b λa out e=>⟨[],w,h a out e,s8 _,λ_ _=>gJ⟩
theorem aI1 {k:Bool}{n:List G->Option RG}{i:List G->List Prop}{l:List Nat->Nat}(h:bI Z B (hY k F nd l f))(x:∀b out,n b=some out->Holds (i b)->pU b f->F b=some out/\Holds (nd b)):bI Z B (hY k n i l f):=by
 refine⟨h.1,λts r p e y w q g=>?_⟩;unfold hY at e;obtain⟨j,o,d⟩:=aS e
 cases a:mZ (j.map (·.2)) f with
 |false=>rw[a]at d;cases d
 |true=>
  rw[a]at d;simp only[cond_true]at d;obtain⟨out,u,v⟩:=bU d;cases v;obtain⟨A,C,s⟩:=Ob ts j f q o a g;obtain⟨k1,z⟩:=x _ out u y s;exact h.2 ts (wH k (l (j.map (·.2))) out) (nd (j.map (·.1))) (by unfold hY;rw[o];simp only[Option.bind_some,a,cond_true,k1,Option.map_some]) z w q g
def lowT (t b:Int):Int:=bif decide (Nm.cmp b 0<0)then -t/aK t b else bif Nm.cmp b 0==0 then(bif decide (Nm.cmp t 0<0)then -t/aK t b else t/aK t b)else t/aK t b
def lowB (t b:Int):Int:=bif decide (Nm.cmp b 0<0)then -b/aK t b else bif Nm.cmp b 0==0 then(bif decide (Nm.cmp t 0<0)then -b/aK t b else b/aK t b)else b/aK t b
def xS:List G->Option RG
 | [.ns [t],.ns [b]]=>some (.one (.ns [lowT t b,lowB t b]))
 |_=>none
def sV:List G->List Prop
 | [.ns [t],.ns [b]]=>[0<aK t b]
 |_=>[]
theorem aRF:bI Z 49 (eB true xS sV 41 [40,40]):=by
 refine iG (l:=tW) Ih dJ (bD func49 rfl rfl) ?_;intro d out h;unfold xS at h;split at h
 .rename_i t b;cases h;refine⟨[decide (Nm.cmp b 0<0)=true->0<aK t b,decide (Nm.cmp b 0<0)=true->0<aK t b,decide (Nm.cmp b 0<0)=false->(Nm.cmp b 0==0)=true->decide (Nm.cmp t 0<0)=true->0<aK t b,decide (Nm.cmp b 0<0)=false->(Nm.cmp b 0==0)=true->decide (Nm.cmp t 0<0)=true->0<aK t b,decide (Nm.cmp b 0<0)=false->(Nm.cmp b 0==0)=true->decide (Nm.cmp t 0<0)=false->0<aK t b,decide (Nm.cmp b 0<0)=false->(Nm.cmp b 0==0)=true->decide (Nm.cmp t 0<0)=false->0<aK t b,decide (Nm.cmp b 0<0)=false->(Nm.cmp b 0==0)=false->0<aK t b,decide (Nm.cmp b 0<0)=false->(Nm.cmp b 0==0)=false->0<aK t b],41,by kernel_rfl,by decide,λa e=>?_⟩;have a:0<aK t b:=a.one;exact gB (λ_=>a) (gB (λ_=>a) (gB (λ_ _ _=>a) (gB (λ_ _ _=>a) (gB (λ_ _ _=>a) (gB (λ_ _ _=>a) (gB (λ_ _=>a) (gB (λ_ _=>a) gJ)))))))
 .cases h
def vM:List Int->Option (List Int)
 | [n]=>some [n,1]
 |_=>none
theorem aS1:bI Z 80 (Cc true vM):=by
 refine Ci Ih (bD func80 rfl rfl) ?_ ?_
 .intro d out h;unfold vM at h;split at h
  .rename_i n;cases h;exact⟨[n.natAbs<1000000000000000000],by kernel_rfl,λh=>gB (h n (by simp)) gJ⟩
  .cases h
 .intro d out h b;unfold vM at h;split at h
  .rename_i n;cases h;intro z a;simp at a
   rcases a with rfl|rfl
   .exact iH (b _ (by simp))
   .exact iH (by decide)
  .cases h
def qT:List G->Option RG
 | [.ns [t,b]]=>some (.one (.i .i64 (Nm.cmp t 0)))
 |_=>none
theorem aNE:bI Z 106 (eB true qT bF 0 [90]):=eP Ih (bD func106 rfl rfl) λ_ _ h=>by
 unfold qT at h
 split at h<;>cases h
 kernel_rfl
def uN:List G->Option RG
 | [.ns [t,b]]=>some (.one (.ns [-t,b]))
 |_=>none
theorem aP5:bI Z 105 (eB true uN bF 10 [10]):=eP Ih (bD func105 rfl rfl) λ_ _ h=>by
 unfold uN at h
 split at h<;>cases h
 kernel_rfl
noncomputable def Ta:List (FuncId×TE):=(49,eB true xS sV 41 [40,40])::(80,Cc true vM)::(106,eB true qT bF 0 [90])::(105,eB true uN bF 10 [10])::tW
theorem Xd:cV Z Ta:=⟨aRF,aS1,aNE,aP5,Ih⟩
def nK (top e:Int->Int->Int->Int->Int):List G->Option RG
 | [.ns [a,b],.ns [c,d]]=>some (.one (.ns [lowT (top a b c d) (e a b c d),lowB (top a b c d) (e a b c d)]))
 |_=>none
def nA (top e:Int->Int->Int->Int->Int):List G->List Prop
 | [.ns [a,b],.ns [c,d]]=>[0<aK (top a b c d) (e a b c d)]
 |_=>[]
theorem aND:bI Z 124 (eB true (nK (λa b c d=>a*d+c*b) (λa b c d=>b*d)) (nA (λa b c d=>a*d+c*b) (λa b c d=>b*d)) 41 [10,10]):=by
 refine iG (l:=Ta) Xd dJ (bD func124 rfl rfl) ?_;intro f out h;unfold nK at h;split at h
 .rename_i a b c d;cases h;exact⟨[0<aK (a*d+c*b) (b*d)],41,by kernel_rfl,by decide,λe _=>gB e.one gJ⟩
 .cases h
theorem aLW:bI Z 126 (eB true (nK (λa b c d=>a*c) (λa b c d=>b*d)) (nA (λa b c d=>a*c) (λa b c d=>b*d)) 41 [10,10]):=by
 refine iG (l:=Ta) Xd dJ (bD func126 rfl rfl) ?_;intro f out h;unfold nK at h;split at h
 .rename_i a b c d;cases h;exact⟨[0<aK (a*c) (b*d)],41,by kernel_rfl,by decide,λe _=>gB e.one gJ⟩
 .cases h
theorem aNC:bI Z 127 (eB true (nK (λa b c d=>a*d) (λa b c d=>b*c)) (nA (λa b c d=>a*d) (λa b c d=>b*c)) 41 [10,10]):=by
 refine iG (l:=Ta) Xd dJ (bD func127 rfl rfl) ?_;intro f out h;unfold nK at h;split at h
 .rename_i a b c d;cases h;exact⟨[0<aK (a*d) (b*c)],41,by kernel_rfl,by decide,λe _=>gB e.one gJ⟩
 .cases h
noncomputable def tF1:List (FuncId×TE):=(124,eB true (nK (λa b c d=>a*d+c*b) (λa b c d=>b*d)) (nA (λa b c d=>a*d+c*b) (λa b c d=>b*d)) 41 [10,10])::(126,eB true (nK (λa b c d=>a*c) (λa b c d=>b*d)) (nA (λa b c d=>a*c) (λa b c d=>b*d)) 41 [10,10])::(127,eB true (nK (λa b c d=>a*d) (λa b c d=>b*c)) (nA (λa b c d=>a*d) (λa b c d=>b*c)) 41 [10,10])::Ta
theorem aR5:cV Z tF1:=⟨aND,aLW,aNC,Xd⟩
theorem aLV:bI Z 125 (eB true (nK (λa b c d=>a*d+-c*b) (λa b c d=>b*d)) (nA (λa b c d=>a*d+-c*b) (λa b c d=>b*d)) 41 [10,10]):=by
 refine iG (l:=tF1) aR5 dJ (bD func125 rfl rfl) ?_;intro f out h;unfold nK at h;split at h
 .rename_i a b c d;cases h;exact⟨[0<aK (a*d+-c*b) (b*d)],41,by kernel_rfl,by decide,λe _=>gB e.one gJ⟩
 .cases h
noncomputable def tF:List (FuncId×TE):=(125,eB true (nK (λa b c d=>a*d+-c*b) (λa b c d=>b*d)) (nA (λa b c d=>a*d+-c*b) (λa b c d=>b*d)) 41 [10,10])::tF1
theorem aWD:cV Z tF:=⟨aLV,aR5⟩
def Ef:List Int->Option (List Int)
 | [a,b,c,d]=>some [a,b,c,d]
 |_=>none
theorem aRI:bI Z 22 (Cc true Ef):=by
 refine Ci Ih (bD func22 rfl rfl) ?_ ?_
 .intro g out h;unfold Ef at h;split at h
  .rename_i a b c d;cases h;exact⟨[a.natAbs<1000000000000000000,b.natAbs<1000000000000000000,c.natAbs<1000000000000000000,d.natAbs<1000000000000000000],by kernel_rfl,λh=>by simp at h;exact gB h.1 (gB h.2.1 (gB h.2.2.1 (gB h.2.2.2 gJ)))⟩
  .cases h
 .intro g out h f;unfold Ef at h;split at h
  .cases h
   exact λz e=>iH (f z e)
  .cases h
def uP:List G->Option RG
 | [.ns [a],.ns [x],.ns [b],.ns [y]]=>some (.one (.ns [a*x+b*y]))
 |_=>none
theorem aQw:bI Z 48 (eB true uP bF 7 [3,3,3,3]):=eP Ih (bD func48 rfl rfl) λ_ _ h=>by
 unfold uP at h
 split at h<;>cases h
 kernel_rfl
noncomputable def Yl:List (FuncId×TE):=(22,Cc true Ef)::(48,eB true uP bF 7 [3,3,3,3])::tF
theorem Pz:cV Z Yl:=⟨aRI,aQw,aWD⟩
def fP (s:Int):Int:=bif s==2 then -1 else bif s==3 then 1 else bif s==4 then 1 else bif s==5 then 1 else bif s==6 then 3 else bif s==7 then 2 else 1
def fQ (s:Int):Int:=bif s==2 then 0 else bif s==3 then -1 else bif s==4 then 1 else bif s==5 then 0 else bif s==6 then 1 else bif s==7 then 1 else 0
def fR (s:Int):Int:=bif s==2 then 0 else bif s==3 then 1 else bif s==4 then -1 else bif s==5 then 1 else bif s==6 then 1 else bif s==7 then 0 else 0
def fS (s:Int):Int:=bif s==2 then 1 else bif s==3 then 1 else bif s==4 then 1 else bif s==5 then 2 else bif s==6 then 3 else bif s==7 then 1 else 1
def Ap:List G->Option RG
 | [.i .i64 s]=>some (.one (.ns [fP s,fQ s,fR s,fS s]))
 |_=>none
theorem aMO:bI Z 24 (eB true Ap bF 1 [0]):=eP Pz (bD func24 rfl rfl) λ_ _ h=>by
 unfold Ap at h
 split at h<;>cases h
 kernel_rfl
def uM:List G->Option RG
 | [.ns [a,b,c,d],.ns [e,f,g,h]]=>some (.one (.ns [a*e+b*g,a*f+b*h,c*e+d*g,c*f+d*h]))
 |_=>none
theorem aKj:bI Z 23 (eB true uM bF 7 [3,3]):=eP Pz (bD func23 rfl rfl) λ_ _ h=>by
 unfold uM at h
 split at h<;>cases h
 kernel_rfl
noncomputable def tM:List (FuncId×TE):=(24,eB true Ap bF 1 [0])::(23,eB true uM bF 7 [3,3])::Yl
theorem Xp:cV Z tM:=⟨aMO,aKj,Pz⟩
def vQ:List Int->Option (List Int)
 | [p,q]=>some [p,q]
 |_=>none
theorem aTA:bI Z 111 (Cc true vQ):=by
 refine Ci Xp (bD func111 rfl rfl) ?_ ?_
 .intro d out h;unfold vQ at h;split at h
  .rename_i p q;cases h;exact⟨[p.natAbs<1000000000000000000,q.natAbs<1000000000000000000],by kernel_rfl,λh=>by simp at h;exact gB h.1 (gB h.2 gJ)⟩
  .cases h
 .intro d out h b;unfold vQ at h;split at h
  .cases h
   exact λz a=>iH (b z a)
  .cases h
def Aj:List G->Option RG
 | [.ns [p,q],.ns [n]]=>some (.one (.ns [p*n,q*n]))
 |_=>none
theorem aSl:bI Z 195 (eB true Aj bF 18 [15,3]):=eP Xp (bD func195 rfl rfl) λ_ _ h=>by
 unfold Aj at h
 split at h<;>cases h
 kernel_rfl
def Ah:List G->Option RG
 | [.ns [p,q],.ns [r,s]]=>some (.one (.ns [p+r,q+s]))
 |_=>none
theorem aSk:bI Z 196 (eB true Ah bF 19 [18,18]):=eP Xp (bD func196 rfl rfl) λ_ _ h=>by
 unfold Ah at h
 split at h<;>cases h
 kernel_rfl
noncomputable def tC0:List (FuncId×TE):=(111,Cc true vQ)::(195,eB true Aj bF 18 [15,3])::(196,eB true Ah bF 19 [18,18])::tM
theorem aR2:cV Z tC0:=⟨aTA,aSl,aSk,Xp⟩
def An:List G->Option RG
 | [.ns [p,q],.ns [r,s],.ns [a,b,c,d]]=>some (.tup [.ns [p*a+r*c,q*a+s*c],.ns [p*b+r*d,q*b+s*d]])
 |_=>none
theorem aSo:bI Z 185 (eB true An bF 19 [15,15,3]):=eP aR2 (bD func185 rfl rfl) λ_ _ h=>by
 unfold An at h
 split at h<;>cases h
 kernel_rfl
noncomputable def tC1:List (FuncId×TE):=(185,eB true An bF 19 [15,15,3])::tC0
theorem Xc:cV Z tC1:=⟨aSo,aR2⟩
def Jb:List G->Option RG
 | [.ns [e,g,p1,h,f,i,p3,j],.ns [a,b,c,d]]=>some (.one (.ns [e*a+f*c,g*a+i*c,p1*a+p3*c,h*a+j*c,e*b+f*d,g*b+i*d,p1*b+p3*d,h*b+j*d]))
 |_=>none
theorem aUH:bI Z 173 (eB true Jb bF 19 [15,3]):=eP Xc (bD func173 rfl rfl) λ_ _ h=>by
 unfold Jb at h
 split at h<;>cases h
 kernel_rfl
def Jc:List G->Option RG
 | [.ns [e,g,p1,h,f,i,p3,j],.ns [a,b,c,d]]=>some (.one (.ns [e*a+p1*c,g*a+h*c,e*b+p1*d,g*b+h*d,f*a+p3*c,i*a+j*c,f*b+p3*d,i*b+j*d]))
 |_=>none
theorem aUI:bI Z 168 (eB true Jc bF 19 [15,3]):=eP Xc (bD func168 rfl rfl) λ_ _ h=>by
 unfold Jc at h
 split at h<;>cases h
 kernel_rfl
def Am:List G->Option RG
 | [.ns [e,g,p1,h,f,i,p3,j],.ns [a,b,c,d]]=>some (.one (.ns [d*e-b*g,a*g-c*e,d*p1-b*h,a*h-c*p1,d*f-b*i,a*i-c*f,d*p3-b*j,a*j-c*p3]))
 |_=>none
theorem aSn:bI Z 134 (eB true Am bF 19 [15,3]):=eP Xc (bD func134 rfl rfl) λ_ _ h=>by
 unfold Am at h
 split at h<;>cases h
 kernel_rfl
noncomputable def tC2:List (FuncId×TE):=(173,eB true Jb bF 19 [15,3])::(168,eB true Jc bF 19 [15,3])::(134,eB true Am bF 19 [15,3])::tC1
theorem Cw:cV Z tC2:=⟨aUH,aUI,aSn,Xc⟩
noncomputable def cQ (t z:Int):Int:=bif Nm.cmp z 0==0 then t else bif decide (t<0)then(tz z:Int)else bif decide ((tz z:Int)<t)then(tz z:Int)else t
def gM (a k:Int):Int:=bif a==11 then 1 else bif k==0 then 1 else bif a==13 then Wr (k*k)else Wr (Wr ((Wr (k+1)).tdiv 2)*Wr ((Wr (k+1)).tdiv 2))
def gN (a k:Int):Int:=bif a==11 then Wr (Wr (4*k)+2)else bif k==0 then 1 else bif a==13 then Wr (Wr (2*k)+1)else Wr (k+1)
def hP (k:Int):Int:=bif k==0 then 2 else bif k.tmod 3==2 then Wr ((Wr (2*Wr (k+1))).tdiv 3)else 1
theorem aTD {k:Int}(h:0<=k/\k<=100000000):Holds [(k==0)=false->(Wr (k*k)).natAbs<1000000000000000000,(k==0)=false->(Wr (Wr (2*k)+1)).natAbs<1000000000000000000]:=by
 have e:0<=k*k:=k9 h.1 h.1;have f:k*k<=100000000*100000000:=l5 h.2 h.2 h.1 (by decide);have a:Wr (k*k)=k*k:=mV (by omega) (by omega);have b:Wr (2*k)=2*k:=mV (by omega) (by omega);have d:Wr (2*k+1)=2*k+1:=mV (by omega) (by omega);rw[a,b,d];exact gB (λ_=>by omega) (gB (λ_=>by omega) gJ)
def Sg:List G->List Prop
 | [.i .i64 k]=>[0<=k/\k<=100000000]
 |_=>[]
noncomputable def Iw:List G->Option RG
 | [.i .i64 t,.ns [z]]=>some (.one (.i .i64 (cQ t z)))
 |_=>none
theorem aUC:bI Z 152 (eB true Iw bF 0 [0,19]):=eP Cw (bD func152 rfl rfl) λ_ _ h=>by
 unfold Iw at h
 split at h<;>cases h
 kernel_rfl
def qU:List G->Option RG
 | [.ns [p,q]]=>some (.one (.b ((Nm.cmp p 0==0)&&(Nm.cmp q 0==0))))
 |_=>none
theorem aMN:bI Z 201 (eB true qU bF 0 [19]):=eP Cw (bD func201 rfl rfl) λ_ _ h=>by
 unfold qU at h
 split at h<;>cases h
 kernel_rfl
def Ix:List G->Option RG
 | [.ns [a],.ns [b]]=>some (.one (.ns [bif decide (Nm.cmp a b<0)then b else a]))
 |_=>none
theorem aUD:bI Z 186 (eB true Ix bF 80 [80,80]):=eP Cw (bD func186 rfl rfl) λ_ _ h=>by
 unfold Ix at h
 split at h<;>cases h
 kernel_rfl
def Jf:List G->Option RG
 | [.i .i64 k]=>some (.one (.b ((k==13)||(k==11))))
 |_=>none
theorem aUL:bI Z 193 (eB true Jf bF 0 [0]):=eP Cw (bD func193 rfl rfl) λ_ _ h=>by
 unfold Jf at h
 split at h<;>cases h
 kernel_rfl
def Iv:List G->Option RG
 | [.i .i64 a,.i .i64 k]=>some (.tup [.i .i64 (gM a k),.i .i64 (gN a k)])
 |_=>none
theorem aUB:bI Z 194 (eB true Iv bF 0 [0,0]):=eP Cw (bD func194 rfl rfl) λ_ _ h=>by
 unfold Iv at h
 split at h<;>cases h
 kernel_rfl
def Ir:List G->Option RG
 | [.i .i64 k]=>some (.one (.i .i64 (hP k)))
 |_=>none
theorem aUz:bI Z 182 (eB true Ir bF 0 [0]):=eP Cw (bD func182 rfl rfl) λ_ _ h=>by
 unfold Ir at h
 split at h<;>cases h
 kernel_rfl
def Ja:List G->Option RG
 | [.i .i64 k]=>some (.one (.ns [bif k==0 then 0 else 0,bif k==0 then 4 else Wr (k*k),bif k==0 then 1 else 1,bif k==0 then 1 else Wr (Wr (2*k)+1)]))
 |_=>none
theorem aUG:bI Z 181 (eB true Ja Sg 1 [0]):=by
 refine iG (l:=tC2) Cw dJ (bD func181 rfl rfl) ?_;intro b out h;unfold Ja at h;split at h
 .rename_i k;cases h;exact⟨[(k==0)=false->(Wr (k*k)).natAbs<1000000000000000000,(k==0)=false->(Wr (Wr (2*k)+1)).natAbs<1000000000000000000],1,by kernel_rfl,by decide,λa _=>aTD a.one⟩
 .cases h
def Iz:List G->Option RG
 | [.i .i64 k]=>some (.one (.ns [bif k==6 then 0 else bif k==7 then 0 else bif k==8 then 1 else 0,bif k==6 then 0 else bif k==7 then 0 else bif k==8 then 0 else 0,bif k==6 then 1 else bif k==7 then 1 else bif k==8 then 0 else 1,bif k==6 then 0 else bif k==7 then 0 else bif k==8 then 0 else 0,bif k==6 then 1 else bif k==7 then -1 else bif k==8 then 0 else 0,bif k==6 then 0 else bif k==7 then 0 else bif k==8 then 0 else 1,bif k==6 then 0 else bif k==7 then 0 else bif k==8 then 0 else 0,bif k==6 then 1 else bif k==7 then 1 else bif k==8 then 1 else 0]))
 |_=>none
theorem aUF:bI Z 112 (eB true Iz bF 1 [0]):=eP Cw (bD func112 rfl rfl) λ_ _ h=>by
 unfold Iz at h
 split at h<;>cases h
 kernel_rfl
def Ao:List G->Option RG
 | [.i .i64 k,.ns [p,q]]=>some (.one (.ns [bif k==12 then q else bif k==13 then q else q,bif k==12 then 0 else bif k==13 then p else 0,bif k==12 then -p else bif k==13 then -p else -p,bif k==12 then p+q else bif k==13 then q else q,bif k==12 then 0 else bif k==13 then 0 else 0,bif k==12 then 0 else bif k==13 then 0 else 0,bif k==12 then 0 else bif k==13 then 0 else 0,bif k==12 then 0 else bif k==13 then 0 else 0]))
 |_=>none
theorem aSp:bI Z 200 (eB true Ao bF 11 [0,10]):=eP Cw (bD func200 rfl rfl) λ_ _ h=>by
 unfold Ao at h
 split at h<;>cases h
 kernel_rfl
noncomputable def tC3:List (FuncId×TE):=(152,eB true Iw bF 0 [0,19])::(201,eB true qU bF 0 [19])::(186,eB true Ix bF 80 [80,80])::(193,eB true Jf bF 0 [0])::(194,eB true Iv bF 0 [0,0])::(182,eB true Ir bF 0 [0])::(181,eB true Ja Sg 1 [0])::(112,eB true Iz bF 1 [0])::(200,eB true Ao bF 11 [0,10])::tC2
theorem aPc:cV Z tC3:=⟨aUC,aMN,aUD,aUL,aUB,aUz,aUG,aUF,aSp,Cw⟩
def Bw (p q:Int):Int:=bif (Nm.cmp p 0==0)&&(Nm.cmp q 0==0)then 1 else p+q
def iD (k d a lp b:Int):Bool:=
 bif k==10 then decide (Nm.cmp (d*b) (lp*a+lp*a)<=0)
 else bif k==12 then decide (Nm.cmp ((d*b-lp*a)*4) (a*b+lp*a)<=0)
 else bif k==13 then decide (Nm.cmp ((d*b-lp*a)*4) (a*b+d*lp)<=0)
 else decide (Nm.cmp ((d*b-lp*a)*4) (a*b)<=0)
def Jg:List G->Option RG
 | [.ns [p,q]]=>some (.one (.ns [Bw p q]))
 |_=>none
theorem aUM:bI Z 197 (eB true Jg bF 16 [15]):=eP aPc (bD func197 rfl rfl) λ_ _ h=>by
 unfold Jg at h
 split at h<;>cases h
 kernel_rfl
def Iu:List G->Option RG
 | [.i .i64 k,.ns [a,d],.ns [lp,e]]=>some (.one (.b (iD k a d lp e)))
 |_=>none
theorem aUA:bI Z 189 (eB true Iu bF 0 [0,15,15]):=eP aPc (bD func189 rfl rfl) λ_ _ h=>by
 unfold Iu at h
 split at h<;>cases h
 kernel_rfl
noncomputable def tC4:List (FuncId×TE):=(197,eB true Jg bF 16 [15])::(189,eB true Iu bF 0 [0,15,15])::tC3
theorem aR3:cV Z tC4:=⟨aUM,aUA,aPc⟩
def iZ (up d e f op a rp b:Int):Int:=(((up*f-d*e)*(Bw op a*Bw rp b)).natAbs:Int)
def Xv (a b:Int):Int:=bif decide (Nm.cmp a b<0)then b else a
def Je:List G->Option RG
 | [.ns [up,d],.ns [e,f],.ns [op,a],.ns [rp,b]]=>some (.one (.ns [iZ up d e f op a rp b]))
 |_=>none
theorem aUK:bI Z 187 (eB true Je bF 63 [15,15,15,15]):=eP aR3 (bD func187 rfl rfl) λ_ _ h=>by
 unfold Je at h
 split at h<;>cases h
 kernel_rfl
noncomputable def tC5:List (FuncId×TE):=(187,eB true Je bF 63 [15,15,15,15])::tC4
theorem aR4:cV Z tC5:=⟨aUK,aR3⟩
def kD (a d p1 e b f p3 g t:Int):Int:=
 Nm.cmp (Xv (iZ a d b f p1 e p3 g) (iZ p1 e p3 g a d b f)*t) (Xv (iZ a d p1 e b f p3 g) (iZ b f p3 g a d p1 e))
def Hd:List G->List Prop
 | [.ns _,.i .i64 t]=>[t.natAbs<1000000000000000000]
 |_=>[]
inductive SF where
 |st (b:Bool)
 |sy (b:Bool)
def SF.val:SF->Bool
 |.st b=>b
 |.sy b=>b
def Jh:List G->Option RG
 | [.ns [a,d,p1,e,b,f,p3,g],.i .i64 t]=>some (.one (.i .i64 (kD a d p1 e b f p3 g t)))
 |_=>none
theorem aRn:bI Z 170 (eB true Jh Hd 0 [15,0]):=by
 refine iG (l:=tC5) aR4 dJ (bD func170 rfl rfl) ?_;intro b out h;unfold Jh at h;split at h
 .rename_i d f p1 g e i p3 j t;cases h;exact⟨[t.natAbs<1000000000000000000],0,by kernel_rfl,by decide,λa _=>gB a.one gJ⟩
 .cases h
noncomputable def wM:List (FuncId×TE):=(170,eB true Jh Hd 0 [15,0])::tC5
theorem Py:cV Z wM:=⟨aRn,aR4⟩
def orL (u x y:Bool)(k:SF->LT):LT:=.br u (k (.st true)) (.br x (k (.st true)) (k (.sy y)))
def Ii (d:SF)(k:LT):LT:=
 match d with
 |.st true=>.ret (.one (.b false))
 |.st false=>k
 |.sy t=>.br t (.ret (.one (.b false))) k
def Qw (u d:SF)(k:LT):LT:=
 match u with
 |.st true=>Ii d k
 |.st false=>k
 |.sy t=>.br t (Ii d k) k
variable {P:RG->Prop}{Q:List (K (List AT))->AS->Prop}
theorem aRO {i x y:Bool}{k:SF->LT}(h:∀s:SF,s.val=(i||x||y)->(k s).ok P Q):(orL i x y k).ok P Q:=by
 refine⟨λe=>h _ (by rw[e];rfl),λe=>⟨λf=>h _ (by rw[e,f];rfl),λf=>h _ (by rw[e,f];rfl)⟩⟩
theorem aSJ {u d:SF}{k:LT}(g:u.val=true->d.val=true->P (.one (.b false)))(f:k.ok P Q):(Qw u d k).ok P Q:=by
 have h:u.val=true->(Ii d k).ok P Q:=by
  intro i
  cases d with
  |st b=>cases b with
   |true=>exact g i rfl
   |false=>exact f
  |sy t=>exact⟨λe=>g i e,λ_=>f⟩
 cases u with
 |st b=>cases b with
  |true=>exact h rfl
  |false=>exact f
 |sy t=>exact⟨λe=>h e,λ_=>f⟩
def nL (u d:Bool)(l:List (Int×Int)):Bool:=!((u||l.any λc=>decide (c.1<0)||decide (c.2<0))==(d||l.any λc=>decide (c.1>0)||decide (c.2>0)))
theorem aNs (u d:Bool)(p q:Int)(l:List (Int×Int)):nL u d ((p,q)::l)=nL (u||decide (p<0)||decide (q<0)) (d||decide (p>0)||decide (q>0)) l:=by
 unfold nL;simp only[List.any_cons,Bool.or_assoc]
theorem aNr (l:List (Int×Int)):nL true true l=false:=by unfold nL;simp
def Bt (f:LN)(e:LN)(i:Nat)(u d:Bool):AS:=
 ⟨[.top,.top,.val (.one (.ptr 0 0)),.val (.one (.ptr 1 0)),.top,.val (.one (.sbool u)),.val (.one (.sbool d)),.val (.one (.int .i64 i))]++p9 57 .top,
  [(0,⟨bH true 0 8,115,true,false,false⟩),(1,⟨bH true 8 4,68,true,false,false⟩)],2,(f.map λz=>(z,19))++e.map (λz=>(z,3)),[]⟩
def cl (p q a b c d:Int):Int×Int:=(cp d p b q,cp a q c p)
def mP (p0 q0 p1 q1 p2 q2 p3 q3 a b c d:Int):Bool:=nL false false [cl p0 q0 a b c d,cl p1 q1 a b c d,cl p2 q2 a b c d,cl p3 q3 a b c d]
section
variable (p0 q0 p1 q1 p2 q2 p3 q3 a b c d:Int)
theorem aNz:(run Z (fI wK (aE wM)) (λ_=>none) (aL Z (fI wK (aE wM))) qM 300 [.code (aF f166),.top f166] (start f166 (eA true [.ns [p0,q0,p1,q1,p2,q2,p3,q3],.ns [a,b,c,d]] [19,3]))).bind (jS true [0,1] [2,3,1005,1006,7] 2 [])=
  some (.again (.code (.loop (rU (aF f166) f166))::wB (aF f166) f166) (Bt [p0,q0,p1,q1,p2,q2,p3,q3] [a,b,c,d] 0 false false)):=by kernel_rfl
noncomputable def oE (i:Nat)(n:Nat)(u v:Bool):Option LT:=(run Z (fI wK (aE wM)) (λ_=>none) (aL Z (fI wK (aE wM))) kB 300 (.code (rU (aF f166) f166)::.lp (rU (aF f166) f166) n::wB (aF f166) f166) (Bt [p0,q0,p1,q1,p2,q2,p3,q3] [a,b,c,d] i u v)).bind (jS true [0,1] [2,3,1005,1006,7] 2 [])
noncomputable def lQ (i:Nat)(n:Nat)(u v:Bool)(p q:Int):LT:=orL u (decide ((cl p q a b c d).1<0)) (decide ((cl p q a b c d).2<0)) λe=>orL v (decide ((cl p q a b c d).1>0)) (decide ((cl p q a b c d).2>0)) λf=>Qw e f (.again (.lp (rU (aF f166) f166) n::wB (aF f166) f166) (Bt [p0,q0,p1,q1,p2,q2,p3,q3] [a,b,c,d] (i+1) e.val f.val))
theorem aNu (n:Nat)(u v:Bool):oE p0 q0 p1 q1 p2 q2 p3 q3 a b c d 0 n u v=some (lQ p0 q0 p1 q1 p2 q2 p3 q3 a b c d 0 n u v p0 q0):=by kernel_rfl
theorem aNv (n:Nat)(u v:Bool):oE p0 q0 p1 q1 p2 q2 p3 q3 a b c d 1 n u v=some (lQ p0 q0 p1 q1 p2 q2 p3 q3 a b c d 1 n u v p1 q1):=by kernel_rfl
theorem aNw (n:Nat)(u v:Bool):oE p0 q0 p1 q1 p2 q2 p3 q3 a b c d 2 n u v=some (lQ p0 q0 p1 q1 p2 q2 p3 q3 a b c d 2 n u v p2 q2):=by kernel_rfl
theorem aNx (n:Nat)(u v:Bool):oE p0 q0 p1 q1 p2 q2 p3 q3 a b c d 3 n u v=some (lQ p0 q0 p1 q1 p2 q2 p3 q3 a b c d 3 n u v p3 q3):=by kernel_rfl
theorem aNy (n:Nat)(u v:Bool):oE p0 q0 p1 q1 p2 q2 p3 q3 a b c d 4 n u v=some (.ret (.one (.b !(u==v)))):=by kernel_rfl
end
def Ak:List G->Option RG
 | [.ns [p0,q0,p1,q1,p2,q2,p3,q3],.ns [a,b,c,d]]=>some (.one (.b (mP p0 q0 p1 q1 p2 q2 p3 q3 a b c d)))
 |_=>none
theorem aRm:bI Z 166 (eB true Ak bF 0 [19,3]):=by
 refine Cj (l:=wM) Py Wz (bD func166 rfl rfl) (kb:=[0,1]) (kt:=[2,3,1005,1006,7]) (nx:=2) (rb:=[]) ?_ (by kernel_rfl) ?_
 .intro C ns out h x y I;unfold Ak at h;split at h
  .cases h;trivial
  .cases h
 .intro C out h M J;unfold Ak at h;split at h
  .rename_i p0 q0 p1 q1 p2 q2 p3 q3 a b c d;cases h;refine⟨λm s=>∃(i:Nat) (u v:Bool),m=5-i/\i<=4/\s=Bt [p0,q0,p1,q1,p2,q2,p3,q3] [a,b,c,d] i u v/\nL u v ([cl p0 q0 a b c d,cl p1 q1 a b c d,cl p2 q2 a b c d,cl p3 q3 a b c d].drop i)=mP p0 q0 p1 q1 p2 q2 p3 q3 a b c d,⟨300,_,aNz p0 q0 p1 q1 p2 q2 p3 q3 a b c d,rfl,5,0,false,false,rfl,by omega,rfl,rfl⟩,?_⟩;rintro m s⟨i,u,v,rfl,hi,rfl,k⟩ n
   have e:∀(j:Nat) (p q:Int) (r:List (Int×Int)),j<4->nL u v (cl p q a b c d::r)=mP p0 q0 p1 q1 p2 q2 p3 q3 a b c d->r=[cl p0 q0 a b c d,cl p1 q1 a b c d,cl p2 q2 a b c d,cl p3 q3 a b c d].drop (j+1)->
     (lQ p0 q0 p1 q1 p2 q2 p3 q3 a b c d j n u v p q).ok (λg=>g=.one (.b (mP p0 q0 p1 q1 p2 q2 p3 q3 a b c d))) λD E=>D=.lp (rU (aF f166) f166) n::wB (aF f166) f166/\∃z,z<5-j/\∃(i:Nat) (u v:Bool),z=5-i/\i<=4/\E=Bt [p0,q0,p1,q1,p2,q2,p3,q3] [a,b,c,d] i u v/\nL u v ([cl p0 q0 a b c d,cl p1 q1 a b c d,cl p2 q2 a b c d,cl p3 q3 a b c d].drop i)=mP p0 q0 p1 q1 p2 q2 p3 q3 a b c d:=by
    intro j p q r L x y
    have f:nL (u||decide ((cl p q a b c d).1<0)||decide ((cl p q a b c d).2<0)) (v||decide ((cl p q a b c d).1>0)||decide ((cl p q a b c d).2>0)) r=mP p0 q0 p1 q1 p2 q2 p3 q3 a b c d:=by rw[<-aNs];exact x
    refine aRO λF o=>aRO λH w=>aSJ ?_ ?_
    .intro A B;rw[<-o,<-w,A,B,aNr]at f;rw[f]
    .refine⟨rfl,5-(j+1),by omega,j+1,F.val,H.val,rfl,by omega,rfl,?_⟩;rw[o,w,<-y];exact f
   rcases(by omega:i=0\/i=1\/i=2\/i=3\/i=4)with rfl|rfl|rfl|rfl|rfl
   .exact⟨300,_,aNu p0 q0 p1 q1 p2 q2 p3 q3 a b c d n u v,e 0 p0 q0 _ (by omega) k rfl⟩
   .exact⟨300,_,aNv p0 q0 p1 q1 p2 q2 p3 q3 a b c d n u v,e 1 p1 q1 _ (by omega) k rfl⟩
   .exact⟨300,_,aNw p0 q0 p1 q1 p2 q2 p3 q3 a b c d n u v,e 2 p2 q2 _ (by omega) k rfl⟩
   .exact⟨300,_,aNx p0 q0 p1 q1 p2 q2 p3 q3 a b c d n u v,e 3 p3 q3 _ (by omega) k rfl⟩
   .refine⟨300,_,aNy p0 q0 p1 q1 p2 q2 p3 q3 a b c d n u v,?_⟩
    have:(!(u==v))=mP p0 q0 p1 q1 p2 q2 p3 q3 a b c d:=by rw[<-k];simp[nL]
    show RG.one (.b !(u==v))=_;rw[this]
  .cases h
noncomputable def tw8 (a d p1 e b f p3 g:Int):Int:=cQ (cQ (cQ (cQ (cQ (cQ (cQ (cQ (-1) a) d) p1) e) b) f) p3) g
theorem Gk {t z:Int}(b:t<=190000000)(f:Bits 19 z):cQ t z<=190000000:=by
 have h:(Nm.cmp z 0==0)=false->(tz z:Int)<=190000000:=by
  intro h
  have a:z≠0:=λe=>by rw[jB e]at h;cases h
  have:=Nm.aXU a f;omega
 unfold cQ
 cases d:(Nm.cmp z 0==0)with
 |true=>exact b
 |false=>
  have:=h d;simp only[cond_false]
  cases decide (t<0)with
  |true=>exact this
  |false=>
   simp only[cond_false]
   cases decide ((tz z:Int)<t)with
   |true=>exact this
   |false=>exact b
noncomputable def hv (t z:Int):Int:=bif decide (t<1)then z else iE z t
noncomputable def Iy:List G->Option RG
 | [.ns [a,d,p1,e,b,f,p3,g]]=>some (.one (.ns [hv (tw8 a d p1 e b f p3 g) a,hv (tw8 a d p1 e b f p3 g) d,hv (tw8 a d p1 e b f p3 g) p1,hv (tw8 a d p1 e b f p3 g) e,hv (tw8 a d p1 e b f p3 g) b,hv (tw8 a d p1 e b f p3 g) f,hv (tw8 a d p1 e b f p3 g) p3,hv (tw8 a d p1 e b f p3 g) g]))
 |_=>none
theorem aUE:bI Z 135 (eB true Iy bF 19 [19]):=by
 refine iG (l:=wM) Py dJ (bD func135 rfl rfl) ?_;intro r out h;unfold Iy at h;split at h
 .rename_i a e p1 f d g p3 i;cases h;refine⟨p9 8 (decide (tw8 a e p1 f d g p3 i<1)=false->1<=tw8 a e p1 f d g p3 i/\tw8 a e p1 f d g p3 i<=1000000000),19,by kernel_rfl,by decide,λ_ p=>?_⟩;have b:∀z∈[a,e,p1,f,d,g,p3,i],Bits 19 z:=p.1;simp at b;obtain⟨b0,b1,b2,n,b4,b5,b6,o⟩:=b;have q:tw8 a e p1 f d g p3 i<=190000000:=Gk (Gk (Gk (Gk (Gk (Gk (Gk (Gk (by decide) b0) b1) b2) n) b4) b5) b6) o;intro P j;have j:=List.eq_of_mem_replicate j;subst j;intro k
  have k:¬tw8 a e p1 f d g p3 i<1:=by simpa using k
  exact⟨by omega,by omega⟩
 .cases h
def Al:List G->Option RG
 | [.ns [a,e,p1,f,d,g,p3,h]]=>some (.one (.b (mP a e p1 f d g p3 h 1 0 0 1)))
 |_=>none
theorem aSm:bI Z 169 (eB true Al bF 0 [19]):=by
 refine iG (l:=(166,eB true Ak bF 0 [19,3])::wM) ⟨aRm,Py⟩ dJ (bD func169 rfl rfl) ?_;intro a out h;unfold Al at h;split at h
 .cases h;exact⟨[],0,by kernel_rfl,by decide,λ_ _=>gJ⟩
 .cases h
def wI (p q t:Int):AS:=
 ⟨[.top,.val (.one (.ptr 0 0)),.val (.one (.ptr 1 0)),.val (.one (.ptr 2 0)),.val (.one (.ptr 3 0)),.val (.one (.ptr 4 0))]++p9 42 .top,
  [(0,⟨bH true 0 2,73,true,false,false⟩),(1,⟨[.bool false,.lit (.slice none 0 0)],66,true,false,false⟩),(2,⟨[.bool false,.lit (.slice none 0 0)],66,true,false,false⟩),(3,⟨bH true 2 1,66,true,false,false⟩),(4,⟨bH true 3 1,66,true,false,false⟩)],5,[(p,1),(q,1),(16,1),(t,1)],[]⟩
theorem aMa (p q:Int):(run Z (fI wK (aE wM)) (λ_=>none) (aL Z (fI wK (aE wM))) qM 300 [.code (aF f144),.top f144] (start f144 (eA true [.ns [p,q]] [1]))).bind (jS true [0,1,2,3,4] [1,2,3,4,5] 5 [1,1,1,1])=
  some (.need [Bits 1 p,Bits 1 q,Bits 1 16,Bits 1 1] (.again (.code (.loop (rU (aF f144) f144))::wB (aF f144) f144) (wI p q 1))):=by kernel_rfl
theorem aMb (p q t:Int)(n:Nat):(run Z (fI wK (aE wM)) (λ_=>none) (aL Z (fI wK (aE wM))) kB 300 (.code (rU (aF f144) f144)::.lp (rU (aF f144) f144) n::wB (aF f144) f144) (wI p q t)).bind (jS true [0,1,2,3,4] [1,2,3,4,5] 5 [1,1,1,1])=
  some (.br (decide (0<Nm.cmp p 0)) (.br (decide (0<Nm.cmp q 0)) (.need [0<q] (.need [0<=t*t*p/q] (.br (decide (0<=Nm.cmp (Rf.root (t*t*p/q)) 16)) (.ret (.tup [.ns [Rf.root (t*t*p/q)],.ns [t]])) (.need [Bits 1 p,Bits 1 q,Bits 1 16,Bits 1 (t+t)] (.again (.lp (rU (aF f144) f144) n::wB (aF f144) f144) (wI p q (t+t))))))) (.ret (.tup [.ns [16],.ns [t]]))) (.ret (.tup [.ns [16],.ns [t]]))):=by kernel_rfl
def vO:List G->Option RG
 | [.ns [p,q]]=>(Rf.near p q 20000 1).map λa=>.tup [.ns [a.1],.ns [a.2]]
 |_=>none
def Bf:List G->List Prop
 | [.ns [p,q]]=>[0<p/\0<q]
 |_=>[]
theorem aKB {x:Int}(h:0<x):decide (0<Nm.cmp x 0)=true:=by rw[hO h];rfl
theorem aOd:bI Z 144 (hY true vO Bf (λ_=>2) [1]):=by
 refine Cj (l:=wM) Py Wz (bD func144 rfl rfl) (kb:=[0,1,2,3,4]) (kt:=[1,2,3,4,5]) (nx:=5) (rb:=[1,1,1,1]) ?_ (by kernel_rfl) ?_
 .intro P ns out h r w S;unfold vO at h;split at h
  .rename_i p q;obtain⟨⟨a,b⟩,x,rfl⟩:=bU h;have r:0<p/\0<q:=r.one;have A:Bits 1 p:=S.1 p (by simp);obtain⟨k,rfl,N,L,M⟩:=near_form r.1 r.2 20000 0 (a,b) x;have D:Go.Proofs.YtpdflaaamaokbaaGreatDoor.Bits (k+1) ((2:Int)^k):=aGc k;have E:Bits 1 ((2:Int)^k):=Lq D (by omega)
   have R:Bits 2 a:=by
    have B:0<=(2:Int)^k*2^k*p/q:=l9 (k9 (k9 (n8 (jZ (by decide) _)) (n8 (jZ (by decide) _))) (by omega)) (by omega);have U:=Rf.Vw B;have I:=(Rf.Oi B).1;have O:(2:Int)^k*2^k*p/q<=2^k*2^k*p:=l8 _ (k9 (k9 (n8 (jZ (by decide) _)) (n8 (jZ (by decide) _))) (by omega));have F:Go.Proofs.YtpdflaaamaokbaaGreatDoor.Bits ((k+1)+(k+1)+10000000*1) ((2:Int)^k*2^k*p):=Go.Proofs.YtpdflaaamaokbaaGreatDoor.fY (Go.Proofs.YtpdflaaamaokbaaGreatDoor.fY D D) A;have C:a=Rf.root ((2:Int)^k*2^k*p/q):=L;rw[<-C]at U I;exact Lq (Go.Proofs.YtpdflaaamaokbaaGreatDoor.Ic F (by omega) (s8 _)) (by omega)
   intro g w;simp at w
   rcases w with rfl|rfl
   .intro z y;simp at y;subst y;exact R
   .intro z y;simp at y;subst y;exact eI E (by decide)
  .cases h
 .intro P out h r w;unfold vO at h;split at h
  .rename_i p q;obtain⟨u,x,rfl⟩:=bU h;have r:0<p/\0<q:=r.one;have A:Bits 1 p:=w.1 p (by simp);have J:Bits 1 q:=w.1 q (by simp);refine⟨λm s=>∃j:Nat,m=20000-j/\j<20000/\s=wI p q (2^j)/\Rf.near p q (20000-j) (2^j)=some u,⟨300,_,aMa p q,gB A (gB J (gB (iH (by decide)) (gB (iH (by decide)) gJ))),rfl,20000,0,rfl,by decide,rfl,x⟩,?_⟩;rintro m s⟨j,rfl,W,rfl,d⟩ n;have X:(0:Int)<2^j:=jZ (by decide) j;have B:0<=(2:Int)^j*2^j*p/q:=l9 (k9 (k9 (by omega) (by omega)) (by omega)) (by omega)
   obtain⟨k,N⟩:∃k,20000-j=k+1:=⟨20000-j-1,by omega⟩
   rw[N]at d;unfold Rf.near at d;refine⟨300,_,aMb p q (2^j) n,?_,?_⟩
   .intro _;refine⟨λ_=>⟨gB r.2 gJ,gB B gJ,?_,?_⟩,?_⟩
    .intro i
     have i:0<=Nm.cmp (Rf.root ((2:Int)^j*2^j*p/q)) 16:=by simpa using i
     have v:16<=Rf.root ((2:Int)^j*2^j*p/q):=by
      rcases l4 (Rf.root ((2:Int)^j*2^j*p/q)) 16 with h|h
      .rw[jC h]at i;omega
      .exact h
     rw[if_pos v]at d;cases d;exact rfl
    .intro i
     have i:¬0<=Nm.cmp (Rf.root ((2:Int)^j*2^j*p/q)) 16:=by simpa using i
     have v:¬16<=Rf.root ((2:Int)^j*2^j*p/q):=by
      intro h;apply i
      rcases n7 h with h|h
      .rw[hO h];decide
      .rw[jB h.symm];decide
     rw[if_neg v]at d
     have e:(2:Int)^j+2^j=2^(j+1):=by rw[n4];omega
     rw[e]at d ⊢
     have H:j+1<20000:=by
      rcases Nat.lt_or_ge (j+1) 20000 with h|h
      .exact h
      .have:k=0:=by omega
       subst this;cases d
     refine⟨gB A (gB J (gB (iH (by decide)) (gB (Lq (aGc (j+1)) (by omega)) gJ))),rfl,20000-(j+1),by omega,j+1,rfl,H,rfl,?_⟩;rw[show 20000-(j+1)=k by omega];exact d
    .intro o;rw[aKB r.2]at o;cases o
   .intro o;rw[aKB r.1]at o;cases o
  .cases h
where
 near_form {p q:Int} (T:0<p) (O:0<q):∀(f j:Nat) (u:Int×Int),Rf.near p q f (2^j)=some u->∃k:Nat,u.2=2^k/\k<=j+f/\u.1=Rf.root ((2:Int)^k*2^k*p/q)/\True
  |0,j,u,h=>by cases h
  |f+1,j,u,h=>by
   unfold Rf.near at h;split at h
   .cases h;exact⟨j,rfl,by omega,rfl,trivial⟩
   .have e:(2:Int)^j+2^j=2^(j+1):=by rw[n4];omega
    rw[e]at h;obtain⟨k,x,L,M,_⟩:=near_form T O f (j+1) u h;exact⟨k,x,by omega,M,trivial⟩
noncomputable def tC7:List (FuncId×TE):=(166,eB true Ak bF 0 [19,3])::(135,eB true Iy bF 19 [19])::(169,eB true Al bF 0 [19])::(144,hY true vO Bf (λ_=>2) [1])::wM
theorem aWC:cV Z tC7:=⟨aRm,aUE,aSm,aOd,Py⟩
end Ab
namespace Pg
open Rf Nw
def sc (d:Int)(v:V):V:=(d*v.1,d*v.2)
def iA (u v:V):V:=(u.1+v.1,u.2+v.2)
theorem Xg (m:Mt)(d:Int)(v:V):eX m (sc d v)=sc d (eX m v):=by
 unfold eX sc Mt.at1 Mt.at2
 ext<;>simp<;>grind
theorem Qb (m:Mt)(d:Int)(v:V):fG m (sc d v)=sc d (fG m v):=by
 unfold fG sc Mt.vG Mt.vH
 ext<;>simp<;>grind
theorem aPu (m:Mt)(u v:V):eX m (iA u v)=iA (eX m u) (eX m v):=by
 unfold eX iA Mt.at1 Mt.at2
 ext<;>simp<;>grind
theorem aPq (m:Mt)(u v:V):fG m (iA u v)=iA (fG m u) (fG m v):=by
 unfold fG iA Mt.vG Mt.vH
 ext<;>simp<;>grind
theorem aWt (d e:Int)(v:V):sc d (sc e v)=sc (d*e) v:=by
 unfold sc
 ext<;>simp<;>grind
theorem gV (v:V):sc 1 v=v:=by unfold sc;simp
theorem aRa (m:Mt):fG m (0,0)=(0,0):=by unfold fG Mt.vG Mt.vH;simp
theorem aKd (m k:Mt)(v:V):fG (m.mul k) v=fG k (fG m v):=by
 unfold fG Mt.vG Mt.vH Mt.mul
 ext<;>simp<;>grind
theorem Gi (v:V):fG one v=v:=by unfold fG Mt.vG Mt.vH one;simp
theorem Lb (v:V):eX one v=v:=by unfold eX Mt.at1 Mt.at2 one;simp
def iR (u v:V)(m:Mt):V:=iA (sc m.a u) (sc m.c v)
def rd2 (u v:V)(m:Mt):V:=iA (sc m.b u) (sc m.d v)
def tC:List V->Mt->List V
 | [a,b,c,d],m=>[iR a c m,iR b d m,rd2 a c m,rd2 b d m]
 |_,_=>[]
def oR:List V->Mt->List V
 | [a,b,c,d],m=>[iR a b m,rd2 a b m,iR c d m,rd2 c d m]
 |_,_=>[]
theorem Lv (d:Int)(u v:V)(m:Mt):iR (sc d u) (sc d v) m=sc d (iR u v m):=by
 unfold iR sc iA
 ext<;>simp<;>grind
theorem Lw (d:Int)(u v:V)(m:Mt):rd2 (sc d u) (sc d v) m=sc d (rd2 u v m):=by
 unfold rd2 sc iA
 ext<;>simp<;>grind
theorem aQB (m:Mt):iR (0,0) (0,0) m=(0,0):=by unfold iR sc iA;simp
theorem aQC (m:Mt):rd2 (0,0) (0,0) m=(0,0):=by unfold rd2 sc iA;simp
theorem Lk (k:Mt)(u v:V)(m:Mt):iR (fG k u) (fG k v) m=fG k (iR u v m):=by
 unfold iR;rw[aPq,Qb,Qb]
theorem Ll (k:Mt)(u v:V)(m:Mt):rd2 (fG k u) (fG k v) m=fG k (rd2 u v m):=by
 unfold rd2;rw[aPq,Qb,Qb]
theorem aTL (k:Mt)(u v:V)(m:Mt):iR (eX k u) (eX k v) m=eX k (iR u v m):=by
 unfold iR;rw[aPu,Xg,Xg]
theorem aTN (k:Mt)(u v:V)(m:Mt):rd2 (eX k u) (eX k v) m=eX k (rd2 u v m):=by
 unfold rd2;rw[aPu,Xg,Xg]
theorem Rh (h m:Mt):eX (h.mul m) (1,0)=iR (eX h (1,0)) (eX h (0,1)) m:=by
 unfold iR sc iA eX Mt.at1 Mt.at2 Mt.mul
 ext<;>simp<;>grind
theorem Ri (h m:Mt):eX (h.mul m) (0,1)=rd2 (eX h (1,0)) (eX h (0,1)) m:=by
 unfold rd2 sc iA eX Mt.at1 Mt.at2 Mt.mul
 ext<;>simp<;>grind
theorem aI2 (t:List V)(u v y:V)(m:Mt):bK t (iR u v m) y=iR (bK t u y) (bK t v y) m:=by
 unfold bK iR sc iA;split
 .ext<;>simp<;>grind
 .ext<;>simp
theorem aI3 (t:List V)(u v y:V)(m:Mt):bK t (rd2 u v m) y=rd2 (bK t u y) (bK t v y) m:=by
 unfold bK rd2 sc iA;split
 .ext<;>simp<;>grind
 .ext<;>simp
theorem aI4 (t:List V)(u v y:V)(m:Mt):bK t y (iR u v m)=iR (bK t y u) (bK t y v) m:=by
 unfold bK iR sc iA;split
 .ext<;>simp<;>grind
 .ext<;>simp
theorem aI5 (t:List V)(u v y:V)(m:Mt):bK t y (rd2 u v m)=rd2 (bK t y u) (bK t y v) m:=by
 unfold bK rd2 sc iA;split
 .ext<;>simp<;>grind
 .ext<;>simp
def wC (g:Int)(m:Mt):Mt:=⟨g*m.a,g*m.b,g*m.c,g*m.d⟩
theorem aTK (g:Int)(u v:V)(m:Mt):iR u v (wC g m)=sc g (iR u v m):=by
 unfold iR sc iA wC
 ext<;>simp<;>grind
theorem aTM (g:Int)(u v:V)(m:Mt):rd2 u v (wC g m)=sc g (rd2 u v m):=by
 unfold rd2 sc iA wC
 ext<;>simp<;>grind
def pad:List V->List V
 | []=>[(0,0),(0,0),(0,0),(0,0)]
 | [a]=>[a,(0,0),(0,0),(0,0)]
 | [a,b]=>[a,b,(0,0),(0,0)]
 | [a,b,c]=>[a,b,c,(0,0)]
 |l=>l
structure eN (l cs:List V):Prop where
 ex:∃d:Int,0<d/\pad l=cs.map (sc d)
 len:cs.length=4
variable {d:Int}
theorem aWO (a:0<d)(v:V):pC (sc d v)=pC v:=by
 have h:∀x:Int,decide (0<d*x)=decide (0<x):=λx=>by
  rw[decide_eq_decide];exact⟨λh=>n9 h a,λh=>o8 a h⟩
 unfold pC sc;rw[h,h]
where
 n9 {d x:Int} (h:0<d*x) (a:0<d):0<x:=by
  rcases l4 0 x with h1|h1
  .exact h1
  .have:=Int.mul_nonpos_of_nonneg_of_nonpos (n8 a) h1;omega
theorem aPX (a:0<d)(v:V):lO (sc d v)=lO v:=by
 have h:∀x:Int,decide (d*x<0)=decide (x<0):=λx=>by
  rw[decide_eq_decide];constructor
  .intro h
   rcases l4 x 0 with h1|h1
   .exact h1
   .have:=k9 (n8 a) h1;omega
  .exact λh=>Int.mul_neg_of_pos_of_neg a h
 unfold lO sc;rw[h,h]
theorem aS0 (a:0<d)(l:List V):fits (l.map (sc d))=fits l:=by
 unfold fits;rw[q8,q8];congr 1
 .congr 1;funext v;exact aWO a v
 .congr 1;funext v;exact aPX a v
theorem aP3 (l:List V):fits (pad l)=fits l:=by
 unfold pad fits
 split<;>simp[pC,lO]
theorem aOB {f:V->V}(e:f (0,0)=(0,0))(l:List V):pad (l.map f)=(pad l).map f:=by
 unfold pad
 match l with
 | []=>simp[e]
 | [a]=>simp[e]
 | [a,b]=>simp[e]
 | [a,b,c]=>simp[e]
 |a::b::c::d::r=>simp
theorem eN.fits {D cs:List V}(h:eN D cs):Nw.fits D=Nw.fits cs:=by
 obtain⟨d,a,e⟩:=h.ex;rw[<-aP3,e,aS0 a]
theorem eN.fG {D cs:List V}(h:eN D cs)(m:Mt):eN (D.map (Rf.fG m)) (cs.map (Rf.fG m)):=by
 obtain⟨d,a,e⟩:=h.ex;refine⟨⟨d,a,?_⟩,by simp[h.len]⟩;rw[aOB (aRa m),e,q9,q9];congr 1;funext v;exact Qb m d v
theorem eN.can {D cs:List V}(h:eN D cs)(s:Int):Rf.can D s=Nw.fits (cs.map (Rf.fG (Mt.sym s))):=(h.fG _).fits
variable {cs:List V}
theorem eN.over {D a:List V}{t:Int}(h:eN D cs)(g:0<t)(e:cs=a.map (sc t)):eN D a:=by
 obtain⟨d,f,b⟩:=h.ex;refine⟨⟨d*t,o8 f g,?_⟩,by have:=h.len;rw[e]at this;simpa using this⟩;rw[b,e,q9];congr 1;funext v;exact aWt d t v
theorem eN.times {D:List V}{t:Int}(h:eN D cs)(b:0<t):eN (D.map (sc t)) cs:=by
 obtain⟨d,a,e⟩:=h.ex;refine⟨⟨t*d,o8 b a,?_⟩,h.len⟩;rw[aOB (by unfold sc;simp),e,q9];congr 1;funext v;exact aWt t d v
theorem four (h:cs.length=4):∃a b c d,cs=[a,b,c,d]:=by
 match cs,h with
 | [a,b,c,d],_=>exact⟨a,b,c,d,rfl⟩
variable {a b x y z:V}
theorem eN.of4 {c d t:V}(h:eN [a,b,c,d] [x,y,z,t]):∃e:Int,0<e/\a=sc e x/\b=sc e y/\c=sc e z/\d=sc e t:=by
 obtain⟨e,g,f⟩:=h.ex;simp[pad]at f;exact⟨e,g,f⟩
theorem eN.El {c d t:V}{e:Int}(j:0<e)(f:a=sc e x)(g:b=sc e y)(h:c=sc e z)(i:d=sc e t):eN [a,b,c,d] [x,y,z,t]:=⟨⟨e,j,by simp[pad,f,g,h,i]⟩,rfl⟩
theorem eN.of2 {t:V}(h:eN [a,b] [x,y,z,t]):∃e:Int,0<e/\a=sc e x/\b=sc e y/\(0,0)=sc e z/\(0,0)=sc e t:=by
 obtain⟨e,f,d⟩:=h.ex;simp[pad]at d;exact⟨e,f,d⟩
theorem eN.Ek {t:V}{e:Int}(i:0<e)(d:a=sc e x)(f:b=sc e y)(g:(0,0)=sc e z)(h:(0,0)=sc e t):eN [a,b] [x,y,z,t]:=⟨⟨e,i,by simp only[pad,p7,p8,<-d,<-f,<-g,<-h]⟩,rfl⟩
theorem eN.tC {a b c d:V}{cs:List V}(m:Mt)(h:eN [a,b,c,d] cs):eN [iR a c m,iR b d m,rd2 a c m,rd2 b d m] (Pg.tC cs m):=by
 obtain⟨x,y,z,t,rfl⟩:=four h.len;obtain⟨e,f,rfl,rfl,rfl,rfl⟩:=h.of4;exact .El f (Lv ..) (Lv ..) (Lw ..) (Lw ..)
theorem eN.oR {a b c d:V}{cs:List V}(m:Mt)(h:eN [a,b,c,d] cs):eN [iR a b m,rd2 a b m,iR c d m,rd2 c d m] (Pg.oR cs m):=by
 obtain⟨x,y,z,t,rfl⟩:=four h.len;obtain⟨e,f,rfl,rfl,rfl,rfl⟩:=h.of4;exact .El f (Lv ..) (Lw ..) (Lv ..) (Lw ..)
theorem eN.Br (m:Mt)(h:eN [a,b] cs):eN [iR a b m,rd2 a b m] (Pg.oR cs m):=by
 obtain⟨x,y,z,t,rfl⟩:=four h.len;obtain⟨e,g,rfl,rfl,d,f⟩:=h.of2;refine .Ek g (Lv ..) (Lw ..) ?_ ?_
 .rw[<-Lv,<-d,<-f,aQB]
 .rw[<-Lw,<-d,<-f,aQC]
theorem eN.Kd (m:Mt){v:Int}(d:0<v)(h:eN [a,b] cs):eN [iR a b (wC v m),rd2 a b (wC v m)] (Pg.oR cs m):=by
 have:=(h.Br m).times d
 simpa[aTK,aTM]using this
end Pg
end Go.Proofs.YtpdflaaamaokbaaGreatDoor
