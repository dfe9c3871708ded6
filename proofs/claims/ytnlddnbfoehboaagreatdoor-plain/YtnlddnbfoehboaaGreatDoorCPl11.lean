import Derived.Test.YtnlddnbfoehboaaGreatDoorCPl10b
import Derived.Test.YtnlddnbfoehboaaGreatDoorCPl07
set_option linter.all false
set_option maxRecDepth 100000
set_option maxHeartbeats 2000000
namespace Go.Proofs.YtnlddnbfoehboaaGreatDoor
open Option renaming some->Y,none->X
open Bool renaming true->I,false->J
open List renaming getElem?_map->j8,mem_cons->j9,not_mem_nil->o9,append_assoc->p5,take_append_drop->p6,getElem?_append_right->p8,mem_append->q8,getElem?_eq_some_iff->q9,length_pos_iff->r5,length_eq_zero_iff->r7,replicate->r8,mem_map->r9,getElem?_eq_getElem->s7
open Option renaming map_eq_some_iff->s8,bind_eq_some_iff->u5
open Nat renaming zero_add->u6,ble->u7,le_of_ble_eq_true->u9,add_sub_cancel_left->x8,le_refl->y8,pow_pos->z8,le_trans->A0
open Go.Value renaming pointer->A4,int->A5
open Or renaming inr->A6
open Go.Proofs.Tryz
open Go.RowKit
namespace Ab
def fAp:List G->Option RG
 | [.ns [a,b],.ns [c,d]]=>Y (.one (.ns
  [bif decide (jG (a+b)=0) then 0 else bif decide (jG (c+d)=0) then 0 else ((((a-b)*(c+d)-(c-d)*(a+b)).natAbs:Nat):Int),
   bif decide (jG (a+b)=0)then 1 else bif decide (jG (c+d)=0)then 1 else((((a+b)*(c+d)).natAbs:Nat):Int)]))
 |_=>X
theorem aXC:bD Z 222 (eF J fAp aS 23 [10,10]):=eU aSA (aZ func222 rfl rfl) λ_ _ h=>by
 unfold fAp at h
 split at h<;>cases h
 kernel_rfl
def zQ:Tr->Option (List Int)
 |.ret (.val (.agg cs)) s=>bif clean s then((jZ s.nums cs).bind (dL J)).map (·.1)else X
 |.br t x y=>(zQ x).bind λa=>(zQ y).bind λb=>Hw t a b
 |_=>X
def Pl (a b c d:Int):LB:=[bif decide (Nm.cmp (a*d) (c*b)≥0)then a else c,bif decide (Nm.cmp (a*d) (c*b)≥0)then b else d]
noncomputable def Uq (n:Nat)(e:LB):Option (List Int):=(run Z (aE uN) (λ_=>X) (aL Z (aE uN)) (λ_=>J) 300 [.code (aG f223),.top f223] (Pq n e 2 (f223.ntmps-1))).bind zQ
theorem aMD (a b c d:Int):Uq 30 [a,b,c,d]=Y (Pl a b c d):=E0
def isV (f:LB)(r:AT)(s:AS):Prop:=clean s=I/\∃cs e n,r=.val (.agg cs)/\jZ s.nums cs=Y e/\dL J e=Y (f,n)
theorem aKx:∀{m:Tr} {g:LB},zQ m=Y g->m.ok (isV g) λ_ _=>False
 |.ret (.val (.agg cs)) s,g,h=>by
  simp only[zQ]at h
  cases hc:clean s with
  |false=>rw[hc]at h;cases h
  |true=>
   rw[hc]at h;simp only[cond_true]at h;obtain⟨⟨z,n⟩,i,f⟩:=bI h;simp only at f;subst f;obtain⟨o,j,k⟩:=aK i;exact⟨hc,cs,o,n,rfl,j,k⟩
 |.br t x y,g,h=>by
  simp only[zQ]at h;obtain⟨a,i,f⟩:=aK h;obtain⟨b,j,k⟩:=aK f;have l:=aKE k;exact⟨λe=>by subst e;subst l;exact aKx i,λe=>by subst e;subst l;exact aKx j⟩
 |.ret (.val (.one _)) _,_,h=>by cases h
 |.ret .top _,_,h=>by cases h
 |.ret .fB _,_,h=>by cases h
 |.ret (.tup _) _,_,h=>by cases h
 |.ret (.lU _ _) _,_,h=>by cases h
 |.need _ _,_,h=>by cases h
 |.stop _ _,_,h=>by cases h
variable {φ:LI}{x:LB}{s:AS}{z:Value}
theorem aUE {w g:World}{o:LI}{r:AT}(h:isV x r s)(l:relT Z o s.nums g r z)(m:RepW Z w φ o s g):Below w.heap.size w g/\∃f:PH,z=.agg f.toArray/\aP J g x f:=by
 obtain⟨hc,cs,i,n,rfl,j,k⟩:=h;obtain⟨f,e,p⟩:=l;exact⟨RepF.below m hc,f,e,(sD i x n f k (Ou (λ_ _ h=>h) cs i f j p)).1⟩
variable {v:World}{k p:Nat}
theorem aJU {o m:Nat}{e:TypeId}{n t l:PH}{a b c d:Int}(x:v.heap[k]?=Y (.cells (n++t++l).toArray 210 (0,0)))(S:n.length=o)(P:aP J v [a,b,c,d] t)(M:∀z∈[a,b,c,d],Bits 30 z)(hc:2<=p)(T:v.shape? k=Y (e,m))(R:o+p*4<=m):
  Calls prog 223 #[.slice (Y ⟨k,o,X⟩) 2 p] v λe A=>∃f,e=.returned f/\Below v.heap.size v A/\∃C:PH,f=.agg C.toArray/\aP J A (Pl a b c d) C:=by
 have u:=aMD a b c d;unfold Uq at u;obtain⟨tr,D,F⟩:=aK u
 have L:aD (relC Z (λb=>bif b==0 then Y (k,o)else X) ([a,b,c,d].map λz=>(z,30)) v) (cF J 0 4) t:=
  qA [a,b,c,d] t 0 _ P M λj z W=>by rw[u6,j8,W];rfl
 have y:k<v.heap.size:=by
  rcases Nat.lt_or_ge k v.heap.size with h|h
  .exact h
  .rw[Array.getElem?_eq_none h]at x;cases x
 refine pZ (sp:=aE uN) (bodies:=λ_=>X) (aZ func223 rfl rfl) (w:=v) (φ:=λb=>bif b==0 then Y (k,o)else X) (s:=Pq 30 [a,b,c,d] 2 (f223.ntmps-1)) (vs:=[.one (.slc 0 0 2 4)]) (args:=[.slice (Y ⟨k,o,X⟩) 2 p]) (dX Pd) bO rfl ⟨⟨k,o,p,e,m,rfl,rfl,hc,T,R⟩,trivial⟩ (qW rfl ?_ ?_ ?_) D (isV (Pl a b c d)) (aKx F) (λr s' aa f A N u U=>⟨f,rfl,aUE N u U⟩)
 .intro i B q;simp only[Pq,look]at q
  cases g:(0==i)with
  |false=>rw[g]at q;simp at q
  |true=>
   rw[g]at q
   have:i=0:=by simpa using (beq_iff_eq.1 g).symm
   subst this;cases q;exact⟨rfl,rfl,rfl,k,o,rfl,n,t,l,x,S,L⟩
 .intro i g;have:1<=i:=g
  cases i with
  |zero=>omega
  |succ i=>rfl
 .intro i k' o' g
  cases i with
  |zero=>cases g;exact y
  |succ i=>cases g
def spG:Spec:=λf _ ν _ g h=>bif f==223 then
  match h with
  | [.one (.slc b e 2 4)]=>(g b).bind λB=>bif B.ty==210 then(nL ν B.cs e 2).bind λq=>match q with
   |([a,b,c,d],n)=>bif u7 n 30 then Y (fV n (Pl a b c d),.val (.agg (cF J ν.length 2)),[],X)else X
   |_=>X
   else X
  |_=>X
 else X
theorem aRy {w:Nat}{a b c d:Int}(h:∀z∈[a,b,c,d],Bits w z):∀z∈Pl a b c d,Bits w z:=by
 intro z e;unfold Pl at e
 cases hd:decide (Nm.cmp (a*d) (c*b)≥0)<;>rw[hd]at e<;>simp only[cond_true,cond_false,j9,o9,or_false]at e<;>rcases e with rfl|rfl<;>exact h _ E4
theorem aXk {ψ:LI}:SpecOk Z v ψ spG:=by
 intro f d ν id bx vs ao r p ai h;unfold spG at h
 cases M:f==223 with
 |false=>rw[M]at h;cases h
 |true=>
  rw[M]at h;simp only[cond_true]at h
  have:f=223:=by simpa using M
  subst this;split at h
  .rename_i b l;obtain⟨B,h1,y⟩:=aK h
   cases A:(B.ty==210)with
   |false=>rw[A]at y;cases y
   |true=>
    rw[A]at y;simp only[cond_true]at y;obtain⟨q,h3,t⟩:=aK y;split at t
    .rename_i z0 z1 z2 z3 n
     cases N:u7 n 30 with
     |false=>rw[N]at t;cases t
     |true=>
      rw[N]at t;cases t
      have A:B.ty=210:=by simpa using A
      refine⟨(aZ func223 rfl rfl).en,λ_ μ C φ w F _ _ _ L R=>?_⟩;obtain⟨k,o,D,u,s,g1,T,g3,g4⟩:=L b B h1;obtain⟨e1,e2,e3⟩:=aGE (λi x P=>C i x (pV _ _ i x P)) h3 g4
      match F,R with
      | [x],⟨⟨k',o',W,e,m,U,q2,q3,q4,q5⟩,_⟩=>
       rw[g1]at U;cases U;subst q2
       have hy:D++u++s=(D++u.take l)++((u.drop l).take (4*2))++(((u.drop l).drop (4*2))++s):=by
        simp only[p5];rw[<-p5 ((u.drop l).take _),p6,<-p5 (u.take l),p6]
       rw[hy,A]at T;refine(aJU T (by rw[List.length_append,List.length_take,g3];omega) e1 (λz S=>eJ (e2 z S) (u9 N)) q3 q4 q5).mono ?_;rintro e w'⟨g,rfl,hb,F,rfl,P⟩;refine⟨_,rfl,hb,F,rfl,qA _ F ν.length μ P (aRy e2) λj z S=>C _ _ ?_⟩;rw[p8 O,x8];unfold fV;rw[j8,S];rfl
      | [],h=>exact h.elim
      |_::_::_,h=>exact h.2.elim
    .cases t
  .cases h
noncomputable def uA:List (FuncId×TE):=(222,eF J fAp aS 23 [10,10])::uC
theorem aXt:cK Z uA:=⟨aXC,aSA⟩
noncomputable def spS (n:Nat)(e:LB)(len:Nat):Spec:=gI (xU n e len) (gI spG (gI spW (aE uA)))
theorem aXl {q:LI}{k0 len:Nat}(e:q 0=Y (k0,0))(f:x.length=2*len)(h:pR v k0 x k len):SpecOk Z v q (spS k x len):=Fp (aLQ e f h) (Fp aXk (Fp aTs (dX aXt)))
noncomputable def inS:FuncId->Option Func
 |221=>Y f221
 |_=>X
noncomputable abbrev sS (pos nest:Bool) (t g f:LB) (e:List Ag):AS:=Am (f185.ntmps-1) pos nest t g f e
def zB:Tr->Option Int
 |.ret (.val (.one (.int .i64 n))) s=>bif clean s then Y n else X
 |.br t x y=>(zB x).bind λa=>(zB y).map λb=>bif t then a else b
 |_=>X
def Pe (x y:Int×Int):Int×Int:=
 (bif decide (jG (x.1+x.2)=0) then 0 else bif decide (jG (y.1+y.2)=0) then 0 else ((((x.1-x.2)*(y.1+y.2)-(y.1-y.2)*(x.1+x.2)).natAbs:Nat):Int),
  bif decide (jG (x.1+x.2)=0)then 1 else bif decide (jG (y.1+y.2)=0)then 1 else((((x.1+x.2)*(y.1+y.2)).natAbs:Nat):Int))
def grV (x y:Int×Int):Int×Int:=(bif decide (Nm.cmp (x.1*y.2) (y.1*x.2)≥0)then x.1 else y.1,bif decide (Nm.cmp (x.1*y.2) (y.1*x.2)≥0)then x.2 else y.2)
def Cr (a b:Int):Int:=bif decide (a<=b)then 0 else 1
def Ti (e:Int)(p q:Int×Int)(a b:Int):Int:=bif Nm.cmp (e*p.1*q.2) (q.1*p.2)==1 then 0 else bif Nm.cmp (e*p.1*q.2) (q.1*p.2)==-1 then 1 else Cr a b
def xT (nest:Bool)(e f g h:Int×Int)(a b:Int):Int:=
 bif kD [e,f,g,h]then Ti (bif nest then 8 else 1) (grV (Pe e g) (Pe f h)) (grV (Pe e f) (Pe g h)) a b else Cr a b
def zD (p:Bool)(r:Nat):Int:=bif p then(r:Int)else IntKind.i64.wrap ((r:Int)-1)
def askF (p:Bool)(r:Nat)(s x:Int):Int:=bif p then x else bif !decide ((r:Int)>0)then s else x
noncomputable def Ur (e:LB)(s:AS):Option Int:=(run Z (spS 10 e 4) inS (aL Z (spS 10 e 4)) (λ_=>J) 5000 [.code (aG f185),.top f185] s).bind zB
section
variable (pos nest:Bool) (r0 r1 la lb:Nat) (ap bp:Bool) (t0 t1 t2 t3 t4 t5 t6 t7 a b c d p0 p1 p2 p3 a0 a1 a2 a3 b0 b1 b2 b3 z0 z1 z2 z3 z4 z5 z6 z7:Int)
theorem aNc:Ur [z0,z1,z2,z3,z4,z5,z6,z7] (sS pos nest [t0,t1,t2,t3,t4,t5,t6,t7] [a,b,c,d] [p0,p1,p2,p3] [⟨ap,r0,la,[a0,a1,a2,a3]⟩,⟨bp,r1,lb,[b0,b1,b2,b3]⟩])=Y (askF ap r0 0 (askF bp r1 1 (xT nest (z0,z1) (z2,z3) (z4,z5) (z6,z7) (zD ap r0) (zD bp r1)))):=by
 cases nest<;>cases ap<;>cases bp<;>kernel_rfl
end
open Rf (Nd)
def cM (m:Mt):LB:=[m.a,m.b,m.c,m.d]
def fT:List Rf.V->List Int
 | []=>[]
 |v::l=>v.1::v.2::fT l
def phL:List (Nat×Nat×Nat)->Nat->Option (Nat×Nat)
 | [],_=>X
 |(b,x)::l,c=>bif b==c then Y x else phL l c
def Vi (w:World)(φ:LI)(ν:LV):List (Nat×bH)->Prop
 | []=>True
 |(b,B)::l=>(B.own=J/\B.ro=I/\B.tip=J/\∃k o,φ b=Y (k,o)/\yJ Z φ ν w k o B.ty B.cs)/\Vi w φ ν l
theorem Vi.look {w:World}{φ:LI}{ν:LV}{b:Nat}{B:bH}:∀{l:List (Nat×bH)},Vi w φ ν l->look l b=Y B->B.own=J/\B.ro=I/\B.tip=J/\∃k o,φ b=Y (k,o)/\yJ Z φ ν w k o B.ty B.cs
 | [],_,h=>by simp[Ab.look]at h
 |(c,D)::l,⟨d,a⟩,h=>by
  simp only[Ab.look]at h
  cases hc:(c==b)with
  |true=>
   grind
  |false=>rw[hc]at h;exact a.look h
theorem aLz {w:Nat}:∀{l:List (Nat×Nat×Nat)},(∀p∈l,p.1<w)->∀b,w<=b->phL l b=X
 | [],_,_,_=>rfl
 |(c,x)::l,h,b,a=>by
  have:=h (c,x) E4;simp only[phL,show(c==b)=J by simp at this ⊢;omega];exact aLz (λp d=>h p (by simp[d])) b a
theorem aTj {w:Nat}:∀{l:List (Nat×Nat×Nat)},(∀p∈l,p.2.1<w)->∀b k o,phL l b=Y (k,o)->k<w
 | [],_,_,_,_,h=>by cases h
 |(c,x)::l,h,b,k,o,e=>by
  simp only[phL]at e
  cases hc:(c==b)<;>rw[hc]at e
  .exact aTj (λp a=>h p (by simp[a])) b k o e
  .simp_all
theorem Oh {l:List (Nat×Nat×Nat)}(hd:s.dirty=[])(h:Vi v (phL l) s.nums s.boxes)(a:∀p∈l,p.1<s.next)(c:∀p∈l,p.2.1<v.heap.size):RepW Z v (phL l) (phL l) s v:=
 qW hd (λb B d=>h.look d) (aLz a) (aTj c)
variable {ν:LV}{a:PH}
theorem seg0 {ty:TypeId}{cs:List AC}(h:v.heap[k]?=Y (.cells a.toArray ty (0,0)))(hc:aD (relC Z φ ν v) cs a):yJ Z φ ν v k 0 ty cs:=
 ⟨[],a,[],by simpa using h,rfl,hc⟩
theorem aON {v:World}:∀{had:List Mt} {r:Nat} {m:Mt} {b:PH},aP J v (had.flatMap cM) b->had[r]?=Y m->∃c d a,b=c++d++a/\c.length=r*8/\aP J v (cM m) d
 | [],r,m,b,_,h=>by simp at h
 |m0::had,0,m,b,f,h=>by
  cases h
  match b,f with
  |x0::k::g::l::i::n::j::o::b,⟨t,g0,u,p,x,q,y,s,_⟩=>exact⟨[],[x0,k,g,l,i,n,j,o],b,rfl,rfl,t,g0,u,p,x,q,y,s,trivial⟩
 |m0::had,r+1,m,b,f,h=>by
  match b,f with
  |x0::k::g::l::i::n::j::o::b,⟨t,g0,u,p,x,q,y,s,z⟩=>
   obtain⟨c,d,a,rfl,e,A⟩:=aON z h;exact⟨x0::k::g::l::i::n::j::o::c,d,a,rfl,by simp[e];omega,A⟩
def TAt (w:World)(t:List Rf.V)(v:Value):Prop:=(t=[]/\v=.slice X 0 0)\/(t≠[]/\∃k,∃a:PH,v=.slice (Y ⟨k,0,X⟩) t.length t.length/\w.heap[k]?=Y (.cells a.toArray 210 (0,0))/\aP J w (fT t) a)
def Jy (w:World)(at1:NN)(b:NU)(v:Value):Prop:=(b=[]/\v=.slice X 0 0)\/(b≠[]/\∃k,v=.slice (Y ⟨k,0,X⟩) b.length b.length/\w.heap[k]?=Y (.cells (b.map λa=>A4 (Y ⟨at1 a,0,X⟩)).toArray 115 (0,0)))
def RAt (w:World)(rd:NU)(v:Value):Prop:=One v/\(rd≠[]->∃k,v=.slice (Y ⟨k,0,X⟩) rd.length rd.length/\w.heap[k]?=Y (.cells (rd.map λr:Nat=>A5 .i64 r).toArray 3 (0,0)))
def OAt (w:World)(out:LB)(v:Value):Prop:=(out=[]/\v=.slice X 0 0)\/∃k b,∃a:PH,v=.slice (Y ⟨k,0,X⟩) out.length b/\w.heap[k]?=Y (.cells ((out.map λz=>A5 .i64 z)++a).toArray 3 (0,0))
def HAt (w:World)(had:List Mt)(v:Value):Prop:=∃k b,∃c a:PH,v=.slice (Y ⟨k,0,X⟩) had.length b/\w.heap[k]?=Y (.cells (c++a).toArray 113 (0,0))/\aP J w (had.flatMap cM) c
structure fQ (w:World) (at1:NN) (b:Nat) (n:Nd):Prop where
 ex:∃(tv av rv ov hv sv tl xv sq:Value) (xs ys zs:PH),w.heap[b]?=Y (.cells ([.bool n.pos,tv,av,rv,ov]++xs++[hv,sv,.bool J,.bool J,.int .i64 n.k]++ys++zs++[tl,xv,sq]).toArray 117 (0,0))/\aP J w (cM n.told) xs/\aP J w (cM n.part) ys/\aP J w [0,0] zs/\TAt w n.t tv/\Jy w at1 n.args av/\RAt w n.read rv/\OAt w n.out ov/\HAt w n.had hv/\One sv/\One tl/\One xv/\One sq
theorem aUO {k:Bool}{n:Int}(h:Gy k v n z):One z:=by
 cases k
 .have⟨ds,h1,_⟩:=h;obtain⟨a,cp,rfl,_⟩:=h1.shape;rfl
 .have⟨ds,h1,_⟩:=h;obtain⟨a,cp,rfl,_⟩:=h1.shape;rfl
theorem Il {k:Bool}{v:World}:∀{b:LB} {a:PH},aP k v b a->∀y∈a,One y
 | [],[],_,y,h=>by simp at h
 |z::b,x::y::a,⟨c,d,e⟩,u,hu=>by
  simp at hu
  rcases hu with rfl|rfl|hu
  .rw[c];rfl
  .exact aUO d
  .exact Il e u hu
theorem OAt.one {w:World}{out:LB}(h:OAt w out z):One z:=by
 rcases h with⟨_,rfl⟩|⟨k,b,a,rfl,_⟩<;>rfl
theorem Qk {ty:TypeId}(h:v.heap[k]?=Y (.cells a.toArray ty (0,0))):v.shape? k=Y (ty,a.length):=by
 unfold World.shape?;rw[h];simp
variable {b:Nat}
theorem fQ.arg {at1:NN}{x:Nd}(h:fQ v at1 b x){r:Nat}{m:Mt}(T:x.had[r]?=Y m):
  ∃d,d<v.heap.size/\b<v.heap.size/\(∀(φ:LI) (ν:LV) (j:Nat),φ (6+j)=Y (d,r*8)->(∃f,v.heap[b]?=Y (.cells (f:PH).toArray 117 (0,0))/\aD (relC Z φ ν v) ([.bool x.pos]++iE 12++[.dsl (6+j) r x.had.length 8]++iE 19) f))/\
   ∃c f a,v.heap[d]?=Y (.cells (c++f++a:PH).toArray 113 (0,0))/\c.length=r*8/\aP J v (cM m) f:=by
 obtain⟨p,i,B,A,hv,C,tl,F,sq,D,f,L,z,q,s,t,R,N,P,M,⟨d,g,us,a,rfl,u,S⟩,o1,o2,o3,o4⟩:=h.ex;obtain⟨c,vs,po,rfl,e,l⟩:=aON S T;refine⟨d,cZ u,cZ z,λφ ν j n=>⟨_,z,?_⟩,c,vs,po++a,by rw[u];simp,e,l⟩
 have W:One p:=by rcases R with⟨_,rfl⟩|⟨_,_,_,rfl,_⟩<;>rfl
 have U:One i:=by rcases N with⟨_,rfl⟩|⟨_,_,rfl,_⟩<;>rfl
 have o:[.bool x.pos,p,i,B,A]++D++[.slice (Y ⟨d,0,X⟩) x.had.length g,C,.bool J,.bool J,.int .i64 x.k]++f++L++[tl,F,sq]=[.bool x.pos]++([p,i,B,A]++D)++[.slice (Y ⟨d,0,X⟩) x.had.length g]++([C,.bool J,.bool J,.int .i64 x.k]++f++L++[tl,F,sq]):=E4
 rw[o];refine aD.append (aD.append (aD.append ⟨rfl,trivial⟩ (Es 12 _ (by simp[(pW _ _ q),cM]) ?_)) ⟨⟨d,g,n,rfl⟩,trivial⟩) (Es 19 _ (by simp[(pW _ _ s),(pW _ _ t),cM]) ?_)
 .intro y hy;simp only[q8,j9,o9,or_false]at hy
  rcases hy with(rfl|rfl|rfl|rfl)|hy
  .exact W
  .exact U
  .exact P.1
  .exact M.one
  .exact Il q y hy
 .intro y hy;simp only[q8,j9,o9,or_false]at hy
  rcases hy with(((rfl|rfl|rfl|rfl)|hy)|hy)|(rfl|rfl|rfl)
  .exact o1
  .rfl
  .rfl
  .rfl
  .exact Il s y hy
  .exact Il t y hy
  .exact o2
  .exact o3
  .exact o4
theorem aVb {w:Nat}{n:Int}(h:x[k]?=Y n):(fV w x)[k]?=Y (n,w):=by
 unfold fV;grind
theorem Oo (n:Nat)(a:LB):(fV n a).length=a.length:=by simp[fV]
variable {l r:LV}
theorem Yp {n:Nat}{z:Int}(h:x[k]?=Y z):(l++(fV n x++r))[l.length+k]?=Y (z,n):=by
 rw[p8 O,x8,List.getElem?_append_left (by rw[Oo];exact(q9.1 h).1)];exact aVb h
theorem aOB:∀t:List Rf.V,(fT t).length=2*t.length
 | []=>rfl
 |_::t=>by simp[fT,aOB t];omega
variable {g:Nd}{rest:LV}
theorem fQ.own {at1:NN}(h:fQ v at1 b g){ag:List Ag}(c:ag.length=g.args.length)(B:g.read.length=g.args.length)(b1:∀z∈fT g.t,Bits 1 z)(b2:∀z∈cM g.told,Bits 1 z)(b3:∀z∈cM g.part,Bits 6 z):
  ∃ i d f,i<v.heap.size/\d<v.heap.size/\f<v.heap.size/\b<v.heap.size/\(∀ φ:LI,φ 1=Y (i,0)->φ 2=Y (d,0)->φ 3=Y (f,0)->
   (∃l,v.heap[b]?=Y (.cells (l:PH).toArray 117 (0,0))/\aD (relC Z φ (fV 1 (fT g.t)++fV 1 (cM g.told)++fV 6 (cM g.part)++rest) v) ([.bool g.pos,Al (.slc 1 0 ((fT g.t).length/2) 4) (fT g.t).length,Al (.slc 2 0 ag.length 1) ag.length,(match ag with| []=>.any|_=>.slc 3 0 ag.length 1),.any]++cF J (fT g.t).length 4++[.any,.any,.any,.bool J,.any]++cF J ((fT g.t).length+4) 4++iE 7) l))/\
   (g.t≠[]->∃l,v.heap[i]?=Y (.cells (l:PH).toArray 210 (0,0))/\aP J v (fT g.t) l)/\
   (g.args≠[]->v.heap[d]?=Y (.cells (g.args.map λa=>A4 (Y ⟨at1 a,0,X⟩)).toArray 115 (0,0))/\v.heap[f]?=Y (.cells (g.read.map λr:Nat=>A5 .i64 r).toArray 3 (0,0))):=by
 obtain⟨L,x,F,W,hv,sv,tl,xv,sq,N,l,zs,s,h1,h2,R,hT,hP,S,hO,⟨kh,cap,us,aa,rfl,hH,hU⟩,o1,o2,o3,o4⟩:=h.ex;have P:=aOB g.t
 have T:∃i,i<v.heap.size/\(∀φ:LI,φ 1=Y (i,0)->relC Z φ (fV 1 (fT g.t)++fV 1 (cM g.told)++fV 6 (cM g.part)++rest) v (Al (.slc 1 0 ((fT g.t).length/2) 4) (fT g.t).length) L)/\(g.t≠[]->∃l,v.heap[i]?=Y (.cells (l:PH).toArray 210 (0,0))/\aP J v (fT g.t) l):=by
  rcases hT with⟨e,rfl⟩|⟨e,i,M,rfl,p,q⟩
  .exact⟨b,cZ s,λ_ _=>by rw[P,e];exact⟨rfl,rfl⟩,λh=>absurd e h⟩
  .refine⟨i,cZ p,λφ m=>?_,λ_=>⟨M,p,q⟩⟩;have:=pW _ _ q;have hp:=r5.2 e
   have ec:Al (.slc 1 0 ((fT g.t).length/2) 4) (fT g.t).length=.slc 1 0 g.t.length 4:=by
    rw[P,show 2*g.t.length/2=g.t.length by omega];unfold Al;split
    .omega
    .rfl
   rw[ec];exact⟨i,0,g.t.length,_,_,m,rfl,y8 _,Qk p,O⟩
 have A:∃d f,d<v.heap.size/\f<v.heap.size/\(∀φ:LI,φ 2=Y (d,0)->relC Z φ (fV 1 (fT g.t)++fV 1 (cM g.told)++fV 6 (cM g.part)++rest) v (Al (.slc 2 0 ag.length 1) ag.length) x)/\(∀φ:LI,φ 3=Y (f,0)->relC Z φ (fV 1 (fT g.t)++fV 1 (cM g.told)++fV 6 (cM g.part)++rest) v (match ag with| []=>.any|_=>.slc 3 0 ag.length 1) F)/\
   (g.args≠[]->v.heap[d]?=Y (.cells (g.args.map λa=>A4 (Y ⟨at1 a,0,X⟩)).toArray 115 (0,0))/\v.heap[f]?=Y (.cells (g.read.map λr:Nat=>A5 .i64 r).toArray 3 (0,0))):=by
  rcases hP with⟨e,rfl⟩|⟨e,d,rfl,p⟩
  .have:ag=[]:=by rw[e]at c;exact r7.1 c
   subst this;exact⟨b,b,cZ s,cZ s,λ_ _=>⟨rfl,rfl⟩,λ_ _=>S.1,λh=>absurd e h⟩
  .have hp:=r5.2 e;obtain⟨f,rfl,q⟩:=S.2 (λh=>by rw[h]at B;simp at B;omega);refine⟨d,f,cZ p,cZ q,λφ m=>?_,λφ m=>?_,λ_=>⟨p,q⟩⟩
   .match ag,c with
    |a::o,c=>
     show relC Z φ _ v (.slc 2 0 (a::o).length 1) _;rw[c];exact⟨d,0,_,_,_,m,rfl,y8 _,Qk p,E4⟩
    | [],c=>simp at c;omega
   .match ag,c with
    |a::o,c=>
     show relC Z φ _ v (.slc 3 0 (a::o).length 1) _;rw[c,<-B];exact⟨f,0,_,_,_,m,rfl,y8 _,Qk q,E4⟩
    | [],c=>simp at c;omega
 have⟨i,q1,T1,T2⟩:=T;have⟨d,f,q2,q3,A1,A2,A3⟩:=A;refine⟨i,d,f,q1,q2,q3,cZ s,λφ p1 p2 p3=>⟨_,s,?_⟩,T2,A3⟩
 have D:∀U:Value,[.bool g.pos,L,x,F,W]++N++[U,sv,.bool J,.bool J,.int .i64 g.k]++l++zs++[tl,xv,sq]=[.bool g.pos,L,x,F,W]++N++[U,sv,.bool J,.bool J,.int .i64 g.k]++l++(zs++[tl,xv,sq]):=λ_=>by simp
 rw[D];refine aD.append (aD.append (aD.append (aD.append ⟨rfl,T1 φ p1,A1 φ p2,A2 φ p3,hO.one,trivial⟩ (qA _ N _ _ h1 b2 λj z C=>?_)) ⟨rfl,o1,rfl,rfl,rfl,trivial⟩) (qA _ l _ _ h2 b3 λj z C=>?_)) (Es 7 _ (by simp[(pW _ _ R)]) ?_)
 .rw[p5,p5,<-Oo 1 (fT g.t)];exact Yp C
 .rw[p5 (fV 1 (fT g.t)++fV 1 (cM g.told)),show(fT g.t).length+4+j=(fV 1 (fT g.t)++fV 1 (cM g.told)).length+j by simp[Oo,cM]];exact Yp C
 .intro y u;simp at u
  rcases u with u|(rfl|rfl|rfl)
  .exact Il R y u
  .exact o2
  .exact o3
  .exact o4
def mZ (x:Nd)(r:Nat)(m:Mt):Ag:=⟨x.pos,r,x.had.length,cM m⟩
theorem aVy {t:List Rf.V}(h:t≠[]):tB (fT t)=[(1,ext (cF J 0 (fT t).length) 210)]:=by
 match t,h with
 |v::l,_=>rfl
section
variable {w:World} {at1:NN} {b nt:Nat} {n:Nd}
theorem aJE {c:Nat}(h:w.heap[c]?=Y (.cells a.toArray 210 (0,0)))(d:aP J w (fT n.t) a)(b1:∀z∈fT n.t,Bits 1 z):yJ Z φ (fV 1 (fT n.t)++fV 1 (cM n.told)++fV 6 (cM n.part)++rest) w c 0 210 (cF J 0 (fT n.t).length):=by
 refine seg0 h (qA _ a _ _ d b1 λj z e=>?_);have:=Yp (n:=1) (l:=[]) (r:=fV 1 (cM n.told)++(fV 6 (cM n.part)++rest)) e
 simp_all
theorem aJW {f i:Nat}{m:Mt}{d c:PH}(h:w.heap[f]?=Y (.cells (a++d++c:PH).toArray 113 (0,0)))(o:a.length=p)(k:aP J w (cM m) d)(g:∀z∈cM m,Bits 1 z)(e:ν=l++(fV 1 (cM m)++r))(hi:i=l.length):yJ Z φ ν w f p 113 (cF J i 4):=by
 refine⟨a,d,c,h,o,qA (cM m) d _ _ k g λp z q=>?_⟩;rw[e,hi];exact Yp q
theorem Up (h:fQ w at1 b n){a0 a1 c:Nat}{f:Nd}{d e:Mt}(q:n.t≠[])(m:n.args=[a0,a1])(o:n.read=[p,c])(y:fQ w at1 (at1 a0) g)(B:fQ w at1 (at1 a1) f)(e0:g.had[p]?=Y d)(e1:f.had[c]?=Y e)
  (b1:∀z∈fT n.t,Bits 1 z) (s:∀z∈cM n.told,Bits 1 z) (u:∀z∈cM n.part,Bits 6 z) (v:∀z∈cM d,Bits 1 z) (x:∀z∈cM e,Bits 1 z):
  ∃φ,φ 0=Y (b,0)/\RepW Z w φ φ (Am nt n.pos J (fT n.t) (cM n.told) (cM n.part) [mZ g p d,mZ f c e]) w:=by
 obtain⟨k,i,j,F,L,M,P,N,T,A⟩:=h.own (ag:=[mZ g p d,mZ f c e]) (by rw[m];rfl) (by rw[m,o];rfl) b1 s u;have⟨k0,p1,p2,G0,pre0,ys0,po0,s0,l0,H0⟩:=y.arg e0;have⟨k1,p3,p4,G1,pre1,ys1,po1,s1,l1,H1⟩:=B.arg e1;have⟨us,u1,u2⟩:=T q;have⟨A1,A2⟩:=A (by simp[m]);rw[m]at A1;rw[o]at A2;refine⟨phL [(0,b,0),(1,k,0),(2,i,0),(3,j,0),(4,at1 a0,0),(6,k0,p*8),(5,at1 a1,0),(7,k1,c*8)],rfl,Oh rfl ?_ ?_ ?_⟩
 .obtain⟨R,C,D⟩:=N (phL [(0,b,0),(1,k,0),(2,i,0),(3,j,0),(4,at1 a0,0),(6,k0,p*8),(5,at1 a1,0),(7,k1,c*8)]) rfl rfl rfl;have⟨ws,w1,w2⟩:=G0 (phL [(0,b,0),(1,k,0),(2,i,0),(3,j,0),(4,at1 a0,0),(6,k0,p*8),(5,at1 a1,0),(7,k1,c*8)]) (fV 1 (fT n.t)++fV 1 (cM n.told)++fV 6 (cM n.part)++([mZ g p d,mZ f c e].map λa=>fV 1 a.had).flatten) 0 rfl;have⟨vs,v1,v2⟩:=G1 (phL [(0,b,0),(1,k,0),(2,i,0),(3,j,0),(4,at1 a0,0),(6,k0,p*8),(5,at1 a1,0),(7,k1,c*8)]) (fV 1 (fT n.t)++fV 1 (cM n.told)++fV 6 (cM n.part)++([mZ g p d,mZ f c e].map λa=>fV 1 a.had).flatten) 1 rfl;unfold Am;rw[aVy q];refine⟨⟨rfl,rfl,rfl,b,0,rfl,seg0 C D⟩,⟨rfl,rfl,rfl,k,0,rfl,aJE u1 u2 b1⟩,⟨rfl,rfl,rfl,i,0,rfl,seg0 A1 ⟨⟨at1 a0,0,rfl,rfl⟩,⟨at1 a1,0,rfl,rfl⟩,trivial⟩⟩,⟨rfl,rfl,rfl,j,0,rfl,seg0 A2 ⟨rfl,rfl,trivial⟩⟩,⟨rfl,rfl,rfl,at1 a0,0,rfl,seg0 w1 w2⟩,⟨rfl,rfl,rfl,k0,p*8,rfl,aJW s0 l0 H0 v rfl (by simp[Oo,cM])⟩,⟨rfl,rfl,rfl,at1 a1,0,rfl,seg0 v1 v2⟩,⟨rfl,rfl,rfl,k1,c*8,rfl,aJW (l:=fV 1 (fT n.t)++fV 1 (cM n.told)++fV 6 (cM n.part)++fV 1 (cM d)) (r:=[]) s1 l1 H1 x (by simp[mZ]) (by simp[Oo,cM])⟩,trivial⟩
 .simp[Am]
 .simp_all
theorem Uo (h:fQ w at1 b n){a0:Nat}{c:Mt}(l:n.t≠[])(d:n.args=[a0])(j:n.read=[k])(q:fQ w at1 (at1 a0) g)(e0:g.had[k]?=Y c)
  (b1:∀z∈fT n.t,Bits 1 z) (m:∀z∈cM n.told,Bits 1 z) (o:∀z∈cM n.part,Bits 6 z) (p:∀z∈cM c,Bits 1 z):
  ∃φ,φ 0=Y (b,0)/\RepW Z w φ φ (Am nt n.pos J (fT n.t) (cM n.told) (cM n.part) [mZ g k c]) w:=by
 obtain⟨i,e,f,u,v,x,y,N,T,A⟩:=h.own (ag:=[mZ g k c]) (by rw[d];rfl) (by rw[d,j];rfl) b1 m o;have⟨k0,p1,p2,G0,pre0,ys0,po0,s0,l0,H0⟩:=q.arg e0;have⟨us,u1,u2⟩:=T l;have⟨A1,A2⟩:=A (by simp[d]);rw[d]at A1;rw[j]at A2;refine⟨phL [(0,b,0),(1,i,0),(2,e,0),(3,f,0),(4,at1 a0,0),(6,k0,k*8)],rfl,Oh rfl ?_ ?_ ?_⟩
 .obtain⟨B,r,s⟩:=N (phL [(0,b,0),(1,i,0),(2,e,0),(3,f,0),(4,at1 a0,0),(6,k0,k*8)]) rfl rfl rfl;have⟨ws,w1,w2⟩:=G0 (phL [(0,b,0),(1,i,0),(2,e,0),(3,f,0),(4,at1 a0,0),(6,k0,k*8)]) (fV 1 (fT n.t)++fV 1 (cM n.told)++fV 6 (cM n.part)++([mZ g k c].map λa=>fV 1 a.had).flatten) 0 rfl;unfold Am;rw[aVy l];refine⟨⟨rfl,rfl,rfl,b,0,rfl,seg0 r s⟩,⟨rfl,rfl,rfl,i,0,rfl,aJE u1 u2 b1⟩,⟨rfl,rfl,rfl,e,0,rfl,seg0 A1 ⟨⟨at1 a0,0,rfl,rfl⟩,trivial⟩⟩,⟨rfl,rfl,rfl,f,0,rfl,seg0 A2 ⟨rfl,trivial⟩⟩,⟨rfl,rfl,rfl,at1 a0,0,rfl,seg0 w1 w2⟩,⟨rfl,rfl,rfl,k0,k*8,rfl,aJW s0 l0 H0 p rfl (by simp[Oo,cM])⟩,trivial⟩
 .simp[Am]
 .grind
theorem Un (h:fQ w at1 b n)(e:n.args=[])(l:n.read=[])(b1:∀z∈fT n.t,Bits 1 z)(j:∀z∈cM n.told,Bits 1 z)(k:∀z∈cM n.part,Bits 6 z):
  ∃φ,φ 0=Y (b,0)/\RepW Z w φ φ (Am nt n.pos J (fT n.t) (cM n.told) (cM n.part) []) w:=by
 obtain⟨c,f,g,m,o,p,q,N,T,A⟩:=h.own (ag:=[]) (by rw[e];rfl) (by rw[e,l]) b1 j k;refine⟨phL [(0,b,0),(1,c,0),(2,f,0),(3,g,0)],rfl,Oh rfl ?_ ?_ ?_⟩
 .obtain⟨r,i,d⟩:=N (phL [(0,b,0),(1,c,0),(2,f,0),(3,g,0)]) rfl rfl rfl
  by_cases a:n.t=[]
  .unfold Am;rw[a]at d ⊢;exact⟨⟨rfl,rfl,rfl,b,0,rfl,seg0 i d⟩,trivial⟩
  .have⟨us,u1,u2⟩:=T a;unfold Am;rw[aVy a];exact⟨⟨rfl,rfl,rfl,b,0,rfl,seg0 i d⟩,⟨rfl,rfl,rfl,c,0,rfl,aJE u1 u2 b1⟩,trivial⟩
 .simp[Am]
 .grind
end
theorem aWI:bS Z inC:=by
 intro f a h;unfold inC at h;split at h
 .cases h;exact⟨(aZ func187 rfl rfl).at',(aZ func187 rfl rfl).en⟩
 .cases h;exact⟨(aZ func218 rfl rfl).at',(aZ func218 rfl rfl).en⟩
 .cases h
theorem Vp (i:φ 0=Y (b,0))(S:RepW Z v φ φ s v)(R:s.tmps=[.val (.one (.ptr 0 0))]++r8 145 .fB){t:List Prop}{len:Nat}(g:(Dn s).map (λq=>(q.1,q.2.1))=Y (t,x))(P:Holds t)(N:x.length=2*len)(M:∀z∈x,Bits 10 z):
  Calls prog 181 #[.pointer (Y ⟨b,0,X⟩)] v λe l=>∃a,e=.returned a/\Below v.heap.size v l/\uV v l x 10 len a:=by
 have⟨⟨ps',zs',n⟩,h1,F⟩:=bI g;cases F;have⟨tr,h3,h4⟩:=aK h1;refine pZ (aZ func181 rfl rfl) (vs:=[.one (.ptr 0 0)]) (args:=[.pointer (Y ⟨b,0,X⟩)]) (dX aSA) aWI (by rw[R];rfl) ⟨⟨b,0,i,rfl⟩,trivial⟩ S h3 (isRow _ n) (aIV h4 P) ?_;intro r s' aa a l L g h;obtain⟨c,k,o,U,f,e,m,j,W,d,rfl,u,y,A,B,C,D,p,g8,g9⟩:=aOX L g h;have T:=pW _ _ p
 obtain rfl:U=len:=by simp only at N T;omega
 exact⟨_,rfl,c,k,o,f,e,m,j,W,d,rfl,u,y,A,B,C,D,p,M⟩
end Ab
namespace Rf
open Nw
def eR (n:Nat)(v:V):Prop:=Bits n v.1/\Bits n v.2
theorem eR.mono {n m:Nat}{v:V}(h:eR n v)(a:n<=m):eR m v:=⟨eJ h.1 a,eJ h.2 a⟩
variable {a b:Nat}{m:Mt}
theorem aMb {P:V}(e:cO a m)(hv:eR b P):eR (a+b+1) (hZ m P):=⟨mY (gG e.a hv.1) (gG e.b hv.2),mY (gG e.c hv.1) (gG e.d hv.2)⟩
theorem aSE {P:V}(e:cO a m)(hv:eR b P):eR (a+b+1) (fC m P):=⟨mY (gG e.d hv.1) (gG (yU e.b) hv.2),mY (gG e.a hv.2) (gG (yU e.c) hv.1)⟩
theorem Vm {n:Nat}{t:List V}{x y:V}(f:∀v∈t,eR n v)(d:eR a x)(e:eR b y):eR (n+(a+b)+3) (bR t x y):=by
 unfold bR;split
 .rename_i p q r s;have g:=f p E4;have h:=f q E4;have j:=f r E4;have k:=f s E4
  exact ⟨mY (mY (mY (gG g.1 (gG d.1 e.1)) (gG h.1 (gG d.1 e.2))) (eJ (gG j.1 (gG d.2 e.1)) O)) (eJ (gG k.1 (gG d.2 e.2)) O),
   mY (mY (mY (gG g.2 (gG d.1 e.1)) (gG h.2 (gG d.1 e.2))) (eJ (gG j.2 (gG d.2 e.1)) O)) (eJ (gG k.2 (gG d.2 e.2)) O)⟩
 .exact⟨by unfold Bits;exact z8 E3,by unfold Bits;exact z8 E3⟩
theorem aK0 (e:cO a m):eR a (hZ m (1,0))/\eR a (hZ m (0,1)):=by
 have e1:hZ m (1,0)=(m.a,m.c):=by simp[hZ,Mt.at1,Mt.at2]
 have e2:hZ m (0,1)=(m.b,m.d):=by simp[hZ,Mt.at1,Mt.at2]
 rw[e1,e2];exact⟨⟨e.a,e.c⟩,e.b,e.d⟩
section
variable {ns:List Nd} {c i:Nat} {n:Nd}
theorem aFL (h:Inv ns c)(d:cC ns c i n){w:Nat}(f:n.args[w]?=Y a){e:V×V}(g:ends ns n w=Y e):eR 6001 e.1/\eR 6001 e.2:=by
 obtain⟨m,x,r,b,k,l,o⟩:=Wn h d f;rw[o]at g;cases g;have j:=h.at' a x b;have q:=d.rd w a r x f k b;have p:=j.jY;obtain⟨k1,k2⟩:=aK0 (j.vX r m l);exact⟨k1.mono O,k2.mono O⟩
theorem aNX (h:Inv ns c)(j:cC ns c i n){l:List V}(f:bare ns n=Y l):∀v∈l,eR 60000000 v:=by
 have g:=j.tb;have d:∀v∈n.t,eR 13000 v:=g;unfold bare at f
 cases j.shp with
 |fE g m hc=>
  rw[g]at f;cases f;obtain⟨k1,k2⟩:=aK0 j.kH;have D:=j.ku
  have p:1+n.k*18500<=60000000:=by
   omega
  intro v hv;simp at hv
  rcases hv with rfl|rfl
  .exact k1.mono p
  .exact k2.mono p
 |iL v g m hv=>
  rw[g]at f d;cases f;intro u o;exact(d u o).mono E3
 |qO v w a g m=>
  rw[g]at f d;obtain⟨e,s,rfl⟩:=s8.1 f;obtain⟨b1,q⟩:=aFL h j (by rw[m];rfl) s
  have p:cO 13000 ⟨v.1,w.1,v.2,w.2⟩:=⟨(d v E4).1,(d w E4).1,(d v E4).2,(d w E4).2⟩
  intro u o;simp at o
  rcases o with rfl|rfl
  .exact(aMb p b1).mono E3
  .exact(aMb p q).mono E3
 |bin a b v w x y g m=>
  rw[g]at f d;obtain⟨e,s,C⟩:=u5.1 f;obtain⟨r,B,rfl⟩:=s8.1 C;rw[if_pos (by rw[m];rfl)]at B;obtain⟨b1,q⟩:=aFL h j (by rw[m];rfl) s;obtain⟨z,A⟩:=aFL h j (by rw[m];rfl) B;intro u o;simp at o
  rcases o with rfl|rfl|rfl|rfl
  .exact(Vm d b1 z).mono E3
  .exact(Vm d b1 A).mono E3
  .exact(Vm d q z).mono E3
  .exact(Vm d q A).mono E3
theorem aFH (h:Inv ns c)(a:cC ns c i n){l:List V}(e:corners ns n=Y l):∀v∈l,eR 70000000 v:=by
 obtain⟨b,d,rfl⟩:=s8.1 e;intro v hv;rw[r9]at hv;obtain⟨u,f,rfl⟩:=hv;have g:=a.jY;exact(aSE a.lO (aNX h a d u f)).mono O
end
end Rf
namespace Ab
open Rf (Nd Inv)
def sL (w:World)(at1:NN)(ns:List Nd):Prop:=∀i n,ns[i]?=Y n->fQ w at1 (at1 i) n
theorem Xf {w k:Nat}(a:k<=10000000*w):∀{t:List Rf.V},(∀v∈t,v.1.natAbs<2^k/\v.2.natAbs<2^k)->∀z∈fT t,Bits w z
 | [],_,z,hz=>by simp[fT]at hz
 |v::t,h,z,hz=>by
  simp only[fT,j9]at hz
  rcases hz with rfl|rfl|hz
  .exact wS (h v E4).1 a
  .exact wS (h v E4).2 a
  .exact Xf a (λx b=>h x (by simp[b])) z hz
theorem Ei {u N:Nat}(a:N<=10000000*u){m:Mt}(h:cO N m):∀z∈cM m,Bits u z:=by
 have⟨h1,h2,h3,h4⟩:=h;intro z b;simp only[cM,j9,o9,or_false]at b
 rcases b with rfl|rfl|rfl|rfl
 .exact wS h1 a
 .exact wS h2 a
 .exact wS h3 a
 .exact wS h4 a
section
variable {w:World} {at1:NN} {ns:List Nd} {c i:Nat} {n:Nd} {l:List Rf.V}
theorem aJP {w:Nat}{e:Rf.V×Rf.V}(h:Rf.ends ns n w=Y e):∃a x r m,n.args[w]?=Y a/\ns[a]?=Y x/\n.read[w]?=Y r/\x.had[r]?=Y m/\e=(Rf.hZ m (1,0),Rf.hZ m (0,1)):=by
 have⟨a,h1,h⟩:=u5.1 h;grind
theorem Oe (e:Inv ns c){a r:Nat}{x:Nd}{m:Mt}(f:ns[a]?=Y x)(d:x.had[r]?=Y m):∀z∈cM m,Bits 1 z:=by
 have b:=e.at' a x f;have:=b.rL;have:=b.jY;have:=(q9.1 d).1;exact Ei O (b.vX r m d)
theorem aG5 (hn:ns[i]?=Y n)(S:sL w at1 ns)(F:Inv ns c)(hl:Rf.corners ns n=Y l)(hs:n.t.length=4->n.args.length=2):
  Calls prog 181 #[.pointer (Y ⟨at1 i,0,X⟩)] w λe w'=>∃v,e=.returned v/\Below w.heap.size w w'/\uV w w' (fT l) 10 l.length v:=by
 have o:=F.at' i n hn
 have hc:∀z∈fT l,Bits 10 z:=Xf E3 λv hv=>Rf.aFH F o hl v hv
 have b1:∀z∈fT n.t,Bits 1 z:=Xf E3 λv hv=>o.tb v hv
 have M:∀z∈cM n.told,Bits 1 z:=Ei (by have:=o.jY;omega) o.lO;have N:∀z∈cM n.part,Bits 6 z:=Ei (by have:=o.ku;omega) o.kH;have k:=o.len;have R:=S i n hn;obtain⟨l0,s,rfl⟩:=s8.1 hl;unfold Rf.bare at s;split at s
 .rename_i g;cases s
  have j:n.args=[]:=by
   cases o.shp with
   |fE _ j=>exact j
   |iL _ e=>rw[g]at e;cases e
   |qO _ _ _ e=>rw[g]at e;cases e
   |bin _ _ _ _ _ _ e=>rw[g]at e;cases e
  have L:=r7.1 (by rw[k,j];rfl);obtain⟨φ,e1,e2⟩:=Un R j L b1 M N;rw[g]at e2;exact Vp e1 e2 rfl (aG7 n.pos J ..) fX rfl hc
 .rename_i v g;cases s
  have j:n.args=[]:=by
   cases o.shp with
   |fE e=>rw[g]at e;cases e
   |iL _ _ j=>exact j
   |qO _ _ _ e=>rw[g]at e;cases e
   |bin _ _ _ _ _ _ e=>rw[g]at e;cases e
  have L:=r7.1 (by rw[k,j];rfl);obtain⟨φ,e1,e2⟩:=Un R j L b1 M N;rw[g]at e2;exact Vp e1 e2 rfl (aG8 n.pos J ..) fX rfl hc
 .rename_i v u g;obtain⟨e,U,rfl⟩:=s8.1 s;obtain⟨a,x,r,m,P,C,B,A,rfl⟩:=aJP U
  have j:n.args=[a]:=by
   cases o.shp with
   |fE e=>rw[g]at e;cases e
   |iL _ e=>rw[g]at e;cases e
   |qO _ _ a' _ j=>rw[j]at P ⊢;cases P;rfl
   |bin _ _ _ _ _ _ e=>rw[g]at e;cases e
  have L:n.read=[r]:=by
   match h:n.read with
   | []=>rw[h]at B;cases B
   | [r']=>rw[h]at B;cases B;rfl
   |_::_::_=>rw[h,j]at k;simp at k
  obtain⟨φ,e1,e2⟩:=Uo R (by rw[g];simp) j L (S a x C) A b1 M N (Oe F C A);rw[g]at e2;exact Vp e1 e2 rfl (aG9 n.pos J ..) (iR ⟨rfl,(q9.1 A).1⟩ fX) rfl hc
 .rename_i v0 v1 v2 v3 g;have⟨e,U,s⟩:=u5.1 s;obtain⟨f,hf,rfl⟩:=s8.1 s;have D:=hs (by rw[g];rfl);rw[if_pos D]at hf;obtain⟨a,x,r,m,P,C,B,A,rfl⟩:=aJP U;obtain⟨a',x',r',T,k1,k2,k3,k4,rfl⟩:=aJP hf
  have two:∀{l:NU} {y z:Nat},l.length=2->l[0]?=Y y->l[1]?=Y z->l=[y,z]:=by
   intro l y z h1 D h3
   match l,h1 with
   | [p,q],_=>cases D;cases h3;rfl
  obtain⟨φ,e1,e2⟩:=Up R (by rw[g];simp) (two D P k1) (two (k.trans D) B k3) (S a x C) (S a' x' k2) A k4 b1 M N (Oe F C A) (Oe F k2 k4);rw[g]at e2;have W:=aHa n.pos J r r' x.had.length x'.had.length x.pos x'.pos v0.1 v0.2 v1.1 v1.2 v2.1 v2.2 v3.1 v3.2 n.told.a n.told.b n.told.c n.told.d n.part.a n.part.b n.part.c n.part.d m.a m.b m.c m.d T.a T.b T.c T.d;simp only[Sx,Bu,Int.zero_add]at W;exact Vp e1 e2 rfl W (iR ⟨trivial,(q9.1 k4).1⟩ (iR ⟨trivial,(q9.1 A).1⟩ fX)) rfl hc
 .cases s
end
theorem pJ {w w':World}(h:On Z.bt w w'):∀{c:LB} {a:PH},aP J w c a->aP J w' c a
 | [],[],_=>trivial
 |_::c,_::_::a,⟨d,e,f⟩=>⟨d,(show Z.cP J w' _ _ from Z.qD h e),pJ h f⟩
 | [],_::_,h=>h.elim
 |_::_,[],h=>h.elim
 |_::_,[_],h=>h.elim
section
variable {w w':World} {at1:NN} {b:Nat} {n:Nd}
theorem fQ.below (h:fQ w at1 b n)(l:Below w.heap.size w w'):fQ w' at1 b n:=by
 have a:On Z.bt w w':=On.below l
 have at':∀{k:Nat} {o:Obj},w.heap[k]?=Y o->w'.heap[k]?=Y o:=λm=>(l.block _ (bL m)).trans m
 have⟨tv,av,rv,ov,hv,sv,tl,xv,sq,xs,ys,zs,h0,h1,h2,h3,hT,hP,hR,hO,hH,o1,o2,o3,o4⟩:=h.ex;refine⟨tv,av,rv,ov,hv,sv,tl,xv,sq,xs,ys,zs,at' h0,pJ a h1,pJ a h2,pJ a h3,?_,?_,?_,?_,?_,o1,o2,o3,o4⟩
 .rcases hT with h|⟨e,k,j,d,f,i⟩
  .exact Or.inl h
  .exact A6 ⟨e,k,j,d,at' f,pJ a i⟩
 .rcases hP with h|⟨e,k,d,f⟩
  .exact Or.inl h
  .exact A6 ⟨e,k,d,at' f⟩
 .exact⟨hR.1,λe=>by have⟨k,d,f⟩:=hR.2 e;exact⟨k,d,at' f⟩⟩
 .rcases hO with h|⟨k,g,c,d,f⟩
  .exact Or.inl h
  .exact A6 ⟨k,g,c,d,at' f⟩
 .have⟨k,g,j,c,d,f,i⟩:=hH;exact⟨k,g,j,c,d,at' f,pJ a i⟩
theorem sL.below {ns:List Nd}(h:sL w at1 ns)(a:Below w.heap.size w w'):sL w' at1 ns:=λi n c=>(h i n c).below a
theorem aSU {ns:List Nd}{c i:Nat}{l:List Rf.V}(g:ns[i]?=Y n)(d:sL w at1 ns)(a:Inv ns c)(f:Rf.corners ns n=Y l)(h:n.t.length=4->n.args.length=2):pR w (at1 i) (fT l) 10 l.length:=
 λj e=>aG5 g (d.below e) a f h
theorem fQ.nx (h:fQ w at1 b n)(t:n.read.length=n.args.length):
  ∃ g d f j,g0 g=decide (n.out=[])/\d<w.heap.size/\f<w.heap.size/\j<w.heap.size/\b<w.heap.size/\(∀ φ:LI,φ 2=Y (d,0)->φ 3=Y (f,0)->φ 8=Y (j,0)->
   (∃o,w.heap[b]?=Y (.cells (o:PH).toArray 117 (0,0))/\aD (relC Z φ [] w) ([.bool n.pos,.any,Al (.slc 2 0 n.args.length 1) n.args.length,(match n.args with| []=>.any|_=>.slc 3 0 n.args.length 1),oC g]++iE 28) o))/\
   (n.args≠[]->w.heap[d]?=Y (.cells (n.args.map λa=>A4 (Y ⟨at1 a,0,X⟩)).toArray 115 (0,0))/\w.heap[f]?=Y (.cells (n.read.map λr:Nat=>A5 .i64 r).toArray 3 (0,0))):=by
 obtain⟨z,p,x,v,hv,M,tl,P,sq,N,o,R,l,B,C,D,W,U,F,T,⟨kh,cap,us,m,rfl,hH,hU⟩,o1,o2,o3,o4⟩:=h.ex
 have oT:One z:=by rcases W with⟨_,rfl⟩|⟨_,_,_,rfl,_⟩<;>rfl
 have c:∃g j,g0 g=decide (n.out=[])/\j<w.heap.size/\∀φ:LI,φ 8=Y (j,0)->relC Z φ [] w (oC g) v:=by
  rcases T with⟨e,rfl⟩|⟨k,cap,m,rfl,g⟩
  .exact⟨X,b,by simp[g0,e],cZ l,λ_ _=>⟨rfl,rfl⟩⟩
  .exact⟨Y n.out.length,k,by simp[g0],cZ g,λφ i=>⟨k,cap,by simpa using i,rfl⟩⟩
 have A:∃d f,d<w.heap.size/\f<w.heap.size/\(∀φ:LI,φ 2=Y (d,0)->relC Z φ [] w (Al (.slc 2 0 n.args.length 1) n.args.length) p)/\(∀φ:LI,φ 3=Y (f,0)->relC Z φ [] w (match n.args with| []=>.any|_=>.slc 3 0 n.args.length 1) x)/\
   (n.args≠[]->w.heap[d]?=Y (.cells (n.args.map λa=>A4 (Y ⟨at1 a,0,X⟩)).toArray 115 (0,0))/\w.heap[f]?=Y (.cells (n.read.map λr:Nat=>A5 .i64 r).toArray 3 (0,0))):=by
  rcases U with⟨e,rfl⟩|⟨e,d,rfl,q⟩
  .rw[e];exact⟨b,b,cZ l,cZ l,λ_ _=>⟨rfl,rfl⟩,λ_ _=>F.1,λh=>absurd rfl h⟩
  .have hp:=r5.2 e;obtain⟨f,rfl,s⟩:=F.2 (λh=>by rw[h]at t;simp at t;omega);refine⟨d,f,cZ q,cZ s,λφ i=>?_,λφ i=>?_,λ_=>⟨q,s⟩⟩
   .have:Al (.slc 2 0 n.args.length 1) n.args.length=.slc 2 0 n.args.length 1:=by
     unfold Al;split
     .omega
     .rfl
    rw[this];exact⟨d,0,_,_,_,i,rfl,y8 _,Qk q,E4⟩
   .have:(match n.args with| []=>AC.any|_=>.slc 3 0 n.args.length 1)=.slc 3 0 n.args.length 1:=by
     split
     .contradiction
     .rfl
    rw[this,<-t];exact⟨f,0,_,_,_,i,rfl,y8 _,Qk s,E4⟩
 have⟨g,j,p1,p2,p3⟩:=c;have⟨d,f,q2,q3,A1,A2,A3⟩:=A;refine⟨g,d,f,j,p1,q2,q3,p2,cZ l,λφ f2 f3 S=>⟨_,l,?_⟩,A3⟩
 have u:∀L:Value,[.bool n.pos,z,p,x,v]++N++[L,M,.bool J,.bool J,.int .i64 n.k]++o++R++[tl,P,sq]=[.bool n.pos,z,p,x,v]++(N++[L,M,.bool J,.bool J,.int .i64 n.k]++o++R++[tl,P,sq]):=λ_=>by simp
 rw[u];refine aD.append ⟨rfl,oT,A1 φ f2,A2 φ f3,p3 φ S,trivial⟩ (Es 28 _ (by simp[(pW _ _ B),(pW _ _ C),(pW _ _ D),cM]) ?_);intro y hy;simp only[q8,j9,o9,or_false]at hy
 rcases hy with(((hy|(rfl|rfl|rfl|rfl|rfl))|hy)|hy)|(rfl|rfl|rfl)
 .exact Il B y hy
 .rfl
 .exact o1
 .rfl
 .rfl
 .rfl
 .exact Il C y hy
 .exact Il D y hy
 .exact o2
 .exact o3
 .exact o4
end
theorem aV8 {s:Int}(a:s∈([43,45,111,119,-1,1,0]:LB)):Ae (eM s)=Rf.fC (Mt.sym s):=by
 simp at a
 rcases a with rfl|rfl|rfl|rfl|rfl|rfl|rfl<;>rfl
theorem aQD (l:List Rf.V):∀(a:LB),(∀s∈a,s∈([43,45,111,119,-1,1,0]:LB))->Ec l a=a.find? (Rf.can l)
 | [],_=>rfl
 |s::a,h=>by
  have e:kD (l.map (Ae (eM s)))=Rf.can l s:=by rw[aV8 (h s E4)];rfl
  unfold Ec;rw[e,aQD l a λx c=>h x (by simp[c])];grind
theorem Xj {T:XW}{n:Nd}(a:g0 T=decide (n.out=[]))(l:List Rf.V):mT n.pos T l=(Rf.tries n).find? (Rf.can l):=by
 unfold mT Rf.tries;rw[a]
 cases d:n.pos<;>by_cases c:n.out=[]<;>simp only[c,Bool.true_eq_false]<;>exact aQD l _ E4
variable {φ:LI}
theorem Wq {w:World}{b len:Nat}{s:AS}{f:LB}{x:Option Int}(a:φ 0=Y (b,0))(l:RepW Z w φ φ s w)(k:s.tmps=[.val (.one (.ptr 0 0))]++r8 (f134.ntmps-1) .fB)(h:pR w b f 10 len)(j:f.length=2*len)(c:wF f len s=Y x):
  Calls prog 134 #[.pointer (Y ⟨b,0,X⟩)] w λe g=>∃n t,e=.returned (.tuple #[.int .i64 n,.bool t])/\(x=bif t then Y n else X)/\Below w.heap.size w g:=by
 have⟨tr,h3,h4⟩:=aK c;refine pZ (aZ func134 rfl rfl) (vs:=[.one (.ptr 0 0)]) (args:=[.pointer (Y ⟨b,0,X⟩)]) (aXm a j h) bO (by rw[k];rfl) ⟨⟨b,0,a,rfl⟩,trivial⟩ l h3 (isX x) (aJL h4) ?_;intro r o m v g i c d;exact aUF i c d
section
variable {w:World} {at1:NN} {b nt:Nat} {n x0 x1:Nd} {a0 a1 r0 r1:Nat}
theorem aKG {φ:LI}{ν:LV}:∀{cs:List AC} {a:PH},aD (relC Z φ ν w) cs a->aD (relC Z φ ν w) (iE cs.length) a
 | [],[],_=>trivial
 |_::_,_::_,⟨h,r⟩=>⟨aHN h,aKG r⟩
 | [],_::_,h=>h.elim
 |_::_,[],h=>h.elim
theorem fQ.sg {x:Nd}(h:fQ w at1 b x)(d:x.read.length=x.args.length)(φ:LI):∃a,w.heap[b]?=Y (.cells (a:PH).toArray 117 (0,0))/\aD (relC Z φ [] w) ([.bool x.pos]++iE 32) a:=by
 have⟨g,ka,kr,ko,_,_,_,_,_,N,_⟩:=h.nx d;have⟨a,y1,y2⟩:=N (phL [(2,ka,0),(3,kr,0),(8,ko,0)]) rfl rfl rfl;refine⟨a,y1,?_⟩
 match a,y2 with
 |y::a,⟨e,d⟩=>
  refine⟨e,?_⟩
  have:=Es (φ:=φ) (ν:=[]) (w:=w) 32 a (by have:=Wj _ _ d;simp [iE] at this;omega) (λy f=>by
   have:∀{n:Nat} {c:PH},aD (relC Z (phL [(2,ka,0),(3,kr,0),(8,ko,0)]) [] w) (iE n) c->∀z∈c,One z:=by
    intro n
    induction n with
    |zero=>intro c h z hz;cases c with|nil=>simp at hz|cons _ _=>exact h.elim
    |succ n i=>intro c h z hz;cases c with|nil=>exact h.elim|cons u j=>(rcases j9.1 hz with rfl|hz;exact h.1;exact i h.2 z hz)
   exact this (aKG d) y f)
  exact this
theorem bCH (h:fQ w at1 b n)(a:n.args=[a0,a1])(c:n.read=[r0,r1])(d:fQ w at1 (at1 a0) x0)(e:fQ w at1 (at1 a1) x1)(f:x0.read.length=x0.args.length)(i:x1.read.length=x1.args.length):
  ∃g φ,g0 g=decide (n.out=[])/\φ 0=Y (b,0)/\RepW Z w φ φ (Uu nt n.pos x0.pos x1.pos r0 r1 g) w:=by
 have⟨g,ka,kr,ko,hg,k1,k2,k3,k4,N,A⟩:=h.nx (by rw[a,c];rfl);have⟨A1,A2⟩:=A (by simp[a]);rw[a]at A1;rw[c]at A2;have⟨u0,s0,t0⟩:=d.sg f (phL [(0,b,0),(2,ka,0),(3,kr,0),(8,ko,0),(4,at1 a0,0),(5,at1 a1,0)]);have⟨u1,s1,t1⟩:=e.sg i (phL [(0,b,0),(2,ka,0),(3,kr,0),(8,ko,0),(4,at1 a0,0),(5,at1 a1,0)]);refine⟨g,phL [(0,b,0),(2,ka,0),(3,kr,0),(8,ko,0),(4,at1 a0,0),(5,at1 a1,0)],hg,rfl,Oh rfl ?_ ?_ ?_⟩
 .have⟨ys,y1,y2⟩:=N (phL [(0,b,0),(2,ka,0),(3,kr,0),(8,ko,0),(4,at1 a0,0),(5,at1 a1,0)]) rfl rfl rfl;rw[a]at y2;exact⟨⟨rfl,rfl,rfl,b,0,rfl,seg0 y1 y2⟩,⟨rfl,rfl,rfl,ka,0,rfl,seg0 A1 ⟨⟨at1 a0,0,rfl,rfl⟩,⟨at1 a1,0,rfl,rfl⟩,trivial⟩⟩,⟨rfl,rfl,rfl,kr,0,rfl,seg0 A2 ⟨rfl,rfl,trivial⟩⟩,⟨rfl,rfl,rfl,at1 a0,0,rfl,seg0 s0 t0⟩,⟨rfl,rfl,rfl,at1 a1,0,rfl,seg0 s1 t1⟩,trivial⟩
 .simp[Uu]
 .grind
theorem bCG (h:fQ w at1 b n)(a:n.args=[a0])(c:n.read=[r0])(d:fQ w at1 (at1 a0) x0)(e:x0.read.length=x0.args.length):
  ∃g φ,g0 g=decide (n.out=[])/\φ 0=Y (b,0)/\RepW Z w φ φ (sX1 nt n.pos x0.pos r0 g) w:=by
 have⟨g,ka,kr,ko,hg,k1,k2,k3,k4,N,A⟩:=h.nx (by rw[a,c];rfl);have⟨A1,A2⟩:=A (by simp[a]);rw[a]at A1;rw[c]at A2;have⟨u0,s0,t0⟩:=d.sg e (phL [(0,b,0),(2,ka,0),(3,kr,0),(8,ko,0),(4,at1 a0,0)]);refine⟨g,phL [(0,b,0),(2,ka,0),(3,kr,0),(8,ko,0),(4,at1 a0,0)],hg,rfl,Oh rfl ?_ ?_ ?_⟩
 .have⟨ys,y1,y2⟩:=N (phL [(0,b,0),(2,ka,0),(3,kr,0),(8,ko,0),(4,at1 a0,0)]) rfl rfl rfl;rw[a]at y2;exact⟨⟨rfl,rfl,rfl,b,0,rfl,seg0 y1 y2⟩,⟨rfl,rfl,rfl,ka,0,rfl,seg0 A1 ⟨⟨at1 a0,0,rfl,rfl⟩,trivial⟩⟩,⟨rfl,rfl,rfl,kr,0,rfl,seg0 A2 ⟨rfl,trivial⟩⟩,⟨rfl,rfl,rfl,at1 a0,0,rfl,seg0 s0 t0⟩,trivial⟩
 .simp[sX1]
 .grind
theorem Vf (h:fQ w at1 b n)(a:n.args=[])(c:n.read=[]):
  ∃g φ,g0 g=decide (n.out=[])/\φ 0=Y (b,0)/\RepW Z w φ φ (sX0 nt n.pos g) w:=by
 have⟨g,ka,kr,ko,hg,k1,k2,k3,k4,N,A⟩:=h.nx (by rw[a,c]);refine⟨g,phL [(0,b,0),(2,ka,0),(3,kr,0),(8,ko,0)],hg,rfl,Oh rfl ?_ ?_ ?_⟩
 .have⟨ys,y1,y2⟩:=N (phL [(0,b,0),(2,ka,0),(3,kr,0),(8,ko,0)]) rfl rfl rfl;rw[a]at y2;exact⟨⟨rfl,rfl,rfl,b,0,rfl,seg0 y1 y2⟩,trivial⟩
 .simp[sX0]
 .grind
end
section
variable {w:World} {at1:NN} {ns:List Nd} {c i:Nat} {n:Nd} {l:List Rf.V}
theorem aQF {l:NU}(h:l.length=2):∃y z,l=[y,z]:=by
 match l,h with
 | [y,z],_=>exact⟨y,z,rfl⟩
theorem aKd {l:NU}(h:l.length=1):∃y,l=[y]:=by
 match l,h with
 | [y],_=>exact⟨y,rfl⟩
theorem aKz (p:Bool)(r:Nat)(x:Option Int):lQ p r x=if(!p&&r==0)=I then X else x:=by
 unfold lQ;grind
theorem aOd (j:Inv ns c)(m:ns[i]?=Y n)(k:Rf.corners ns n=Y l)(o:n.t.length=4->n.args.length=2):(n.args=[]/\l.length=1)\/(n.args=[]/\l.length=2)\/(n.args.length=1/\l.length=2)\/(n.args.length=2/\l.length=4):=by
 obtain⟨p,d,rfl⟩:=s8.1 k;unfold Rf.bare at d
 cases (j.at' i n m).shp with
 |fE g h=>rw[g]at d;cases d;exact A6 (Or.inl ⟨h,rfl⟩)
 |iL v g h=>rw[g]at d;cases d;exact Or.inl ⟨h,rfl⟩
 |qO v u a g h=>
  rw[g]at d;obtain⟨e,_,rfl⟩:=s8.1 d
  simp_all
 |bin a b v u x y g h=>
  rw[g]at d;have⟨e,_,d⟩:=u5.1 d;obtain⟨f,_,rfl⟩:=s8.1 d
  simp_all
theorem aJ6 (F:ns[i]?=Y n)(B:sL w at1 ns)(z:Inv ns c)(P:n.t.length=4->n.args.length=2){o:Option Int}(R:Rf.next ns n=Y o):
  Calls prog 134 #[.pointer (Y ⟨at1 i,0,X⟩)] w λe S=>∃s t,e=.returned (.tuple #[.int .i64 s,.bool t])/\(o=bif t then Y s else X)/\Below w.heap.size w S:=by
 have L:=z.at' i n F;have p:=L.len;have C:=B i n F;have⟨l0,hb⟩:=Rf.Vw z L
 obtain⟨l,N⟩:∃l,Rf.corners ns n=Y l:=⟨_,by unfold Rf.corners;rw[hb];rfl⟩
 have D:=aSU F B z N P
 have nod:∀{a:Nat} {j:Nat},n.args[j]?=Y a->∃x,ns[a]?=Y x:=λh=>⟨_,s7 (L.arg _ _ h).1⟩
 have f:o=if Rf.waits ns n.args n.read=I then X else(Rf.tries n).find? (Rf.can l):=by
  unfold Rf.next at R;grind
 rcases aOd z F N P with⟨d,k⟩|⟨d,k⟩|⟨d,k⟩|⟨d,k⟩
 .have m:=r7.1 (by rw[p,d];rfl);have⟨g,φ,hg,e1,e2⟩:=Vf (nt:=f134.ntmps-1) C d m
  match l,k with
  | [u],_=>
   rw[d]at f;have W:=aMS n.pos g u.1 u.2;rw[Xj hg [u]]at W;rw[f];exact Wq e1 e2 rfl D rfl W
 .have m:=r7.1 (by rw[p,d];rfl);have⟨g,φ,hg,e1,e2⟩:=Vf (nt:=f134.ntmps-1) C d m
  match l,k with
  | [u,v],_=>
   rw[d]at f;have W:=aMR n.pos g u.1 u.2 v.1 v.2;rw[Xj hg [u,v]]at W;rw[f];exact Wq e1 e2 rfl D rfl W
 .have⟨a,d⟩:=aKd d;have⟨r,m⟩:=aKd (by rw[p,d];rfl:n.read.length=1);obtain⟨x,A⟩:=nod (j:=0) (by rw[d];rfl);have⟨g,φ,hg,e1,e2⟩:=bCG (nt:=f134.ntmps-1) C d m (B a x A) (z.at' a x A).len
  match l,k with
  | [u,v],_=>
   have W:=aMT n.pos x.pos r g u.1 u.2 v.1 v.2;rw[Xj hg [u,v],aKz]at W;rw[d,m]at f;simp only[Rf.waits,A,Bool.or_false]at f;rw[f];exact Wq e1 e2 rfl D rfl W
 .have⟨a,b,d⟩:=aQF d;have⟨r,q,m⟩:=aQF (by rw[p,d];rfl:n.read.length=2);obtain⟨x,A⟩:=nod (j:=0) (by rw[d];rfl);obtain⟨y,M⟩:=nod (j:=1) (by rw[d];rfl);have⟨g,φ,hg,e1,e2⟩:=bCH (nt:=f134.ntmps-1) C d m (B a x A) (B b y M) (z.at' a x A).len (z.at' b y M).len
  match l,k with
  | [u,v,s,t],_=>
   have W:=aMU n.pos x.pos y.pos r q g u.1 u.2 v.1 v.2 s.1 s.2 t.1 t.2;rw[Xj hg [u,v,s,t],aKz,aKz]at W;rw[d,m]at f;simp only[Rf.waits,A,M]at f
   have e:o=if(!x.pos&&r==0)=I then X else if(!y.pos&&q==0)=I then X else(Rf.tries n).find? (Rf.can [u,v,s,t]):=by
    rw[f]
    cases (!x.pos&&r==0)<;>cases (!y.pos&&q==0)<;>rfl
   rw[e];exact Wq e1 e2 rfl D rfl W
end
def isI (x:Int)(r:AT)(s:AS):Prop:=clean s=I/\r=.val (.one (.int .i64 x))
theorem Yw:∀{d:Tr} {x:Int},zB d=Y x->d.ok (isI x) λ_ _=>False
 |.br t a b,x,h=>by
  have⟨p,h1,h2⟩:=aK h;obtain⟨q,f,rfl⟩:=bI h2;exact⟨λe=>by subst e;exact Yw h1,λe=>by subst e;exact Yw f⟩
 |.ret r s,x,h=>by
  unfold zB at h;split at h
  .rename_i n g e;cases e
   cases hc:clean s with
   |false=>rw[hc]at h;cases h
   |true=>rw[hc]at h;cases h;exact⟨hc,rfl⟩
  .simp_all
  .cases h
 |.need _ _,_,h=>by cases h
 |.stop _ _,_,h=>by cases h
theorem aS4:bS Z inS:=by
 intro f a h;unfold inS at h;split at h
 .cases h;exact⟨(aZ func221 rfl rfl).at',(aZ func221 rfl rfl).en⟩
 .cases h
theorem aSb {w:World}{b:Nat}{s:AS}{g:LB}{x:Int}(a:φ 0=Y (b,0))(o:RepW Z w φ φ s w)(m:s.tmps=[.val (.one (.ptr 0 0))]++r8 (f185.ntmps-1) .fB)(j:pR w b g 10 4)(l:g.length=8)(d:Ur g s=Y x):
  Calls prog 185 #[.pointer (Y ⟨b,0,X⟩)] w λe h=>e=.returned (.int .i64 x)/\Below w.heap.size w h:=by
 have⟨tr,h3,h4⟩:=aK d;refine pZ (aZ func185 rfl rfl) (vs:=[.one (.ptr 0 0)]) (args:=[.pointer (Y ⟨b,0,X⟩)]) (aXl a l j) aS4 (by rw[m];rfl) ⟨⟨b,0,a,rfl⟩,trivial⟩ o h3 (isI x) (Yw h4) ?_;intro r q p v h k d f;obtain⟨hc,rfl⟩:=k;exact⟨by rw[d],RepF.below f hc⟩
theorem Jb (x:Int):decide (jG x=0)=decide (x=0):=by
 unfold jG Nm.cmp;grind
theorem Zz (x y:Rf.V):Pe x y=Rf.apart x y:=by
 unfold Pe Rf.apart;rw[Jb,Jb];grind
theorem aSS (x y:Int):decide (Nm.cmp x y≥0)=decide (y<=x):=by
 unfold Nm.cmp;grind
theorem aWH (x y:Rf.V):grV x y=Rf.gA x y:=by
 unfold grV Rf.gA;rw[aSS];grind
theorem aVs {a b c d:Rf.V}{m:Bool}{x k:Nat}:xT m a b c d x k=((if(if Nw.fits [a,b,c,d]=I then Rf.wider (if m=I then 8 else 1) [a,b,c,d]else 0)=1 then 0 else if(if Nw.fits [a,b,c,d]=I then Rf.wider (if m=I then 8 else 1) [a,b,c,d]else 0)=-1 then 1 else if x<=k then 0 else 1:Nat):Int):=by
 unfold xT Ti Rf.wider Cr;rw[Zz,Zz,Zz,Zz,aWH,aWH,show kD [a,b,c,d]=Nw.fits [a,b,c,d]from rfl];grind
section
variable {w:World} {at1:NN} {ns:List Nd} {c i:Nat} {n:Nd}{r:Nat}
theorem aSX {a:Nat}{x:Nd}{sd:Nat}(b:n.args[sd]?=Y a)(e:ns[a]?=Y x)(d:n.read[sd]?=Y r):Rf.digits ns n sd=Y (if x.pos=I then Y r else if r=0 then X else Y (r-1)):=by
 unfold Rf.digits;grind
theorem aQU (a:r≠0)(h:r<=3000):IntKind.i64.wrap ((r:Int)-1)=((r-1:Nat):Int):=by
 rw[IntKind.wrap_i64];omega
theorem aIc (p:Bool)(h:r<=3000):((if p=I then Y r else if r=0 then X else Y (r-1):XW)=X/\∀s x,askF p r s x=s)\/∃k:Nat,(if p=I then Y r else if r=0 then X else Y (r-1):XW)=Y k/\zD p r=(k:Int)/\∀s x,askF p r s x=x:=by
 cases p
 .by_cases a:r=0
  .subst a;exact Or.inl ⟨rfl,λs x=>rfl⟩
  .have:((r:Int)>0):=O
   exact A6 ⟨r-1,by simp[a],by unfold zD;exact aQU a h,λs x=>by unfold askF;rw[decide_eq_true this];rfl⟩
 .exact A6 ⟨r,rfl,rfl,λs x=>rfl⟩
end
noncomputable def runT (s:AS):Option Int:=(run Z (aE uA) inS (aL Z (aE uA)) (λ_=>J) 5000 [.code (aG f185),.top f185] s).bind zB
theorem aNb (pos e h:Bool)(l la:Nat)(m o p q a b c d j p1 p2 k a0 a1 f g:Int):runT (sS pos e [m,o,p,q] [a,b,c,d] [j,p1,p2,k] [⟨h,l,la,[a0,a1,f,g]⟩])=Y 0:=E0
section
variable {w:World} {at1:NN} {ns:List Nd} {c i:Nat} {n:Nd}
theorem aNa (R:ns[i]?=Y n)(F:sL w at1 ns)(B:Inv ns c)(L:n.args≠[])(hs:n.t.length=4->n.args.length=2){D:Nat}(s:Rf.side ns n=Y D):
  Calls prog 185 #[.pointer (Y ⟨at1 i,0,X⟩)] w λe w'=>e=.returned (.int .i64 (D:Int))/\Below w.heap.size w w':=by
 have p:=B.at' i n R;have N:=p.len;have P:=F i n R
 have b1:∀z∈fT n.t,Bits 1 z:=Xf E3 λv hv=>p.tb v hv
 have b2:∀z∈cM n.told,Bits 1 z:=Ei (by have:=p.jY;omega) p.lO;have b3:∀z∈cM n.part,Bits 6 z:=Ei (by have:=p.ku;omega) p.kH;have⟨l0,hb⟩:=Rf.Vw B p
 obtain⟨l,U⟩:∃l,Rf.corners ns n=Y l:=⟨_,by unfold Rf.corners;rw[hb];rfl⟩
 have nod:∀{a r:Nat} {j:Nat},n.args[j]?=Y a->n.read[j]?=Y r->∃x m,ns[a]?=Y x/\x.had[r]?=Y m:=λh g=>by
  have A:=s7 (p.arg _ _ h).1;have:=p.rd _ _ _ _ h g A;have e:=(B.at' _ _ A).rL;exact⟨_,_,A,s7 O⟩
 cases p.shp with
 |fE _ f=>exact absurd f L
 |iL _ _ f=>exact absurd f L
 |qO v u a C f=>
  have⟨r,o⟩:=aKd (by rw[N,f];rfl:n.read.length=1);obtain⟨x,m,A,M⟩:=nod (j:=0) (by rw[f];rfl) (by rw[o];rfl);obtain⟨φ,e1,e2⟩:=Uo P (by rw[C];simp) f o (F a x A) M b1 b2 b3 (Oe B A M);rw[C]at e2
  have P:D=0:=by
   unfold Rf.side at s;grind
  subst P;have o:=aNb n.pos J x.pos r x.had.length v.1 v.2 u.1 u.2 n.told.a n.told.b n.told.c n.told.d n.part.a n.part.b n.part.c n.part.d m.a m.b m.c m.d;have⟨tr,h3,h4⟩:=aK o;refine pZ (aZ func185 rfl rfl) (vs:=[.one (.ptr 0 0)]) (args:=[.pointer (Y ⟨at1 i,0,X⟩)]) (dX aXt) aS4 rfl ⟨⟨at1 i,0,e1,rfl⟩,trivial⟩ e2 h3 (isI 0) (Yw h4) ?_;intro r s' au v w' hG o aa;obtain⟨hc,rfl⟩:=hG;exact⟨by rw[o];rfl,RepF.below aa hc⟩
 |bin a b v0 v1 v2 v3 C f=>
  have⟨r,q,o⟩:=aQF (by rw[N,f];rfl:n.read.length=2);obtain⟨x,m,A,M⟩:=nod (j:=0) (by rw[f];rfl) (by rw[o];rfl);obtain⟨y,k,hy,hk⟩:=nod (j:=1) (by rw[f];rfl) (by rw[o];rfl);have⟨φ,e1,e2⟩:=Up (nt:=f185.ntmps-1) P (by rw[C];simp) f o (F a x A) (F b y hy) M hk b1 b2 b3 (Oe B A M) (Oe B hy hk);rw[C]at e2;have r3:=p.jL r (by rw[o];simp);have q3:=p.jL q (by rw[o];simp);have d0:=aSX (sd:=0) (by rw[f];rfl) A (by rw[o];rfl);have d1:=aSX (sd:=1) (by rw[f];rfl) hy (by rw[o];rfl)
  have W:l.length=4:=by
   rcases aOd B R U hs with⟨h,_⟩|⟨h,_⟩|⟨h,_⟩|⟨_,h⟩
   .rw[f]at h;cases h
   .rw[f]at h;cases h
   .rw[f]at h;simp at h
   .exact h
  match l,W with
  | [p0,p1,p2,p3],_=>
   have ad:(D:Int)=askF x.pos r 0 (askF y.pos q 1 (xT J p0 p1 p2 p3 (zD x.pos r) (zD y.pos q))):=by
    unfold Rf.side at s;rw[if_neg (by rw[C];simp),d0,d1,U]at s
    rcases aIc x.pos (r:=r) O with⟨S,T⟩|⟨k0,S,T,g3⟩
    .rw[S]at s;cases s;rw[T];rfl
    .rw[S]at s;rw[g3]
     rcases aIc y.pos (r:=q) O with⟨f1,f2⟩|⟨k1,f1,f2,f3⟩
     .rw[f1]at s;cases s;rw[f2];rfl
     .rw[f1]at s;rw[f3,T,f2,aVs];cases s;rfl
   rw[ad];exact aSb e1 e2 rfl (aSU R F B U hs) rfl (aNc n.pos J r q x.had.length y.had.length x.pos y.pos v0.1 v0.2 v1.1 v1.2 v2.1 v2.2 v3.1 v3.2 n.told.a n.told.b n.told.c n.told.d n.part.a n.part.b n.part.c n.part.d m.a m.b m.c m.d k.a k.b k.c k.d p0.1 p0.2 p1.1 p1.2 p2.1 p2.2 p3.1 p3.2)
end
end Ab
open Ab
theorem aSr (w:World)(k:Nat)(n:Int)(a:w.heap[k]?=Y (.cells #[.int .i64 n] 209 (0,0)))(c:-1<=n)(d:n<=3000):
  Calls prog 135 #[.pointer (Y ⟨k,0,X⟩)] w λe b=>e=.returned (.bool (decide (1<=n)))/\b=w.setCell ⟨k,0,X⟩ (.int .i64 (n-1)):=by
 have c0:w.cell? ⟨k,0,X⟩=Y (.int .i64 n):=aB a rfl;have f0:w.frozen? ⟨k,0,X⟩=J:=dP a
 go_in
 go_wp2_with fail
 go_ret
 simp
namespace Ab
noncomputable def ZF (B:Nat):eQ where
 P:=prog
 bt:=bt0
 cP:=λk w z x=>Gy J w z x/\(k=J->iU B x)
 bits:=Bits
 qD:=λh a=>⟨Z.qD (k:=J) h a.1,a.2⟩
 rB:=λa=>Z.rB (k:=J) a.1
def Qb (C:eQ)(g:World)(f:FuncId)(d:TE):Prop:=dV C.P f/\∀a r p,d a=Y (r,p)->Holds p->∀w (c:PH),g.heap.size<=w.heap.size->aD (iH C w) a c->Calls C.P f c.toArray w λe b=>∃v,e=.returned v/\RRV C b r v/\Below w.heap.size w b
variable {v:World}{l:List (FuncId×TE)}
theorem aQq {R:eQ}{ψ:LI}(m:∀f b,lookTE l f=Y b->Qb R v f b):SpecOk R v ψ (aE l):=by
 intro f d ν id u A t r p q h;have⟨b,h1,h2⟩:=aK h;have⟨hen,hok⟩:=m f b h1;refine⟨hen,λn F j φ w s _ _ c _ g=>?_⟩;have⟨ts,h3,h4⟩:=aK h2;have⟨⟨r',p'⟩,h5,h6⟩:=bI h4;simp at h6;obtain⟨rfl,rfl,rfl,rfl⟩:=h6;refine(hok ts r' p' h5 n w s c.size (Yc (λi x o=>j i x (pV _ _ i x o)) h3 g)).mono ?_;rintro e D⟨a,rfl,hv,k⟩;refine⟨a,rfl,k,aNT ?_ hv⟩;intro i y z;grind
def te2 (k:Bool)(F:Int->Int->Int)(a:Nat->Nat->Nat):TE
 | [.agg [.num I x n],.agg [.num I y m]]=>bif u7 n 45&&u7 m 45 then Y (.val (.agg [.num k (F x y) (a n m)]),[])else X
 |_=>X
def teO:TE
 | [t]=>(iT t).map λx=>(.val (.agg [.num J x.1 1]),x.2)
 |_=>X
noncomputable def uF:List (FuncId×TE):=[(69,te2 I (·*·) (·+·)),(70,te2 J (·+·) λn m=>max n m+1),(18,teO)]
section
variable {B:Nat} {w:World}{k:Bool}
theorem aHu {n:Int}{a:Nat}{z:Value}(h:iH (ZF B) w (.agg [.num k n a]) z):NumAt w n z/\Bits a n:=by
 obtain⟨i,rfl,r⟩:=h
 match i,r with
 | [x,y],⟨f,⟨⟨b,c,d,e⟩,_⟩,g,_⟩=>
  subst f;exact⟨⟨b,y,rfl,c,d,e⟩,g⟩
 |_::_::_::_,⟨_,_,_,h⟩=>exact h.elim
theorem aHv {n:Int}{z:Value}(h:NumAt w n z)(g:k=J->Au B z){a:Nat}(i:Bits a n):iH (ZF B) w (.agg [.num k n a]) z:=by
 obtain⟨b,y,rfl,c,d,f⟩:=h;exact⟨[_,y],rfl,rfl,⟨⟨b,c,d,f⟩,λe=>(g e).c1⟩,i,trivial⟩
theorem aTA {W:FuncId}(c:dV prog W){F:Int->Int->Int}{i:Nat->Nat->Nat}(q:∀x y n m,Bits n x->Bits m y->Bits (i n m) (F x y))(h:∀w x y u a,NumAt w x u->NumAt w y a->Bits 45 x->Bits 45 y->Calls prog W #[u,a] w λe g=>∃r,e=.returned r/\NumAt g (F x y) r/\Below w.heap.size w g/\(k=J->Au w.heap.size r))(z:B<=v.heap.size):Qb (ZF B) v W (te2 k F i):=by
 refine⟨c,λD r p b A w t C d=>?_⟩;unfold te2 at b;split at b
 .rename_i x n y m
  cases hc:u7 n 45&&u7 m 45 with
  |false=>rw[hc]at b;cases b
  |true=>
   rw[hc]at b;cases b;simp only[Bool.and_eq_true]at hc
   match t,d with
   | [u,a],⟨s,hv,_⟩=>
    have⟨u1,u2⟩:=aHu s;have⟨v1,v2⟩:=aHu hv;refine(h w x y u a u1 v1 (eJ u2 (u9 hc.1)) (eJ v2 (u9 hc.2))).mono ?_;rintro e g⟨r,rfl,j,l,o⟩;exact⟨r,rfl,aHv j (λe=>(o e).cJ O) (q _ _ _ _ u2 v2),l⟩
 .cases b
theorem aXv (A:B<=v.heap.size):∀f z,lookTE uF f=Y z->Qb (ZF B) v f z:=by
 intro f z h;simp only[uF,lookTE]at h
 cases d:(69==f)with
 |true=>
  rw[d]at h;cases h;cases (by simpa using d:69=f);exact aTA (aZ func69 rfl rfl).en (λx y n m=>gG) (λw x y u a d g i b=>(Om w x y u a (10000000*45) d g i b E3).mono (by rintro e D⟨r,rfl,j,k⟩;exact⟨r,rfl,j,k,λe=>by cases e⟩)) A
 |false=>
  rw[d]at h
  cases g:(70==f)with
  |true=>
   rw[g]at h;cases h;cases (by simpa using g:70=f);exact aTA (aZ func70 rfl rfl).en (λx y n m l C=>mY (zZ l C).1 (zZ l C).2) (λw x y u a d g i b=>(aNG w x y u a (10000000*45) d g i b E3).mono (by rintro e D⟨r,rfl,j,k,o⟩;exact⟨r,rfl,j,k,λ_=>o⟩)) A
  |false=>
   rw[g]at h
   cases i:(18==f)with
   |false=>rw[i]at h;cases h
   |true=>
    rw[i]at h;cases h;cases (by simpa using i:18=f);refine⟨(aZ func18 rfl rfl).en,λN r p c L w xs M s=>?_⟩;unfold teO at c;split at c
    .rename_i t;have⟨x,b,F⟩:=bI c;cases F
     match xs,s with
     | [a],⟨hv,_⟩=>
      obtain⟨rfl,l⟩:a=.int .i64 x.1/\x.1.natAbs<1000000000000000000:=by
       unfold iT at b;split at b
       .rename_i n
        cases q:decide (n.natAbs<1000000000000000000)with
        |false=>rw[q]at b;cases b
        |true=>rw[q]at b;cases b;exact⟨hv.2,by simpa using q⟩
       .cases b;exact⟨hv.2,L _ E4⟩
       .cases b
      refine(Zd x.1 w l).mono ?_;rintro e D⟨r,rfl,j,k,o⟩;exact⟨r,rfl,aHv j (λ_=>o.cJ O) (iX l),k⟩
    .cases c
def He:List Tok->Option (List Int)
 | []=>Y []
 |.num J z _::r=>(He r).map (z::·)
 |_=>X
def Mq:Out->Option (List Int×List Prop)
 |.ret (.val (.agg a))=>(He a).map λb=>(b,[])
 |.need p o=>(Mq o).map λx=>(x.1,p++x.2)
 |_=>X
def eK (B:Nat)(w:World)(b:LB)(a:PH):Prop:=aP J w b a/\∀u∈a,iU B u
theorem aPo:∀{b:List Tok} {d:LB} {a:PH},He b=Y d->RT (ZF B) w b a->eK B w d a
 | [],_,a,h,r=>by
  cases h
  match a,r with
  | [],_=>exact⟨trivial,λu hu=>by cases hu⟩
 |.num J z n::b,_,a,h,r=>by
  obtain⟨d,g,rfl⟩:=bI h
  match a,r with
  |x::y::a,⟨e,f,_,i⟩=>
   have⟨g1,g2⟩:=aPo g i;refine⟨⟨e,f.1,g1⟩,λu hu=>?_⟩;simp at hu
   rcases hu with rfl|rfl|hu
   .rw[e];trivial
   .exact f.2 rfl
   .simp_all
 |.num I _ _::_,_,_,h,_=>by cases h
 |.c _::_,_,_,h,_=>by cases h
theorem aPE:∀{o:Out} {c:LB} {a:List Prop},Mq o=Y (c,a)->Holds a->o.ok λr=>∃b,r=.val (.agg b)/\He b=Y c
 |.ret (.val (.agg b)),c,a,h,_=>by
  have⟨p,h1,d⟩:=bI h;cases d;exact⟨b,rfl,h1⟩
 |.need p o,c,a,h,f=>by
  have⟨⟨z,q⟩,h1,d⟩:=bI h;cases d;exact⟨λx e=>f x (by simp[e]),aPE h1 λx e=>f x (by simp[e])⟩
 |.ret (.val (.one _)),_,_,h,_=>by cases h
 |.ret (.tup _),_,_,h,_=>by cases h
 |.br _ _ _,_,_,h,_=>by cases h
end
theorem Hd (B:Nat):bS (ZF B) (λ_=>X):=λf a h=>by cases h
noncomputable def Hm (l:List (FuncId×TE))(B:Nat)(a:Func)(b:List VT):Option (List Int×List Prop):=((run (ZF B) (aE l) (λ_=>X) (aL (ZF B) (aE l)) (λ_=>J) 1000 [.code (aG a),.top a] (start a b)).bind outcome).bind Mq
variable {B:Nat}{w:World}{xs:PH}{x:LB}
theorem aP4 (g:∀W k,lookTE l W=Y k->Qb (ZF B) w W k){W:FuncId}{c:Func}(F:Fn W c){a:List VT}{j:List Prop}(h:Hm l B c a=Y (x,j))(q:Holds j)(u:aD (iH (ZF B) w) a xs):Calls prog W xs.toArray w λe d=>∃b,e=.returned (.agg (b:PH).toArray)/\eK B d x b/\Below w.heap.size w d:=by
 have⟨o,h1,h2⟩:=aK h;have⟨tr,h3,h4⟩:=aK h1
 have p:At (eB 0 a).2 0 (eB 0 a).2:=λi y z=>by rw[u6];exact z
 refine kQ (ψ:=λ_=>X) (φ:=λ_=>X) (aQq g) (Hd _) (uH mixed (aQq g)) F.at' F.body rfl (Fv a 0 xs p u) (Kq c a w) 1000 h3 _ (λ_ _=>False) (λ_ _ h=>h.elim) (yM h4 (aPE h2 q)) ?_;rintro D s φ v d⟨hc,C,m,tk,rfl,n⟩ r t;obtain⟨b,rfl,A⟩:=Bh m r;exact⟨b,rfl,aPo n A,RepF.below t hc⟩
def teD:TE
 | [.agg [.num I a n],.agg [.num I b m],.agg [.num I c p],.agg [.num I d q]]=>bif [n,m,p,q].all (u7 · 20)then Y (.val (.agg [.num J (a*b+c*d) 42]),[])else X
 |_=>X
def tO (z:Int):VT:=.agg [.num I z 20]
variable {k:Nat}{z:Value}
theorem Hs {n:Int}(h:iH (ZF B) w (.agg [.num I n k]) z)(b:u7 k 20=I):iH (ZF B) w (tO n) z/\Bits 20 n:=by
 have⟨h1,h2⟩:=aHu h;have a:=eJ h2 (u9 b);exact⟨aHv h1 (λe=>by cases e) a,a⟩
theorem aRg (B:Nat)(a b c d:Int):Hm uF B f119 [tO a,tO b,tO c,tO d]=Y ([a*b+c*d],[]):=E0
noncomputable def uG:List (FuncId×TE):=(119,teD)::uF
theorem aYf (M:B<=v.heap.size):∀f j,lookTE uG f=Y j->Qb (ZF B) v f j:=by
 intro f j h
 cases i:(119==f)with
 |false=>
  simp only[uG,lookTE,i]at h;exact aXv M f j h
 |true=>
  simp only[uG,lookTE,i]at h;cases h;cases (by simpa using i:119=f);refine⟨(aZ func119 rfl rfl).en,λS r p g P w o R k=>?_⟩;unfold teD at g;split at g
  .rename_i a n b m c p d q
   cases hc:[n,m,p,q].all (u7 · 20)with
   |false=>rw[hc]at g;cases g
   |true=>
    rw[hc]at g;cases g;simp only[List.all_cons,List.all_nil,Bool.and_true,Bool.and_eq_true]at hc
    match o,k with
    | [x,y,z,u],⟨i,D,F,L,_⟩=>
     have⟨k1,b1⟩:=Hs i hc.1;have⟨k2,b2⟩:=Hs D hc.2.1;have⟨k3,b3⟩:=Hs F hc.2.2.1;have⟨k4,b4⟩:=Hs L hc.2.2.2;have s:=eJ (m:=42) (Qo b1 b2 b3 b4) O;refine(aP4 (xs:=[x,y,z,u]) (aXv O) (aZ func119 rfl rfl) (aRg B a b c d) fX ⟨k1,k2,k3,k4,trivial⟩).mono ?_;rintro e T⟨N,rfl,⟨t,A⟩,C⟩;refine⟨_,rfl,?_,C⟩
     match N,t with
     | [x,y],⟨e1,e2,_⟩=>exact⟨[x,y],rfl,e1,⟨e2,λ_=>A y E4⟩,s,trivial⟩
     | [],h=>exact h.elim
     | [_],h=>exact h.elim
     |_::_::_::_,⟨_,_,h⟩=>first|exact h.elim|(rename_i l _)
  .cases g
def nE (w:World)(c:LB):EW:=λe b=>∃a,e=.returned (.agg (a:PH).toArray)/\eK w.heap.size b c a/\Below w.heap.size w b
variable {a:PH}
theorem aJ5 {W:FuncId}{b:Func}(F:Fn W b){ts:List VT}{c:List Prop}(h:Hm uG w.heap.size b ts=Y (x,c))(d:Holds c)(e:aD (iH (ZF w.heap.size) w) ts a):Calls prog W a.toArray w (nE w x):=aP4 (aYf O) F h d e
theorem aFQ {B:Nat}{w:World}{k:Nat}:∀{a:LB} {b:PH},aP J w a b->(∀z∈a,Bits k z)->RT (ZF B) w (a.map λz=>.num I z k) b
 | [],[],_,_=>trivial
 |z::a,x::y::b,⟨d,f,g⟩,c=>⟨d,⟨f,λe=>by cases e⟩,c z E4,aFQ g λj i=>c j (by simp[i])⟩
 | [],_::_,h,_=>h.elim
 |_::_,[],h,_=>h.elim
 |_::_,[_],h,_=>h.elim
theorem aNq (B:Nat)(x y:Mt):Hm uG B f81 [.agg ((cM x).map λz=>.num I z 20),.agg ((cM y).map λz=>.num I z 20)]=Y (cM (x.mul y),[]):=E0
theorem aGg {x y:Mt}{b:PH}(e:aP J w (cM x) a)(f:aP J w (cM y) b)(d:∀z∈cM x,Bits 20 z)(c:∀z∈cM y,Bits 20 z):Calls prog 81 #[.agg a.toArray,.agg b.toArray] w (nE w (cM (x.mul y))):=
 aJ5 (aZ func81 rfl rfl) (aNq _ x y) fX ⟨⟨a,rfl,aFQ e d⟩,⟨b,rfl,aFQ f c⟩,trivial⟩
theorem aGa (w:World){a b c d:Int}(h:∀z∈[a,b,c,d],z.natAbs<1000000000000000000):Calls prog 125 #[.int .i64 a,.int .i64 b,.int .i64 c,.int .i64 d] w (nE w [a,b,c,d]):=
 aJ5 (ts:=[.one (.sint .i64 a),.one (.sint .i64 b),.one (.sint .i64 c),.one (.sint .i64 d)]) (aZ func125 rfl rfl) E0 (by intro p e;obtain⟨z,f,rfl⟩:=r9.1 e;exact h z f) ⟨⟨rfl,rfl⟩,⟨rfl,rfl⟩,⟨rfl,rfl⟩,⟨rfl,rfl⟩,trivial⟩
theorem aYg (w:World){a b:Int}(h:∀z∈[a,b],z.natAbs<1000000000000000000):Calls prog 123 #[.int .i64 a,.int .i64 b] w (nE w [a,b]):=
 aJ5 (ts:=[.one (.sint .i64 a),.one (.sint .i64 b)]) (aZ func123 rfl rfl) E0 (by intro p c;obtain⟨z,d,rfl⟩:=r9.1 c;exact h z d) ⟨⟨rfl,rfl⟩,⟨rfl,rfl⟩,trivial⟩
open Rf (Nd Inv)
structure Kp (w w':World) (D:NU):Prop where
 os:w'.os=w.os
 tape:w'.tape=w.tape
 output:w'.output=w.output
 size:w.heap.size<=w'.heap.size
 low:∀k,k<w.heap.size->k∉D->w'.heap[k]?=w.heap[k]?
section
variable {w w' w'':World} {D:NU}
theorem Kp.at (h:Kp w w' D){o:Obj}(a:w.heap[k]?=Y o)(hd:k∉D):w'.heap[k]?=Y o:=by rw[h.low k (bL a) hd];exact a
theorem Kp.cQ (h:Below w.heap.size w w'):Kp w w' D:=⟨h.os,h.tape,h.output,h.size,λk a _=>h.block k a⟩
theorem Kp.refl (w:World):Kp w w D:=⟨rfl,rfl,rfl,y8 _,λ_ _ _=>rfl⟩
theorem Kp.trans (h:Kp w w' D)(a:Kp w' w'' D):Kp w w'' D:=⟨a.os.trans h.os,a.tape.trans h.tape,a.output.trans h.output,A0 h.size a.size,λk b hd=>(a.low k (Nat.lt_of_lt_of_le b h.size) hd).trans (h.low k b hd)⟩
theorem Kp.cJ {y:NU}(h:Kp w w' D)(hd:∀k∈D,k∈y):Kp w w' y:=⟨h.os,h.tape,h.output,h.size,λk a b=>h.low k a λe=>b (hd k e)⟩
theorem Kp.Im {ys:PH}{ty:TypeId}(h:dW w w' k ys ty):Kp w w' [k]:=⟨h.os,h.tape,h.output,Nat.le_of_eq h.size.symm,λj _ a=>h.others j (by simpa using a)⟩
theorem Kp.Xl (h:w.grownBy w' z.ownBlock):Kp w w' z.ownBlock.toList:=⟨h.os,h.tape,h.output,h.size,λk a hd=>h.block k a λe=>hd (by simp[<-e])⟩
end
abbrev dQ:=Nat->Option (Nat×Nat)
abbrev gU (w:World)(own own':dQ):Prop:=∀k,k<w.heap.size->own' k=own k
abbrev zV (own:dQ)(D:NU)(o:Option (Nat×Nat)):Prop:=∀k∈D,own k≠o
def lW (own:dQ)(o:Option (Nat×Nat)):Value->Prop
 |.slice (Y a) _ _=>own a.block=o
 |_=>True
def dT (w:World)(own:dQ)(zs:LB)(xs:PH):Prop:=aP J w zs xs/\∀x∈xs,lW own X x
def TX (w:World)(own:dQ)(t:List Rf.V)(v:Value)(ys:PH):Prop:=(t=[]/\v=.slice X 0 0)\/(t≠[]/\∃k,v=.slice (Y ⟨k,0,X⟩) t.length t.length/\w.heap[k]?=Y (.cells ys.toArray 210 (0,0))/\dT w own (fT t) ys/\own k=X)
def Da (o:Rf.Op):ByteArray:=if o=.pi then⟨#[112,105]⟩else if o=.e then⟨#[101]⟩else⟨#[99,102]⟩
def sO (w:World)(own:dQ)(ts:LB)(v:Value):Prop:=(ts=[]/\One v)\/∃k a,∃b:PH,v=.slice (Y ⟨k,0,X⟩) ts.length a/\w.heap[k]?=Y (.cells ((ts.map λz=>A5 .i64 z)++b).toArray 3 (0,0))/\own k=X/\ts.length<=a
section
variable {w w':World} {D:NU} {own own':dQ} {o:Option (Nat×Nat)}
theorem pX {e s n:Nat}(h:w.ownsRow B e s z n xs/\lW own o z)(k:Kp w w' D)(hd:zV own D o)(f:gU w own own'):w'.ownsRow B e s z n xs/\lW own' o z:=by
 have⟨⟨h1,c⟩,ho⟩:=h
 rcases c with⟨rfl,c⟩|⟨g,a,b,rfl,j,d,r⟩
 .exact⟨⟨h1,Or.inl ⟨rfl,c⟩⟩,trivial⟩
 .exact⟨⟨h1,A6 ⟨g,a,b,rfl,j,k.at d (λe=>hd g e ho),r⟩⟩,(f g (bL d)).trans ho⟩
theorem dT.keep:∀{zs:LB} {xs:PH},dT w own zs xs->Kp w w' D->zV own D X->gU w own own'->dT w' own' zs xs
 | [],[],_,_,_,_=>⟨trivial,λx k=>by cases k⟩
 |z::zs,x::y::xs,⟨⟨a,⟨e,f,g⟩,j⟩,b⟩,d,hd,c=>by
  have⟨k1,k2⟩:=dT.keep ⟨j,λu hu=>b u (by simp[hu])⟩ d hd c;have⟨g1,g2⟩:=pX ⟨f,b y E4⟩ d hd c;refine⟨⟨a,⟨e,g1,g⟩,k1⟩,λu hu=>?_⟩;simp at hu
  rcases hu with rfl|rfl|hu
  .rw[a];trivial
  .exact g2
  .simp_all
 | [],_::_,⟨h,_⟩,_,_,_=>h.elim
 |_::_,[],⟨h,_⟩,_,_,_=>h.elim
 |_::_,[_],⟨h,_⟩,_,_,_=>h.elim
theorem dT.new {zs:LB}{us:PH}(h:eK B w zs us)(b:∀k,B<=k->own k=X):dT w own zs us:=by
 refine⟨h.1,λu a=>?_⟩;have:=h.2 u a;unfold iU at this;unfold lW;grind
structure nO (w:World) (own:dQ) (at1:NN) (n:Nd) (tv av sv tl xv sq:Value) (xs ys zs us ts:PH):Prop where
 told:dT w own (cM n.told) xs
 part:dT w own (cM n.part) ys
 pq:dT w own [0,0] zs
 tG:dT w own (n.had.flatMap cM) us
 t:TX w own n.t tv ts
 args:Jy w at1 n.args av/\lW own X av
 op:(n.t=[]->sv=.string (Da n.op))/\One sv
 terms:sO w own n.terms tl
 x:One xv
 sq:One sq
variable {at1:NN} {n:Nd} {i:Nat} {tv av rv ov hv sv tl xv sq:Value} {xs ys zs us ts:PH}
theorem nO.keep (h:nO w own at1 n tv av sv tl xv sq xs ys zs us ts)(d:Kp w w' D)(hd:zV own D X)(c:gU w own own'):nO w' own' at1 n tv av sv tl xv sq xs ys zs us ts:=by
 refine⟨h.told.keep d hd c,h.part.keep d hd c,h.pq.keep d hd c,h.tG.keep d hd c,?_,?_,h.op,?_,h.x,h.sq⟩
 .rcases h.t with h|⟨a,k,f,b,m,l⟩
  .exact Or.inl h
  .exact A6 ⟨a,k,f,d.at b (λe=>hd k e l),m.keep d hd c,(c k (bL b)).trans l⟩
 .have⟨a,f⟩:=h.args
  rcases a with⟨a,rfl⟩|⟨a,k,rfl,b⟩
  .exact⟨Or.inl ⟨a,rfl⟩,trivial⟩
  .exact⟨A6 ⟨a,k,rfl,d.at b (λe=>hd k e f)⟩,(c k (bL b)).trans f⟩
 .rcases h.terms with h|⟨k,j,g,a,f,b⟩
  .exact Or.inl h
  .exact A6 ⟨k,j,g,a,d.at f (λe=>hd k e b.1),(c k (bL f)).trans b.1,b.2⟩
def Pz (w:World)(own:dQ)(i:Nat)(rd:NU)(v:Value):Prop:=One v/\(rd≠[]->∃k,v=.slice (Y ⟨k,0,X⟩) rd.length rd.length/\w.heap[k]?=Y (.cells (rd.map λr:Nat=>A5 .i64 r).toArray 3 (0,0))/\own k=Y (i,1))
theorem Pz.keep {rd:NU}(h:Pz w own i rd rv)(b:Kp w w' D)(hd:zV own D (Y (i,1)))(a:gU w own own'):Pz w' own' i rd rv:=by
 refine⟨h.1,λe=>?_⟩;have⟨k,h1,h2,h3⟩:=h.2 e;exact⟨k,h1,b.at h2 (λe=>hd k e h3),(a k (bL h2)).trans h3⟩
def cX (n:Nd)(tv av rv ov hv sv tl xv sq:Value)(xs ys zs:PH):PH:=[.bool n.pos,tv,av,rv,ov]++xs++[hv,sv,.bool J,.bool J,.int .i64 n.k]++ys++zs++[tl,xv,sq]
structure BlkX (w:World) (own:dQ) (at1:NN) (i:Nat) (n:Nd) (tv av rv ov hv sv tl xv sq:Value) (xs ys zs us ts:PH):Prop where
 blk:w.heap[at1 i]?=Y (.cells (cX n tv av rv ov hv sv tl xv sq xs ys zs).toArray 117 (0,0))
 rT:own (at1 i)=Y (i,0)
 rest:nO w own at1 n tv av sv tl xv sq xs ys zs us ts
 read:Pz w own i n.read rv
 out:w.ownsRow 0 3 1 ov n.out.length (n.out.map λz=>A5 .i64 z)/\lW own (Y (i,2)) ov
 had:w.ownsRow 0 113 8 hv n.had.length us/\lW own (Y (i,3)) hv
 hne:n.had≠[]
def iG (w:World)(own:dQ)(at1:NN)(i:Nat)(n:Nd):Prop:=∃tv av rv ov hv sv tl xv sq xs ys zs us ts,BlkX w own at1 i n tv av rv ov hv sv tl xv sq xs ys zs us ts
theorem iG.keep (h:iG w own at1 i n)(b:Kp w w' D)(hd:∀k∈D,∃o,own k=Y o/\(o.1≠i\/4<=o.2))(a:gU w own own'):iG w' own' at1 i n:=by
 have⟨tv,av,rv,ov,hv,sv,tl,xv,sq,xs,ys,zs,us,ts,h⟩:=h
 have c0:zV own D X:=λk d e=>by have⟨o,g,_⟩:=hd k d;rw[e]at g;cases g
 have f:∀c,c<4->zV own D (Y (i,c)):=λc hc k d e=>by
  grind
 exact⟨tv,av,rv,ov,hv,sv,tl,xv,sq,xs,ys,zs,us,ts,b.at h.blk (λe=>f 0 E3 _ e h.rT),(a _ (bL h.blk)).trans h.rT,h.rest.keep b c0 a,h.read.keep b (f 1 E3) a,pX h.out b (f 2 E3) a,pX h.had b (f 3 E3) a,h.hne⟩
theorem iG.nod (h:iG w own at1 i n):fQ w at1 (at1 i) n:=by
 have⟨tv,av,rv,ov,hv,sv,tl,xv,sq,xs,ys,zs,us,ts,h⟩:=h;have⟨r1,r2⟩:=h.read
 have row:∀{B e s:Nat} {v:Value} {m:Nat} {l:PH},w.ownsRow B e s v m l->(v=.slice X 0 0/\m=0)\/∃k b,∃a:PH,v=.slice (Y ⟨k,0,X⟩) m b/\w.heap[k]?=Y (.cells (l++a).toArray e (0,0)):=by
  rintro B e s v m l⟨_,h|⟨g,b,f,rfl,_,c,_,_,_,j⟩⟩
  .simp_all
  .refine A6 ⟨g,b,f.toList.drop (m*s),rfl,?_⟩;rw[c,<-j,p6]
 refine⟨tv,av,rv,ov,hv,sv,tl,xv,sq,xs,ys,zs,h.blk,h.rest.told.1,h.rest.part.1,h.rest.pq.1,?_,h.rest.args.1,⟨r1,λe=>?_⟩,?_,?_,h.rest.op.2,?_,h.rest.x,h.rest.sq⟩
 .rcases h.rest.t with h|⟨d,k,c,j,p,_⟩
  .exact Or.inl h
  .exact A6 ⟨d,k,ts,c,j,p.1⟩
 .grind
 .rcases row h.out.1 with⟨d,c⟩|⟨k,b,a,d,c⟩
  .exact Or.inl ⟨r7.1 c,d⟩
  .exact A6 ⟨k,b,a,d,c⟩
 .rcases row h.had.1 with⟨d,c⟩|⟨k,b,a,d,c⟩
  .exact absurd (r7.1 c) h.hne
  .exact⟨k,b,us,a,d,c,h.rest.tG.1⟩
 .rcases h.rest.terms with⟨_,h⟩|⟨k,b,a,d,_⟩
  .exact h
  .rw[d];rfl
theorem aHr (S:dW w w' (at1 i) (cX n tv av rv ov hv sv tl xv sq xs ys zs) 117)(g:own (at1 i)=Y (i,0))(j:nO w own at1 n tv av sv tl xv sq xs ys zs us ts)(f:Pz w own i n.read rv)(c:w.ownsRow 0 3 1 ov n.out.length (n.out.map λz=>A5 .i64 z)/\lW own (Y (i,2)) ov)(a:w.ownsRow 0 113 8 hv n.had.length us/\lW own (Y (i,3)) hv)(hne:n.had≠[]):iG w' own at1 i n:=by
 have b:=Kp.Im S
 have d:∀o,o≠Y (i,0)->zV own [at1 i] o:=λo h k b e=>by
  grind
 exact⟨tv,av,rv,ov,hv,sv,tl,xv,sq,xs,ys,zs,us,ts,S.blk,g,j.keep b (d _ E4) (λ_ _=>rfl),f.keep b (d _ E4) (λ_ _=>rfl),pX c b (d _ E4) (λ_ _=>rfl),pX a b (d _ E4) (λ_ _=>rfl),hne⟩
structure NetX (w:World) (own:dQ) (at1:NN) (cb:Nat) (s:Rf.St):Prop where
 nd:∀i n,s.nodes[i]?=Y n->iG w own at1 i n
 Gg:w.heap[cb]?=Y (.cells #[.int .i64 s.clock] 209 (0,0))
 ck:own cb=Y (0,4)
 new:∀k,w.heap.size<=k->own k=X
variable {cb:Nat} {s:Rf.St}
theorem NetX.Ua (h:NetX w own at1 cb s):sL w at1 s.nodes:=λi n a=>(h.nd i n a).nod
theorem NetX.put {n':Nd}{n:Int}(h:NetX w own at1 cb s)(d:Kp w w' D)(hd:∀k∈D,∃o,own k=Y o/\(o.1=i\/o.2=4)/\o.2≠5)(b:gU w own own')(g:iG w' own' at1 i n')(hc:w'.heap[cb]?=Y (.cells #[.int .i64 n] 209 (0,0)))(a:∀k,w'.heap.size<=k->own' k=X):NetX w' own' at1 cb ⟨s.nodes.set i n',n⟩:=by
 refine⟨λj m c=>?_,hc,(b cb (bL h.Gg)).trans h.ck,a⟩
 by_cases e:i=j
 .subst e;grind
 .rw[List.getElem?_set_ne e]at c;refine(h.nd j m c).keep d (λk f=>?_) b;grind
theorem NetX.still (h:NetX w own at1 cb s)(a:Below w.heap.size w w'):NetX w' own at1 cb s:=
 ⟨λj m c=>(h.nd j m c).keep (Kp.cQ (D:=[]) a) (λk b=>by cases b) λ_ _=>rfl,(a.block _ (bL h.Gg)).trans h.Gg,h.ck,λk b=>h.new k (A0 a.size b)⟩
end
end Ab
end Go.Proofs.YtnlddnbfoehboaaGreatDoor
