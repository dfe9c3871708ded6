import Derived.Test.YtpdflaaamaokbaaGreatDoorCCh17
import Derived.Test.YtpdflaaamaokbaaGreatDoorCCh16
import Derived.Test.YtpdflaaamaokbaaGreatDoorProg
import Derived.LoopN
import Derived.Deep.RegionHeld3
import Derived.Shelf.LaysM
import Derived.Shelf.Strconv.Itoa3
import Derived.Lib.AppendIntMem
import Derived.Deep.RegionWith
set_option linter.all false
set_option maxRecDepth 100000
set_option maxHeartbeats 2000000
namespace Go.Proofs.YtpdflaaamaokbaaGreatDoor
open Go.Proofs.Tryz
open Go
section
variable {P:Program} {ops:Array Oper} {Q:AW} {md:Region.Mode}
def leftL:List Bool->Nat
 | []=>0
 |b::r=>(bif b then 0 else 1)+leftL r
theorem aFY:∀(l:List Bool) (i:Nat),l[i]?=some false->leftL (l.set i true)+1=leftL l
 | [],i,h=>by simp at h
 |b::r,0,h=>by
  simp at h;subst h;simp[leftL];omega
 |b::r,i+1,h=>by
  have:=aFY r i (by simpa using h);simp only[List.set_cons_succ,leftL];omega
theorem aGB {l:Array Bool}{i:Nat}(h:l.getD i true=false):l.toList[i]?=some false:=by
 rw[Array.getD_eq_getD_getElem?]at h;rw[Array.getElem?_toList]
 cases e:l[i]? with
 |none=>rw[e]at h;cases h
 |some b=>
  rw[e]at h;have:b=false:=h;rw[this]
theorem aJh {I:Array Bool->Act->World->Prop}(step:∀l a w i o,I l a w->i∈Region.ready md ops l->ops[i]?=some o->wpOp P ops Q i (I (l.setIfInBounds i true)) a w)(b:∀l a w,I l a w->Region.ready md ops l=[]->Q .normal a w):∀(n:Nat) (l:Array Bool) (a:Act) (w:World),leftL l.toList<=n->I l a w->wpAny P md ops Q n l a w
 |0,l,a,w,j,h=>by
  have d:Region.ready md ops l=[]:=by
   apply List.eq_nil_iff_forall_not_mem.2;intro i hi;have:=aFY _ _ (aGB (mem_ready.1 hi).1);omega
  exact⟨d,b l a w h d⟩
 |n+1,l,a,w,j,h=>by
  refine⟨λd=>b l a w h d,λi hi=>?_⟩;obtain⟨g,o,k,_⟩:=mem_ready.1 hi;refine wpOp_mono (λe p f=>aJh step b n _ e p ?_ f) (step l a w i o h hi k);have:=aFY _ _ (aGB g);rw[Array.toList_setIfInBounds];omega
def zR (ops:Array Oper):Bool:=(List.range ops.size).all λi=>match ops[i]? with
 |some o=>o.after.toList.all λe=>decide (e.on<i)
 |none=>true
def mF (ops:Array Oper)(n:Nat):Bool:=(List.range ops.size).all λi=>(List.range ops.size).all λk=>match ops[i]?,ops[k]? with
 |some o,some p=>match o.dst with
  |some d=>decide (d<n)&&(i==k||p.dst != some d)
  |none=>true
 |_,_=>true
theorem Uq {w:Nat}(h:mF ops w=true){i k d:Nat}{o p:Oper}(f:ops[i]?=some o)(j:ops[k]?=some p)(r:o.dst=some d):d<w/\(p.dst=some d->i=k):=by
 have q:=List.all_eq_true.1 h i (List.mem_range.2 (Array.getElem?_eq_some_iff.1 f).1);have b:=List.all_eq_true.1 q k (List.mem_range.2 (Array.getElem?_eq_some_iff.1 j).1);simp only[f,j,r,Bool.and_eq_true,decide_eq_true_eq,Bool.or_eq_true,beq_iff_eq,bne_iff_ne]at b;refine⟨b.1,λe=>?_⟩
 rcases b.2 with g|g
 .exact g
 .exact absurd e g
def cA (t:Array Value):List (Nat×Value)->Array Value
 | []=>t
 |(d,v)::r=>cA (t.setIfInBounds d v) r
def dl (b:Nat->Value):List Oper->Nat->List (Nat×Value)
 | [],_=>[]
 |o::r,i=>match o.dst with
  |some d=>(d,b i)::dl b r (i+1)
  |none=>dl b r (i+1)
theorem Zm:∀(L:List (Nat×Value)) (t:Array Value) (j:Nat),(∀x∈L,x.1≠j)->(cA t L)[j]?=t[j]?
 | [],_,_,_=>rfl
 |(d,v)::r,t,j,h=>by
  rw[cA,Zm r _ j λx b=>h x (by simp[b])];exact Array.getElem?_setIfInBounds_ne (h (d,v) (by simp))
theorem aIT:∀(L:List (Nat×Value)) (t:Array Value) (j:Nat) (v:Value),(j,v)∈L->(∀x∈L,x.1=j->x.2=v)->j<t.size->(cA t L)[j]?=some v
 | [],_,_,_,h,_,_=>by cases h
 |(d,u)::r,t,j,v,h,n,k=>by
  rw[cA]
  by_cases g:∃x∈r,x.1=j
  .obtain⟨x,b,f⟩:=g;have e:x=(j,v):=Prod.ext f (n x (by simp[b]) f);rw[e]at b;exact aIT r _ j v b (λy q=>n y (by simp[q])) (by simpa using k)
  .rw[Zm r _ j λx b e=>g ⟨x,b,e⟩]
   have p:(d,u)=(j,v):=by
    rcases List.mem_cons.1 h with e|e
    .exact e.symm
    .exact absurd ⟨_,e,rfl⟩ g
   cases p;exact Array.getElem?_setIfInBounds_self_of_lt k
theorem Wp {vs:Nat->Value}:∀(l:List Oper) (n:Nat) (x:Nat×Value),x∈dl vs l n↔∃i o,l[i]?=some o/\o.dst=some x.1/\x.2=vs (n+i)
 | [],n,x=>by simp[dl]
 |o::r,n,x=>by
  have k:=Wp (vs:=vs) r (n+1) x;constructor
  .intro h;unfold dl at h
   cases j:o.dst with
   |none=>
    rw[j]at h;obtain⟨i,p,b,f,g⟩:=k.1 h;exact⟨i+1,p,by simpa using b,f,by rw[g];congr 1;omega⟩
   |some d=>
    rw[j]at h
    rcases List.mem_cons.1 h with e|e
    .subst e;exact⟨0,o,rfl,j,rfl⟩
    .obtain⟨i,p,b,f,g⟩:=k.1 e;exact⟨i+1,p,by simpa using b,f,by rw[g];congr 1;omega⟩
  .rintro⟨i,p,b,f,g⟩;unfold dl
   cases i with
   |zero=>
    simp at b;subst b;rw[f];exact List.mem_cons.2 (Or.inl (Prod.ext rfl g))
   |succ i=>
    have:=k.2 ⟨i,p,by simpa using b,f,by rw[g];congr 1;omega⟩
    cases o.dst with
    |none=>exact this
    |some d=>exact List.mem_cons.2 (Or.inr this)
structure RgI (ops:Array Oper) (a0:Act) (S:World->Prop) (F:Nat->Value->World->Prop) (l:Array Bool) (a:Act) (w:World):Prop where
 sz:l.size=ops.size
 s:S w
 df:a.defers=a0.defers
 ts:a.tmps.size=a0.tmps.size
 fr:∀j,(∀(i:Nat) (o:Oper),ops[i]?=some o->o.dst≠some j)->a.tmps[j]?=a0.tmps[j]?
 vl:∀(i:Nat) (o:Oper) (d:Nat),ops[i]?=some o->o.dst=some d->l.getD i false=true->∃v,a.tmps[d]?=some v/\F i v w
variable {a:Act}{b:Option Tmp}{x:Value}
theorem aOI {w:Nat}(h:b≠some w):(a.put b x).tmps[w]?=a.tmps[w]?:=by
 cases b with
 |none=>rfl
 |some d=>exact Array.getElem?_setIfInBounds_ne λe=>h (by rw[e])
theorem aQz:(a.put b x).tmps.size=a.tmps.size:=by
 cases b with
 |none=>rfl
 |some d=>simp[Act.put]
theorem aTF:(a.put b x).defers=a.defers:=by cases b<;>rfl
def zJ (P:Program)(ops:Array Oper)(Q:AW)(a0:Act)(S:World->Prop)(F:Nat->Value->World->Prop):Prop:=∀(i:Nat) (o:Oper),ops[i]?=some o->∀a w,S w->(∀e∈o.after,Region.binds .any e=true->∀(p:Oper) (d:Nat),ops[e.on]?=some p->p.dst=some d->∃v,a.tmps[d]?=some v/\F e.on v w)->(∀j,(∀(i:Nat) (o:Oper),ops[i]?=some o->o.dst≠some j)->a.tmps[j]?=a0.tmps[j]?)->∀K:LL,(∀v b,F i v b->S b->(∀k u,F k u w->F k u b)->K (a.put o.dst v) b)->if Region.wanted o (yielded ops a.tmps)=true then Oper.wp P o a w K Q else K (a.put o.dst undef) w
def Fi (ops:Array Oper)(Q:AW)(a0:Act)(S:World->Prop)(F:Nat->Value->World->Prop):Prop:=∀(b:Nat->Value) (w:World),S w->(∀(i:Nat) (o:Oper) (d:Nat),ops[i]?=some o->o.dst=some d->F i (b i) w)->Q .normal ⟨cA a0.tmps (dl b ops.toList 0),a0.defers⟩ w
section
variable {a a0:Act} {w w0:World} {S:World->Prop} {F:Nat->Value->World->Prop} {l:Array Bool} {i:Nat} {o:Oper}
theorem RgI.go (n:mF ops a0.tmps.size=true)(step:zJ P ops Q a0 S F)(h:RgI ops a0 S F l a w)(f:ops[i]?=some o)(q:∀e∈o.after,Region.binds .any e=true->l.getD e.on false=true)(K:LL)(J:∀B A,RgI ops a0 S F (l.setIfInBounds i true) B A->K B A):if Region.wanted o (yielded ops a.tmps)=true then Oper.wp P o a w K Q else K (a.put o.dst undef) w:=by
 refine step i o f a w h.s (λe M L p d g b=>h.vl e.on p d g b (q e M L)) h.fr K λv A I r z=>J _ _ ⟨by rw[Array.size_setIfInBounds];exact h.sz,r,aTF.trans h.df,aQz.trans h.ts,λj C=>(aOI (C i o f)).trans (h.fr j C),?_⟩
 intro k p d g b x
 by_cases e:k=i
 .subst e;rw[f]at g;cases g;refine⟨v,?_,I⟩;rw[b];exact Array.getElem?_setIfInBounds_self_of_lt (by rw[h.ts];exact(Uq n f f b).1)
 .have y:l.getD k false=true:=by
   rw[Array.getD_eq_getD_getElem?]at x ⊢;rw[Array.getElem?_setIfInBounds_ne (Ne.symm e)]at x;exact x
  obtain⟨u,E,H⟩:=h.vl k p d g b y;exact⟨u,by rw[aOI λD=>e ((Uq n g f b).2 D)];exact E,z k u H⟩
theorem RgI.done (q:mF ops a0.tmps.size=true)(y:Fi ops Q a0 S F)(h:RgI ops a0 S F l a w)(all:∀i,i<ops.size->l.getD i false=true):Q .normal a w:=by
 have u:∃n:Nat->Value,∀(i:Nat) (o:Oper) (d:Nat),ops[i]?=some o->o.dst=some d->a.tmps[d]?=some (n i)/\F i (n i) w:=by
  refine ⟨λi=>match ops[i]? with
   |some o=>match o.dst with
    |some d=>a.tmps.getD d undef
    |none=>undef
   |none=>undef,λi o d b f=>?_⟩
  obtain⟨v,D,E⟩:=h.vl i o d b f (all i (Array.getElem?_eq_some_iff.1 b).1);simp only[b,f];rw[Array.getD_eq_getD_getElem?,D];exact⟨rfl,E⟩
 obtain⟨n,hv⟩:=u
 have e:a=⟨cA a0.tmps (dl n ops.toList 0),a0.defers⟩:=by
  have B:a.tmps=cA a0.tmps (dl n ops.toList 0):=by
   apply Array.ext_getElem?;intro j
   by_cases z:∃(i:Nat) (o:Oper),ops[i]?=some o/\o.dst=some j
   .obtain⟨i,o,b,f⟩:=z;rw[(hv i o j b f).1];refine(aIT _ _ j (n i) ((Wp _ _ _).2 ⟨i,o,by rw[Array.getElem?_toList];exact b,f,by simp⟩) ?_ (Uq q b b f).1).symm;intro x u A;obtain⟨k,p,r,g,e⟩:=(Wp _ _ _).1 u;rw[Array.getElem?_toList]at r;rw[A]at g;rw[e,Nat.zero_add,(Uq q b r f).2 g]
   .rw[Zm _ _ _ λx u e=>?_]
    .exact h.fr j λi o b f=>z ⟨i,o,b,f⟩
    .obtain⟨k,p,r,g,_⟩:=(Wp _ _ _).1 u;rw[Array.getElem?_toList]at r;rw[e]at g;exact z ⟨k,p,r,g⟩
  have C:=h.df;cases a;simp only at B C;rw[B,C]
 rw[e]
 exact y n w h.s λi o d b f=>(hv i o d b f).2
theorem aIM {id:Nat}(D:P.follows .mixedOrders=true)(j:mF ops a0.tmps.size=true)(s:zR ops=true)(B:S w0.drew)(step:zJ P ops Q a0 S F)(r:Fi ops Q a0 S F):(Code.region id ops true).wp P Q a0 w0:=by
 refine wp_region_any D (aJh (I:=RgI ops a0 S F) ?_ ?_ _ _ _ _ ?_ ⟨by simp,B,rfl,rfl,λ_ _=>rfl,?_⟩)
 .intro l a w i o h hi g;obtain⟨H,L,q,k⟩:=mem_ready.1 hi;rw[g]at q;cases q
  exact wpOp_step g λz A=>h.go j step g k z A
 .intro l a w h E
  have all:∀n i,i<n->i<ops.size->l.getD i false=true:=by
   intro n
   induction n with
   |zero=>intro i hi;omega
   |succ n y=>
    intro i hi f;have g:ops[i]?=some ops[i]:=Array.getElem?_eq_getElem f;have b:=List.all_eq_true.1 s i (List.mem_range.2 f);rw[g]at b
    have p:i<l.size:=by rw[h.sz];exact f
    cases x:l[i]
    .have:i∈Region.ready .any ops l:=by
      refine mem_ready.2 ⟨by rw[Array.getD_eq_getD_getElem?,Array.getElem?_eq_getElem p,x];rfl,_,g,λe C _=>?_⟩;have v:=List.all_eq_true.1 b e (Array.mem_toList_iff.2 C);simp only[decide_eq_true_eq]at v;exact y e.on (by omega) (by omega)
     rw[E]at this;cases this
    .rw[Array.getD_eq_getD_getElem?,Array.getElem?_eq_getElem p,x];rfl
  exact h.done j r λi hi=>all (i+1) i (by omega) hi
 .have:∀n,leftL (List.replicate n false)<=n:=by
   intro n
   induction n with
   |zero=>exact Nat.le_refl _
   |succ n y=>rw[List.replicate_succ];simp[leftL];omega
  simpa using this ops.size
 .intro i o d g J u;rw[Array.getD_eq_getD_getElem?,Array.getElem?_replicate]at u
  split at u<;>cases u
end
end
open Go.RowKit
abbrev sv (a b:Int)(k:Bool):Value:=.agg #[.int .i64 a,.int .i64 b,.bool k]
structure SpOk (a b:Int):Prop where
 lo:-1073741824<=a
 le:a<=b
 hi:b<=1073741824
theorem SpOk.zero:SpOk 0 0:=⟨by decide,by decide,by decide⟩
theorem SpOk.neg {a b:Int}(h:SpOk a b):SpOk (-b) (-a):=⟨by have:=h.hi;omega,by have:=h.le;omega,by have:=h.lo;omega⟩
abbrev cO (a b:Int)(k:Bool):Obj:=.cells #[.int .i64 a,.int .i64 b,.bool k] 29 (0,0)
def aU (w:World)(e:Ending)(d:World):Prop:=∃a b k,e=.returned (sv a b k)/\SpOk a b/\Below w.heap.size w d
theorem lK {P:Program}{B:FuncId}{args:Array Value}{R:EW}{n:World}(I:World->Prop)(a:I n)(h:∀W,I W->Calls P B args W R):Calls P B args n R:=h _ a
variable {W:World}
theorem Ds {n:Nat}{a:Array Value}{t:TypeId}(h:W.heap.size=n):(W.alloc (.cells a t)).heap[n]?=some (.cells a t (0,0)):=by
 subst h;exact jN _ _
variable {o:Obj}
theorem uD {n:Nat}{a:Obj}(h:W.heap[n]?=some o):(W.alloc a).heap[n]?=some o:=by
 rw[Below.heap_alloc _ _ _ (fJ h)];exact h
variable {n:World}{b:Nat}
theorem tH {x g u:Value}(h:n.heap[b]?=some (.cells #[x,g,u] 29 (0,0)))(p q:Int)(k:Bool):
  (((n.setCell ⟨b,0,none⟩ (.int .i64 p)).setCell ⟨b,1,none⟩ (.int .i64 q)).setCell ⟨b,2,none⟩ (.bool k)).cell? ⟨b,0,none⟩=some (.int .i64 p)/\
  (((n.setCell ⟨b,0,none⟩ (.int .i64 p)).setCell ⟨b,1,none⟩ (.int .i64 q)).setCell ⟨b,2,none⟩ (.bool k)).cell? ⟨b,1,none⟩=some (.int .i64 q)/\
  (((n.setCell ⟨b,0,none⟩ (.int .i64 p)).setCell ⟨b,1,none⟩ (.int .i64 q)).setCell ⟨b,2,none⟩ (.bool k)).cell? ⟨b,2,none⟩=some (.bool k):=by
 have e:=sF (sF (sF h (o:=0) (.int .i64 p)) (o:=1) (.int .i64 q)) (o:=2) (.bool k);exact⟨aX e rfl,aX e rfl,aX e rfl⟩
theorem Zl {d:World}(h:Below n.heap.size n d)(a:n.heap.size<=b)(p q:Int)(k:Bool):
  Below n.heap.size n (((d.setCell ⟨b,0,none⟩ (.int .i64 p)).setCell ⟨b,1,none⟩ (.int .i64 q)).setCell ⟨b,2,none⟩ (.bool k)):=
 ((h.setCell a _).setCell a _).setCell a _
def tL (n:Nat)(w W:World):Prop:=Below w.heap.size w W/\W.heap[w.heap.size+n]?=some (cO 0 0 false)
theorem Mf:tL 1 n ((n.alloc o).alloc (.cells #[.int .i64 0,.int .i64 0,.bool false] 29)):=⟨((Below.refl _ _).alloc (Nat.le_refl _) _).alloc (by simp) _,Ds (by simp)⟩
theorem Gz {a:Obj}:tL 2 n (((n.alloc o).alloc a).alloc (.cells #[.int .i64 0,.int .i64 0,.bool false] 29)):=⟨(((Below.refl _ _).alloc (Nat.le_refl _) _).alloc (by simp) _).alloc (by simp;omega) _,Ds (by simp)⟩
theorem iO {J:World}(e:Below n.heap.size n W)(d:W.heap[b]?=some (cO 0 0 false))(f:Below W.heap.size W J)(g:n.heap.size<=b)(p q:Int)(k:Bool):
  J.cell? ⟨b,0,none⟩=some (.int .i64 0)/\J.cell? ⟨b,1,none⟩=some (.int .i64 0)/\J.cell? ⟨b,2,none⟩=some (.bool false)/\J.frozen? ⟨b,0,none⟩=false/\J.frozen? ⟨b,1,none⟩=false/\J.frozen? ⟨b,2,none⟩=false/\
  Hid ((((J.setCell ⟨b,0,none⟩ (.int .i64 p)).setCell ⟨b,1,none⟩ (.int .i64 q)).setCell ⟨b,2,none⟩ (.bool k)).cell? ⟨b,0,none⟩=some (.int .i64 p)/\
   (((J.setCell ⟨b,0,none⟩ (.int .i64 p)).setCell ⟨b,1,none⟩ (.int .i64 q)).setCell ⟨b,2,none⟩ (.bool k)).cell? ⟨b,1,none⟩=some (.int .i64 q)/\
   (((J.setCell ⟨b,0,none⟩ (.int .i64 p)).setCell ⟨b,1,none⟩ (.int .i64 q)).setCell ⟨b,2,none⟩ (.bool k)).cell? ⟨b,2,none⟩=some (.bool k))/\
  Hid (Below n.heap.size n (((J.setCell ⟨b,0,none⟩ (.int .i64 p)).setCell ⟨b,1,none⟩ (.int .i64 q)).setCell ⟨b,2,none⟩ (.bool k))):=
 have a:=(f.block _ (fJ d)).trans d
 ⟨aX a rfl,aX a rfl,aX a rfl,jY a,jY a,jY a,tH a p q k,Zl (e.trans (f.mono e.size)) g p q k⟩
theorem Dn (w:World):Calls prog 53 #[] w λe a=>e=.returned (sv 0 0 false)/\Below w.heap.size w a:=by
 go_enter func53,ntmps53
 go_wp2_with fail
 refine bodyPost_ret (v:=sv 0 0 false) (by simp[results,results53,go_sem]) rfl ⟨rfl,?_⟩;exact(Below.refl _ _).alloc (Nat.le_refl _) _
def ofS (a b:Int):Int×Int×Bool:=bif decide (a < -1073741824)||decide (1073741824<b)then(0,0,false)else(a,b,true)
variable {a b:Int}
theorem aOq (h:a < -1073741824):ofS a b=(0,0,false):=by unfold ofS;rw[decide_eq_true h];rfl
theorem aOr (h:1073741824<b):ofS a b=(0,0,false):=by unfold ofS;rw[decide_eq_true h,Bool.or_true];rfl
theorem aOt (d:¬a < -1073741824)(e:¬1073741824<b):ofS a b=(a,b,true):=by unfold ofS;rw[decide_eq_false d,decide_eq_false e];rfl
theorem aOs (h:a<=b):SpOk (ofS a b).1 (ofS a b).2.1:=by
 by_cases d:a < -1073741824
 .rw[aOq d];exact SpOk.zero
 .by_cases e:1073741824<b
  .rw[aOr e];exact SpOk.zero
  .rw[aOt d e];exact⟨by show _<=a;omega,h,by show b<=_;omega⟩
def cM (a b:Int)(w:World)(e:Ending)(d:World):Prop:=e=.returned (sv (ofS a b).1 (ofS a b).2.1 (ofS a b).2.2)/\Below w.heap.size w d
theorem xJ (a b:Int)(w:World):Calls prog 32 #[.int .i64 a,.int .i64 b] w (cM a b w):=by
 have N:=aC (λw=>Dn w)
 by_cases l:a < -1073741824
 .skip
  have E:=aC (aOq (b:=b) l)
  go_enter func32,ntmps32
  go_wp2_with fail
  refine lK (λW=>Below w.heap.size w W/\W.heap[w.heap.size]?=some (cO 0 0 false)) ⟨(Below.refl _ _).alloc (Nat.le_refl _) _,jN _ _⟩ ?_;rintro W⟨f,d⟩;refine(N.out _).mono ?_;rintro e x⟨rfl,h⟩;obtain⟨r,s,u,o,p,q,Q,g⟩:=iO f d h (by omega) 0 0 false;clear h f d
  go_wp2_with fail
  obtain⟨i,j,k⟩:=Q.out;refine bodyPost_ret (v:=sv 0 0 false) (by simp[results,results32,go_sem,i,j,k]) rfl ?_;exact⟨by rw[E.out],g.out⟩
 by_cases n:1073741824<b
 .skip
  have E:=aC (aOr (a:=a) n)
  go_enter func32,ntmps32
  go_wp2_with fail
  refine lK (λW=>Below w.heap.size w W/\W.heap[w.heap.size]?=some (cO 0 0 false)) ⟨(Below.refl _ _).alloc (Nat.le_refl _) _,jN _ _⟩ ?_;rintro W⟨f,d⟩;refine(N.out _).mono ?_;rintro e x⟨rfl,h⟩;obtain⟨r,s,u,o,p,q,Q,g⟩:=iO f d h (by omega) 0 0 false;clear h f d
  go_wp2_with fail
  obtain⟨i,j,k⟩:=Q.out;refine bodyPost_ret (v:=sv 0 0 false) (by simp[results,results32,go_sem,i,j,k]) rfl ?_;exact⟨by rw[E.out],g.out⟩
 have E:=aC (aOt l n)
 go_enter func32,ntmps32
 go_wp2_with fail
 refine bodyPost_ret (v:=sv a b true) (by simp[results,results32,go_sem]) rfl ?_;exact⟨by rw[E.out],(Below.refl _ _).alloc (Nat.le_refl _) _⟩
theorem aMx (d:0<b):(a.tmod b<0->a.tdiv b-1=a/b)/\(0<=a.tmod b->a.tdiv b=a/b):=by
 have g:=Int.tdiv_mul_add_tmod a b;have h:=Int.ediv_mul_add_emod a b;have i:=Int.emod_nonneg a (show b≠0 by omega);have j:=Int.emod_lt_of_pos a d;have k:=Int.tmod_lt_of_pos a d
 have l:-b<a.tmod b:=by
  have:=Int.tmod_lt_of_pos (-a) d;rw[Int.neg_tmod]at this;omega
 generalize o:a.tdiv b=q at*;generalize n:a/b=p at*;generalize a.tmod b=r at*;generalize a%b=s at*
 have f:(q-p)*b=s-r:=by rw[Int.sub_mul];omega
 constructor
 .intro e
  have:q-p=1:=by
   have c1:0*b<(q-p)*b:=by omega
   have c2:(q-p)*b<2*b:=by omega
   have d1:0<q-p:=Int.lt_of_mul_lt_mul_right c1 (by omega);have d2:q-p<2:=Int.lt_of_mul_lt_mul_right c2 (by omega);omega
  omega
 .intro e
  have:q-p=0:=by
   have c1:-1*b<(q-p)*b:=by omega
   have c2:(q-p)*b<1*b:=by omega
   have d1:-1<q-p:=Int.lt_of_mul_lt_mul_right c1 (by omega);have d2:q-p<1:=Int.lt_of_mul_lt_mul_right c2 (by omega);omega
  omega
theorem aFR {M:Int}(d:0<b)(e:-M<=a)(f:a<=M)(g:0<=M):-M-1<=a/b/\a/b<=M:=by
 constructor
 .have:-M<=a/b:=by
   rw[Int.le_ediv_iff_mul_le d];have:-M*b<=-M*1:=Int.mul_le_mul_of_nonpos_left (by omega) (by omega);omega
  omega
 .rcases Int.lt_or_le a 0 with h|h
  .have:=Int.ediv_neg_of_neg_of_pos h d;omega
  .have:=Int.ediv_le_self b h;omega
theorem Oc (a b:Int)(w:World)(l:-4611686018427387904<=a)(n:a<=4611686018427387904)(h:0<b)(o:b<=4611686018427387904):
  Calls prog 33 #[.int .i64 a,.int .i64 b] w λe p=>e=.returned (.int .i64 (a/b))/\w=p:=by
 obtain⟨f,g⟩:=aMx (a:=a) h;obtain⟨q,r⟩:=aFR (a:=a) h (M:=4611686018427387904) l n (by omega);have T1:=aC f;have T2:=aC g
 by_cases i:a.tmod b<0
 .have j:wrap64 (a.tdiv b-1)=a.tdiv b-1:=by
   have:=T1.out i;unfold wrap64;omega
  have k:=aC j;clear j f g
  go_enter func33,ntmps33
  go_wp2_with fail
  go_ret
  rw[k.out];exact⟨yM (T1.out i),rfl⟩
 .have d:0<=a.tmod b:=by omega
  clear f g
  go_enter func33,ntmps33
  go_wp2_with fail
  go_ret
  exact⟨yM (T2.out d),rfl⟩
theorem Uu (a b:Int)(w:World)(h:-4611686018427387904<=a)(i:a<=4611686018427387904)(f:0<b)(d:b<=4611686018427387904):
  Calls prog 34 #[.int .i64 a,.int .i64 b] w λe g=>e=.returned (.int .i64 (-((-a)/b)))/\w=g:=by
 have F:=aC (λw=>Oc (-a) b w (by omega) (by omega) f d);obtain⟨j,k⟩:=aFR (a:=-a) f (M:=4611686018427387904) (by omega) (by omega) (by omega)
 go_enter func34,ntmps34
 go_wp2_with fail
 refine(F.out _).mono ?_;rintro e l⟨rfl,rfl⟩
 go_wp2_with fail
 go_ret
 exact⟨rfl,rfl⟩
theorem Ht {c:Int}(hc:0<c)(h:a<=b):a/c<=-((-b)/c):=by
 have d:a/c*c<=a:=Int.ediv_mul_le a (by omega);have e:(-b)/c*c<=-b:=Int.ediv_mul_le (-b) (by omega)
 have f:(a/c+(-b)/c)*c<=0:=by rw[Int.add_mul];omega
 have g:a/c+(-b)/c<1:=Int.lt_of_mul_lt_mul_right (a:=c) (by omega) (by omega);omega
theorem Oy (a b:Int)(k:Bool)(w:World)(h:SpOk a b):
  Calls prog 37 #[sv a b k] w λe d=>e=.returned (sv (-b) (-a) k)/\Below w.heap.size w d:=by
 have f:=h.lo;have g:=h.le;have i:=h.hi
 go_enter func37,ntmps37
 go_wp2_with fail
 refine bodyPost_ret (v:=sv (-b) (-a) k) (by simp[results,results37,go_sem]) rfl ⟨rfl,?_⟩;exact((Below.refl _ _).alloc (Nat.le_refl _) _).alloc (by simp) _
theorem nV {b:World}(h:Below n.drew.heap.size n.drew b):Below n.heap.size n b:=⟨h.os,h.tape,h.output,h.size,h.block⟩
theorem Gx (w:World):Below w.heap.size w w.drew:=⟨rfl,rfl,rfl,Nat.le_refl _,λ_ _=>rfl⟩
theorem cM.sp (h:a<=b){e:Ending}{d:World}(k:cM a b n e d):aU n e d:=⟨_,_,_,k.1,aOs h,k.2⟩
theorem Uf (n:Int)(w:World):Calls prog 15 #[.int .i64 n] w (cM n n w):=by
 have N:=aC (λw=>xJ n n w)
 go_enter func15,ntmps15
 go_wp2_with fail
 refine lK (λW=>Below w.heap.size w W/\W.heap[w.heap.size]?=some (cO 0 0 false)) ⟨(Below.refl _ _).alloc (Nat.le_refl _) _,jN _ _⟩ ?_;rintro W⟨b,a⟩;refine(N.out _).mono ?_;rintro e r⟨rfl,f⟩;obtain⟨o,p,q,j,k,l,Q,d⟩:=iO b a f (by omega) (ofS n n).1 (ofS n n).2.1 (ofS n n).2.2;clear f b a
 go_wp2_with fail
 obtain⟨g,h,i⟩:=Q.out;refine bodyPost_ret (v:=sv (ofS n n).1 (ofS n n).2.1 (ofS n n).2.2) (by simp[results,results15,go_sem,g,h,i]) rfl ?_;exact⟨rfl,d.out⟩
theorem Ug (p q:Int)(w:World)(s:0<=p)(u:p<=1000)(z:1<=q)(A:q<=1000):
  Calls prog 16 #[.int .i64 p,.int .i64 q] w (cM (p*1048576/q) (-((-(p*1048576))/q)) w):=by
 have F:=aC (λw=>Oc (p*1048576) q w (by omega) (by omega) (by omega) (by omega));have G:=aC (λw=>Uu (p*1048576) q w (by omega) (by omega) (by omega) (by omega));have N:=aC (λa b w=>xJ a b w)
 go_enter func16,ntmps16
 go_wp2_with fail
 refine lK (λW=>Below w.heap.size w W/\W.heap[w.heap.size]?=some (cO 0 0 false)) ⟨(Below.refl _ _).alloc (Nat.le_refl _) _,jN _ _⟩ ?_;rintro W⟨f,d⟩;refine(F.out _).mono ?_;rintro e l⟨rfl,rfl⟩
 go_wp2_with fail
 refine(G.out _).mono ?_;rintro e l⟨rfl,rfl⟩
 go_wp2_with fail
 refine(N.out _ _ _).mono ?_;rintro e E⟨rfl,h⟩;generalize p*1048576/q=x at*;generalize -((-(p*1048576))/q)=y at*;obtain⟨B,C,D,n,o,r,Q,g⟩:=iO f d h (by omega) (ofS x y).1 (ofS x y).2.1 (ofS x y).2.2;clear h f d
 go_wp2_with fail
 obtain⟨i,j,k⟩:=Q.out;refine bodyPost_ret (v:=sv (ofS x y).1 (ofS x y).2.1 (ofS x y).2.2) (by simp[results,results16,go_sem,i,j,k]) rfl ?_;exact⟨rfl,g.out⟩
theorem aMP (a b:Int)(k:Bool)(c d:Int)(m:Bool)(w:World)(h:SpOk a b)(p:SpOk c d):Calls prog 35 #[sv a b k,sv c d m] w (aU w):=by
 have B:=h.lo;have C:=h.le;have D:=h.hi;have E:=p.lo;have F:=p.le;have H:=p.hi;have N:=aC (λw=>Dn w);have O:=aC (λw=>xJ (a+c) (b+d) w);have A:=aC (aOs (show a+c<=b+d by omega));clear h p;cases k
 .skip
  go_enter func35,ntmps35
  go_wp2_with fail
  refine lK (tL 2 w) Gz ?_;rintro W⟨g,f⟩;refine(N.out _).mono ?_;rintro e z⟨rfl,j⟩;obtain⟨u,x,y,q,r,s,Q,i⟩:=iO g f j (by omega) 0 0 false;clear j g f
  go_wp2_with fail
  obtain⟨l,n,o⟩:=Q.out;refine bodyPost_ret (v:=sv 0 0 false) (by simp[results,results35,go_sem,l,n,o]) rfl ?_;exact⟨0,0,false,rfl,SpOk.zero,i.out⟩
 cases m
 .skip
  go_enter func35,ntmps35
  go_wp2_with fail
  refine lK (tL 2 w) Gz ?_;rintro W⟨g,f⟩;refine(N.out _).mono ?_;rintro e z⟨rfl,j⟩;obtain⟨u,x,y,q,r,s,Q,i⟩:=iO g f j (by omega) 0 0 false;clear j g f
  go_wp2_with fail
  obtain⟨l,n,o⟩:=Q.out;refine bodyPost_ret (v:=sv 0 0 false) (by simp[results,results35,go_sem,l,n,o]) rfl ?_;exact⟨0,0,false,rfl,SpOk.zero,i.out⟩
 go_enter func35,ntmps35
 go_wp2_with fail
 refine lK (tL 2 w) Gz ?_;rintro W⟨g,f⟩;refine(O.out _).mono ?_;rintro e z⟨rfl,j⟩;obtain⟨u,x,y,q,r,s,Q,i⟩:=iO g f j (by omega) (ofS (a+c) (b+d)).1 (ofS (a+c) (b+d)).2.1 (ofS (a+c) (b+d)).2.2;clear j g f
 go_wp2_with fail
 obtain⟨l,n,o⟩:=Q.out;refine bodyPost_ret (v:=sv (ofS (a+c) (b+d)).1 (ofS (a+c) (b+d)).2.1 (ofS (a+c) (b+d)).2.2) (by simp[results,results35,go_sem,l,n,o]) rfl ?_;exact⟨_,_,_,rfl,A.out,i.out⟩
theorem aP8 (a b:Int)(k:Bool)(c d:Int)(m:Bool)(w:World)(h:SpOk a b)(u:SpOk c d):Calls prog 55 #[sv a b k,sv c d m] w (aU w):=by
 have I:=h.lo;have J:=h.le;have L:=h.hi;have M:=u.lo;have P:=u.le;have R:=u.hi;have N:=aC (λw=>Dn w);have O:=aC (λx y w=>xJ x y w);clear h u;cases k
 .skip
  go_enter func55,ntmps55
  go_wp2_with fail
  refine lK (tL 2 w) Gz ?_;rintro W⟨g,f⟩;refine(N.out _).mono ?_;rintro e H⟨rfl,j⟩;obtain⟨D,E,F,A,B,C,Q,i⟩:=iO g f j (by omega) 0 0 false;clear j g f
  go_wp2_with fail
  obtain⟨n,o,s⟩:=Q.out;refine bodyPost_ret (v:=sv 0 0 false) (by simp[results,results55,go_sem,n,o,s]) rfl ?_;exact⟨0,0,false,rfl,SpOk.zero,i.out⟩
 cases m
 .skip
  go_enter func55,ntmps55
  go_wp2_with fail
  refine lK (tL 2 w) Gz ?_;rintro W⟨g,f⟩;refine(N.out _).mono ?_;rintro e H⟨rfl,j⟩;obtain⟨D,E,F,A,B,C,Q,i⟩:=iO g f j (by omega) 0 0 false;clear j g f
  go_wp2_with fail
  obtain⟨n,o,s⟩:=Q.out;refine bodyPost_ret (v:=sv 0 0 false) (by simp[results,results55,go_sem,n,o,s]) rfl ?_;exact⟨0,0,false,rfl,SpOk.zero,i.out⟩
 go_enter func55,ntmps55
 go_wp2_with fail
 all_goals
  refine lK (tL 2 w) Gz ?_;rintro W⟨g,f⟩;refine((O.out _ _ _).mono (λ_ _ h=>cM.sp (by omega) h)).mono ?_;rintro e H⟨p,q,r,rfl,l,j⟩;have z:=aC l;clear l;obtain⟨D,E,F,A,B,C,Q,i⟩:=iO g f j (by omega) p q r;clear j g f
  go_wp2_with fail
  obtain⟨n,o,s⟩:=Q.out;refine bodyPost_ret (v:=sv p q r) (by simp[results,results55,go_sem,n,o,s]) rfl ?_;exact⟨p,q,r,rfl,z.out,i.out⟩
theorem aV3 (e:0<a)(d:a<=b):1099511627776/b<=-((-1099511627776)/a):=by
 have g:(1099511627776:Int)/b<=1099511627776/a:=by
  rw[Int.le_ediv_iff_mul_le e];have h:(1099511627776:Int)/b*b<=1099511627776:=Int.ediv_mul_le _ (by omega);have f:(0:Int)<=1099511627776/b:=Int.ediv_nonneg (by omega) (by omega);have i:=Int.mul_le_mul_of_nonneg_left d f;omega
 have j:=Ht (a:=1099511627776) (b:=1099511627776) e (Int.le_refl _);omega
theorem aTx (a b:Int)(w:World):Calls prog 36 #[sv a b false] w (aU w):=by
 have N:=aC (λw=>Dn w)
 go_enter func36,ntmps36
 go_wp2_with fail
 refine lK (tL 1 w) Mf ?_;rintro W⟨f,d⟩;refine(N.out _).mono ?_;rintro e s⟨rfl,h⟩;obtain⟨p,q,r,l,n,o,Q,g⟩:=iO f d h (by omega) 0 0 false;clear h f d
 go_wp2_with fail
 obtain⟨i,j,k⟩:=Q.out;refine bodyPost_ret (v:=sv 0 0 false) (by simp[results,results36,go_sem,i,j,k]) rfl ?_;exact⟨0,0,false,rfl,SpOk.zero,g.out⟩
theorem aK2 (a b:Int)(w:World)(z:0<a)(l:a<=b)(A:b<=1073741824):Calls prog 36 #[sv a b true] w (aU w):=by
 have F:=aC (λw=>Oc 1099511627776 b w (by omega) (by omega) (by omega) (by omega));have G:=aC (λw=>Uu 1099511627776 a w (by omega) (by omega) (by omega) (by omega));have O:=aC (λx y w=>xJ x y w);have j:=aC (aV3 z l)
 go_enter func36,ntmps36
 go_wp2_with fail
 go_region_held3 (λu=>u.cell? ⟨w.heap.size,0,none⟩=some (.int .i64 a)/\u.cell? ⟨w.heap.size,1,none⟩=some (.int .i64 b)) (go_keep)
  (first|(go_at_call 33;refine(F.out _).mono ?_;rintro e E⟨rfl,rfl⟩)|(go_at_call 34;refine(G.out _).mono ?_;rintro e E⟨rfl,rfl⟩)|(go_at_call 32;refine((O.out _ _ _).mono (λ_ _ h=>cM.sp j.out h)).mono ?_;rintro e S⟨p,q,r,rfl,g,s⟩;have d:=nV s;have P:=(d.cell (p:=⟨w.heap.size,0,none⟩) (by simp<;>omega)).trans (aX (uD (jN _ _)) rfl);have R:=(d.cell (p:=⟨w.heap.size,1,none⟩) (by simp<;>omega)).trans (aX (uD (jN _ _)) rfl);have f:=(d.block _ (by simp<;>omega)).trans (Ds (n:=w.heap.size+1) (by simp));have L:=aX (o:=0) f rfl;have M:=aX (o:=1) f rfl;have N:=aX (o:=2) f rfl;have H:=jY (o:=0) f;have I:=jY (o:=1) f;have J:=jY (o:=2) f;have Q:=aC (tH f p q r);have k:=aC g;have i:=aC (Zl (Below.trans (((Below.refl _ _).alloc (Nat.le_refl _) _).alloc (by simp) _) (d.mono (by simp<;>omega))) (show w.heap.size<=w.heap.size+1 by omega) p q r);clear f s d g))
 all_goals
  go_wp2_with fail
  obtain⟨B,C,D⟩:=Q.out;refine bodyPost_ret (v:=sv p q r) (by simp[results,results36,go_sem,B,C,D]) rfl ?_;exact⟨p,q,r,rfl,k.out,i.out⟩
theorem aQt (a b:Int)(k:Bool)(w:World)(h:SpOk a b):Calls prog 36 #[sv a b k] w (aU w):=by
 have P:=h.lo;have H:=h.le;have I:=h.hi;cases k
 .exact aTx a b w
 by_cases p1:0<a
 .exact aK2 a b w p1 H I
 by_cases R:0<=b
 .have N:=aC (λw=>Dn w);clear h
  go_enter func36,ntmps36
  go_wp2_with fail
  refine lK (tL 1 w) Mf ?_;rintro W⟨f,d⟩;refine(N.out _).mono ?_;rintro e O⟨rfl,n⟩;obtain⟨J,L,M,D,E,F,Q,i⟩:=iO f d n (by omega) 0 0 false;clear n f d
  go_wp2_with fail
  obtain⟨r,s,u⟩:=Q.out;refine bodyPost_ret (v:=sv 0 0 false) (by simp[results,results36,go_sem,r,s,u]) rfl ?_;exact⟨0,0,false,rfl,SpOk.zero,i.out⟩
 have B:=aC (λw=>Oy a b true w h);have C:=aC (λw=>aK2 (-b) (-a) w (by omega) (by omega) (by omega));have A:=aC (λx y z w h=>Oy x y z w h);clear h
 go_enter func36,ntmps36
 go_wp2_with fail
 refine lK (tL 1 w) Mf ?_;rintro W⟨f,d⟩;refine(B.out _).mono ?_;rintro e S⟨rfl,j⟩
 go_wp2_with fail
 refine(C.out _).mono ?_;rintro e T⟨x,y,z,rfl,g,l⟩
 go_wp2_with fail
 refine(A.out _ _ _ _ g).mono ?_;rintro e O⟨rfl,o⟩;have n:=j.trans ((l.trans (o.mono l.size)).mono j.size);have p:=g.neg;clear g j o l;have q:=aC p;clear p;obtain⟨J,L,M,D,E,F,Q,i⟩:=iO f d n (by omega) (-y) (-x) z;clear n f d
 go_wp2_with fail
 obtain⟨r,s,u⟩:=Q.out;refine bodyPost_ret (v:=sv (-y) (-x) z) (by simp[results,results36,go_sem,r,s,u]) rfl ?_;exact⟨_,_,_,rfl,q.out,i.out⟩
variable {x z:Int}
theorem aTj {M:Int}(f:-M<=x/\x<=M)(g:-M<=z/\z<=M):-(M*M)<=x*z/\x*z<=M*M:=by
 have a:x.natAbs<=M.natAbs:=by omega
 have b:z.natAbs<=M.natAbs:=by omega
 have d:(x*z).natAbs<=(M*M).natAbs:=by rw[Int.natAbs_mul,Int.natAbs_mul];exact Nat.mul_le_mul a b
 have e:0<=M*M:=Int.mul_nonneg (by omega) (by omega);omega
theorem Wu (a:-1073741824<=x/\x<=1073741824)(b:-1073741824<=z/\z<=1073741824):-1152921504606846976<=x*z/\x*z<=1152921504606846976:=by
 have:=aTj (M:=1073741824) a b;omega
def MP (a b c d x:Int):Prop:=x=a*c\/x=a*d\/x=b*c\/x=b*d
theorem Gp {c d A R:Int}(f:MP a b c d A)(e:MP a b c d x)(h:R=A\/R=x):MP a b c d R:=by
 rcases h with rfl|rfl
 .exact f
 .exact e
def qH (a b c d:Int)(w:World)(e:Ending)(f:World):Prop:=∃x y,x<=y/\MP a b c d x/\MP a b c d y/\cM (x/1048576) (-((-y)/1048576)) w e f
def Ju (a b c d:Int)(lo hi i:Value):Prop:=∃(k:Nat) (x y:Int),k<=4/\i=.int .i64 k/\lo=.int .i64 x/\hi=.int .i64 y/\x<=y/\MP a b c d x/\MP a b c d y
theorem MP.bd {c d:Int}(h:SpOk a b)(e:SpOk c d)(f:MP a b c d x):-1152921504606846976<=x/\x<=1152921504606846976:=by
 have g:=h.lo;have i:=h.le;have j:=h.hi;have k:=e.lo;have l:=e.le;have n:=e.hi
 rcases f with rfl|rfl|rfl|rfl
 .exact Wu (by omega) (by omega)
 .exact Wu (by omega) (by omega)
 .exact Wu (by omega) (by omega)
 .exact Wu (by omega) (by omega)
theorem aIy (a b c d:Int)(w:World)(h:SpOk a b)(D:SpOk c d):Calls prog 38 #[sv a b true,sv c d true] w (qH a b c d w):=by
 have f:=aC (λx=>MP.bd (x:=x) h D);obtain⟨m1,m2⟩:=f.out (a*c) (Or.inl rfl);obtain⟨m3,m4⟩:=f.out (a*d) (Or.inr (Or.inl rfl));obtain⟨m5,m6⟩:=f.out (b*c) (Or.inr (Or.inr (Or.inl rfl)));obtain⟨m7,m8⟩:=f.out (b*d) (Or.inr (Or.inr (Or.inr rfl)));have F:=aC (λx w s u=>Oc x 1048576 w s u (by decide) (by decide));have G:=aC (λx w s u=>Uu x 1048576 w s u (by decide) (by decide));have O:=aC (λx y w=>xJ x y w);clear h D
 go_enter func38,ntmps38
 go_wp2_with fail
 go_loop [6,7,48] (λlo hi i=>Ju a b c d lo hi i) (λ_ _ i=>4-(intOf i).toNat)
 case atStart=>exact⟨0,a*c,a*c,by omega,rfl,rfl,rfl,Int.le_refl _,Or.inl rfl,Or.inl rfl⟩
 case round=>
  obtain⟨k,x,y,hk,rfl,rfl,rfl,B,A,C⟩:=hrel;have l:=aC A;have n:=aC C;obtain⟨L,M⟩:=f.out x A;obtain⟨N,P⟩:=f.out y C;clear A C
  by_cases R:k<4
  .have z:k=0\/k=1\/k=2\/k=3:=by omega
   rcases z with rfl|rfl|rfl|rfl
   all_goals
    go_wp2_with fail
   .exact⟨⟨1,_,_,by omega,rfl,rfl,rfl,by first|omega|(split<;>split<;>omega),Gp (Or.inl rfl) l.out (by first|omega|(split<;>simp)),Gp (Or.inl rfl) n.out (by first|omega|(split<;>simp))⟩,by simp[intOf]⟩
   .exact⟨⟨2,_,_,by omega,rfl,rfl,rfl,by first|omega|(split<;>split<;>omega),Gp (Or.inr (Or.inl rfl)) l.out (by first|omega|(split<;>simp)),Gp (Or.inr (Or.inl rfl)) n.out (by first|omega|(split<;>simp))⟩,by simp[intOf]⟩
   .exact⟨⟨3,_,_,by omega,rfl,rfl,rfl,by first|omega|(split<;>split<;>omega),Gp (Or.inr (Or.inr (Or.inl rfl))) l.out (by first|omega|(split<;>simp)),Gp (Or.inr (Or.inr (Or.inl rfl))) n.out (by first|omega|(split<;>simp))⟩,by simp[intOf]⟩
   .exact⟨⟨4,_,_,by omega,rfl,rfl,rfl,by first|omega|(split<;>split<;>omega),Gp (Or.inr (Or.inr (Or.inr rfl))) l.out (by first|omega|(split<;>simp)),Gp (Or.inr (Or.inr (Or.inr rfl))) n.out (by first|omega|(split<;>simp))⟩,by simp[intOf]⟩
  .obtain rfl:k=4:=by omega
   go_wp2_with fail
   refine lK (λW=>Below w.heap.size w W/\W.heap[w.heap.size+2]?=some (cO 0 0 false)) ⟨((((Below.refl _ _).alloc (Nat.le_refl _) _).alloc (by simp) _).alloc (by simp;omega) _).alloc (by simp;omega) _,(uD (Ds (by simp)))⟩ ?_;rintro W⟨p,o⟩;refine(F.out x _ (by omega) (by omega)).mono ?_;rintro e X⟨rfl,rfl⟩
   go_wp2_with fail
   refine(G.out y _ (by omega) (by omega)).mono ?_;rintro e X⟨rfl,rfl⟩
   go_wp2_with fail
   refine(O.out _ _ _).mono ?_;rintro e w2⟨rfl,E⟩;generalize H:x/1048576=g at*;generalize q:-((-y)/1048576)=j at*;have I:=aC H;have J:=aC q;clear H q;obtain⟨r0,r1,r2,Y,g1,g2,Q,r⟩:=iO p o E (by omega) (ofS g j).1 (ofS g j).2.1 (ofS g j).2.2;clear E p o
   go_wp2_with fail
   obtain⟨S,T,U⟩:=Q.out;refine bodyPost_ret (v:=sv (ofS g j).1 (ofS g j).2.1 (ofS g j).2.2) (by simp[results,results38,go_sem,S,T,U]) rfl ?_;exact⟨x,y,B,l.out,n.out,by rw[I.out,J.out],r.out⟩
theorem qH.sp {a b c d:Int}{n:World}{e:Ending}{g:World}(k:qH a b c d n e g):aU n e g:=by
 obtain⟨x,y,f,_,_,h⟩:=k;exact cM.sp (Ht (by decide) f) h
theorem aJO (a b:Int)(k:Bool)(c d:Int)(m:Bool)(w:World)(h:SpOk a b)(l:SpOk c d):Calls prog 38 #[sv a b k,sv c d m] w (aU w):=by
 have N:=aC (λw=>Dn w);cases k
 .clear h l
  go_enter func38,ntmps38
  go_wp2_with fail
  refine lK (tL 2 w) Gz ?_;rintro W⟨g,f⟩;refine(N.out _).mono ?_;rintro e z⟨rfl,j⟩;obtain⟨u,x,y,q,r,s,Q,i⟩:=iO g f j (by omega) 0 0 false;clear j g f
  go_wp2_with fail
  obtain⟨n,o,p⟩:=Q.out;refine bodyPost_ret (v:=sv 0 0 false) (by simp[results,results38,go_sem,n,o,p]) rfl ?_;exact⟨0,0,false,rfl,SpOk.zero,i.out⟩
 cases m
 .clear h l
  go_enter func38,ntmps38
  go_wp2_with fail
  refine lK (tL 2 w) Gz ?_;rintro W⟨g,f⟩;refine(N.out _).mono ?_;rintro e z⟨rfl,j⟩;obtain⟨u,x,y,q,r,s,Q,i⟩:=iO g f j (by omega) 0 0 false;clear j g f
  go_wp2_with fail
  obtain⟨n,o,p⟩:=Q.out;refine bodyPost_ret (v:=sv 0 0 false) (by simp[results,results38,go_sem,n,o,p]) rfl ?_;exact⟨0,0,false,rfl,SpOk.zero,i.out⟩
 exact(aIy a b c d w h l).mono (λ_ _ h=>h.sp)
def Gu (j:Nat):Int:=if j=0 then 0 else 2^(j-1)
def Ex (n:Int)(r b:Value):Prop:=∃(j:Nat) (x c m:Int),j<=31/\c=Gu j/\m=2^j/\r=.int .i64 x/\b=.int .i64 c/\0<=x/\x+m<=2147483648/\x*x<=n/\n<(x+m)*(x+m)
def nW (n:Int)(w:World)(e:Ending)(a:World):Prop:=∃r:Int,e=.returned (.int .i64 r)/\0<=r/\r<=2147483647/\r*r<=n/\n<(r+1)*(r+1)/\w=a
theorem aXR (a:0<=x)(b:x<=2147483648):0<=x*x/\x*x<=4611686018427387904:=by
 refine⟨Int.mul_nonneg a a,?_⟩;have:=Int.mul_le_mul b b a (by omega);omega
theorem aKJ {c:Int}{i:Nat}(h:c=2^i):c/2=Gu i:=by
 subst h
 cases i with
 |zero=>rfl
 |succ i=>
  show(2:Int)^(i+1)/2=2^i;rw[Int.pow_succ];omega
theorem aLa (n:Int)(w:World)(A:0<=n)(B:n<=1125899906842624):Calls prog 54 #[.int .i64 n] w (nW n w):=by
 go_enter func54,ntmps54
 go_wp2_with fail
 go_loop [3,4] (λr b=>Ex n r b) (λ_ b=>(intOf b).toNat)
 case atStart=>exact⟨31,0,1073741824,2147483648,by omega,by decide,by decide,rfl,rfl,by decide,by decide,by omega,by omega⟩
 case round=>
  obtain⟨j,x,c,m,C,hc,h,rfl,rfl,o,y,d,f⟩:=hrel
  cases j with
  |zero=>
   have c0:c=0:=hc;have z:m=1:=h;subst c0;subst z;have k:=aC d;have l:=aC f;clear d f hc h
   go_wp2_with fail
   go_ret
   exact⟨x,rfl,o,by omega,k.out,l.out,rfl⟩
  |succ i=>
   have a:c=2^i:=hc
   have g:m=2*c:=by rw[h,a,Int.pow_succ];omega
   have u:1<=c:=by rw[a];exact Int.pow_pos (by decide)
   have p:x+c<=2147483648:=by omega
   obtain⟨D,E⟩:=aXR (x:=x+c) (by omega) p;have k:=aC d;have l:=aC f;have HC:=aC a;have q:=aC g;clear d f hc h a g
   by_cases v:(x+c)*(x+c)<=n
   .go_wp2_with fail
    have e:=HC.out;have s:=q.out;refine⟨⟨i,x+c,c/2,c,by omega,aKJ e,e,rfl,rfl,by omega,by omega,v,?_⟩,by simp[intOf];omega⟩;have:=l.out;rw[s,show x+2*c=x+c+c by omega]at this;exact this
   .go_wp2_with fail
    have e:=HC.out;refine⟨⟨i,x,c/2,c,by omega,aKJ e,e,rfl,rfl,by omega,by omega,k.out,by omega⟩,by simp[intOf];omega⟩
theorem aOT {r s:Int}(d:a<=b)(e:0<=r)(i:0<=s)(f:r*r<=a)(g:b<(s+1)*(s+1)):r<=s+1:=by
 rcases Int.lt_or_le (s+1) r with h|h
 .exfalso;have:=Int.mul_le_mul (Int.le_of_lt h) (Int.le_of_lt h) (by omega) e;omega
 .exact h
theorem aQO (a b:Int)(k:Bool)(w:World)(h:SpOk a b):Calls prog 39 #[sv a b k] w (aU w):=by
 have h1:=h.lo;have h2:=h.le;have h3:=h.hi;have N:=aC (λw=>Dn w);clear h;cases k
 .skip
  go_enter func39,ntmps39
  go_wp2_with fail
  refine lK (tL 1 w) Mf ?_;rintro W⟨g,f⟩;refine(N.out _).mono ?_;rintro e T⟨rfl,l⟩;obtain⟨M,E,H,I,J,L,Q,d⟩:=iO g f l (by omega) 0 0 false;clear l g f
  go_wp2_with fail
  obtain⟨z,A,B⟩:=Q.out;refine bodyPost_ret (v:=sv 0 0 false) (by simp[results,results39,go_sem,z,A,B]) rfl ?_;exact⟨0,0,false,rfl,SpOk.zero,d.out⟩
 by_cases p1:a<0
 .skip
  go_enter func39,ntmps39
  go_wp2_with fail
  refine lK (tL 1 w) Mf ?_;rintro W⟨g,f⟩;refine(N.out _).mono ?_;rintro e T⟨rfl,l⟩;obtain⟨M,E,H,I,J,L,Q,d⟩:=iO g f l (by omega) 0 0 false;clear l g f
  go_wp2_with fail
  obtain⟨z,A,B⟩:=Q.out;refine bodyPost_ret (v:=sv 0 0 false) (by simp[results,results39,go_sem,z,A,B]) rfl ?_;exact⟨0,0,false,rfl,SpOk.zero,d.out⟩
 have F:Hid (∀(x:Int) (w:World),x=a*1048576->Calls prog 54 #[.int .i64 x] w (nW (a*1048576) w)):=by
  rintro x w rfl;exact aLa (a*1048576) w (by omega) (by omega)
 have G:Hid (∀(x:Int) (w:World),x=b*1048576->Calls prog 54 #[.int .i64 x] w (nW (b*1048576) w)):=by
  rintro x w rfl;exact aLa (b*1048576) w (by omega) (by omega)
 have O:=aC (λx y w=>xJ x y w)
 go_enter func39,ntmps39
 go_wp2_with fail
 go_region_held3 (λS=>S.cell? ⟨w.heap.size,0,none⟩=some (.int .i64 a)/\S.cell? ⟨w.heap.size,1,none⟩=some (.int .i64 b)) (go_keep)
  (first|(go_at_call 54;have _t:=s;refine(G.out _ _ (by first|rfl|(rw[IntKind.wrap_i64];omega))).mono ?_;rintro e w1⟨H,rfl,Y,u2,u3,R,rfl⟩;have C:=aC (aOT (show a*1048576<=b*1048576 by omega) U Y s.out R);clear u3 R)|(go_at_call 54;refine(F.out _ _ (by first|rfl|(rw[IntKind.wrap_i64];omega))).mono ?_;rintro e w1⟨E,rfl,U,t2,P,X,rfl⟩;have s:=aC P;clear P X)|(go_at_call 32;refine((O.out _ _ _).mono (λ_ _ h=>cM.sp (by have:=C.out;first|omega|(rw[IntKind.wrap_i64];omega)) h)).mono ?_;rintro e T⟨p,q,r,rfl,u,l⟩;have i:=nV l;have s0:=(i.cell (p:=⟨w.heap.size,0,none⟩) (by simp<;>omega)).trans (aX (uD (jN _ _)) rfl);have s1:=(i.cell (p:=⟨w.heap.size,1,none⟩) (by simp<;>omega)).trans (aX (uD (jN _ _)) rfl);have j:=(i.block _ (by simp<;>omega)).trans (Ds (n:=w.heap.size+1) (by simp));have M:=aX (o:=0) j rfl;have E:=aX (o:=1) j rfl;have H:=aX (o:=2) j rfl;have I:=jY (o:=0) j;have J:=jY (o:=1) j;have L:=jY (o:=2) j;have Q:=aC (tH j p q r);have D:=aC u;have d:=aC (Zl (Below.trans (((Below.refl _ _).alloc (Nat.le_refl _) _).alloc (by simp) _) (i.mono (by simp<;>omega))) (show w.heap.size<=w.heap.size+1 by omega) p q r);clear j l i u))
 all_goals
  go_wp2_with fail
  obtain⟨z,A,B⟩:=Q.out;refine bodyPost_ret (v:=sv p q r) (by simp[results,results39,go_sem,z,A,B]) rfl ?_;exact⟨p,q,r,rfl,D.out,d.out⟩
def Loc (w:World)(b:Nat):Prop:=∃p q r,SpOk p q/\w.heap[b]?=some (cO p q r)
variable {b:Nat}
theorem Loc.lt (h:Loc n b):b<n.heap.size:=by
 obtain⟨_,_,_,_,h⟩:=h;exact fJ h
theorem Loc.below {w d:World}(h:Loc w b)(e:Below w.heap.size w d):Loc d b:=by
 obtain⟨p,q,r,a,h⟩:=h;exact⟨p,q,r,a,(e.block b (fJ h)).trans h⟩
theorem Loc.new (w:World){p q:Int}(r:Bool)(h:SpOk p q):Loc (w.alloc (.cells #[.int .i64 p,.int .i64 q,.bool r] 29)) w.heap.size:=⟨p,q,r,h,jN _ _⟩
theorem Loc.old (h:Loc n b)(o:Obj):Loc (n.alloc o) b:=by
 obtain⟨p,q,r,a,h⟩:=h;exact⟨p,q,r,a,uD h⟩
abbrev rA (w:World)(b:Nat)(p q:Int)(r:Bool):World:=((w.setCell ⟨b,0,none⟩ (.int .i64 p)).setCell ⟨b,1,none⟩ (.int .i64 q)).setCell ⟨b,2,none⟩ (.bool r)
theorem aIG {i:Bool}(h:n.heap[b]?=some (cO x z i))(p q:Int)(r:Bool):(rA n b p q r).heap[b]?=some (cO p q r):=
 sF (sF (sF h (o:=0) (.int .i64 p)) (o:=1) (.int .i64 q)) (o:=2) (.bool r)
theorem aMi {c:Nat}(h:c≠b)(p q:Int)(r:Bool):(rA n b p q r).heap[c]?=n.heap[c]?:=by
 unfold rA;rw[Below.heap_setCell _ _ _ _ (by simpa using h),Below.heap_setCell _ _ _ _ (by simpa using h),Below.heap_setCell _ _ _ _ (by simpa using h)]
theorem Loc.put {c:Nat}{p q:Int}{r:Bool}(f:Loc n b)(h:Loc n c)(a:SpOk p q):Loc (rA n b p q r) c:=by
 obtain⟨x,y,z,d,h⟩:=h
 by_cases e:c=b
 .subst e;exact⟨p,q,r,a,aIG h p q r⟩
 .exact⟨x,y,z,d,(aMi e p q r).trans h⟩
open Go.Shelf Go.RowKit Go.Sort Go.Lib
def aHK:Go.Shelf.Ren:=⟨λ|171=>70|243=>99|246=>119|283=>136|284=>137|285=>138|286=>139|129=>155|317=>154|318=>156|319=>157|320=>158|337=>177|338=>178|n=>n,λ|3=>3|9=>9|2=>2|4=>4|171=>192|0=>0|53=>122|37=>61|5=>5|173=>195|212=>204|51=>130|20=>20|213=>205|46=>148|232=>227|233=>228|n=>n,λ|17=>0|18=>1|19=>2|n=>n⟩
theorem yD:Go.Proofs.LaysM.n171 prog aHK:={
 mixed:=by kernel_rfl
 f129:=func155.trans (congrArg some (by kernel_rfl))
 f171:=func70.trans (congrArg some (by kernel_rfl))
 f243:=func99.trans (congrArg some (by kernel_rfl))
 f246:=func119.trans (congrArg some (by kernel_rfl))
 f283:=func136.trans (congrArg some (by kernel_rfl))
 f284:=func137.trans (congrArg some (by kernel_rfl))
 f285:=func138.trans (congrArg some (by kernel_rfl))
 f286:=func139.trans (congrArg some (by kernel_rfl))
 f317:=func154.trans (congrArg some (by kernel_rfl))
 f318:=func156.trans (congrArg some (by kernel_rfl))
 f319:=func157.trans (congrArg some (by kernel_rfl))
 f320:=func158.trans (congrArg some (by kernel_rfl))
 f337:=func177.trans (congrArg some (by kernel_rfl))
 f338:=func178.trans (congrArg some (by kernel_rfl))
 t0:=underlying0
 a0:=Tryz.isAgg0
 z0:=Tryz.sizeOf0
 v0:=Tryz.zeroValue0
 t2:=underlying2
 a2:=Tryz.isAgg2
 z2:=Tryz.sizeOf2
 v2:=Tryz.zeroValue2
 t3:=underlying3
 a3:=Tryz.isAgg3
 z3:=Tryz.sizeOf3
 v3:=Tryz.zeroValue3
 t4:=underlying4
 a4:=Tryz.isAgg4
 z4:=Tryz.sizeOf4
 v4:=Tryz.zeroValue4
 t5:=underlying5
 a5:=Tryz.isAgg5
 z5:=Tryz.sizeOf5
 v5:=Tryz.zeroValue5
 t9:=underlying9
 a9:=Tryz.isAgg9
 z9:=Tryz.sizeOf9
 v9:=Tryz.zeroValue9
 t20:=underlying20
 a20:=Tryz.isAgg20
 z20:=Tryz.sizeOf20
 v20:=Tryz.zeroValue20
 t37:=underlying61
 a37:=Tryz.isAgg61
 z37:=Tryz.sizeOf61
 v37:=Tryz.zeroValue61
 t46:=underlying148
 a46:=Tryz.isAgg148
 z46:=Tryz.sizeOf148
 v46:=Tryz.zeroValue148
 t51:=underlying130
 a51:=Tryz.isAgg130
 z51:=Tryz.sizeOf130
 v51:=Tryz.zeroValue130
 t53:=underlying122
 a53:=Tryz.isAgg122
 z53:=Tryz.sizeOf122
 v53:=Tryz.zeroValue122
 t171:=underlying192
 a171:=Tryz.isAgg192
 z171:=Tryz.sizeOf192
 v171:=Tryz.zeroValue192
 t173:=underlying195
 a173:=Tryz.isAgg195
 z173:=Tryz.sizeOf195
 v173:=Tryz.zeroValue195
 t212:=underlying204
 a212:=Tryz.isAgg204
 z212:=Tryz.sizeOf204
 v212:=Tryz.zeroValue204
 t213:=underlying205
 a213:=Tryz.isAgg205
 z213:=Tryz.sizeOf205
 t232:=underlying227
 a232:=Tryz.isAgg227
 z232:=Tryz.sizeOf227
 v232:=Tryz.zeroValue227
 t233:=underlying228
 a233:=Tryz.isAgg228
 z233:=Tryz.sizeOf228
 v233:=Tryz.zeroValue228
 g17:=by kernel_rfl
 g18:=by kernel_rfl
 g19:=by kernel_rfl
 i0:=by kernel_rfl
 i2:=by kernel_rfl
 i3:=by kernel_rfl
 i4:=by kernel_rfl
 i5:=by kernel_rfl
 i9:=by kernel_rfl
 i20:=by kernel_rfl
 i37:=by kernel_rfl
 i46:=by kernel_rfl
 i51:=by kernel_rfl
 i53:=by kernel_rfl
 i171:=by kernel_rfl
 i173:=by kernel_rfl
 i212:=by kernel_rfl
 i232:=by kernel_rfl
 i233:=by kernel_rfl
 m17:=by kernel_rfl
 m18:=by kernel_rfl
 m19:=by kernel_rfl}
theorem aNY (n:Int)(h0:-9223372036854775808<=n)(h1:n<=9223372036854775807)(w:World)(htab:Lib.TabIs prog w "internal/strconv.uint64pow10" .u64 Lib.pow10Tab):
  Calls prog 70 #[.int .i64 n] w λe w'=>e=.returned (.string ⟨(Lib.itoa n).toArray⟩)/\∃k os,w'=grow (w.drewN k) os:=Any.strconv_Itoa yD n h0 h1 w htab
end Go.Proofs.YtpdflaaamaokbaaGreatDoor
namespace Go.Proofs.YtpdflaaamaokbaaGreatDoor
open Go.Proofs.Tryz
open Go.RowKit
def mE (w:World):Prop:=Lib.TabIs prog w "internal/strconv.uint64pow10" .u64 Lib.pow10Tab
variable {w:World}
theorem mE.below {b:World}(h:mE w)(a:Below w.heap.size w b):mE b:=Lib.tabBelow_of_tabIs h b a
theorem Nz (v:Int)(hv:Rd.cL v)(w:World)(b:mE w):
  Calls prog 70 #[.int .i64 v] w λe a=>∃s:ByteArray,e=.returned (.string s)/\s.data.toList=Rd.dec v/\s.size<=9/\Below w.heap.size w a:=by
 obtain⟨u,rfl⟩:∃u:Nat,v=u:=⟨v.toNat,by have:=hv.1;omega⟩
 refine(aNY u (by omega) (by have:=hv.2;omega) w b).mono ?_;rintro e a⟨rfl,k,os,rfl⟩;refine⟨_,rfl,?_,?_,Lib.below_grow _ _ (Nat.le_refl _) _ _⟩
 .rw[Lib.itoa_nonneg];simp[Rd.dec]
 .have:=Rd.xA hv;rw[Lib.itoa_nonneg]
  simpa[Rd.dec,ByteArray.size]using this
theorem aI6 (k:Int)(a:1<=k/\k<=13)(w:World):Calls prog 77 #[.int .i64 k] w λe b=>e=.returned (.int .i64 (Rd.aM k))/\w=b:=by
 have h:k=1\/k=2\/k=3\/k=4\/k=5\/k=6\/k=7\/k=8\/k=9\/k=10\/k=11\/k=12\/k=13:=by omega
 clear a
 rcases h with rfl|rfl|rfl|rfl|rfl|rfl|rfl|rfl|rfl|rfl|rfl|rfl|rfl
 all_goals
  go_enter func77,ntmps77
  go_wp2_with fail
  go_ret
  exact⟨rfl,rfl⟩
theorem Yy (k:Int)(a:2<=k/\k<=13)(w:World):Calls prog 76 #[.int .i64 k] w λe b=>e=.returned (.string ⟨(Rd.sym k).toArray⟩)/\w=b:=by
 have h:k=2\/k=3\/k=4\/k=5\/k=6\/k=7\/k=8\/k=9\/k=10\/k=11\/k=12\/k=13:=by omega
 clear a
 rcases h with rfl|rfl|rfl|rfl|rfl|rfl|rfl|rfl|rfl|rfl|rfl|rfl
 all_goals
  go_enter func76,ntmps76
  go_wp2_with fail
  go_ret
  exact⟨rfl,rfl⟩
theorem aO {p:Prop}(h:p):Hid p:=h
structure dH (s:ByteArray) (l:ON):Prop where
 eq:s.data.toList=l
theorem dH.size {s:ByteArray}{S:ON}(h:dH s S):s.size=S.length:=by
 rw[<-h.eq,Array.length_toList];rfl
variable {s:ByteArray}{S:ON}
theorem dH.app {t:ByteArray}{m:ON}(h:dH s S)(k:dH t m):dH (s++t) (S++m):=⟨by rw[<-h.eq,<-k.eq];simp[ByteArray.data_append]⟩
theorem dH.mk' (l:ON):dH ⟨l.toArray⟩ l:=⟨by simp⟩
theorem dH.to {m:ON}(h:dH s S)(e:S=m):dH s m:=e▸h
variable {n:World}
theorem aNW {tb:Nat}{ts:LN}{a:Array Value}(d:n.heap[tb]?=some (.cells a 3 (0,0)))(e:a.toList.take ts.length=ts.map (Value.int .i64))(k:Nat)(b:k<ts.length):
  n.cell? ⟨tb,k,none⟩=some (.int .i64 (ts.getD k 0)):=by
 refine aX d ?_
 have:(ts.map (Value.int .i64))[k]?=some (.int .i64 (ts.getD k 0)):=by
  simp[List.getD,List.getElem?_eq_getElem b]
 rw[<-e,List.getElem?_take_of_lt b]at this
 simpa using this
def Cd (w:World)(ts:LN)(b a:Value)(wr:World):Prop:=
 ∃(k:Nat) (s:ByteArray),a=.int .i64 k/\b=.string s/\k<=ts.length/\dH s (Rd.eW ts k)/\Below w.heap.size w wr
theorem aHN (W:Nat)(w:World)(ts:LN)(I:Value)(S:dA W w ts I)(H:2<=ts.length)(P:ts.length<=9)(A:∀x∈ts,Rd.cL x)(l:mE w):
  Calls prog 74 #[I] w λe X=>∃s:ByteArray,e=.returned (.string s)/\dH s (Rd.dZ ts)/\Below w.heap.size w X:=by
 rcases S with⟨h,_⟩|⟨tb,M,N,rfl,_,C,Y,D⟩
 .rw[h]at H;simp at H
 have p:=aO A
 have l0:(0:Int)<ts.length:=by omega
 have T:0<ts.length:=by omega
 have l1:(1:Int)<ts.length:=by omega
 have U:1<ts.length:=by omega
 have L:=aO l;clear A l
 go_enter func74,ntmps74
 go_wp2_with fail
 go_loopw [3,4] (λt i wr=>Cd w ts t i wr) (λ_ i _=>ts.length-(intOf i).toNat)
 case atStart=>exact⟨0,_,rfl,rfl,by omega,dH.mk' _,Below.refl _ _⟩
 case round=>
  obtain⟨k,s,rfl,rfl,hk,v,o⟩:=hrel
  have R:s.size<=102:=by have:=Rd.Yx p.out k;rw[v.size];omega
  by_cases z:(k:Int)<ts.length
  .have a:k<ts.length:=by omega
   have hc:=aNW (by rw[o.block tb (fJ C)];exact C) D k a;have b:=aO (Rd.aNJ p.out k);have f:=aO (L.out.below o);have q:=aO v;have j:=aO o;clear v o C D;have r:=aO (show Rd.eW ts (k+1)=Rd.eW ts k++(Rd.sep k++Rd.dec (ts.getD k 0))from rfl);generalize ts.getD k 0=x at hc b r;have d:=aO (show Rd.sep k=Rd.sep k from rfl)
   by_cases y:(k:Int)=0
   .obtain rfl:k=0:=by omega
    clear d y z
    go_wp2_with (go_at_call 70;refine(Nz _ b.out _ f.out).mono ?_;rintro e J⟨u,rfl,B,n,g⟩)
    go_roundw
    case rel=>exact⟨1,_,by simp,rfl,a,(q.out.app ⟨B⟩).to (by rw[r.out];rfl),j.out.trans (g.mono j.out.size)⟩
    case measure=>simp[intOf];omega
   .by_cases E:(k:Int)=1
    .obtain rfl:k=1:=by omega
     clear d y E z
     go_wp2_with (go_at_call 70;refine(Nz _ b.out _ f.out).mono ?_;rintro e J⟨u,rfl,B,n,g⟩)
     go_roundw
     case rel=>exact⟨2,_,by simp,rfl,a,((q.out.app (dH.mk' [59,32])).app ⟨B⟩).to (by rw[r.out];simp[Rd.sep]),j.out.trans (g.mono j.out.size)⟩
     case measure=>simp[intOf];omega
    .have F:Rd.sep k=[44,32]:=by
      unfold Rd.sep;rw[show(k==0)=false by simp;omega,show(k==1)=false by simp;omega];rfl
     rw[F]at r;clear F d
     have O:(1:Int)<k:=by omega
     go_wp2_with (go_at_call 70;refine(Nz _ b.out _ f.out).mono ?_;rintro e J⟨u,rfl,B,n,g⟩)
     go_roundw
     case rel=>exact⟨k+1,_,by simp,rfl,a,((q.out.app (dH.mk' [44,32])).app ⟨B⟩).to (by rw[r.out];simp),j.out.trans (g.mono j.out.size)⟩
     case measure=>simp[intOf];omega
  .obtain rfl:k=ts.length:=by omega
   have q:=aO v;have j:=aO o;clear v o C D
   go_wp2_with fail
   go_ret
   exact⟨_,rfl,q.out.app (dH.mk' [93]),j.out⟩
def SpV (v:Value):Prop:=∃p q r,v=sv p q r/\SpOk p q
def gH (f:FuncId):Prop:=∀d w,(callFunc f d).run prog w=.ok (.enter f d) w
theorem sG {f:FuncId}{fn:Func}(hf:prog.funcs[f]?=some fn)(hn:(fn.name == "runtime.NumGoroutine")=false)(hb:fn.body.isNone=false):gH f:=by
 intro xs w
 have hn':¬fn.name = "runtime.NumGoroutine":=by simpa using hn
 have hb':¬fn.body=none:=by intro e;rw[e]at hb;cases hb
 simp[callFunc,hf,hn',hb']
inductive Ki where
 |ld (j b:Nat)
 |mv (x:Value)
 |ca (f:FuncId)
 |al
 |st (j b:Nat)
 |sn (k:Nat)
 |tx (l:ON)
def kF (ks:List Ki)(B:Nat)(i:Nat)(v:Value)(w:World):Prop:=match ks[i]? with
 |some (.ld _ _)=>SpV v
 |some (.ca _)=>SpV v
 |some (.mv x)=>v=x
 |some .al=>∃b,v=.pointer (some ⟨b,0,none⟩)/\B<=b/\Loc w b
 |some (.tx l)=>∃u,v=.string u/\dH u l
 |_=>True
variable {B:Nat}
theorem Lf {ks:List Ki}{d:World}(h:∀b,Loc w b->Loc d b)(k:Nat)(u:Value)(l:kF ks B k u w):kF ks B k u d:=by
 revert l;unfold kF;generalize ks[k]?=x
 cases x with
 |none=>exact id
 |some x=>
  cases x with
  |al=>
   rintro⟨b,e,f,g⟩;exact⟨b,e,f,h b g⟩
  |_=>exact id
def SW (B:Nat)(w0:World)(bs:NU)(w:World):Prop:=(B<=w0.heap.size/\Below B w0 w)/\∀b∈bs,B<=b/\Loc w b
theorem SW.below {B:Nat}{w0 w J:World}{bs:NU}(h:SW B w0 bs w)(d:Below w.heap.size w J):SW B w0 bs J:=⟨⟨h.1.1,h.1.2.trans (d.mono (Nat.le_trans h.1.1 h.1.2.size))⟩,λb e=>⟨(h.2 b e).1,(h.2 b e).2.below d⟩⟩
theorem SW.put {B:Nat}{w0 w:World}{bs:NU}{b:Nat}{p q:Int}{r:Bool}(h:SW B w0 bs w)(d:B<=b)(g:Loc w b)(e:SpOk p q):SW B w0 bs (rA w b p q r):=⟨⟨h.1.1,((h.1.2.setCell d _).setCell d _).setCell d _⟩,λc f=>⟨(h.2 c f).1,Loc.put g (h.2 c f).2 e⟩⟩
theorem SW.drew {B:Nat}{w0 w:World}{bs:NU}(h:SW B w0 bs w):SW B w0 bs w.drew:=⟨⟨h.1.1,⟨h.1.2.os,h.1.2.tape,h.1.2.output,h.1.2.size,h.1.2.block⟩⟩,h.2⟩
theorem SW.new {B:Nat}{w0 w:World}{bs:NU}(h:SW B w0 bs w){p q:Int}(r:Bool)(d:SpOk p q):SW B w0 (w.heap.size::bs) (w.alloc (.cells #[.int .i64 p,.int .i64 q,.bool r] 29)):=by
 have f:=Nat.le_trans h.1.1 h.1.2.size;refine⟨⟨h.1.1,h.1.2.alloc f _⟩,λb g=>?_⟩
 rcases List.mem_cons.1 g with e|e
 .rw[e];exact⟨f,Loc.new w r d⟩
 .exact⟨(h.2 b e).1,(h.2 b e).2.old _⟩
variable {bs:NU}
theorem SW.join {k:Nat}{w0 l:World}{cs f:NU}(h:SW B w0 bs l)(d:SW k l cs w)(g:B<=k)(y:∀b∈f,b∈cs\/(b<k/\b∈bs)):SW B w0 f w:=by
 refine⟨⟨h.1.1,h.1.2.trans (d.1.2.mono g)⟩,λb z=>?_⟩
 rcases y b z with e|⟨n,s⟩
 .exact⟨Nat.le_trans g (d.2 b e).1,(d.2 b e).2⟩
 .obtain⟨u,p,q,r,v,x⟩:=h.2 b s;exact⟨u,p,q,r,v,by rw[d.1.2.block b n];exact x⟩
theorem SW.add {w0:World}{b:Nat}(h:SW B w0 bs w)(d:B<=b)(f:Loc w b):SW B w0 (b::bs) w:=⟨h.1,λc g=>by
 rcases List.mem_cons.1 g with e|e
 .rw[e];exact⟨d,f⟩
 .exact h.2 c e⟩
section
variable {a:Act} {w w0:World} {o:Oper} {K:LL} {Q:AW} {i j b B:Nat} {ops:Array Oper} {ks:List Ki} {bs:NU}
theorem aXO (f:o.op=.load 29 (.tmp j))(l:a.tmps[j]?=some (.pointer (some ⟨b,0,none⟩)))(h:Loc w b)(g:∀v,SpV v->K (a.put o.dst v) w):Oper.wp prog o a w K Q:=by
 obtain⟨p,q,r,d,k⟩:=h;obtain⟨c0,c1,c2⟩:=qP k rfl rfl rfl
 have e:a.eval (.tmp j)=.pointer (some ⟨b,0,none⟩):=by simp[Act.eval,Array.getD_eq_getD_getElem?,l]
 have:(execOp a.eval o).run prog w=.ok (.value (sv p q r)) w:=by
  unfold execOp;rw[f];simp only[e]
  go_simp
 unfold Oper.wp;rw[this,Oper.upon_value];exact g _ ⟨p,q,r,rfl,d⟩
variable {ts:Array TypeId}
theorem aXN {B:FuncId}{args:Array Operand}(g:o.op=.call { callee:=.value (.func B),args:=args,argTypes:=ts})(s:gH B)(k:Calls prog B (args.map a.eval) w (aU w))(l:∀v h,SpV v->Below w.heap.size w h->K (a.put o.dst v) h):Oper.wp prog o a w K Q:=by
 have:(execOp a.eval o).run prog w=.ok (.enter B (args.map a.eval)) w:=by
  unfold execOp;rw[g];simp[resolve,Act.eval,Deferred.ofValue,invoke];exact s _ _
 unfold Oper.wp;rw[this,Oper.upon_enter];refine k.mono ?_;rintro e h⟨p,q,r,rfl,d,n⟩;exact l _ _ ⟨p,q,r,rfl,d⟩ n
theorem aXM (d:o.op=.alloc 29)(e:K (a.put o.dst (.pointer (some ⟨w.heap.size,0,none⟩))) (w.alloc (.cells #[.int .i64 0,.int .i64 0,.bool false] 29))):Oper.wp prog o a w K Q:=by
 unfold Oper.wp execOp;rw[d]
 go_simp
 exact e
theorem aWm {x y:Operand}{p q:Int}{r:Bool}(d:o.op=.store 29 x y)(k:a.eval x=.pointer (some ⟨b,0,none⟩))(l:a.eval y=sv p q r)(f:Loc w b)(e:K (a.put o.dst undef) (rA w b p q r)):Oper.wp prog o a w K Q:=by
 obtain⟨n,s,u,h,g⟩:=f;obtain⟨c0,c1,c2,f0,f1,f2⟩:=Ea g rfl rfl rfl;unfold Oper.wp execOp;rw[d];simp only[k,l]
 go_simp
 exact e
structure At (ops:Array Oper) (ks:List Ki) (B:Nat) (w0:World) (bs:NU) (a0 a:Act) (w:World) (o:Oper):Prop where
 s:SW B w0 bs w
 dp:∀e∈o.after,Region.binds .any e=true->∀(p:Oper) (d:Nat),ops[e.on]?=some p->p.dst=some d->∃v,a.tmps[d]?=some v/\kF ks B e.on v w
 fr:∀j,(∀(i:Nat) (o:Oper),ops[i]?=some o->o.dst≠some j)->a.tmps[j]?=a0.tmps[j]?
def nO (ks:List Ki)(B:Nat)(w0:World)(bs:NU)(i:Nat)(a:Act)(w:World)(o:Oper)(K:LL):Prop:=∀v d,kF ks B i v d->SW B w0 bs d->(∀k u,kF ks B k u w->kF ks B k u d)->K (a.put o.dst v) d
def iP (ops:Array Oper)(j:Nat):Bool:=ops.toList.all λo=>o.dst != some j
theorem Pd (h:iP ops j=true)(i:Nat)(o:Oper)(d:ops[i]?=some o):o.dst≠some j:=by
 have:=List.all_eq_true.1 h o (Array.mem_toList_iff.2 (Array.mem_of_getElem? d))
 simpa using this
def cR (ops:Array Oper)(o:Oper)(k d:Nat):Bool:=(o.after.toList.any λe=>Region.binds .any e&&e.on==k)&&(match ops[k]? with
 |some p=>p.dst==some d
 |none=>false)
variable {a0:Act}
theorem At.of {k d:Nat}(A:At ops ks B w0 bs a0 a w o)(h:cR ops o k d=true):∃v,a.eval (.tmp d)=v/\kF ks B k v w:=by
 unfold cR at h;rw[Bool.and_eq_true]at h;obtain⟨r,f⟩:=h;obtain⟨e,x,g⟩:=List.any_eq_true.1 r;rw[Bool.and_eq_true,beq_iff_eq]at g;obtain⟨g,s⟩:=g
 cases l:ops[k]? with
 |none=>rw[l]at f;cases f
 |some p=>
  rw[l]at f
  have u:p.dst=some d:=by simpa using f
  subst s;obtain⟨v,n,q⟩:=A.dp e (Array.mem_toList_iff.1 x) g p d l u;exact⟨v,by simp[Act.eval,Array.getD_eq_getD_getElem?,n],q⟩
def argP (ks:List Ki):Operand->Option Nat->Value->Prop
 |.const c,_,v=>v=c
 |_,some k,v=>match ks[k]? with
  |some (.mv x)=>v=x
  |_=>SpV v
 |_,none,_=>False
def nF (ops:Array Oper)(ks:List Ki)(o:Oper):Operand->Option Nat->Bool
 |.const _,_=>true
 | .tmp d,some k=>cR ops o k d&&(match ks[k]? with
  |some (.ld _ _)=>true
  |some (.mv _)=>true
  |some (.ca _)=>true
  |_=>false)
 |_,_=>false
def Alls:List (Value->Prop)->List Value->Prop
 | [],[]=>True
 |p::d,v::e=>p v/\Alls d e
 |_,_=>False
theorem At.arg (A:At ops ks B w0 bs a0 a w o):∀{x:Operand} {s:FF},nF ops ks o x s=true->argP ks x s (a.eval x)
 |.const c,_,_=>rfl
 |.tmp d,some k,h=>by
  unfold nF at h;rw[Bool.and_eq_true]at h;obtain⟨v,l,f⟩:=A.of h.1;have e:=h.2;rw[l];unfold kF at f
  show match ks[k]? with
   |some (.mv x)=>v=x
   |_=>SpV v
  cases g:ks[k]? with
  |none=>rw[g]at e;cases e
  |some x=>
   rw[g]at f e
   cases x<;>first|exact f|cases e
 |.tmp _,none,h=>by cases h
 |.global _,_,h=>by cases h
 |.func _,_,h=>by cases h
theorem At.args {a0:Act}(A:At ops ks B w0 bs a0 a w o):∀(d:List Operand) (e:List (Option Nat)),d.length=e.length->((d.zip e).all λp=>nF ops ks o p.1 p.2)=true->Alls ((d.zip e).map λp=>argP ks p.1 p.2) (d.map a.eval)
 | [],[],_,_=>trivial
 |x::d,s::e,f,h=>by
  simp only[List.zip_cons_cons,List.all_cons,Bool.and_eq_true]at h;exact⟨A.arg h.1,At.args A d e (by simpa using f) h.2⟩
 | [],_::_,h,_=>by cases h
 |_::_,[],h,_=>by cases h
theorem iQ (A:At ops ks B w0 bs a0 a w o)(N:nO ks B w0 bs i a w o K)(j b:Nat)(g:o.guard=none)(d:o.op=.load 29 (.tmp j))(k:ks[i]?=some (.ld j b))(f:iP ops j=true)(l:a0.tmps[j]?=some (.pointer (some ⟨b,0,none⟩)))(e:b∈bs):if Region.wanted o (yielded ops a.tmps)=true then Oper.wp prog o a w K Q else K (a.put o.dst undef) w:=by
 rw[if_pos (by unfold Region.wanted;rw[g])]
 exact aXO d (by rw[A.fr j (Pd f)];exact l) (A.s.2 b e).2 λv hv=>N v w (by unfold kF;rw[k];exact hv) A.s λ_ _ h=>h
theorem bV (A:At ops ks B w0 bs a0 a w o)(N:nO ks B w0 bs i a w o K){f:FuncId}{args:Array Operand}(e:List (Option Nat))(x:o.guard=none)(g:o.op=.call { callee:=.value (.func f),args:=args,argTypes:=ts})(y:ks[i]?=some (.ca f))(z:args.toList.length=e.length)(d:((args.toList.zip e).all λp=>nF ops ks o p.1 p.2)=true)(r:gH f)(n:∀l,Alls ((args.toList.zip e).map λp=>argP ks p.1 p.2) l->∀w,Calls prog f l.toArray w (aU w)):if Region.wanted o (yielded ops a.tmps)=true then Oper.wp prog o a w K Q else K (a.put o.dst undef) w:=by
 rw[if_pos (by unfold Region.wanted;rw[x])];have:=n _ (A.args args.toList e z d) w;rw[show(args.toList.map a.eval).toArray=args.map a.eval by apply Array.toList_inj.1;simp]at this
 exact aXN g r this λv C hv d=>N v C (by unfold kF;rw[y];exact hv) (A.s.below d) λk u h=>Lf (λb q=>q.below d) k u h
variable {x:Value}
theorem sS (A:At ops ks B w0 bs a0 a w o)(N:nO ks B w0 bs i a w o K)(j:Nat)(g:o.guard=none)(d:o.op=.move (.tmp j))(k:ks[i]?=some (.mv x))(f:iP ops j=true)(l:a0.tmps[j]?=some x):if Region.wanted o (yielded ops a.tmps)=true then Oper.wp prog o a w K Q else K (a.put o.dst undef) w:=by
 rw[if_pos (by unfold Region.wanted;rw[g])]
 have e:a.eval (.tmp j)=x:=by simp[Act.eval,Array.getD_eq_getD_getElem?,A.fr j (Pd f),l]
 have:(execOp a.eval o).run prog w=.ok (.value x) w:=by
  unfold execOp;rw[d];simp[e]
 unfold Oper.wp;rw[this,Oper.upon_value]
 exact N x w (by unfold kF;rw[k]) A.s λ_ _ h=>h
theorem aZ5 (A:At ops ks B w0 bs a0 a w o)(N:nO ks B w0 bs i a w o K)(g:o.guard=none)(d:o.op=.alloc 29)(l:ks[i]?=some .al):if Region.wanted o (yielded ops a.tmps)=true then Oper.wp prog o a w K Q else K (a.put o.dst undef) w:=by
 rw[if_pos (by unfold Region.wanted;rw[g])];have e:Below w.heap.size w (w.alloc (.cells #[.int .i64 0,.int .i64 0,.bool false] 29)):=(Below.refl _ _).alloc (Nat.le_refl _) _;exact aXM d (N _ _ (by unfold kF;rw[l];exact⟨_,rfl,Nat.le_trans A.s.1.1 A.s.1.2.size,Loc.new w false SpOk.zero⟩) (A.s.below e) λk u h=>Lf (λb f=>f.below e) k u h)
theorem jG (A:At ops ks B w0 bs a0 a w o)(N:nO ks B w0 bs i a w o K)(j b d k:Nat)(C:o.guard=none)(l:o.op=.store 29 (.tmp j) (.tmp d))(D:ks[i]?=some (.st j b))(z:iP ops j=true)(E:a0.tmps[j]?=some (.pointer (some ⟨b,0,none⟩)))(y:b∈bs)(F:nF ops ks o (.tmp d) (some k)=true)(hv:∀v,argP ks (.tmp d) (some k) v->SpV v):if Region.wanted o (yielded ops a.tmps)=true then Oper.wp prog o a w K Q else K (a.put o.dst undef) w:=by
 rw[if_pos (by unfold Region.wanted;rw[C])];obtain⟨p,q,r,e,f⟩:=hv _ (A.arg F);obtain⟨n,g⟩:=A.s.2 b y;exact aWm l (by simp[Act.eval,Array.getD_eq_getD_getElem?,A.fr j (Pd z),E]) e g (N _ _ (by unfold kF;rw[D];trivial) (A.s.put n g f) λk u h=>Lf (λc x=>Loc.put g x f) k u h)
theorem aZ8 (A:At ops ks B w0 bs a0 a w o)(N:nO ks B w0 bs i a w o K)(j n d k:Nat)(E:o.guard=none)(x:o.op=.store 29 (.tmp j) (.tmp d))(H:ks[i]?=some (.sn n))(I:ks[n]?=some .al)(F:cR ops o n j=true)(J:nF ops ks o (.tmp d) (some k)=true)(hv:∀v,argP ks (.tmp d) (some k) v->SpV v):if Region.wanted o (yielded ops a.tmps)=true then Oper.wp prog o a w K Q else K (a.put o.dst undef) w:=by
 rw[if_pos (by unfold Region.wanted;rw[E])];obtain⟨p,q,r,e,f⟩:=hv _ (A.arg J);obtain⟨v,y,g⟩:=A.of F;unfold kF at g;rw[I]at g;obtain⟨b,z,C,l⟩:=g;exact aWm x (by rw[y,z]) e l (N _ _ (by unfold kF;rw[H];trivial) (A.s.put C l f) λk u h=>Lf (λc D=>Loc.put l D f) k u h)
variable {p:Value->Prop}
theorem zT {a:LB}(h:Alls [p] a):∃x,a=[x]/\p x:=by
 match a,h with
 | [x],⟨d,_⟩=>exact⟨x,rfl,d⟩
 | [],h=>exact h.elim
 |_::_::_,⟨_,h⟩=>exact h.elim
theorem zU {q:Value->Prop}{a:LB}(h:Alls [p,q] a):∃x y,a=[x,y]/\p x/\q y:=by
 match a,h with
 |x::a,⟨d,e⟩=>
  obtain⟨y,rfl,f⟩:=zT e;exact⟨x,y,rfl,d,f⟩
 | [],h=>exact h.elim
theorem cSS {B:FuncId}(h:∀a b k c d m w,SpOk a b->SpOk c d->Calls prog B #[sv a b k,sv c d m] w (aU w))(e:LB)(hv:Alls [SpV,SpV] e)(w:World):Calls prog B e.toArray w (aU w):=by
 obtain⟨_,_,rfl,⟨a,b,k,rfl,g⟩,c,d,m,rfl,l⟩:=zU hv;exact h a b k c d m w g l
theorem cS {B:FuncId}(h:∀a b k w,SpOk a b->Calls prog B #[sv a b k] w (aU w))(d:LB)(hv:Alls [SpV] d)(w:World):Calls prog B d.toArray w (aU w):=by
 obtain⟨_,rfl,a,b,k,rfl,e⟩:=zT hv;exact h a b k w e
theorem cSI {B:FuncId}(h:∀a b k w,SpOk a b->Calls prog B #[sv a b k,x] w (aU w))(d:LB)(hv:Alls [SpV,λv=>v=x] d)(w:World):Calls prog B d.toArray w (aU w):=by
 obtain⟨_,_,rfl,⟨a,b,k,rfl,e⟩,rfl⟩:=zU hv;exact h a b k w e
theorem cII {B:FuncId}{g:Value}(h:∀w,Calls prog B #[x,g] w (aU w))(d:LB)(hv:Alls [λv=>v=x,λv=>v=g] d)(w:World):Calls prog B d.toArray w (aU w):=by
 obtain⟨_,_,rfl,rfl,rfl⟩:=zU hv;exact h w
theorem Gv (a b:Int)(h:a<=b):∀d,Alls [λv=>v=.int .i64 a,λv=>v=.int .i64 b] d->∀w,Calls prog 32 d.toArray w (aU w):=cII λw=>(xJ a b w).mono λ_ _=>cM.sp h
theorem kH:∀e,Alls [SpV,SpV] e->∀w,Calls prog 35 e.toArray w (aU w):=cSS λa b k c d m w h f=>aMP a b k c d m w h f
theorem qO:∀e,Alls [SpV,SpV] e->∀w,Calls prog 38 e.toArray w (aU w):=cSS λa b k c d m w h f=>aJO a b k c d m w h f
theorem pZ:∀d,Alls [SpV] d->∀w,Calls prog 36 d.toArray w (aU w):=cS λa b k w h=>aQt a b k w h
theorem Qm (p q:Int)(e:0<=p)(f:p<=1000)(g:1<=q)(h:q<=1000):∀d,Alls [λv=>v=.int .i64 p,λv=>v=.int .i64 q] d->∀w,Calls prog 16 d.toArray w (aU w):=cII λw=>(Ug p q w e f g h).mono λ_ _=>cM.sp (Ht (by omega) (Int.le_refl _))
theorem Qk:∀d,Alls [SpV] d->∀w,Calls prog 37 d.toArray w (aU w):=cS λa b k w h=>(Oy a b k w h).mono λ_ _ ⟨e,f⟩=>⟨_,_,_,e,h.neg,f⟩
theorem Rc:gH 16:=sG func16 rfl rfl
theorem Ra:gH 37:=sG func37 rfl rfl
theorem Gy:gH 32:=sG func32 rfl rfl
theorem kJ:gH 35:=sG func35 rfl rfl
theorem qQ:gH 38:=sG func38 rfl rfl
theorem qC:gH 36:=sG func36 rfl rfl
theorem pW {id:Nat}(ks:List Ki)(bs:NU)(f:SW B w0 bs n)(k:mF ops a0.tmps.size=true)(g:zR ops=true)
  (step:∀(i:Nat) (h:i<ops.size) (a:Act) (w:World) (K:LL),At ops ks B w0 bs a0 a w ops[i]->nO ks B w0 bs i a w ops[i] K->if Region.wanted ops[i] (yielded ops a.tmps)=true then Oper.wp prog ops[i] a w K Q else K (a.put ops[i].dst undef) w)
  (e:∀(l:Nat->Value) (w:World),SW B w0 bs w->(∀(i:Nat) (o:Oper) (d:Nat),ops[i]?=some o->o.dst=some d->kF ks B i (l i) w)->Q .normal ⟨cA a0.tmps (dl l ops.toList 0),a0.defers⟩ w):(Code.region id ops true).wp prog Q a0 n:=
 aIM (S:=SW B w0 bs) (F:=kF ks B) (by kernel_rfl) k g f.drew (λi o s a w f q r K p=>by
  obtain⟨hi,rfl⟩:=Array.getElem?_eq_some_iff.1 s
  exact step i hi a w K ⟨f,q,r⟩ p) e
end
open Go.Deep (BT)
def pickI (c:Int)(n:Nat):Nat:=if c<0 then((-(c+1))%(n:Int)).toNat else(c%(n:Int)).toNat
theorem yP (c:Int)(n:Nat)(a:0<n):pickI c n<n:=by
 unfold pickI;split
 .have:=Int.emod_lt_of_pos (-(c+1)) (show(0:Int)<n by omega);omega
 .have:=Int.emod_lt_of_pos c (show(0:Int)<n by omega);omega
theorem xG (c:Int)(n:Nat)(w:World)(d:-9223372036854775808<=c)(f:c<=9223372036854775807)(h:0<n)(g:n<=4000000):
  Calls prog 6 #[.int .i64 c,.int .i64 n] w λe b=>e=.returned (.int .i64 (pickI c n))/\w=b:=by
 by_cases hc:c<0
 .have a:-(c+1).tmod (n:Int)=(pickI c n:Int):=by
   rw[pickI,if_pos hc,<-Int.neg_tmod,Int.tmod_eq_emod_of_nonneg (by omega),Int.toNat_of_nonneg (Int.emod_nonneg _ (by omega))]
  generalize pickI c n=i at*;have E:=aC a;clear a
  go_enter func6,ntmps6
  go_wp2_with fail
  go_ret
  exact⟨yM E.out,rfl⟩
 .have a:c%(n:Int)=(pickI c n:Int):=by
   rw[pickI,if_neg hc,Int.toNat_of_nonneg (Int.emod_nonneg _ (by omega))]
  generalize pickI c n=i at*;have E:=aC a;clear a
  go_enter func6,ntmps6
  go_wp2_with fail
  go_ret
  exact⟨yM E.out,rfl⟩
def jX (w:World)(l:ON)(e:Ending)(a:World):Prop:=∃u,e=.returned (.string u)/\dH u l/\Below w.heap.size w a
theorem aLK (wr:World)(x:Nat)(b:x<10):(convert 61 9 (.slice (some ⟨wr.heap.size,0,none⟩) 1 1)).run prog (wr.alloc (.cells #[.int .u8 (48+(x:Int))] 5))=.ok (.string ⟨#[UInt8.ofNat (48+x)]⟩) (wr.alloc (.cells #[.int .u8 (48+(x:Int))] 5)):=by
 have h:((UInt8.ofNat (48+x)).toNat:Int)=48+(x:Int):=by
  rw[UInt8.toNat_ofNat'];omega
 refine run_convert_bytes_back (P:=prog) _ 61 9 5 ⟨wr.heap.size,0,none⟩ 1 [UInt8.ofNat (48+x)] underlying61 underlying5 underlying9 ?_;intro j a
 obtain rfl:j=0:=by simpa using a
 show _=some (Value.int .u8 ((UInt8.ofNat (48+x)).toNat:Int));rw[h];exact aX (jN _ _) rfl
theorem aSI (W:World)(b x:Nat)(h:W.cell? ⟨b,0,none⟩=some (.int .u8 (48+(x:Int)%10))):(convert 61 9 (.slice (some ⟨b,0,none⟩) 1 1)).run prog W=.ok (.string ⟨#[UInt8.ofNat (48+x%10)]⟩) W:=by
 have d:((UInt8.ofNat (48+x%10)).toNat:Int)=48+(x:Int)%10:=by
  rw[UInt8.toNat_ofNat'];omega
 refine run_convert_bytes_back (P:=prog) _ 61 9 5 ⟨b,0,none⟩ 1 [UInt8.ofNat (48+x%10)] underlying61 underlying5 underlying9 ?_;intro j a
 obtain rfl:j=0:=by simpa using a
 show _=some (Value.int .u8 ((UInt8.ofNat (48+x%10)).toNat:Int));rw[d]
 simpa[Addr.add]using h
theorem yI {a b:ByteArray}{m:ON}(d:dH a S)(e:dH b m)(h:S.length+m.length<=9000000):
  ∃y:ByteArray,(∀W:World,(Op.stringOp .add a b).run prog W=.ok (.string y) W)/\dH y (S++m):=
 ⟨a++b,λW=>run_string_add_sum W a b (by rw[d.size,e.size];omega),d.app e⟩
variable {b:World}
theorem aH7 {v z:Int}(h:v=z)(a:Below (n.alloc (.cells #[.int .u8 v] 5)).drew.heap.size (n.alloc (.cells #[.int .u8 v] 5)).drew b):b.cell? ⟨n.heap.size,0,none⟩=some (.int .u8 z):=by
 subst h;have e:(n.alloc (.cells #[.int .u8 v] 5)).cell? ⟨n.heap.size,0,none⟩=some (.int .u8 v):=aX (o:=0) (jN n _) rfl;refine(a.cell (p:=⟨n.heap.size,0,none⟩) ?_).trans e;show n.heap.size<(n.alloc (.cells #[.int .u8 v] 5)).heap.size;simp
theorem Gs (h:Below n.drew.heap.size n.drew b)(o:Obj):Below n.heap.size n (b.alloc o):=by
 have a:Below n.heap.size n b:=⟨h.os,h.tape,h.output,h.size,h.block⟩
 exact a.alloc a.size o
theorem Gt {o:Obj}(h:Below (n.alloc o).drew.heap.size (n.alloc o).drew b):Below n.heap.size n b:=by
 have d:Below (n.alloc o).heap.size (n.alloc o) b:=⟨h.os,h.tape,h.output,h.size,h.block⟩
 have a:Below n.heap.size n (n.alloc o):=(Below.refl _ _).alloc (Nat.le_refl _) o;exact a.trans (d.mono a.size)
theorem aGF (x:Nat)(w:World)(a:x<10):Calls prog 14 #[.int .i64 x] w (jX w (Rd.dec x)):=by
 have b:=aLK w x a
 go_enter func14,ntmps14
 go_wp2_with fail
 go_ret
 refine⟨_,rfl,⟨?_⟩,(Below.refl _ _).alloc (Nat.le_refl _) _⟩;show [48+UInt8.ofNat x]=Rd.dec x;rw[Rd.dec,Int.toNat_natCast,Lib.decDigits_one a,UInt8.ofNat_add];rfl
theorem aMg (x:Nat)(w:World)(A:10<=x)(C:x<100):Calls prog 14 #[.int .i64 x] w (jX w (Rd.dec x)):=by
 have N:Hid (∀(y:Int) (w:World),y=((x/10:Nat):Int)->Calls prog 14 #[.int .i64 y] w (jX w (Rd.dec (x/10:Nat)))):=by
  rintro y w rfl;exact aGF (x/10) w (by omega)
 have q:=λW b h=>aSI W b x h
 have r:IntKind.u8.wrap (IntKind.i64.wrap (48+(x:Int).tmod 10))=48+(x:Int)%10:=by
  rw[Int.tmod_eq_emod_of_nonneg (by omega),IntKind.wrap_i64,IntKind.wrap_u8];omega
 have B:(Rd.dec ((x/10:Nat):Int)).length<=9:=Rd.xA ⟨by omega,by omega⟩
 go_enter func14,ntmps14
 go_wp2_with fail
 go_region_with (go_at_call 14;refine(N.out _ _ (by first|rfl|omega|(rw[IntKind.wrap_i64];omega))).mono ?_;rintro e D⟨u,rfl,j,i⟩;(first|have a:=aH7 r i|have a:=aH7 (rfl:(48+(x:Int)%10)=48+(x:Int)%10) i|have a:=0);obtain⟨y1,s,d⟩:=yI j (dH.mk' [UInt8.ofNat (48+x%10)]) (show(Rd.dec ((x/10:Nat):Int)).length+1<=9000000 by omega);obtain⟨y2,v,f⟩:=yI j (dH.mk' [48+UInt8.ofNat (x%10)]) (show(Rd.dec ((x/10:Nat):Int)).length+1<=9000000 by omega);have z:=aC j;have g:=aC i;clear j i)
 all_goals
  have k:Rd.dec ((x/10:Nat):Int)++[UInt8.ofNat (48+x%10)]=Rd.dec x:=by
   have p:Lib.decDigits x=Lib.decDigits (x/10)++[UInt8.ofNat (48+x%10)]:=by
    conv=>lhs;rw[Lib.decDigits,dif_neg (by omega)]
   rw[Rd.dec,Rd.dec,Int.toNat_natCast,Int.toNat_natCast,p]
  have o:Rd.dec ((x/10:Nat):Int)++[48+UInt8.ofNat (x%10)]=Rd.dec x:=by
   rw[<-k,UInt8.ofNat_add];rfl
  have l:=aC k;have n:=aC o;clear k o
  go_wp2_with fail
  go_ret
  first
   |exact⟨_,rfl,d.to l.out,Gs g.out _⟩
   |exact⟨_,rfl,d.to l.out,Gt g.out⟩
   |exact⟨_,rfl,f.to n.out,Gs g.out _⟩
   |exact⟨_,rfl,f.to n.out,Gt g.out⟩
theorem Zj (x:Nat)(w:World)(a:x<100):Calls prog 14 #[.int .i64 x] w (jX w (Rd.dec x)):=by
 rcases Nat.lt_or_ge x 10 with h|h
 .exact aGF x w h
 .exact aMg x w h a
end Go.Proofs.YtpdflaaamaokbaaGreatDoor
