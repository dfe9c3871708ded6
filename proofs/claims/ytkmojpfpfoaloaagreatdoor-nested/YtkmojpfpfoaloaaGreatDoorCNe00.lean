import Derived.Tactics2
import Derived.Below
import Derived.Orders
import Derived.LoopN
import Derived.Laws.Sem
set_option linter.all false
set_option maxRecDepth 100000
set_option maxHeartbeats 2000000
namespace Go.Proofs.YtkmojpfpfoaloaaGreatDoor
open Go.RowKit
namespace Ab
abbrev One (v:Value):Prop:=v.oneCell'=true
def Ph (bt:List TypeId):Obj->Bool
 |.cells _ ty _=>bt.contains ty
 |_=>false
structure On (bt:List TypeId) (w W:World):Prop where
 os:W.os=w.os
 tape:W.tape=w.tape
 output:W.output=w.output
 size:w.heap.size<=W.heap.size
 cD:∀(k:Nat) (o:Obj),w.heap[k]?=some o->W.heap[k]?=some o\/(Ph bt o=true/\W.shape? k=w.shape? k)
theorem On.refl (bt:List TypeId)(w:World):On bt w w:=⟨rfl,rfl,rfl,Nat.le_refl _,fun _ _ h=>Or.inl h⟩
theorem On.trans {bt:List TypeId}{a b c:World}(h:On bt a b)(g:On bt b c):On bt a c:=
 ⟨g.os.trans h.os,g.tape.trans h.tape,g.output.trans h.output,Nat.le_trans h.size g.size,fun k o f=>by
  rcases h.cD k o f with e|⟨e,d⟩
  ·rcases g.cD k o e with i|⟨i,p⟩
   ·exact Or.inl i
   ·exact Or.inr ⟨i,by rw[p];unfold World.shape?;rw[e,f]⟩
  ·refine Or.inr ⟨e,?_⟩
   -- the block is a box at b,too
   cases o with
   |cells cs ty m=>
    have l:a.shape? k=some (ty,cs.size):=by unfold World.shape?;rw[f]
    rw[l]at d;unfold World.shape? at d;split at d
    ·rename_i q s r n
     rcases g.cD k _ n with j|⟨_,j⟩
     ·unfold World.shape?;rw[j,f];exact d
     ·rw[j,l];unfold World.shape?;rw[n];exact d
    ·cases d
   |_=>cases e⟩
theorem On.shape {bt:List TypeId}{w b:World}(h:On bt w b){k:Nat}{x:TypeId×Nat}(hs:w.shape? k=some x):b.shape? k=some x:=by
 unfold World.shape? at hs;split at hs
 ·rename_i c t m d
  rcases h.cD k _ d with a|⟨_,a⟩
  ·unfold World.shape?;rw[a];exact hs
  ·rw[a];unfold World.shape?;rw[d];exact hs
 ·cases hs
variable {w:World}{k:Nat}
theorem gU {o:Obj}(h:w.heap[k]?=some o):k<w.heap.size:=(Array.getElem?_eq_some_iff.1 h).1
theorem On.below {bt:List TypeId}{b:World}(h:Below w.heap.size w b):On bt w b:=
 ⟨h.os,h.tape,h.output,h.size,fun k o a=>Or.inl (by rw[h.block k (gU a)];exact a)⟩
def All2 {α β:Type}(R:α->β->Prop):List α->List β->Prop
 | [],[]=>True
 |a::d,b::bs=>R a b/\All2 R d bs
 |_,_=>False
section All2
variable {α β:Type} {R S:α->β->Prop}
theorem All2.mono (h:∀a b,R a b->S a b):∀{d:List α} {bs:List β},All2 R d bs->All2 S d bs
 | [],[],_=>trivial
 |_::_,_::_,⟨e,f⟩=>⟨h _ _ e,All2.mono h f⟩
 | [],_::_,h=>h.elim
 |_::_,[],h=>h.elim
theorem All2.len:∀{a:List α} {bs:List β},All2 R a bs->a.length=bs.length
 | [],[],_=>rfl
 |_::_,_::_,⟨_,b⟩=>by simp[All2.len b]
 | [],_::_,h=>h.elim
 |_::_,[],h=>h.elim
theorem All2.at:∀{d:List α} {bs:List β},All2 R d bs->∀{i:Nat} {a:α},d[i]?=some a->∃b,bs[i]?=some b/\R a b
 | [],[],_,_,_,h=>by simp at h
 |_::_,_::_,⟨e,_⟩,0,_,h=>⟨_,rfl,by simp at h;subst h;exact e⟩
 |_::_,_::_,⟨_,f⟩,i+1,_,h=>by simpa using All2.at f (by simpa using h)
 | [],_::_,h,_,_,_=>h.elim
 |_::_,[],h,_,_,_=>h.elim
theorem All2.set:∀{e:List α} {bs:List β},All2 R e bs->∀(i:Nat) {a:α} {b:β},R a b->All2 R (e.set i a) (bs.set i b)
 | [],[],_,_,_,_,_=>trivial
 |_::_,_::_,⟨_,d⟩,0,_,_,h=>⟨h,d⟩
 |_::_,_::_,⟨f,d⟩,i+1,_,_,h=>⟨f,All2.set d i h⟩
 | [],_::_,h,_,_,_,_=>h.elim
 |_::_,[],h,_,_,_,_=>h.elim
theorem All2.append:∀{d a:List α} {bs b:List β},All2 R d bs->All2 R a b->All2 R (d++a) (bs++b)
 | [],_,[],_,_,h=>h
 |_::_,_,_::_,_,⟨e,f⟩,h=>⟨e,All2.append f h⟩
 | [],_,_::_,_,h,_=>h.elim
 |_::_,_,[],_,h,_=>h.elim
theorem All2.take:∀{a:List α} {bs:List β} (n:Nat),All2 R a bs->All2 R (a.take n) (bs.take n)
 | [],[],_,_=>by simp[All2]
 |_::_,_::_,0,_=>by simp[All2]
 |_::_,_::_,n+1,⟨b,d⟩=>⟨b,All2.take n d⟩
 | [],_::_,_,h=>h.elim
 |_::_,[],_,h=>h.elim
theorem All2.drop:∀{a:List α} {bs:List β} (n:Nat),All2 R a bs->All2 R (a.drop n) (bs.drop n)
 | [],[],_,_=>by simp[All2]
 |_::_,_::_,0,h=>h
 |_::_,_::_,n+1,⟨_,b⟩=>All2.drop n b
 | [],_::_,_,h=>h.elim
 |_::_,[],_,h=>h.elim
theorem All2.map {a:Type}{f:a->α}{g:a->β}:∀(l:List a),(∀x∈l,R (f x) (g x))->All2 R (l.map f) (l.map g)
 | [],_=>trivial
 |x::l,h=>⟨h x (by simp),All2.map l fun y b=>h y (by simp[b])⟩
end All2
inductive AC where
 |int (k:IntKind) (n:Int)
 |bool (b:Bool)
 |sint (k:IntKind) (n:Int)
 |sbool (t:Bool)
 |lit (v:Value)
 |ptr (b off:Nat)
 |slc (b off len size:Nat)
 |dsl (b r len size:Nat)
 |sg (i:Nat)
 |dg (k:Bool) (i:Nat)
 |fZ (R:World->Value->Prop)
 |any
inductive AV where
 |one (c:AC)
 |agg (cs:List AC)
inductive AT where
 |top
 |gC
 |val (v:AV)
 |tup (vs:List AV)
 |mY (c:Bool) (v:AV)
structure fF where
 P:Program
 bt:List TypeId
 fB:Bool->World->Int->Value->Prop
 bits:Nat->Int->Prop
 zP:∀{k w W z x},On bt w W->fB k w z x->fB k W z x
 zQ:∀{k w z x},fB k w z x->One x
section
variable (C:fF)
def relC (φ:Nat->Option (Nat×Nat))(ν:List (Int×Nat))(w:World):AC->Value->Prop
 |.int k n,x=>x=.int k n
 |.bool b,x=>x=.bool b
 |.sint k n,x=>x=.int k n
 |.sbool t,x=>x=.bool t
 |.lit v,x=>x=v/\One v
 |.ptr b d,x=>∃k o,φ b=some (k,o)/\x=.pointer (some ⟨k,o+d,none⟩)
 |.slc b d len size,x=>∃k o a e m,φ b=some (k,o)/\x=.slice (some ⟨k,o+d,none⟩) len a/\len<=a/\w.shape? k=some (e,m)/\o+d+a*size<=m
 |.dsl b r len size,x=>∃k a,φ b=some (k,r*size)/\x=.slice (some ⟨k,0,none⟩) len a
 |.sg i,x=>∃z n,ν[i]?=some (z,n)/\x=.bool (decide (z<0))
 |.dg k i,x=>∃z n,ν[i]?=some (z,n)/\C.fB k w z x/\C.bits n z
 |.fZ R,x=>One x/\∀W,On C.bt w W->R W x
 |.any,x=>One x
def dM (φ:Nat->Option (Nat×Nat))(ν:List (Int×Nat))(w:World):AV->Value->Prop
 |.one c,x=>relC C φ ν w c x
 |.agg cs,x=>∃a:List Value,x=.agg a.toArray/\All2 (relC C φ ν w) cs a
def relT (φ:Nat->Option (Nat×Nat))(ν:List (Int×Nat))(w:World):AT->Value->Prop
 |.top,_=>True
 |.gC,x=>x=undef
 |.val v,x=>dM C φ ν w v x
 |.tup vs,x=>∃a:List Value,x=.tuple a.toArray/\All2 (dM C φ ν w) vs a
 |.mY c v,x=>if c=true then dM C φ ν w v x else x=undef
structure Ext (φ φ':Nat->Option (Nat×Nat)) (ν ν':List (Int×Nat)) (w w':World):Prop where
 φ:∀b k,φ b=some k->φ' b=some k
 ν:∀(i:Nat) (x:Int×Nat),ν[i]?=some x->ν'[i]?=some x
 on:On C.bt w w'
variable {C}
theorem Ext.refl (φ:Nat->Option (Nat×Nat))(ν:List (Int×Nat))(w:World):Ext C φ φ ν ν w w:=⟨fun _ _ h=>h,fun _ _ h=>h,On.refl _ _⟩
theorem Ext.trans {φ φ' d:Nat->Option (Nat×Nat)}{ν ν' a:List (Int×Nat)}{w w' D:World}(h:Ext C φ φ' ν ν' w w')(g:Ext C φ' d ν' a w' D):Ext C φ d ν a w D:=
 ⟨fun b k e=>g.φ b k (h.φ b k e),fun i x e=>g.ν i x (h.ν i x e),h.on.trans g.on⟩
section
variable {φ φ':Nat->Option (Nat×Nat)} {ν ν':List (Int×Nat)} {w w':World}
theorem wZ (h:Ext C φ φ' ν ν' w w')(c:AC)(x:Value)(r:relC C φ ν w c x):relC C φ' ν' w' c x:=by
 cases c<;>simp only[relC]at r ⊢<;>try exact r
 ·obtain⟨k,o,a,b⟩:=r;exact⟨k,o,h.φ _ _ a,b⟩
 ·obtain⟨k,o,d,e,m,a,b,f,g,i⟩:=r;exact⟨k,o,d,e,m,h.φ _ _ a,b,f,h.on.shape g,i⟩
 ·obtain⟨k,d,a,b⟩:=r;exact⟨k,d,h.φ _ _ a,b⟩
 ·obtain⟨z,n,a,b⟩:=r;exact⟨z,n,h.ν _ _ a,b⟩
 ·obtain⟨z,n,a,b,f⟩:=r;exact⟨z,n,h.ν _ _ a,C.zP h.on b,f⟩
 ·exact⟨r.1,fun W j=>r.2 W (h.on.trans j)⟩
theorem Th (h:Ext C φ φ' ν ν' w w')(v:AV)(x:Value)(r:dM C φ ν w v x):dM C φ' ν' w' v x:=by
 cases v with
 |one c=>exact wZ h c x r
 |agg cs=>obtain⟨d,a,b⟩:=r;exact⟨d,a,b.mono (wZ h)⟩
theorem xA (h:Ext C φ φ' ν ν' w w')(v:AT)(x:Value)(r:relT C φ ν w v x):relT C φ' ν' w' v x:=by
 cases v with
 |top=>trivial
 |gC=>exact r
 |val v=>exact Th h v x r
 |tup e=>obtain⟨d,a,b⟩:=r;exact⟨d,a,b.mono (Th h)⟩
 |mY c v=>
  simp only[relT]at r ⊢
  cases c with
  |true=>simp only[if_true]at r ⊢;exact Th h v x r
  |false=>simpa using r
variable {x:Value}
theorem aKM {c:AC}(r:relC C φ ν w c x):One x:=by
 cases c<;>simp only[relC]at r
 ·subst r;rfl
 ·subst r;rfl
 ·subst r;rfl
 ·subst r;rfl
 ·obtain⟨rfl,h⟩:=r;exact h
 ·obtain⟨k,o,_,rfl⟩:=r;rfl
 ·obtain⟨k,o,a,e,m,_,rfl,_⟩:=r;rfl
 ·obtain⟨k,a,_,rfl⟩:=r;rfl
 ·obtain⟨z,n,_,rfl⟩:=r;rfl
 ·obtain⟨z,n,_,h,_⟩:=r;exact C.zQ h
 ·exact r.1
 ·exact r
theorem aNU (h:One x):x.cells=#[x]:=by cases x<;>first|rfl|(simp[One,Value.oneCell']at h)
def cellsOf:AV->List AC
 |.one c=>[c]
 |.agg cs=>cs
theorem Ym {v:AV}(r:dM C φ ν w v x):All2 (relC C φ ν w) (cellsOf v) x.cells.toList:=by
 cases v with
 |one c=>
  rw[aNU (aKM r)];exact⟨r,trivial⟩
 |agg cs=>obtain⟨a,rfl,h⟩:=r;exact h
end
end
def iE (P:Program)(t:TypeId):Option Nat:=(P.info? t).map (·.size)
def vG (P:Program)(t:TypeId):Option Bool:=
 match P.underlying t with
 |some (.struct _)=>some true
 |some (.array _ _)=>some true
 |some _=>some false
 |none=>none
variable {P:Program}
theorem tO {t:Nat}(h:iE P t=some k)(w:World):(sizeOf t).run P w=.ok k w:=by
 unfold iE at h
 cases hi:P.info? t with
 |none=>simp[hi]at h
 |some i=>simp[hi]at h;subst h;simp[sizeOf,typeInfo,hi]
theorem Jw {t:TypeId}{a:Bool}(h:vG P t=some a)(w:World):(isAgg t).run P w=.ok a w:=by
 unfold vG at h;unfold isAgg;simp only[Sem.run_bind,underlying]
 cases hi:P.underlying t with
 |none=>simp[hi]at h
 |some d=>
  simp only[hi]at h;simp[hi]
  cases d<;>simp at h ⊢<;>exact h
theorem Fb (k a i:Nat):(⟨k,a,none⟩:Addr).add i=⟨k,a+i,none⟩:=by
 unfold Addr.add;split
 ·rename_i h;subst h;rfl
 ·rfl
variable {i:List Value}
theorem Kt {ty:TypeId}{m:Nat×Nat}(h:w.heap[k]?=some (.cells i.toArray ty m))(a:Nat):w.cell? ⟨k,a,none⟩=i[a]?:=by
 unfold World.cell?;simp[h]
theorem Ry {P:Program}{w:World}{k:Nat}{b:List Value}{ty:TypeId}{m:Nat×Nat}(h:w.heap[k]?=some (.cells b.toArray ty m))(off:Nat):
  ∀(n i:Nat) (a:Array Value),off+i+n<=b.length->(loadCellsFrom ⟨k,off,none⟩ i n a).run P w=.ok (a++((b.drop (off+i)).take n).toArray) w
 |0,i,a,_=>by simp[loadCellsFrom]
 |n+1,i,a,d=>by
  have hc:b[off+i]?=some b[off+i]:=List.getElem?_eq_getElem (by omega);unfold loadCellsFrom;rw[Sem.run_bind,run_load,Fb,Kt h,hc];simp only[Result.andThen_ok];rw[Ry h off n (i+1) _ (by omega)];congr 1;rw[List.drop_eq_getElem_cons (show off+i<b.length by omega),List.take_succ_cons];apply Array.toList_inj.1;simp[Nat.add_assoc]
structure jP (w w':World) (k:Nat) (ys:List Value) (ty:TypeId):Prop where
 cD:w'.heap[k]?=some (.cells ys.toArray ty (0,0))
 others:∀j,j≠k->w'.heap[j]?=w.heap[j]?
 size:w'.heap.size=w.heap.size
 os:w'.os=w.os
 tape:w'.tape=w.tape
 output:w'.output=w.output
theorem aL1 {ty:TypeId}(h:w.heap[k]?=some (.cells i.toArray ty (0,0)))(a:Nat)(v:Value):jP w (w.setCell ⟨k,a,none⟩ v) k (i.set a v) ty:=by
 refine⟨?_,fun j b=>?_,by simp[World.setCell],rfl,rfl,rfl⟩
 ·simp[World.setCell,Array.getElem?_modify,h]
 ·exact Below.heap_setCell _ _ _ _ b
def gY (b:List Value)(a:Nat):List Value->List Value
 | []=>b
 |v::d=>gY (b.set a v) (a+1) d
theorem Nj:∀(d b:List Value) (a:Nat),a+d.length<=b.length->gY b a d=b.take a++d++b.drop (a+d.length)
 | [],b,a,h=>by simp[gY]
 |v::d,b,a,h=>by
  simp at h;unfold gY;rw[Nj d (b.set a v) (a+1) (by simp;omega)]
  have e:(b.set a v).take (a+1)=b.take a++[v]:=by
   rw[List.take_succ_eq_append_getElem (by simp;omega),List.take_set_of_le (Nat.le_refl _)];simp
  have f:(b.set a v).drop (a+1+d.length)=b.drop (a+(d.length+1)):=by
   rw[List.drop_set_of_lt (by omega)];congr 1;omega
  rw[e,f];simp
theorem Rt {P:Program}{k:Nat}{ty:TypeId}(a:Nat):∀(f:List Value) (i:Nat) (w:World) (b:List Value),w.heap[k]?=some (.cells b.toArray ty (0,0))->a+i+f.length<=b.length->(∀v∈f,One v)->
  ∃w',(storeCells ⟨k,a,none⟩ f i).run P w=.ok () w'/\jP w w' k (gY b (a+i) f) ty
 | [],i,w,b,h,n,g=>⟨w,by simp[storeCells],⟨by simpa[gY]using h,fun _ _=>rfl,rfl,rfl,rfl,rfl⟩⟩
 |v::f,i,w,b,h,n,g=>by
  simp at n;have e:=aL1 h (a+i) v;obtain⟨w',o,d⟩:=Rt a f (i+1) (w.setCell ⟨k,a+i,none⟩ v) (b.set (a+i) v) e.cD (by simp;omega) (fun x q=>g x (by simp[q]));have hc:b[a+i]?=some b[a+i]:=List.getElem?_eq_getElem (by omega)
  have p:w.frozen? ⟨k,a+i,none⟩=false:=by simp[World.frozen?,h]
  refine⟨w',?_,⟨by rw[d.cD];simp[gY,Nat.add_assoc],fun j l=>(d.others j l).trans (e.others j l),d.size.trans e.size,d.os.trans e.os,d.tape.trans e.tape,d.output.trans e.output⟩⟩;unfold storeCells;rw[Sem.run_bind,run_store _ _ _ _ _ (g v (by simp)),Fb,Kt h,hc];simp only[p,Bool.false_eq_true,if_false,Result.andThen_ok];exact o
structure bO where
 cs:List AC
 ty:TypeId
 own:Bool
 ro:Bool
 tip:Bool
def Dy:Value->Bool
 |.slice none 0 _=>true
 |_=>false
variable {z:Value}
theorem aSs (h:Dy z=true):∃c,z=.slice none 0 c:=by
 unfold Dy at h;split at h
 ·exact⟨_,rfl⟩
 ·cases h
def pX:Value->AC
 |.int k n=>.int k n
 |.bool b=>.bool b
 |v=>.lit v
def vW:Value->AT
 |.agg cs=>bif cs.toList.all Value.oneCell' then .val (.agg (cs.toList.map pX))else .top
 |.tuple _=>.top
 |v=>.val (.one (pX v))
variable {φ:Nat->Option (Nat×Nat)}{ν:List (Int×Nat)}
theorem aIe {T:fF}{n:World}(h:One z):relC T φ ν n (pX z) z:=by
 cases z<;>first|rfl|exact⟨rfl,h⟩
theorem aNy {T:fF}{n:World}(v:Value):relT T φ ν n (vW v) v:=by
 cases v with
 |agg cs=>
  cases h:cs.toList.all Value.oneCell' with
  |false=>simp only[vW,h,cond];trivial
  |true=>
   simp only[vW,h,cond];refine⟨cs.toList,by simp,?_⟩;rw[List.all_eq_true]at h;have:=All2.map (R:=relC T φ ν n) (f:=pX) (g:=id) cs.toList (fun x a=>aIe (h x a))
   simpa using this
 |tuple b=>trivial
 |_=>first|rfl|exact⟨rfl,rfl⟩
def Holds (a:List Prop):Prop:=∀q∈a,q
theorem iC:Holds []:=fun _ h=>by cases h
theorem Holds.one {p:Prop}(h:Holds [p]):p:=h p (by simp)
inductive nC where
 |val (r:AT) (p:List Prop)
 |new (cs:List AC) (ty:TypeId) (slice:Option (Nat×Nat))
 |mQ (b:Nat) (cs:List AC)
 |app (old:Option Nat) (cs:List AC) (ty:TypeId) (len size:Nat)
 |call (f:FuncId) (args:List AV)
def eR:AT->Option AC
 |.val (.one c)=>some c
 |_=>none
def Hp:AT->Option AV
 |.val v=>some v
 |_=>none
def qI:List AT->Option (List AV)
 | []=>some []
 |.val v::r=>(qI r).map (v::·)
 |_::_=>none
def Pp (op:BinOp)(x y:Int):Option Bool:=
 match op with
 |.eql=>some (x==y)
 |.neq=>some (x != y)
 |.lss=>some (decide (x<y))
 |.leq=>some (decide (x<=y))
 |.gtr=>some (decide (x>y))
 |.geq=>some (decide (x≥y))
 |_=>none
def arI (op:BinOp)(k:IntKind)(x y:Int):Option Int:=
 match op with
 |.add=>some (k.wrap (x+y))
 |.sub=>some (k.wrap (x-y))
 |.mul=>some (k.wrap (x*y))
 |_=>none
def xP:AC->Option (Bool×IntKind×Int)
 |.int k n=>some (true,k,n)
 |.sint k n=>some (false,k,n)
 |_=>none
def Lm (s:Bool)(k:IntKind)(n:Int):AC:=bif s then .int k n else .sint k n
def Wg (s:Bool)(b:Bool):AC:=bif s then .bool b else .sbool b
def Hq (op:BinOp)(s:Bool)(k:IntKind)(x y:Int):Option AC:=
 match Pp op x y with
 |some t=>some (Wg s t)
 |none=>match arI op k x y with
  |some n=>some (Lm s k n)
  |none=>none
def nX (P:Program)(t:TypeId):Bool:=match P.underlying t with|some (.pointer _)=>true|_=>false
def Hu (op:BinOp)(s:Bool)(k:IntKind)(x y:Int):Option AC:=
 match op with
 |.quo=>some (Lm s k (k.wrap (x.tdiv y)))
 |.rem=>some (Lm s k (x.tmod y))
 |_=>none
def Dx (op:BinOp)(t:Bool):Option AC:=
 match op with
 |.eql=>some (.bool t)
 |.neq=>some (.bool !t)
 |_=>none
def Jp (op:BinOp)(a b:ByteArray):Option AC:=
 match op with
 |.eql=>some (.sbool (a.toList==b.toList))
 |.neq=>some (.sbool !(a.toList==b.toList))
 |_=>none
def nH (P:Program)(t:TypeId):Bool:=match P.underlying t with|some .bool=>true|_=>false
def sF:AC->Option (Bool×Bool)
 |.bool b=>some (true,b)
 |.sbool b=>some (false,b)
 |_=>none
def zL (op:BinOp)(s:Bool)(x y:Bool):Option AC:=
 match op with
 |.eql=>some (Wg s (x==y))
 |.neq=>some (Wg s !(x==y))
 |_=>none
def Pf (P:Program)(op:BinOp)(t:TypeId)(a b:AC):Option AC:=
 match a,b with
 |.ptr _ _,.lit (.pointer none)=>bif nX P t then Dx op false else none
 |.lit (.pointer none),.lit (.pointer none)=>bif nX P t then Dx op true else none
 |.lit (.string x),.lit (.string y)=>Jp op x y
 |a,b=>match sF a with
  |some (s,x)=>(sF b).bind fun(d,y)=>bif nH P t then zL op (s&&d) x y else none
  |none=>(xP a).bind fun(s,k,x)=>(xP b).bind fun(d,e,y)=>if k=e then(match Hq op (s&&d) k x y with|some c=>some c|none=>bif d&&!(y==0)then Hu op (s&&d) k x y else none)else none
def wE (P:Program)(t:TypeId)(cs:List AC)(a:Nat):Option AV:=
 (vG P t).bind fun g=>bif g then(iE P t).map fun n=>.agg ((cs.drop a).take n)else(cs[a]?).map .one
def vX (P:Program)(t:TypeId)(cs:List AC)(a:Nat):Option AV:=
 (vG P t).bind fun g=>bif g then(iE P t).bind fun n=>bif Nat.ble (a+n) cs.length then some (.agg ((cs.drop a).take n))else none else(cs[a]?).map .one
def uT (P:Program)(t:TypeId)(cs:List AC)(a:Nat)(v:AV):Option (List AC):=
 (iE P t).bind fun n=>bif (cellsOf v).length==n&&Nat.ble (a+n) cs.length then some (cs.take a++cellsOf v++cs.drop (a+n))else none
def fieldsOf (P:Program)(t:TypeId):Option (Array Field):=match P.underlying t with|some (.struct a)=>some a|_=>none
def nF (P:Program)(t:TypeId):Option (Nat×TypeId):=match P.underlying t with|some (.array n e)=>some (n,e)|_=>none
def cV (P:Program)(t:TypeId):Option TypeId:=match P.underlying t with|some (.slice e)=>some e|_=>none
def kM (place:Nat->Option (Nat×Nat))(cells:List AC):List (Nat×AV)->Option (List AC)
 | []=>some cells
 |(i,v)::b=>(place i).bind fun(a,size)=>
  bif (cellsOf v).length==size&&Nat.ble (a+size) cells.length then kM place (cells.take a++cellsOf v++cells.drop (a+size)) b else none
def iP:List (Nat×AT)->Option (List (Nat×AV))
 | []=>some []
 |(i,.val v)::r=>(iP r).map ((i,v)::·)
 |_::_=>none
def wF (a:List AC)(n:Nat):List AC:=(List.range n).map fun i=>a.getD (i%a.length) .any
def eW {d e:Type}(f:d->Option e):List d->Option (List e)
 | []=>some []
 |a::g=>(f a).bind fun b=>(eW f g).map (b::·)
def kZ (P:Program)(t:TypeId):Option (List AC):=
 ((P.info? t).bind (·.zero)).bind fun v=>bif v.cells.toList.all Value.oneCell' then some (v.cells.toList.map pX)else none
def rowOf (d:Nat->Option bO)(e:TypeId)(size:Nat):AT->Option (Option Nat×List AC×Nat)
 |.val (.one (.lit (.slice none 0 0)))=>some (none,[],0)
 |.val (.one (.slc b a len sz))=>(d b).bind fun B=>bif a==0&&sz==size&&B.ty==e&&B.cs.length==len*size then some (some b,B.cs,len)else none
 |_=>none
def kO (a:Nat->Option bO):Option Nat->Bool
 |none=>true
 |some b=>match a b with|some B=>B.tip|none=>false
def evalOp (P:Program)(d:Operand->AT)(l:Nat->Option bO):Op->Option nC
 |.move x=>some (.val (d x) [])
 |.assign x=>some (.val (d x) [])
 |.pick c a b=>(eR (d c)).bind fun
   |.bool t=>some (.val (bif t then d a else d b) [])
   |.sbool t=>match d a,d b with
    |.val (.one (.bool x)),.val (.one (.bool y))=>some (.val (.val (.one (.sbool (bif t then x else y)))) [])
    |.val (.one (.bool x)),.val (.one (.sbool y))=>some (.val (.val (.one (.sbool (bif t then x else y)))) [])
    |.val (.one (.sbool x)),.val (.one (.bool y))=>some (.val (.val (.one (.sbool (bif t then x else y)))) [])
    |.val (.one (.sbool x)),.val (.one (.sbool y))=>some (.val (.val (.one (.sbool (bif t then x else y)))) [])
    |.mY c (.one (.sbool x)),.val (.one (.bool y))=>some (.val (.val (.one (.sbool (bif t then x else y)))) [t=true->c=true])
    |.val (.one (.bool x)),.mY c (.one (.sbool y))=>some (.val (.val (.one (.sbool (bif t then x else y)))) [t=false->c=true])
    |.mY c (.one (.sbool x)),.val (.one (.sbool y))=>some (.val (.val (.one (.sbool (bif t then x else y)))) [t=true->c=true])
    |.val (.one (.sbool x)),.mY c (.one (.sbool y))=>some (.val (.val (.one (.sbool (bif t then x else y)))) [t=false->c=true])
    |_,_=>none
   |_=>none
 |.alloc t=>(kZ P t).map fun cs=>.new cs t none
 |.box t x=>(Hp (d x)).map fun v=>.new (cellsOf v) t none
 |.build t h=>(kZ P t).bind fun zero=>(iP (h.toList.map fun(i,x)=>(i,d x))).bind fun q=>
   (match P.underlying t with
    |some (.struct p)=>(eW (fun(f:Field)=>(iE P f.type).map fun n=>(f.offset,n)) p.toList).bind fun j=>kM (fun i=>j[i]?) zero q
    |some (.array _ e)=>(iE P e).bind fun n=>kM (fun i=>some (i*n,n)) zero q
    |_=>none).map fun cs=>.val (.val (.agg cs)) []
 |.buildSlice t len h=>(cV P t).bind fun e=>(iE P e).bind fun size=>(kZ P e).bind fun zero=>
   bif Nat.ble (len*size) 16777216&&!(zero.length==0)then(iP (h.toList.map fun(i,x)=>(i,d x))).bind fun q=>(kM (fun i=>some (i*size,size)) (wF zero (len*size)) q).map fun cs=>.new cs e (some (len,size))else none
 |.convert w u x=>(eR (d x)).bind fun c=>(xP c).bind fun(s,_,n)=>(P.underlying w).bind fun _=>match P.underlying u with
   |some (.int k)=>some (.val (.val (.one (Lm s k (k.wrap n)))) [])
   |_=>none
 |.load t a=>(eR (d a)).bind fun
   |.ptr b g=>(l b).bind fun B=>(vX P t B.cs g).map fun v=>.val (.val v) []
   |_=>none
 |.store t a x=>(eR (d a)).bind fun
   |.ptr b g=>(Hp (d x)).bind fun v=>(l b).bind fun B=>bif B.ro then none else(uT P t B.cs g v).map fun cs=>.mQ b cs
   |_=>none
 |.nilCheck x=>(eR (d x)).bind fun
   |.ptr b g=>some (.val (.val (.one (.ptr b g))) [])
   |_=>none
 |.binOp op t x y _=>(eR (d x)).bind fun a=>(eR (d y)).bind fun b=>(Pf P op t a b).map fun c=>.val (.val (.one c)) []
 |.unOp .not _ x=>(eR (d x)).bind fun
   |.bool b=>some (.val (.val (.one (.bool !b))) [])
   |.sbool b=>some (.val (.val (.one (.sbool !b))) [])
   |_=>none
 |.unOp .neg _ x=>(eR (d x)).bind fun c=>(xP c).map fun(s,k,n)=>.val (.val (.one (Lm s k (k.wrap (0-n))))) []
 |.fieldAddr t x f=>(eR (d x)).bind fun
   |.ptr b g=>(fieldsOf P t).bind fun p=>(p[f]?).bind fun o=>(iE P o.type).bind fun n=>bif n==0 then none else some (.val (.val (.one (.ptr b (g+o.offset)))) [])
   |_=>none
 |.field t x f=>(Hp (d x)).bind fun
   |.agg cs=>(fieldsOf P t).bind fun p=>(p[f]?).bind fun o=>(wE P o.type cs o.offset).map fun v=>.val (.val v) []
   |_=>none
 |.indexAddr t x i=>(eR (d i)).bind fun
   |.int _ n=>(eR (d x)).bind fun
    |.ptr b g=>(nF P t).bind fun(len,e)=>(iE P e).bind fun sz=>bif decide (0<=n)&&decide (n<len)then some (.val (.val (.one (.ptr b (g+n.toNat*sz)))) [])else none
    |.slc b g len _=>(cV P t).bind fun e=>(iE P e).bind fun sz=>bif decide (0<=n)&&decide (n<len)then some (.val (.val (.one (.ptr b (g+n.toNat*sz)))) [])else none
    |.dsl b r len size=>(cV P t).bind fun e=>(iE P e).bind fun sz=>bif sz==size then some (.val (.val (.one (.ptr b 0))) [n=(r:Int)/\r<len])else none
    |_=>none
   |.sint _ n=>(eR (d x)).bind fun
    |.dsl b r len size=>(cV P t).bind fun e=>(iE P e).bind fun sz=>bif sz==size then some (.val (.val (.one (.ptr b 0))) [n=(r:Int)/\r<len])else none
    |_=>none
   |_=>none
 |.index t x i=>(eR (d i)).bind fun
   |.int _ n=>(Hp (d x)).bind fun
    |.agg cs=>(nF P t).bind fun(len,e)=>(iE P e).bind fun sz=>bif decide (0<=n)&&decide (n<len)then(wE P e cs (n.toNat*sz)).map fun v=>.val (.val v) []else none
    |_=>none
   |_=>none
 |.extract x i=>match d x with
   |.tup z=>(z[i]?).map fun v=>.val (.val v) []
   |_=>none
 |.call { callee:=.builtin .len,args:=args,argTypes:=ts}=>match ts.toList,args.toList with
   | [t],[x]=>(eR (d x)).bind fun
    |.slc _ _ len _=>(cV P t).map fun _=>.val (.val (.one (.int .i64 len))) []
    |.dsl _ _ len _=>(cV P t).map fun _=>.val (.val (.one (.sint .i64 len))) []
    |.lit v=>bif Dy v then(cV P t).map fun _=>.val (.val (.one (.int .i64 0))) []else none
    |_=>none
   |_,_=>none
 |.call { callee:=.builtin .append,args:=args,argTypes:=ts}=>match ts.toList,args.toList with
   | [t,C],[s,x]=>(cV P t).bind fun e=>(cV P C).bind fun _=>(iE P e).bind fun size=>(P.info? e).bind fun i=>(kZ P e).bind fun zero=>(rowOf l e size (d s)).bind fun(old,cs,len)=>(rowOf l e size (d x)).bind fun(_,A,n)=>
     bif Nat.ble (len+n) 100&&Nat.ble i.bytes 1000000&&!(n==0)&&!(size==0)&&zero.length==size&&kO l old then some (.app old (cs++A) e (len+n) size)else none
   |_,_=>none
 |.call { callee:=.value (.func f),args:=args,..}=>(qI (args.toList.map d)).map fun z=>.call f z
 |_=>none
def Jd (id:Nat):Option (Nat×Nat)->AC
 |none=>.ptr id 0
 |some (n,size)=>.slc id 0 n size
def xS (k:Nat):Option (Nat×Nat)->Value
 |none=>.pointer (some ⟨k,0,none⟩)
 |some (n,_)=>.slice (some ⟨k,0,none⟩) n n
def uW (C:fF)(φ:Nat->Option (Nat×Nat))(ν:List (Int×Nat))(w:World)(q:Nat->Option bO)(r:Result Next):nC->Prop
 |.val t p=>Holds p->∃v,r=.ok (.value v) w/\relT C φ ν w t v
 |.new cs ty sl=>∃l:List Value,r=.ok (.value (xS w.heap.size sl)) {w with heap:=w.heap.push (.cells l.toArray ty)}/\All2 (relC C φ ν w) cs l/\(∀n size,sl=some (n,size)->l.length=n*size)
 |.mQ b cs=>∃B k o j d h a i,q b=some B/\B.ro=false/\φ b=some (k,o)/\r=.ok .skip j/\jP w j k (d++i++a) B.ty/\w.heap[k]?=some (.cells (d++h++a).toArray B.ty (0,0))/\d.length=o/\h.length=i.length/\All2 (relC C φ ν w) cs i/\cs.length=B.cs.length
 |.call f s=>∃l:List Value,r=.ok (.enter f l.toArray) w/\All2 (dM C φ ν w) s l
 |.app old cs ty len size=>∃v j g,r=.ok (.value v) j/\len<=g/\kO q old=true/\
   ((∃ i a:List Value,j={w with heap:=w.heap.push (.cells (i++a).toArray ty),drawn:=w.drawn+1}/\v=.slice (some ⟨w.heap.size,0,none⟩) len g/\All2 (relC C φ ν w) cs i/\g*size<=i.length+a.length)\/
    (∃ b B k o,∃ d h a new e:List Value,old=some b/\q b=some B/\B.ty=ty/\φ b=some (k,o)/\v=.slice (some ⟨k,o,none⟩) len g/\w.heap[k]?=some (.cells (d++h++a).toArray ty (0,0))/\d.length=o/\All2 (relC C φ ν w) B.cs h/\
     jP w j k (d++(h++new)++e) ty/\new.length+e.length=a.length/\All2 (relC C φ ν w) cs (h++new)/\o+g*size<=(d++(h++new)++e).length))
section
variable {C:fF} {φ:Nat->Option (Nat×Nat)} {ν:List (Int×Nat)} {w:World} {ρ:Operand->Value} {ev:Operand->AT} {bx:Nat->Option bO}
theorem aU {d e:Type}{x:Option d}{f:d->Option e}{b:e}(h:x.bind f=some b):∃a,x=some a/\f a=some b:=Option.bind_eq_some_iff.1 h
theorem cA {d e:Type}{x:Option d}{f:d->e}{b:e}(h:x.map f=some b):∃a,x=some a/\f a=b:=Option.map_eq_some_iff.1 h
theorem pP {t:AT}{c:AC}(h:eR t=some c):t=.val (.one c):=by
 unfold eR at h;split at h
 ·cases h;rfl
 ·cases h
theorem Bs {t:AT}{v:AV}(h:Hp t=some v):t=.val v:=by
 unfold Hp at h;split at h
 ·cases h;rfl
 ·cases h
def wO (C:fF)(φ:Nat->Option (Nat×Nat))(ν:List (Int×Nat))(w:World)(bx:Nat->Option bO):Prop:=
 ∀b B,bx b=some B->∃k o,∃d e a:List Value,φ b=some (k,o)/\w.heap[k]?=some (.cells (d++e++a).toArray B.ty (0,0))/\d.length=o/\All2 (relC C φ ν w) B.cs e
variable {s:Bool}{k:IntKind}
theorem Tu {c:AC}{v:Int}{x:Value}(h:xP c=some (s,k,v))(r:relC C φ ν w c x):x=.int k v:=by
 cases c<;>simp[xP]at h<;>obtain⟨rfl,rfl,rfl⟩:=h<;>exact r
theorem Ui (s:Bool)(k:IntKind)(n:Int):relC C φ ν w (Lm s k n) (.int k n):=by cases s<;>rfl
theorem aJv (s:Bool)(b:Bool):relC C φ ν w (Wg s b) (.bool b):=by cases s<;>rfl
variable {op:BinOp}
theorem aRJ {x y:Int}{c:AC}{t:TypeId}(h:Hq op s k x y=some c):∃v,(binOp op t (.int k x) (.int k y)).run C.P w=.ok v w/\relC C φ ν w c v:=by
 unfold Hq at h
 cases op<;>simp[Pp,arI]at h<;>subst h<;>first
  |(refine⟨_,?_,aJv _ _⟩;simp[binOp,Op.intCmp])
  |(refine⟨_,?_,Ui _ _ _⟩;simp[binOp,Op.intArith])
theorem aRZ {x y:Int}{c:AC}{t:TypeId}(a:y≠0)(h:Hu op s k x y=some c):∃v,(binOp op t (.int k x) (.int k y)).run C.P w=.ok v w/\relC C φ ν w c v:=by
 unfold Hu at h
 cases op<;>simp at h<;>subst h<;>(refine⟨_,?_,Ui _ _ _⟩;simp[binOp,Op.intDiv,a])
theorem aPr {t:TypeId}(h:nX C.P t=true):∃e,C.P.underlying t=some (.pointer e):=by
 unfold nX at h;split at h
 ·rename_i e a;exact⟨e,a⟩
 ·cases h
theorem aQ2 {t e:TypeId}(h:C.P.underlying t=some (.pointer e))(a:Option Addr):(Op.equal t (.pointer a) (.pointer none)).run C.P w=.ok a.isNone w:=by
 unfold Op.equal;rw[show Op.maxDepth=9999+1 from rfl];unfold Op.equalIn;simp only[underlying,Sem.run_bind,run_program,Result.andThen_ok,h,Sem.run_pure]
 cases a<;>simp
variable {y:Operand}
theorem aNJ {t:TypeId}{c:AC}{a:Option Addr}{x:Operand}(d:nX C.P t=true)(h:Dx op a.isNone=some c):∃v,(do eqGuard op t x y (.pointer a) (.pointer none);binOp op t (.pointer a) (.pointer none):Sem Value).run C.P w=.ok v w/\relC C φ ν w c v:=by
 obtain⟨e,b⟩:=aPr d;unfold Dx at h
 cases op<;>simp at h<;>subst h
 ·exact⟨.bool a.isNone,by simp[eqGuard,binOp,aQ2 b],rfl⟩
 ·exact⟨.bool !a.isNone,by simp[eqGuard,binOp,aQ2 b],by cases a<;>rfl⟩
theorem aJ6 {c:AC}{b:Bool}{x:Value}(h:sF c=some (s,b))(r:relC C φ ν w c x):x=.bool b:=by
 cases c<;>simp[sF]at h<;>obtain⟨rfl,rfl⟩:=h<;>exact r
variable {x:Operand}
theorem aO3 {t:TypeId}{c:AC}{a b:Bool}(f:nH C.P t=true)(h:zL op s a b=some c):∃v,(do eqGuard op t x y (.bool a) (.bool b);binOp op t (.bool a) (.bool b):Sem Value).run C.P w=.ok v w/\relC C φ ν w c v:=by
 have g:C.P.underlying t=some .bool:=by
  unfold nH at f;split at f
  ·rename_i e;exact e
  ·cases f
 have d:(Op.equal t (.bool a) (.bool b)).run C.P w=.ok (a==b) w:=by
  unfold Op.equal;rw[show Op.maxDepth=9999+1 from rfl];unfold Op.equalIn;simp only[underlying,Sem.run_bind,run_program,Result.andThen_ok,g,Sem.run_pure]
 unfold zL at h
 cases op<;>simp at h<;>subst h
 ·exact⟨.bool (a==b),by simp[eqGuard,binOp,d],aJv _ _⟩
 ·exact⟨.bool !(a==b),by simp[eqGuard,binOp,d],aJv _ _⟩
theorem aS5 {t:TypeId}{c:AC}{a b:ByteArray}(h:Jp op a b=some c):∃v,(do eqGuard op t x y (.string a) (.string b);binOp op t (.string a) (.string b):Sem Value).run C.P w=.ok v w/\relC C φ ν w c v:=by
 unfold Jp at h
 cases op<;>simp at h<;>subst h
 ·exact⟨.bool (a.toList==b.toList),by simp[eqGuard,binOp,Op.stringOp],rfl⟩
 ·exact⟨.bool !(a.toList==b.toList),by simp[eqGuard,binOp,Op.stringOp],rfl⟩
theorem eqG {t:TypeId}{l:IntKind}{a b:Int}:(eqGuard op t x y (.int k a) (.int l b)).run C.P w=.ok () w:=by
 unfold eqGuard
 cases op<;>simp
theorem Sv {place:Nat->Option (Nat×Nat)}:∀{s:List (Nat×AV)} {u:List (Nat×Value)} {cs o:List AC} {cells:List Value},kM place cs s=some o->All2 (relC C φ ν w) cs cells->All2 (fun p x=>p.1=x.1/\dM C φ ν w p.2 x.2) s u->
  ∃out:List Value,Instr.fill place cells.toArray u=some out.toArray/\All2 (relC C φ ν w) o out
 | [],[],cs,o,cells,h,hc,_=>by
  simp[kM]at h;subst h;exact⟨cells,by simp[Instr.fill],hc⟩
 |(i,v)::s,(j,x)::u,cs,o,cells,h,hc,⟨⟨e,hv⟩,B⟩=>by
  simp only at e hv;subst e;unfold kM at h;obtain⟨⟨a,size⟩,z,d⟩:=aU h;simp only at d
  cases k:((cellsOf v).length==size&&Nat.ble (a+size) cs.length)with
  |false=>rw[k]at d;cases d
  |true=>
   rw[k]at d;simp only[cond_true]at d;simp only[Bool.and_eq_true,beq_iff_eq,Nat.ble_eq]at k;obtain⟨q,A⟩:=k;have F:=hc.len;have f:=Ym hv;have g:=f.len;simp only[Array.length_toList]at g;obtain⟨out,k1,E⟩:=Sv d (cells:=cells.take a++x.cells.toList++cells.drop (a+size)) ((All2.append (All2.append (hc.take a) f) (hc.drop _))) B;refine⟨out,?_,E⟩;unfold Instr.fill;simp only[z];rw[if_neg (by simp;omega)];rw[<-k1];congr 1;apply Array.toList_inj.1
   have r:∀(l:List Value) (n:Nat) (b:Array Value),((l.zipIdx n).foldl (fun cs (p:Value×Nat)=>cs.setIfInBounds (a+p.2) p.1) b).toList=gY b.toList (a+n) l:=by
    intro l
    induction l with
    |nil=>intro n b;simp[gY]
    |cons y l D=>intro n b;simp only[List.zipIdx_cons,List.foldl_cons,gY];rw[D];simp[Nat.add_assoc]
   have:=r x.cells.toList 0 cells.toArray;simp only[Nat.add_zero]at this;rw[Nj _ _ _ (by simp;omega)]at this;simp only[Array.length_toList]at this;rw[<-g,q]at this;rw[<-this,<-Array.toList_zipIdx,Array.foldl_toList]
 | [],_::_,_,_,_,_,_,h=>h.elim
 |_::_,[],_,_,_,_,_,h=>h.elim
theorem aP1 {a:List AC}{b:Array Value}(h:All2 (relC C φ ν w) a b.toList)(l:a.length≠0)(n:Nat):All2 (relC C φ ν w) (wF a n) ((Array.range n).map (b[·%b.size]!)).toList:=by
 have f:=h.len;simp only[Array.length_toList]at f
 have e:((Array.range n).map (b[·%b.size]!)).toList=(List.range n).map (b[·%b.size]!):=by simp
 rw[e];unfold wF
 refine All2.map _ fun i _=>?_
 have hi:i%a.length<a.length:=Nat.mod_lt _ (by omega);obtain⟨x,d,k⟩:=h.at (List.getElem?_eq_getElem hi)
 have g:a.getD (i%a.length) .any=a[i%a.length]:=by simp[List.getD,List.getElem?_eq_getElem hi]
 have j:b[i%b.size]! = x:=by
  rw[<-f];rw[Array.getElem?_toList]at d;rw[getElem!_def,d]
 rw[g,j];exact k
variable {pre post:List Value}
theorem Zo {ys:List Value}{off n:Nat}(h:off+n<=ys.length):((pre++ys++post).drop (pre.length+off)).take n=(ys.drop off).take n:=by
 rw[List.append_assoc,List.drop_append,List.drop_eq_nil_of_le (by omega:pre.length<=pre.length+off),List.nil_append,show pre.length+off-pre.length=off by omega,List.drop_append_of_le_length (by omega),List.take_append_of_le_length (by rw[List.length_drop];omega)]
variable {a:List Value}
theorem aOm {w:Nat}{x:Value}(h:a[w]?=some x):(pre++a++post)[pre.length+w]?=some x:=by
 have b:=(List.getElem?_eq_some_iff.1 h).1;rw[List.append_assoc,List.getElem?_append_right (by omega),show pre.length+w-pre.length=w by omega,List.getElem?_append_left b];exact h
variable {d:List Value}
theorem aL0 {b:List Value}{w:Nat}(h:w+b.length<=d.length):gY (i++d++a) (i.length+w) b=i++(d.take w++b++d.drop (w+b.length))++a:=by
 rw[Nj _ _ _ (by simp;omega)]
 have e:(i++d++a).take (i.length+w)=i++d.take w:=by
  rw[List.append_assoc,List.take_append,List.take_of_length_le (by omega),show i.length+w-i.length=w by omega,List.take_append_of_le_length (by omega)]
 have f:(i++d++a).drop (i.length+w+b.length)=d.drop (w+b.length)++a:=by
  rw[List.append_assoc,List.drop_append,List.drop_eq_nil_of_le (by omega),List.nil_append,show i.length+w+b.length-i.length=w+b.length by omega,List.drop_append_of_le_length (by omega)]
 rw[e,f];simp
theorem Kc {cs:List AC}(h:All2 (relC C φ ν w) cs d):∀y∈d,One y:=by
 intro y g;obtain⟨i,hi,e⟩:=List.getElem_of_mem g
 have a:i<cs.length:=by rw[h.len];exact hi
 obtain⟨j,b,f⟩:=h.at (List.getElem?_eq_getElem a);rw[List.getElem?_eq_getElem hi,e]at b;cases b;exact aKM f
end
section
variable {C:fF} {φ:Nat->Option (Nat×Nat)} {ν:List (Int×Nat)} {w:World} {ρ:Operand->Value} {ev:Operand->AT} {bx:Nat->Option bO}{cs:List AC}
theorem Nl {t:TypeId}(h:kZ C.P t=some cs):∃v,(zeroValue t).run C.P w=.ok v w/\All2 (relC C φ ν w) cs v.cells.toList:=by
 unfold kZ at h;obtain⟨v,d,a⟩:=aU h;obtain⟨i,e,j⟩:=aU d
 cases b:v.cells.toList.all Value.oneCell' with
 |false=>rw[b]at a;cases a
 |true=>
  rw[b]at a;simp only[cond_true,Option.some.injEq]at a;subst a;refine⟨v,by simp[zeroValue,typeInfo,e,j],?_⟩;rw[List.all_eq_true]at b;have:=All2.map (R:=relC C φ ν w) (f:=pX) (g:=id) v.cells.toList (fun x k=>aIe (b x k))
  simpa using this
theorem Xq:∀{d:List (Nat×Operand)} {b:List (Nat×AV)},(∀x,relT C φ ν w (ev x) (ρ x))->iP (d.map fun(i,x)=>(i,ev x))=some b->All2 (fun p x=>p.1=x.1/\dM C φ ν w p.2 x.2) b (d.map fun(i,x)=>(i,ρ x))
 | [],b,a,h=>by simp[iP]at h;subst h;trivial
 |(i,x)::d,b,a,h=>by
  have f:=a x;simp only[List.map_cons]at h ⊢
  cases e:ev x with
  |val v=>
   rw[e]at h f;simp only[iP]at h;obtain⟨r,g,rfl⟩:=cA h;exact⟨⟨rfl,f⟩,Xq a g⟩
  |_=>rw[e]at h;simp[iP]at h
theorem aMy:∀{d:List Operand} {b:List AV},(∀x,relT C φ ν w (ev x) (ρ x))->qI (d.map ev)=some b->All2 (dM C φ ν w) b (d.map ρ)
 | [],b,a,h=>by simp[qI]at h;subst h;trivial
 |x::d,b,a,h=>by
  have f:=a x;simp only[List.map_cons]at h ⊢
  cases e:ev x with
  |val v=>
   rw[e]at h f;simp only[qI]at h;obtain⟨r,g,rfl⟩:=cA h;exact⟨f,aMy a g⟩
  |_=>rw[e]at h;simp[qI]at h
theorem aN4 {t:TypeId}{a:Nat}{v:AV}(h:wE C.P t cs a=some v)(hc:All2 (relC C φ ν w) cs i):∃x,(part t i.toArray a).run C.P w=.ok x w/\dM C φ ν w v x:=by
 unfold wE at h;obtain⟨g,e,b⟩:=aU h
 cases g with
 |true=>
  simp only[cond_true]at b;obtain⟨n,d,rfl⟩:=cA b;refine⟨.agg (i.toArray.extract a (a+n)),by simp[part,Jw e,tO d],(i.drop a).take n,?_,(hc.drop a).take n⟩;congr 1;apply Array.toList_inj.1;simp[List.extract_eq_take_drop]
 |false=>
  simp only[cond_false]at b;obtain⟨c,d,rfl⟩:=cA b;obtain⟨x,f,j⟩:=hc.at d;exact⟨x,by simp[part,Jw e,f],j⟩
theorem aJt {b:List Field}{a:List (Nat×Nat)}(h:eW (fun(f:Field)=>(iE C.P f.type).map fun n=>(f.offset,n)) b=some a):(b.mapM fun(f:Field)=>Prod.mk f.offset <$> sizeOf f.type).run C.P w=.ok a w:=by
 induction b generalizing a with
 |nil=>simp[eW]at h;subst h;simp
 |cons f b j=>
  unfold eW at h;obtain⟨p,d,e⟩:=aU h;obtain⟨n,g,rfl⟩:=cA d;obtain⟨r,i,rfl⟩:=cA e;rw[List.mapM_cons];simp only[Sem.run_bind,Sem.run_map,tO g,Result.andThen_ok,Sem.run_pure,j i]
theorem aH8 {place:Nat->Option (Nat×Nat)}:∀{f:List (Nat×AV)} {cs b:List AC},kM place cs f=some b->b.length=cs.length
 | [],cs,b,h=>by simp[kM]at h;rw[h]
 |(i,v)::f,cs,b,h=>by
  unfold kM at h;obtain⟨⟨e,size⟩,g,a⟩:=aU h;simp only at a
  cases d:((cellsOf v).length==size&&Nat.ble (e+size) cs.length)with
  |false=>rw[d]at a;cases a
  |true=>
   rw[d]at a;simp only[cond_true]at a;simp only[Bool.and_eq_true,beq_iff_eq,Nat.ble_eq]at d;rw[aH8 a];simp;omega
theorem aQQ {t:TypeId}{x i:Operand}{b r len size:Nat}{y:IntKind}{v:Int}{e:nC}(hi:ρ i=.int y v)(u:relT C φ ν w (.val (.one (.dsl b r len size))) (ρ x))
  (h:((cV C.P t).bind fun e=>(iE C.P e).bind fun sz=>bif sz==size then some (nC.val (.val (.one (.ptr b 0))) [v=(r:Int)/\r<len])else none)=some e):uW C φ ν w bx ((do pure (Next.value (<-Instr.indexAt t (ρ x) (ρ i))):Sem Next).run C.P w) e:=by
 obtain⟨g,a,j⟩:=aU h;obtain⟨sz,l,h8⟩:=aU j;obtain⟨k,f,k1,z⟩:=u
 cases d:sz==size with
 |false=>rw[d]at h8;cases h8
 |true=>
  rw[d]at h8;simp only[cond_true,Option.some.injEq]at h8;subst h8
  have:sz=size:=by simpa using d
  subst this
  have s:C.P.underlying t=some (.slice g):=by
   unfold cV at a;split at a
   ·rename_i e;cases a;exact e
   ·cases a
  intro o;obtain⟨rfl,p⟩:=o.one
  have q:(r:Int)<(len:Int):=by omega
  exact⟨.pointer (some ⟨k,r*sz,none⟩),by simp[z,hi,Instr.indexAt,asIntOf,underlying,s,p,tO l,Fb],k,r*sz,k1,rfl⟩
variable {e:TypeId}{p:Nat}
theorem aHL {t g k ty:TypeId}{size sLen W j:Nat}{a:Addr}{i:Option Addr}{new:Array Value}{w:World}(l:P.underlying t=some (.slice e))(f:P.underlying g=some (.slice k))(d:iE P e=some size)
  (b:(Builtin.firstCells size W (.slice i W j)).run P w=.ok new w) (h:sLen+W<=p):
  (Builtin.append_ #[t,g] ty #[.slice (some a) sLen p,.slice i W j]).run P w=((storeCells (a.add (sLen*size)) new.toList).run P w).andThen fun _ o=>.ok (.slice (some a) (sLen+W) p) o:=by
 simp[Builtin.append_,underlying,l,f,tO d,Builtin.lenOf,h,b]
theorem aMJ {need cap:Nat}(a:cap<need)(b:need<=100):Builtin.nextslicecap need cap<=200:=by
 unfold Builtin.nextslicecap;split
 ·omega
 ·split
  ·omega
  ·omega
theorem aOY {t r v ty:TypeId}{size W u:Nat}{b s:Option Addr}{old new:Array Value}{i:TypeInfo}{w:World}(B:P.underlying t=some (.slice e))(q:P.underlying r=some (.slice v))(o:iE P e=some size)(hi:P.info? e=some i)(l:i.bytes<=1000000)
  (D:∀w,(zeroValue e).run P w=.ok z w)
  (hold:∀d,d.heap=w.heap->(Builtin.firstCells size k (.slice b k p)).run P d=.ok old d) (g:∀d,d.heap=w.heap->(Builtin.firstCells size W (.slice s W u)).run P d=.ok new d) (h:¬k+W<=p) (A:k+W<=100):
  ∃a,k+W<=a/\(Builtin.append_ #[t,r] ty #[.slice b k p,.slice s W u]).run P w=.ok (.slice (some ⟨w.heap.size,0,none⟩) (k+W) a) {w with heap:=w.heap.push (.cells (old++new++Builtin.zeroCells z.cells (a-(k+W))) e),drawn:=w.drawn+1}:=by
 have E:¬((k+W:Nat):Int)>IntKind.i64.max:=by
  have:IntKind.i64.max=9223372036854775807:=by decide
  omega
 have x:¬(IntKind.i64.max<(k:Int)+(W:Int)):=by
  have:IntKind.i64.max=9223372036854775807:=by decide
  omega
 have y:¬(Builtin.nextslicecap (k+W) p*i.bytes>2^48):=by
  have:=aMJ (need:=k+W) (cap:=p) (by omega) A;have:Builtin.nextslicecap (k+W) p*i.bytes<=200*1000000:=Nat.mul_le_mul this l;omega
 have j:¬(281474976710656<Builtin.nextslicecap (k+W) p*i.bytes):=by simpa using y
 refine⟨(Question.appendCap (k+W) p e).cut (w.tape w.drawn (.appendCap (k+W) p e)),by simp[Question.cut],?_⟩
 have f:¬((9223372036854775807:Int)<(k:Int)+(W:Int)):=by omega
 have d1:=hold w.drew rfl;have d2:=g w.drew rfl;simp[Builtin.append_,underlying,B,q,tO o,Builtin.lenOf,h,typeInfo,hi,f,j,Question.forced,d1,d2,D,newRow];rfl
theorem aDF {size:Nat}{w:World}:(Builtin.firstCells size 0 (.slice none 0 0)).run P w=.ok #[] w:=by simp[Builtin.firstCells]
theorem Xb {size len:Nat}{pre ys a:List Value}{ty:TypeId}{m:Nat×Nat}{w:World}(h:w.heap[k]?=some (.cells (pre++ys++a).toArray ty m))(b:ys.length=len*size):(Builtin.firstCells size len (.slice (some ⟨k,pre.length,none⟩) len p)).run P w=.ok ys.toArray w:=by
 simp only[Builtin.firstCells,loadCells];rw[Ry h pre.length (len*size) 0 #[] (by simp;omega),Nat.add_zero];have:=Zo (pre:=pre) (ys:=ys) (post:=a) (off:=0) (n:=len*size) (by omega);rw[Nat.add_zero]at this;rw[this];simp[<-b]
inductive rQ (C:fF) (φ:Nat->Option (Nat×Nat)) (ν:List (Int×Nat)) (w:World) (bx:Nat->Option bO) (e:TypeId) (size:Nat) (v:Value):Option Nat->List AC->Nat->Prop where
 |nil:v=.slice none 0 0->rQ C φ ν w bx e size v none [] 0
 |row (b:Nat) (B:bO) (k cap len:Nat) (pre ys post:List Value) (h1:bx b=some B) (h2:B.ty=e) (h3:φ b=some (k,pre.length)) (h4:v=.slice (some ⟨k,pre.length,none⟩) len cap) (h5:len<=cap)
   (h6:w.heap[k]?=some (.cells (pre++ys++post).toArray e (0,0))) (h7:All2 (relC C φ ν w) B.cs ys) (h8:ys.length=len*size) (h9:cap*size<=ys.length+post.length):rQ C φ ν w bx e size v (some b) B.cs len
theorem aKP {size:Nat}{t:AT}{old:Option Nat}{len:Nat}(h:rowOf bx e size t=some (old,cs,len))(x:relT C φ ν w t z)(n:wO C φ ν w bx):rQ C φ ν w bx e size z old cs len:=by
 unfold rowOf at h;split at h
 ·cases h;exact .nil x.1
 ·rename_i b p a sz;obtain⟨B,u,f⟩:=aU h
  cases j:(p==0&&sz==size&&B.ty==e&&B.cs.length==a*size)with
  |false=>rw[j]at f;cases f
  |true=>
   rw[j]at f;simp only[cond_true,Option.some.injEq,Prod.mk.injEq]at f;obtain⟨rfl,rfl,rfl⟩:=f;simp only[Bool.and_eq_true,beq_iff_eq]at j;obtain⟨⟨⟨rfl,rfl⟩,rfl⟩,I⟩:=j;obtain⟨k,o,l,F,m,r,A,D,i,s⟩:=x;obtain⟨J,L,g,y,d,f1,f2,f3,q⟩:=n b B u;rw[r]at f1;cases f1;subst f3
   have E:m=(g++y++d).length:=by
    unfold World.shape? at i;rw[f2]at i;simp only[Option.some.injEq,Prod.mk.injEq]at i;rw[<-i.2];simp
   have H:=q.len;refine .row b B k l a g y d u rfl r (by rw[A];simp) D f2 q (by omega) ?_;rw[E]at s;simp at s;omega
 ·cases h
theorem rQ.cells {size:Nat}{old:Option Nat}{len:Nat}(h:rQ C φ ν w bx e size z old cs len):∃d:List Value,d.length=len*size/\All2 (relC C φ ν w) cs d/\∀a,a.heap=w.heap->(Builtin.firstCells size len z).run C.P a=.ok d.toArray a:=by
 cases h with
 |nil h=>subst h;exact⟨[],by simp,trivial,fun a _=>aDF⟩
 |row b B k g _ o d f p q r i s j l h8 u=>
  subst i;exact⟨d,h8,l,fun a n=>Xb (by rw[n];exact j) h8⟩
theorem aMw {args:Array Operand}{ts:Array TypeId}{o:Oper}{e:nC}(E:∀x,relT C φ ν w (ev x) (ρ x))(D:wO C φ ν w bx)(d:evalOp C.P ev bx (.call { callee:=.builtin .append,args:=args,argTypes:=ts})=some e):
  uW C φ ν w bx ((do pure (Next.value (<-Builtin.append_ ts o.type (args.map ρ))):Sem Next).run C.P w) e:=by
 simp only[evalOp]at d;split at d
 ·rename_i t O s x e1 e2;obtain⟨L,h1,d⟩:=aU d;obtain⟨a1,h2,d⟩:=aU d;obtain⟨size,T,d⟩:=aU d;obtain⟨i,z,d⟩:=aU d;obtain⟨zero,A,d⟩:=aU d;obtain⟨⟨old,cs,len⟩,h6,d⟩:=aU d;obtain⟨⟨aq,ds,n⟩,h7,d⟩:=aU d;simp only at d
  cases M:(Nat.ble (len+n) 100&&Nat.ble i.bytes 1000000&&!(n==0)&&!(size==0)&&zero.length==size&&kO bx old)with
  |false=>rw[M]at d;cases d
  |true=>
   rw[M]at d;simp only[cond_true,Option.some.injEq]at d;subst d;simp only[Bool.and_eq_true,Nat.ble_eq,Bool.not_eq_true',beq_eq_false_iff_ne,beq_iff_eq]at M;obtain⟨⟨⟨⟨⟨b1,b2⟩,b3⟩,b4⟩,b5⟩,b6⟩:=M
   have S:args=#[s,x]:=by apply Array.toList_inj.1;rw[e2]
   have et:ts=#[t,O]:=by apply Array.toList_inj.1;rw[e1]
   subst S et
   have I:∀{t e:TypeId},cV C.P t=some e->C.P.underlying t=some (.slice e):=by
    intro t e h;unfold cV at h;split at h
    ·rename_i e;cases h;exact e
    ·cases h
   have hu:=I h1;have H:=I h2;have rs:=aKP h6 (E s) D;have rx:=aKP h7 (E x) D;obtain⟨R,y1,y2,y3⟩:=rs.cells;obtain⟨q,z1,z2,z3⟩:=rx.cells;obtain⟨J,_,zr⟩:=Nl (C:=C) (φ:=φ) (ν:=ν) (w:=w) A
   have hz:∀w,(zeroValue L).run C.P w=.ok J w:=by
    intro y;unfold kZ at A;obtain⟨v,q1,q2⟩:=aU A;obtain⟨i',q3,q4⟩:=aU q1;rw[z]at q3;cases q3
    have e1:(zeroValue L).run C.P w=.ok v w:=by simp[zeroValue,typeInfo,z,q4]
    obtain⟨bf,e2,_⟩:=Nl (C:=C) (φ:=φ) (ν:=ν) (w:=w) A;simp[zeroValue,typeInfo,z,q4]at*;assumption
   have W:J.cells.size=size:=by
    have:=zr.len;simp only[Array.length_toList]at this;omega
   obtain⟨xo,xc,U⟩:∃xo xc,ρ x=.slice xo n xc:=by
    cases rx with
    |nil h=>exact⟨none,0,h⟩
    |row b B k j _ g R f h1 h2 T z A h6 h7 h8 h9=>exact⟨_,j,z⟩
   rw[U]at z3
   have u:∀(v:Value) (y:World),(Builtin.append_ #[t,O] o.type #[ρ s,ρ x]).run C.P w=.ok v y->((do pure (Next.value (<-Builtin.append_ #[t,O] o.type (#[s,x].map ρ))):Sem Next).run C.P w)=.ok (.value v) y:=by
    intro v y h
    have e:#[s,x].map ρ=#[ρ s,ρ x]:=by simp
    rw[e,Sem.run_bind,h];rfl
   have r:∀(bo:Option Addr) (j:Nat),ρ s=.slice bo len j->¬len+n<=j->uW C φ ν w bx ((do pure (Next.value (<-Builtin.append_ #[t,O] o.type (#[s,x].map ρ))):Sem Next).run C.P w) (.app old (cs++ds) L (len+n) size):=by
    intro bo j hs hc;rw[hs]at y3;obtain⟨l,c1,c2⟩:=aOY (ty:=o.type) hu H T z b2 hz y3 z3 hc b1;rw[<-hs,<-U]at c2;refine⟨_,_,l,u _ _ c2,c1,b6,Or.inl ⟨R++q,(Builtin.zeroCells J.cells (l-(len+n))).toList,?_,rfl,y2.append z2,?_⟩⟩
    ·have S:R.toArray++q.toArray++Builtin.zeroCells J.cells (l-(len+n))=(R++q++(Builtin.zeroCells J.cells (l-(len+n))).toList).toArray:=by
      apply Array.toList_inj.1;simp
     rw[S]
    ·simp only[Builtin.zeroCells,Array.toList_map,List.length_map,Array.length_toList,Array.size_range,List.length_append];rw[y1,z1,W,<-Nat.add_mul,<-Nat.add_mul];exact Nat.mul_le_mul_right _ (by omega)
   cases rs with
   |nil h=>exact r none 0 h (by omega)
   |row b B k j _ g p f g1 g2 g3 g4 g5 g6 g7 g8 g9=>
    by_cases hc:len+n<=j
    ·have F:=z3 w rfl;have N:=aHL (ty:=o.type) (a:=⟨k,g.length,none⟩) hu H T F hc
     have a6:n*size<=f.length:=by
      have:(len+n)*size<=j*size:=Nat.mul_le_mul_right _ hc;rw[Nat.add_mul]at this;omega
     obtain⟨y,s1,X⟩:=Rt (P:=C.P) (g.length+len*size) q 0 w (g++p++f) g6 (by simp;omega) (Kc z2);rw[Fb,List.toList_toArray,s1]at N;simp only[Result.andThen_ok]at N;rw[<-g4,<-U]at N;rw[Nat.add_zero,Nj _ _ _ (by simp;omega)]at X
     have t1:(g++p++f).take (g.length+len*size)=g++p:=by
      rw[List.take_append_of_le_length (by simp;omega),List.take_of_length_le (by simp;omega)]
     have t2:(g++p++f).drop (g.length+len*size+q.length)=f.drop q.length:=by
      rw[List.drop_append,List.drop_eq_nil_of_le (by simp;omega),List.nil_append];congr 1;simp;omega
     rw[t1,t2]at X
     have Y:jP w y k (g++(p++q)++f.drop q.length) L:=by
      rw[<-List.append_assoc g];exact X
     refine⟨_,y,j,u _ _ N,hc,b6,Or.inr ⟨b,B,k,g.length,g,p,f,q,f.drop q.length,rfl,g1,g2,g3,rfl,g6,rfl,g7,Y,?_,g7.append z2,?_⟩⟩
     ·simp;omega
     ·simp;omega
    ·exact r _ j g4 hc
 ·cases d
theorem wR {o:Oper}{e:nC}(l:∀x,relT C φ ν w (ev x) (ρ x))(aq:wO C φ ν w bx)(bf:∀f,ρ (.func f)=.func (.func f) #[] #[])(be:∀f vs,e=.call f vs->∀xs w,(callFunc f xs).run C.P w=.ok (.enter f xs) w)
  (h:evalOp C.P ev bx o.op=some e):uW C φ ν w bx ((execOp ρ o).run C.P w) e:=by
 unfold execOp;generalize o.op=op at h
 cases op with
 |move x=>simp[evalOp]at h;subst h;exact fun _=>⟨_,rfl,l x⟩
 |assign x=>simp[evalOp]at h;subst h;exact fun _=>⟨_,rfl,l x⟩
 |pick c a b=>
  unfold evalOp at h;obtain⟨cc,D,j⟩:=aU h;have hc:=l c;rw[pP D]at hc;have ha:=l a;have A:=l b
  cases cc<;>simp only at j
  case bool t=>
   simp at j;subst j;have hc:ρ c=.bool t:=hc
   refine fun _=>⟨if t=true then ρ a else ρ b,by simp[hc,asBool],?_⟩
   cases t
   ·exact A
   ·exact ha
  case sbool t=>
   have hc:ρ c=.bool t:=hc
   have run:((do pure (.value (if <-asBool (ρ c)then ρ a else ρ b))):Sem Next).run C.P w=.ok (.value (if t=true then ρ a else ρ b)) w:=by simp[hc,asBool]
   split at j<;>(try cases j)<;>(simp only[*]at ha A)<;>(refine fun U=>⟨_,run,?_⟩)<;>cases t<;>simp only[relT,dM,relC,cond_true,cond_false,if_true,Bool.false_eq_true,if_false]at*
   all_goals first
    |exact A
    |exact ha
    |(have U:=U.one;simp at U;simp[U]at ha A;first|exact A|exact ha)
  all_goals cases j
 |alloc t=>
  unfold evalOp at h;obtain⟨cs,D,rfl⟩:=cA h;obtain⟨v,j,z⟩:=Nl (φ:=φ) (ν:=ν) (w:=w) D;exact⟨v.cells.toList,by simp[Instr.alloc,j,newVar,newRow,xS],z,fun _ _ e=>by cases e⟩
 |box t x=>
  unfold evalOp at h;obtain⟨v,D,rfl⟩:=cA h;have q:=l x;rw[Bs D]at q;exact⟨(ρ x).cells.toList,by simp[Instr.box,newVar,newRow,xS],Ym q,fun _ _ e=>by cases e⟩
 |build t L=>
  unfold evalOp at h;obtain⟨zero,D,j⟩:=aU h;obtain⟨ps,z,F⟩:=aU j;obtain⟨cs,p,rfl⟩:=cA F;obtain⟨zv,hz,ak⟩:=Nl (φ:=φ) (ν:=ν) (w:=w) D;have aj:=Xq l z;intro _
  cases J:C.P.underlying t with
  |none=>rw[J]at p;cases p
  |some d=>
   rw[J]at p
   cases d<;>simp only at p<;>try cases p
   case struct fs=>
    obtain⟨Y,I,N⟩:=aU p;obtain⟨out,h8,h9⟩:=Sv N ak aj;refine⟨.agg out.toArray,?_,out,rfl,h9⟩;have hm:=aJt (w:=w) I
    have e1:(fs.mapM fun(f:Field)=>Prod.mk f.offset <$> sizeOf f.type).run C.P w=.ok Y.toArray w:=by
     rw[<-Array.toArray_toList (xs:=fs),List.mapM_toArray];simp only[Sem.run_map];rw[hm];rfl
    have ao:Instr.fill (fun x=>Y[x]?) zv.cells (List.map (fun x=>(x.fst,ρ x.snd)) L.toList)=some out.toArray:=by
     rw[<-h8]
    simp[Instr.build,hz,underlying,J,e1,ao]
   case array n el=>
    obtain⟨sz,I,N⟩:=aU p;obtain⟨out,h8,h9⟩:=Sv N ak aj;refine⟨.agg out.toArray,?_,out,rfl,h9⟩
    have ao:Instr.fill (fun i=>some (i*sz,sz)) zv.cells (L.toList.map fun(i,x)=>(i,ρ x))=some out.toArray:=by
     rw[<-h8]
    simp[Instr.build,hz,underlying,J,tO I,ao]
 |buildSlice t len L=>
  simp only[evalOp]at h;obtain⟨e1,D,j⟩:=aU h;obtain⟨size,z,F⟩:=aU j;obtain⟨zero,p,I⟩:=aU F
  cases A:(Nat.ble (len*size) 16777216&&!(zero.length==0))with
  |false=>rw[A]at I;cases I
  |true=>
   rw[A]at I;simp only[cond_true]at I;simp only[Bool.and_eq_true,Nat.ble_eq,Bool.not_eq_true',beq_eq_false_iff_ne]at A;obtain⟨ps,N,h8⟩:=aU I;obtain⟨cs,h9,rfl⟩:=cA h8;obtain⟨zv,hz,ak⟩:=Nl (φ:=φ) (ν:=ν) (w:=w) p;have aj:=Xq l N;have a4:=aP1 ak A.2 (len*size);obtain⟨out,k1,E⟩:=Sv h9 a4 aj
   have J:C.P.underlying t=some (.slice e1):=by
    unfold cV at D;split at D
    ·rename_i e;cases D;exact e
    ·cases D
   have a2:out.length=len*size:=by
    have e1:=E.len;rw[<-e1,aH8 h9];simp[wF]
   refine⟨out,?_,E,fun n sz e=>by cases e;exact a2⟩
   have M:Instr.fill (fun i=>some (i*size,size)) (Array.map (fun x=>zv.cells[x%zv.cells.size]!) (Array.range (len*size))) (List.map (fun x=>(x.fst,ρ x.snd)) L.toList)=some out.toArray:=by
    rw[<-k1]
   by_cases h0:len*size=0
   ·have a6:Instr.fill (fun i=>some (i*size,size)) #[] (List.map (fun x=>(x.fst,ρ x.snd)) L.toList)=some out.toArray:=by
     rw[h0]at M
     have e0:Array.map (fun x=>zv.cells[x%zv.cells.size]!) (Array.range 0)=#[]:=by apply Array.toList_inj.1;simp
     rw[e0]at M;exact M
    have e0:Array.range 0=#[]:=by apply Array.toList_inj.1;simp
    simp[Instr.buildSlice,underlying,J,tO z,h0,e0,a6,newRow,xS]
   ·have:¬16777216<len*size:=by omega
    simp[Instr.buildSlice,underlying,J,tO z,h0,this,hz,M,newRow,xS]
 |convert b4 a9 x=>
  simp only[evalOp]at h;obtain⟨c,D,j⟩:=aU h;obtain⟨⟨s,k,n⟩,z,F⟩:=aU j;obtain⟨d1,p,I⟩:=aU F;have q:=l x;rw[pP D]at q;have ex:=Tu z q
  cases J:C.P.underlying a9 with
  |none=>rw[J]at I;cases I
  |some d=>
   rw[J]at I
   cases d<;>simp only at I<;>try cases I
   case int.refl k'=>
    exact fun _=>⟨.int k' (k'.wrap n),by simp[convert,underlying,p,J,ex,Conv.intToInt],Ui _ _ _⟩
 |load t a=>
  unfold evalOp at h;obtain⟨c,D,j⟩:=aU h;have ha:=l a;rw[pP D]at ha
  cases c<;>simp only at j<;>try cases j
  case ptr b off=>
   obtain⟨B,z,F⟩:=aU j;obtain⟨v,p,rfl⟩:=cA F;obtain⟨k,o,T,xs,S,k1,E,k0,W⟩:=aq b B z;obtain⟨k',o',M,X⟩:=ha;rw[k1]at M;cases M;subst k0;intro _;unfold vX at p;obtain⟨g,g1,O⟩:=aU p
   cases g with
   |true=>
    simp only[cond_true]at O;obtain⟨n,g3,R⟩:=aU O
    cases A:Nat.ble (off+n) B.cs.length with
    |false=>rw[A]at R;cases R
    |true=>
     rw[A]at R;simp only[cond_true,Option.some.injEq]at R;subst R;rw[Nat.ble_eq,W.len]at A;refine⟨.agg ((xs.drop off).take n).toArray,?_,_,rfl,(W.drop off).take n⟩;simp only[X,Instr.loadAt,Instr.sureAddr,loadVar,loadCells,Sem.run_bind,Sem.run_pure,Result.andThen_ok,Jw g1,tO g3,if_true,Ry E (T.length+off) n 0 #[] (by simp;omega),Nat.add_zero,Zo A];simp
   |false=>
    simp only[cond_false]at O;obtain⟨c,g3,rfl⟩:=cA O;obtain⟨x,R,g5⟩:=W.at g3;have sg:=aOm (pre:=T) (post:=S) R;rw[List.append_assoc]at sg;exact⟨x,by simp[X,Instr.loadAt,Instr.sureAddr,loadVar,Jw g1,Kt E,sg],g5⟩
 |store t a x=>
  unfold evalOp at h;obtain⟨c,D,j⟩:=aU h;have ha:=l a;rw[pP D]at ha
  cases c<;>simp only at j<;>try cases j
  case ptr b off=>
   obtain⟨v,z,F⟩:=aU j;obtain⟨B,p,ah⟩:=aU F
   have a3:B.ro=false:=by
    cases X:B.ro with
    |false=>rfl
    |true=>rw[X]at ah;cases ah
   rw[a3]at ah;have I:(uT C.P t B.cs off v).map (fun cs=>nC.mQ b cs)=some e:=ah;obtain⟨cs,N,rfl⟩:=cA I;have q:=l x;rw[Bs z]at q;obtain⟨k,o,T,xs,S,k1,E,k0,W⟩:=aq b B p;obtain⟨k',o',M,X⟩:=ha;rw[k1]at M;cases M;subst k0;unfold uT at N;obtain⟨n,g1,O⟩:=aU N
   cases A:((cellsOf v).length==n&&Nat.ble (off+n) B.cs.length)with
   |false=>rw[A]at O;cases O
   |true=>
    rw[A]at O;simp only[cond_true,Option.some.injEq]at O;subst O;simp only[Bool.and_eq_true,beq_iff_eq,Nat.ble_eq]at A;obtain⟨b1,b2⟩:=A;have ar:=Ym q;have hl:=ar.len;have br:=W.len;simp only[Array.length_toList]at hl
    have e:(ρ x).cells.toList.length=n:=by simp;omega
    obtain⟨w',s1,s2⟩:=Rt (P:=C.P) (T.length+off) (ρ x).cells.toList 0 w (T++xs++S) E (by simp;omega) (Kc ar);rw[Nat.add_zero,aL0 (by rw[e];omega),e]at s2;refine⟨B,k,T.length,w',T,xs,S,_,p,a3,k1,?_,s2,E,rfl,?_,All2.append (All2.append (W.take off) ar) (W.drop _),by simp;omega⟩
    ·have:(ρ x).cells.size=n:=by omega
     simp[X,Instr.storeAt,Instr.sureAddr,storeVar,tO g1,this,s1]
    ·simp only[List.length_append,List.length_take,List.length_drop,e];omega
 |nilCheck x=>
  unfold evalOp at h;obtain⟨c,D,j⟩:=aU h;have q:=l x;rw[pP D]at q
  cases c<;>simp only at j<;>cases j
  case ptr.refl b off=>
   intro _;obtain⟨k,o,k1,E⟩:=q;exact⟨ρ x,by simp[E],k,o,k1,E⟩
 |binOp op t x y u=>
  unfold evalOp at h;obtain⟨a,D,j⟩:=aU h;obtain⟨b,z,F⟩:=aU j;obtain⟨c,p,rfl⟩:=cA F;have q:=l x;rw[pP D]at q;have hy:=l y;rw[pP z]at hy;unfold Pf at p;split at p
  ·rename_i b1 o1;obtain⟨k,o,k1,E⟩:=q;obtain⟨W,_⟩:=hy
   cases U:nX C.P t with
   |false=>rw[U]at p;cases p
   |true=>
    rw[U]at p;obtain⟨v,r1,r2⟩:=aNJ (C:=C) (φ:=φ) (ν:=ν) (w:=w) (a:=some ⟨k,o+o1,none⟩) (x:=x) (y:=y) U p
    exact fun _=>⟨v,by rw[<-E,<-W]at r1;simp only[Sem.run_bind]at r1 ⊢;rw[r1];rfl,r2⟩
  ·obtain⟨E,_⟩:=q;obtain⟨W,_⟩:=hy
   cases U:nX C.P t with
   |false=>rw[U]at p;cases p
   |true=>
    rw[U]at p;obtain⟨v,r1,r2⟩:=aNJ (C:=C) (φ:=φ) (ν:=ν) (w:=w) (a:=none) (x:=x) (y:=y) U p
    exact fun _=>⟨v,by
     show((do eqGuard op t x y (ρ x) (ρ y);binOp op t (ρ x) (ρ y):Sem Value) >>= fun v=>pure (Next.value v):Sem Next).run C.P w=_;rw[E,W,Sem.run_bind,r1]
     rfl,r2⟩
  ·obtain⟨E,_⟩:=q;obtain⟨W,_⟩:=hy;obtain⟨v,r1,r2⟩:=aS5 (C:=C) (φ:=φ) (ν:=ν) (w:=w) (t:=t) (x:=x) (y:=y) p
   exact fun _=>⟨v,by
     show((do eqGuard op t x y (ρ x) (ρ y);binOp op t (ρ x) (ρ y):Sem Value) >>= fun v=>pure (Next.value v):Sem Next).run C.P w=_;rw[E,W,Sem.run_bind,r1]
     rfl,r2⟩
  ·cases ap:sF a with
   |some sb=>
    obtain⟨s,b1⟩:=sb;rw[ap]at p;simp only at p;obtain⟨⟨s',b2⟩,g1,O⟩:=aU p;simp only at O;have E:=aJ6 ap q;have W:=aJ6 g1 hy
    cases U:nH C.P t with
    |false=>rw[U]at O;cases O
    |true=>
     rw[U]at O;obtain⟨v,r1,r2⟩:=aO3 (C:=C) (φ:=φ) (ν:=ν) (w:=w) (x:=x) (y:=y) U O
     exact fun _=>⟨v,by
      show((do eqGuard op t x y (ρ x) (ρ y);binOp op t (ρ x) (ρ y):Sem Value) >>= fun v=>pure (Next.value v):Sem Next).run C.P w=_;rw[E,W,Sem.run_bind,r1]
      rfl,r2⟩
   |none=>
   rw[ap]at p;simp only at p;obtain⟨⟨s,k,n⟩,g1,O⟩:=aU p;obtain⟨⟨s',k',n'⟩,g3,R⟩:=aU O;simp only at R;have ex:=Tu g1 q;have ey:=Tu g3 hy;split at R
   ·rename_i hk;subst hk;split at R
    ·rename_i c' A;cases R;obtain⟨v,r1,r2⟩:=aRJ (C:=C) (φ:=φ) (ν:=ν) (w:=w) (t:=t) A
     exact fun _=>⟨v,by simp[ex,ey,eqG,r1],r2⟩
    ·cases A:(s'&&!(n'==0))with
     |false=>rw[A]at R;cases R
     |true=>
      rw[A]at R
      have hn:n'≠0:=by simp at A;exact A.2
      obtain⟨v,r1,r2⟩:=aRZ (C:=C) (φ:=φ) (ν:=ν) (w:=w) (t:=t) hn R
      exact fun _=>⟨v,by simp[ex,ey,eqG,r1],r2⟩
   ·cases R
 |unOp op t x=>
  cases op<;>simp only[evalOp]at h<;>try cases h
  case neg=>
   obtain⟨c,D,j⟩:=aU h;obtain⟨⟨s,k,n⟩,z,rfl⟩:=cA j;have q:=l x;rw[pP D]at q;have ex:=Tu z q
   exact fun _=>⟨.int k (k.wrap (0-n)),by simp[ex,Op.unary,Op.intArith],Ui _ _ _⟩
  case not=>
   obtain⟨c,D,j⟩:=aU h;have q:=l x;rw[pP D]at q
   cases c<;>simp only at j<;>cases j
   ·rename_i b;have q:ρ x=.bool b:=q
    exact fun _=>⟨.bool !b,by simp[q,Op.unary],rfl⟩
   ·rename_i b;have q:ρ x=.bool b:=q
    exact fun _=>⟨.bool !b,by simp[q,Op.unary],rfl⟩
 |fieldAddr t x f=>
  unfold evalOp at h;obtain⟨c,D,j⟩:=aU h;have q:=l x;rw[pP D]at q
  cases c<;>simp only at j<;>try cases j
  case ptr b off=>
   obtain⟨fs,z,F⟩:=aU j;obtain⟨fd,p,I⟩:=aU F;obtain⟨n,N,h8⟩:=aU I;obtain⟨k,o,k1,E⟩:=q
   cases hn:n==0 with
   |true=>rw[hn]at h8;cases h8
   |false=>
    rw[hn]at h8;simp only[cond_false,Option.some.injEq]at h8;subst h8
    have bg:n≠0:=by simpa using hn
    have J:C.P.underlying t=some (.struct fs):=by
     unfold fieldsOf at z;split at z
     ·rename_i e;cases z;exact e
     ·cases z
    intro _;exact⟨.pointer (some ⟨k,o+off+fd.offset,none⟩),by simp[E,Instr.fieldAt,underlying,J,p,Instr.sureAddr,fieldPlace,tO N,bg,Fb],k,o,k1,by rw[Nat.add_assoc]⟩
 |field t x f=>
  unfold evalOp at h;obtain⟨v,D,j⟩:=aU h;have q:=l x;rw[Bs D]at q
  cases v<;>simp only at j<;>try cases j
  case agg cs=>
   obtain⟨fs,z,F⟩:=aU j;obtain⟨fd,p,I⟩:=aU F;obtain⟨v,N,rfl⟩:=cA I;obtain⟨xs,e,X⟩:=q;obtain⟨y,y1,y2⟩:=aN4 N X
   have J:C.P.underlying t=some (.struct fs):=by
    unfold fieldsOf at z;split at z
    ·rename_i e;cases z;exact e
    ·cases z
   exact fun _=>⟨y,by simp[e,Instr.field,underlying,J,p,asAgg,y1],y2⟩
 |indexAddr t x i=>
  unfold evalOp at h;obtain⟨c,D,j⟩:=aU h;have hi:=l i;rw[pP D]at hi
  cases c<;>simp only at j<;>try cases j
  case int ik n=>
   obtain⟨c,z,F⟩:=aU j;have q:=l x;rw[pP z]at q;have hi:ρ i=.int ik n:=hi
   cases c<;>simp only at F<;>try cases F
   case ptr b off=>
    obtain⟨⟨len,e⟩,p,I⟩:=aU F;obtain⟨sz,N,h8⟩:=aU I;obtain⟨k,o,k1,E⟩:=q;simp only at N h8
    cases A:(decide (0<=n)&&decide (n<len))with
    |false=>rw[A]at h8;cases h8
    |true=>
     rw[A]at h8;simp only[cond_true,Option.some.injEq]at h8;subst h8;simp at A
     have J:C.P.underlying t=some (.array len e):=by
      unfold nF at p;split at p
      ·rename_i e;cases p;exact e
      ·cases p
     exact fun _=>⟨.pointer (some ⟨k,o+off+n.toNat*sz,none⟩),by simp[E,hi,Instr.indexAt,asIntOf,underlying,J,Instr.sureAddr,A,tO N,Fb],k,o,k1,by rw[Nat.add_assoc]⟩
   case slc b off len cap=>
    obtain⟨e,p,I⟩:=aU F;obtain⟨sz,N,h8⟩:=aU I;obtain⟨k,o,cp,_,_,k1,E,_⟩:=q
    cases A:(decide (0<=n)&&decide (n<len))with
    |false=>rw[A]at h8;cases h8
    |true=>
     rw[A]at h8;simp only[cond_true,Option.some.injEq]at h8;subst h8;simp at A
     have J:C.P.underlying t=some (.slice e):=by
      unfold cV at p;split at p
      ·rename_i e;cases p;exact e
      ·cases p
     exact fun _=>⟨.pointer (some ⟨k,o+off+n.toNat*sz,none⟩),by simp[E,hi,Instr.indexAt,asIntOf,underlying,J,Instr.sureAddr,A,tO N,Fb],k,o,k1,by rw[Nat.add_assoc]⟩
   case dsl b r len size=>
    exact aQQ hi q F
  case sint ik n=>
   obtain⟨c,z,F⟩:=aU j;have q:=l x;rw[pP z]at q;have hi:ρ i=.int ik n:=hi
   cases c<;>simp only at F<;>try cases F
   case dsl b r len size=>
    exact aQQ hi q F
 |index t x i=>
  unfold evalOp at h;obtain⟨c,D,j⟩:=aU h;have hi:=l i;rw[pP D]at hi
  cases c<;>simp only at j<;>try cases j
  case int ik n=>
   obtain⟨v,z,F⟩:=aU j;have q:=l x;rw[Bs z]at q;have hi:ρ i=.int ik n:=hi
   cases v<;>simp only at F<;>try cases F
   case agg cs=>
    obtain⟨⟨len,e⟩,p,I⟩:=aU F;obtain⟨sz,N,h8⟩:=aU I;simp only at N h8
    cases A:(decide (0<=n)&&decide (n<len))with
    |false=>rw[A]at h8;cases h8
    |true=>
     rw[A]at h8;simp only[cond_true]at h8;obtain⟨v,h9,rfl⟩:=cA h8;simp at A
     have J:C.P.underlying t=some (.array len e):=by
      unfold nF at p;split at p
      ·rename_i e;cases p;exact e
      ·cases p
     obtain⟨xs,ex,X⟩:=q;obtain⟨y,y1,y2⟩:=aN4 h9 X
     exact fun _=>⟨y,by simp[ex,hi,Instr.index,asIntOf,underlying,J,A,tO N,y1],y2⟩
 |extract x i=>
  simp only[evalOp]at h;have q:=l x
  cases ht:ev x<;>rw[ht]at h q<;>simp only at h<;>try cases h
  case tup vs=>
   obtain⟨v,D,rfl⟩:=cA h;obtain⟨xs,e,X⟩:=q;obtain⟨y,y1,y2⟩:=X.at D
   exact fun _=>⟨y,by simp[e,Instr.extract,y1],y2⟩
 |call c=>
  obtain⟨af,args,H⟩:=c
  cases af with
  |value f=>
   cases f with
   |func f=>
    simp only[evalOp]at h;obtain⟨vs,D,rfl⟩:=cA h;have X:=aMy l D;refine⟨args.toList.map ρ,?_,X⟩
    have e:(args.toList.map ρ).toArray=args.map ρ:=by apply Array.toList_inj.1;simp
    rw[e];have:=be f vs rfl (args.map ρ) w;simp[resolve,bf,Deferred.ofValue,invoke,this]
   |_=>simp[evalOp]at h
  |builtin b=>
   cases b<;>try (simp[evalOp]at h;done)
   case len=>
    simp only[evalOp]at h;split at h
    ·rename_i t x e1 e2;obtain⟨c,D,j⟩:=aU h;have q:=l x;rw[pP D]at q
     cases c<;>simp only at j<;>try cases j
     case slc b off len cap=>
      obtain⟨el,z,rfl⟩:=cA j;obtain⟨k,o,cp,_,_,k1,E,_⟩:=q
      have J:C.P.underlying t=some (.slice el):=by
       unfold cV at z;split at z
       ·rename_i e;cases z;exact e
       ·cases z
      have ea:args=#[x]:=by apply Array.toList_inj.1;rw[e2]
      have et:H=#[t]:=by apply Array.toList_inj.1;rw[e1]
      subst ea et
      exact fun _=>⟨.int .i64 len,by simp[resolve,invoke,builtin,Builtin.len_,underlying,J,E,goInt],rfl⟩
     case dsl b r len size=>
      obtain⟨el,z,rfl⟩:=cA j;obtain⟨k,cp,k1,E⟩:=q
      have J:C.P.underlying t=some (.slice el):=by
       unfold cV at z;split at z
       ·rename_i e;cases z;exact e
       ·cases z
      have ea:args=#[x]:=by apply Array.toList_inj.1;rw[e2]
      have et:H=#[t]:=by apply Array.toList_inj.1;rw[e1]
      subst ea et
      exact fun _=>⟨.int .i64 len,by simp[resolve,invoke,builtin,Builtin.len_,underlying,J,E,goInt],rfl⟩
     case lit v=>
      cases hn:Dy v with
      |false=>rw[hn]at j;cases j
      |true=>
       rw[hn]at j;simp only[cond_true]at j;obtain⟨el,z,rfl⟩:=cA j;obtain⟨c,rfl⟩:=aSs hn;have E:ρ x=.slice none 0 c:=q.1
       have J:C.P.underlying t=some (.slice el):=by
        unfold cV at z;split at z
        ·rename_i e;cases z;exact e
        ·cases z
       have ea:args=#[x]:=by apply Array.toList_inj.1;rw[e2]
       have et:H=#[t]:=by apply Array.toList_inj.1;rw[e1]
       subst ea et
       exact fun _=>⟨.int .i64 0,by simp[resolve,invoke,builtin,Builtin.len_,underlying,J,E,goInt],rfl⟩
    ·cases h
   case append=>
    have:=aMw (o:=o) l aq h;exact this
  |_=>simp[evalOp]at h
 |_=>simp[evalOp]at h
end
end Ab
end Go.Proofs.YtkmojpfpfoaloaaGreatDoor
