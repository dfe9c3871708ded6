import Derived.Tactics2
import Derived.Below
import Derived.Orders
import Derived.LoopN
import Derived.Laws.Sem
set_option linter.all false
set_option maxRecDepth 100000
set_option maxHeartbeats 2000000
namespace Go.Proofs.YthhffdeihoofiaaGreatDoor
open Nat (le_refl le_trans add_assoc ble_eq add_zero add_mul)
open List (getElem?_eq_getElem all_eq_true append_assoc drop_append nil_append take_append_of_le_length)
open Bool (false_eq_true and_eq_true)
abbrev LI:=Nat->Option (Nat×Nat)
abbrev LV:=List (Int×Nat)
abbrev LN:=List Int
abbrev LB:=List Value
abbrev PH:=List Nat
abbrev NU:=Nat->Nat
abbrev NN:=Ending->World->Prop
abbrev EW:=List UInt8
abbrev ON:=Option Nat
abbrev FF:=FuncId->Option Func
abbrev XW:=Exit->Act->World->Prop
abbrev AW:=Act->World->Prop
open Go.RowKit
namespace Ab
abbrev One (v:Value):Prop:=v.oneCell'=true
def Qr (bt:List TypeId):Obj->Bool
 |.cells _ ty _=>bt.contains ty
 |_=>false
structure On (bt:List TypeId) (w W:World):Prop where
 os:W.os=w.os
 tape:W.tape=w.tape
 output:W.output=w.output
 size:w.heap.size<=W.heap.size
 bV:∀(k:Nat) (o:Obj),w.heap[k]?=some o->W.heap[k]?=some o\/(Qr bt o=true/\W.shape? k=w.shape? k)
theorem On.refl (bt:List TypeId)(w:World):On bt w w:=⟨rfl,rfl,rfl,le_refl _,fun _ _ h=>Or.inl h⟩
theorem On.trans {bt:List TypeId}{a b c:World}(h:On bt a b)(g:On bt b c):On bt a c:=
 ⟨g.os.trans h.os,g.tape.trans h.tape,g.output.trans h.output,le_trans h.size g.size,fun k o f=>by
  rcases h.bV k o f with e|⟨e,d⟩
  ·rcases g.bV k o e with i|⟨i,p⟩
   ·exact Or.inl i
   ·exact Or.inr ⟨i,by rw[p];unfold World.shape?;rw[e,f]⟩
  ·refine Or.inr ⟨e,?_⟩
   -- the block is a box at b,too
   cases o with
   |cells cs ty m=>
    have l:a.shape? k=some (ty,cs.size):=by unfold World.shape?;rw[f]
    rw[l]at d;unfold World.shape? at d;split at d
    ·rename_i q s r n
     rcases g.bV k _ n with j|⟨_,j⟩
     ·unfold World.shape?;rw[j,f];exact d
     ·rw[j,l];unfold World.shape?;rw[n];exact d
    ·cases d
   |_=>cases e⟩
theorem On.shape {bt:List TypeId}{w b:World}(h:On bt w b){k:Nat}{x:TypeId×Nat}(hs:w.shape? k=some x):b.shape? k=some x:=by
 unfold World.shape? at hs;split at hs
 ·rename_i c t m d
  rcases h.bV k _ d with a|⟨_,a⟩
  ·unfold World.shape?;rw[a];exact hs
  ·rw[a];unfold World.shape?;rw[d];exact hs
 ·cases hs
variable {w:World}{k:Nat}
theorem gE {o:Obj}(h:w.heap[k]?=some o):k<w.heap.size:=(Array.getElem?_eq_some_iff.1 h).1
theorem On.below {bt:List TypeId}{b:World}(h:Below w.heap.size w b):On bt w b:=
 ⟨h.os,h.tape,h.output,h.size,fun k o a=>Or.inl (by rw[h.block k (gE a)];exact a)⟩
def All2 {α β:Type}(R:α->β->Prop):List α->List β->Prop
 | [],[]=>True
 |a::d,b::bs=>R a b/\All2 R d bs
 |_,_=>False
section All2
variable {α β:Type} {R S:α->β->Prop}
theorem All2.mono (h:∀a b,R a b->S a b):∀{d:List α} {bs:List β},All2 R d bs->All2 S d bs
 | [],[],_=>trivial
 |_::_,_::_,⟨e,f⟩=>⟨h _ _ e,All2.mono h f⟩
 | [],_::_,h=>h.elim
 |_::_,[],h=>h.elim
theorem All2.len:∀{a:List α} {bs:List β},All2 R a bs->a.length=bs.length
 | [],[],_=>rfl
 |_::_,_::_,⟨_,b⟩=>by simp[All2.len b]
 | [],_::_,h=>h.elim
 |_::_,[],h=>h.elim
theorem All2.at:∀{d:List α} {bs:List β},All2 R d bs->∀{i:Nat} {a:α},d[i]?=some a->∃b,bs[i]?=some b/\R a b
 | [],[],_,_,_,h=>by simp at h
 |_::_,_::_,⟨e,_⟩,0,_,h=>⟨_,rfl,by simp at h;subst h;exact e⟩
 |_::_,_::_,⟨_,f⟩,i+1,_,h=>by simpa using All2.at f (by simpa using h)
 | [],_::_,h,_,_,_=>h.elim
 |_::_,[],h,_,_,_=>h.elim
theorem All2.set:∀{e:List α} {bs:List β},All2 R e bs->∀(i:Nat) {a:α} {b:β},R a b->All2 R (e.set i a) (bs.set i b)
 | [],[],_,_,_,_,_=>trivial
 |_::_,_::_,⟨_,d⟩,0,_,_,h=>⟨h,d⟩
 |_::_,_::_,⟨f,d⟩,i+1,_,_,h=>⟨f,All2.set d i h⟩
 | [],_::_,h,_,_,_,_=>h.elim
 |_::_,[],h,_,_,_,_=>h.elim
theorem All2.append:∀{d a:List α} {bs b:List β},All2 R d bs->All2 R a b->All2 R (d++a) (bs++b)
 | [],_,[],_,_,h=>h
 |_::_,_,_::_,_,⟨e,f⟩,h=>⟨e,All2.append f h⟩
 | [],_,_::_,_,h,_=>h.elim
 |_::_,_,[],_,h,_=>h.elim
theorem All2.take:∀{a:List α} {bs:List β} (n:Nat),All2 R a bs->All2 R (a.take n) (bs.take n)
 | [],[],_,_=>by simp[All2]
 |_::_,_::_,0,_=>by simp[All2]
 |_::_,_::_,n+1,⟨b,d⟩=>⟨b,All2.take n d⟩
 | [],_::_,_,h=>h.elim
 |_::_,[],_,h=>h.elim
theorem All2.drop:∀{a:List α} {bs:List β} (n:Nat),All2 R a bs->All2 R (a.drop n) (bs.drop n)
 | [],[],_,_=>by simp[All2]
 |_::_,_::_,0,h=>h
 |_::_,_::_,n+1,⟨_,b⟩=>All2.drop n b
 | [],_::_,_,h=>h.elim
 |_::_,[],_,h=>h.elim
theorem All2.map {a:Type}{f:a->α}{g:a->β}:∀(l:List a),(∀x∈l,R (f x) (g x))->All2 R (l.map f) (l.map g)
 | [],_=>trivial
 |x::l,h=>⟨h x (by simp),All2.map l fun y b=>h y (by simp[b])⟩
end All2
inductive AC where
 |int (k:IntKind) (n:Int)
 |bool (b:Bool)
 |sint (k:IntKind) (n:Int)
 |sbool (t:Bool)
 |lit (v:Value)
 |ptr (b off:Nat)
 |slc (b off len size:Nat)
 |dsl (b r len size:Nat)
 |sg (i:Nat)
 |dg (k:Bool) (i:Nat)
 |gC (R:World->Value->Prop)
 |any
inductive AV where
 |one (c:AC)
 |agg (cs:List AC)
inductive AT where
 |top
 |fX
 |val (v:AV)
 |tup (vs:List AV)
 |nF (c:Bool) (v:AV)
structure fG where
 P:Program
 bt:List TypeId
 eU:Bool->World->Int->Value->Prop
 bits:Nat->Int->Prop
 Af:∀{k w W z x},On bt w W->eU k w z x->eU k W z x
 Ag:∀{k w z x},eU k w z x->One x
section
variable (C:fG)
def relC (φ:LI)(ν:LV)(w:World):AC->Value->Prop
 |.int k n,x=>x=.int k n
 |.bool b,x=>x=.bool b
 |.sint k n,x=>x=.int k n
 |.sbool t,x=>x=.bool t
 |.lit v,x=>x=v/\One v
 |.ptr b d,x=>∃k o,φ b=some (k,o)/\x=.pointer (some ⟨k,o+d,none⟩)
 |.slc b d len size,x=>∃k o a e m,φ b=some (k,o)/\x=.slice (some ⟨k,o+d,none⟩) len a/\len<=a/\w.shape? k=some (e,m)/\o+d+a*size<=m
 |.dsl b r len size,x=>∃k a,φ b=some (k,r*size)/\x=.slice (some ⟨k,0,none⟩) len a
 |.sg i,x=>∃z n,ν[i]?=some (z,n)/\x=.bool (decide (z<0))
 |.dg k i,x=>∃z n,ν[i]?=some (z,n)/\C.eU k w z x/\C.bits n z
 |.gC R,x=>One x/\∀W,On C.bt w W->R W x
 |.any,x=>One x
def dW (φ:LI)(ν:LV)(w:World):AV->Value->Prop
 |.one c,x=>relC C φ ν w c x
 |.agg cs,x=>∃a:LB,x=.agg a.toArray/\All2 (relC C φ ν w) cs a
def relT (φ:LI)(ν:LV)(w:World):AT->Value->Prop
 |.top,_=>True
 |.fX,x=>x=undef
 |.val v,x=>dW C φ ν w v x
 |.tup vs,x=>∃a:LB,x=.tuple a.toArray/\All2 (dW C φ ν w) vs a
 |.nF c v,x=>if c=true then dW C φ ν w v x else x=undef
structure Ext (φ φ':LI) (ν ν':LV) (w w':World):Prop where
 φ:∀b k,φ b=some k->φ' b=some k
 ν:∀(i:Nat) (x:Int×Nat),ν[i]?=some x->ν'[i]?=some x
 on:On C.bt w w'
variable {C}
theorem Ext.refl (φ:LI)(ν:LV)(w:World):Ext C φ φ ν ν w w:=⟨fun _ _ h=>h,fun _ _ h=>h,On.refl _ _⟩
theorem Ext.trans {φ φ' d:LI}{ν ν' a:LV}{w w' J:World}(h:Ext C φ φ' ν ν' w w')(g:Ext C φ' d ν' a w' J):Ext C φ d ν a w J:=
 ⟨fun b k e=>g.φ b k (h.φ b k e),fun i x e=>g.ν i x (h.ν i x e),h.on.trans g.on⟩
section
variable {φ φ':LI} {ν ν':LV} {w w':World}
theorem xP (h:Ext C φ φ' ν ν' w w')(c:AC)(x:Value)(r:relC C φ ν w c x):relC C φ' ν' w' c x:=by
 cases c<;>simp only[relC]at r ⊢<;>try exact r
 ·obtain⟨k,o,a,b⟩:=r;exact⟨k,o,h.φ _ _ a,b⟩
 ·obtain⟨k,o,d,e,m,a,b,f,g,i⟩:=r;exact⟨k,o,d,e,m,h.φ _ _ a,b,f,h.on.shape g,i⟩
 ·obtain⟨k,d,a,b⟩:=r;exact⟨k,d,h.φ _ _ a,b⟩
 ·obtain⟨z,n,a,b⟩:=r;exact⟨z,n,h.ν _ _ a,b⟩
 ·obtain⟨z,n,a,b,f⟩:=r;exact⟨z,n,h.ν _ _ a,C.Af h.on b,f⟩
 ·exact⟨r.1,fun W j=>r.2 W (h.on.trans j)⟩
theorem Vg (h:Ext C φ φ' ν ν' w w')(v:AV)(x:Value)(r:dW C φ ν w v x):dW C φ' ν' w' v x:=by
 cases v with
 |one c=>exact xP h c x r
 |agg cs=>obtain⟨d,a,b⟩:=r;exact⟨d,a,b.mono (xP h)⟩
theorem xQ (h:Ext C φ φ' ν ν' w w')(v:AT)(x:Value)(r:relT C φ ν w v x):relT C φ' ν' w' v x:=by
 cases v with
 |top=>trivial
 |fX=>exact r
 |val v=>exact Vg h v x r
 |tup e=>obtain⟨d,a,b⟩:=r;exact⟨d,a,b.mono (Vg h)⟩
 |nF c v=>
  simp only[relT]at r ⊢
  cases c with
  |true=>simp only[if_true]at r ⊢;exact Vg h v x r
  |false=>simpa using r
variable {x:Value}
theorem aKZ {c:AC}(r:relC C φ ν w c x):One x:=by
 cases c<;>simp only[relC]at r
 ·subst r;rfl
 ·subst r;rfl
 ·subst r;rfl
 ·subst r;rfl
 ·obtain⟨rfl,h⟩:=r;exact h
 ·obtain⟨k,o,_,rfl⟩:=r;rfl
 ·obtain⟨k,o,a,e,m,_,rfl,_⟩:=r;rfl
 ·obtain⟨k,a,_,rfl⟩:=r;rfl
 ·obtain⟨z,n,_,rfl⟩:=r;rfl
 ·obtain⟨z,n,_,h,_⟩:=r;exact C.Ag h
 ·exact r.1
 ·exact r
theorem aN3 (h:One x):x.cells=#[x]:=by cases x<;>first|rfl|(simp[One,Value.oneCell']at h)
def cellsOf:AV->List AC
 |.one c=>[c]
 |.agg cs=>cs
theorem aFu {v:AV}(r:dW C φ ν w v x):All2 (relC C φ ν w) (cellsOf v) x.cells.toList:=by
 cases v with
 |one c=>
  rw[aN3 (aKZ r)];exact⟨r,trivial⟩
 |agg cs=>obtain⟨a,rfl,h⟩:=r;exact h
end
end
def iR (P:Program)(t:TypeId):ON:=(P.info? t).map (·.size)
def vW (P:Program)(t:TypeId):Option Bool:=
 match P.underlying t with
 |some (.struct _)=>some true
 |some (.array _ _)=>some true
 |some _=>some false
 |none=>none
variable {P:Program}
theorem uK {t:Nat}(h:iR P t=some k)(w:World):(sizeOf t).run P w=.ok k w:=by
 unfold iR at h
 cases hi:P.info? t with
 |none=>simp[hi]at h
 |some i=>simp[hi]at h;subst h;simp[sizeOf,typeInfo,hi]
theorem Lm {t:TypeId}{a:Bool}(h:vW P t=some a)(w:World):(isAgg t).run P w=.ok a w:=by
 unfold vW at h;unfold isAgg;simp only[Sem.run_bind,underlying]
 cases hi:P.underlying t with
 |none=>simp[hi]at h
 |some d=>
  simp only[hi]at h;simp[hi]
  cases d<;>simp at h ⊢<;>exact h
theorem Fy (k a i:Nat):(⟨k,a,none⟩:Addr).add i=⟨k,a+i,none⟩:=by
 unfold Addr.add;split
 ·rename_i h;subst h;rfl
 ·rfl
variable {i:LB}
theorem Mh {ty:TypeId}{m:Nat×Nat}(h:w.heap[k]?=some (.cells i.toArray ty m))(a:Nat):w.cell? ⟨k,a,none⟩=i[a]?:=by
 unfold World.cell?;simp[h]
theorem Tx {P:Program}{w:World}{k:Nat}{b:LB}{ty:TypeId}{m:Nat×Nat}(h:w.heap[k]?=some (.cells b.toArray ty m))(off:Nat):
  ∀(n i:Nat) (a:Array Value),off+i+n<=b.length->(loadCellsFrom ⟨k,off,none⟩ i n a).run P w=.ok (a++((b.drop (off+i)).take n).toArray) w
 |0,i,a,_=>by simp[loadCellsFrom]
 |n+1,i,a,d=>by
  have hc:b[off+i]?=some b[off+i]:=getElem?_eq_getElem (by omega);unfold loadCellsFrom;rw[Sem.run_bind,run_load,Fy,Mh h,hc];simp only[Result.andThen_ok];rw[Tx h off n (i+1) _ (by omega)];congr 1;rw[List.drop_eq_getElem_cons (show off+i<b.length by omega),List.take_succ_cons];apply Array.toList_inj.1;simp[add_assoc]
structure jQ (w w':World) (k:Nat) (ys:LB) (ty:TypeId):Prop where
 bV:w'.heap[k]?=some (.cells ys.toArray ty (0,0))
 others:∀j,j≠k->w'.heap[j]?=w.heap[j]?
 size:w'.heap.size=w.heap.size
 os:w'.os=w.os
 tape:w'.tape=w.tape
 output:w'.output=w.output
theorem aL6 {ty:TypeId}(h:w.heap[k]?=some (.cells i.toArray ty (0,0)))(a:Nat)(v:Value):jQ w (w.setCell ⟨k,a,none⟩ v) k (i.set a v) ty:=by
 refine⟨?_,fun j b=>?_,by simp[World.setCell],rfl,rfl,rfl⟩
 ·simp[World.setCell,Array.getElem?_modify,h]
 ·exact Below.heap_setCell _ _ _ _ b
def hZ (b:LB)(a:Nat):List Value->List Value
 | []=>b
 |v::d=>hZ (b.set a v) (a+1) d
theorem Oz:∀(d b:LB) (a:Nat),a+d.length<=b.length->hZ b a d=b.take a++d++b.drop (a+d.length)
 | [],b,a,h=>by simp[hZ]
 |v::d,b,a,h=>by
  simp at h;unfold hZ;rw[Oz d (b.set a v) (a+1) (by simp;omega)]
  have e:(b.set a v).take (a+1)=b.take a++[v]:=by
   rw[List.take_succ_eq_append_getElem (by simp;omega),List.take_set_of_le (le_refl _)];simp
  have f:(b.set a v).drop (a+1+d.length)=b.drop (a+(d.length+1)):=by
   rw[List.drop_set_of_lt (by omega)];congr 1;omega
  rw[e,f];simp
theorem Ts {P:Program}{k:Nat}{ty:TypeId}(a:Nat):∀(f:LB) (i:Nat) (w:World) (b:LB),w.heap[k]?=some (.cells b.toArray ty (0,0))->a+i+f.length<=b.length->(∀v∈f,One v)->
  ∃w',(storeCells ⟨k,a,none⟩ f i).run P w=.ok () w'/\jQ w w' k (hZ b (a+i) f) ty
 | [],i,w,b,h,n,g=>⟨w,by simp[storeCells],⟨by simpa[hZ]using h,fun _ _=>rfl,rfl,rfl,rfl,rfl⟩⟩
 |v::f,i,w,b,h,n,g=>by
  simp at n;have e:=aL6 h (a+i) v;obtain⟨w',o,d⟩:=Ts a f (i+1) (w.setCell ⟨k,a+i,none⟩ v) (b.set (a+i) v) e.bV (by simp;omega) (fun x q=>g x (by simp[q]));have hc:b[a+i]?=some b[a+i]:=getElem?_eq_getElem (by omega)
  have p:w.frozen? ⟨k,a+i,none⟩=false:=by simp[World.frozen?,h]
  refine⟨w',?_,⟨by rw[d.bV];simp[hZ,add_assoc],fun j l=>(d.others j l).trans (e.others j l),d.size.trans e.size,d.os.trans e.os,d.tape.trans e.tape,d.output.trans e.output⟩⟩;unfold storeCells;rw[Sem.run_bind,run_store _ _ _ _ _ (g v (by simp)),Fy,Mh h,hc];simp only[p,false_eq_true,if_false,Result.andThen_ok];exact o
structure bQ where
 cs:List AC
 ty:TypeId
 own:Bool
 ro:Bool
 tip:Bool
def Er:Value->Bool
 |.slice none 0 _=>true
 |_=>false
variable {x:Value}
theorem aS5 (h:Er x=true):∃c,x=.slice none 0 c:=by
 unfold Er at h;split at h
 ·exact⟨_,rfl⟩
 ·cases h
def qJ:Value->AC
 |.int k n=>.int k n
 |.bool b=>.bool b
 |v=>.lit v
def wI:Value->AT
 |.agg cs=>bif cs.toList.all Value.oneCell' then .val (.agg (cs.toList.map qJ))else .top
 |.tuple _=>.top
 |v=>.val (.one (qJ v))
variable {φ:LI}{ν:LV}
theorem aIm {L:fG}{n:World}(h:One x):relC L φ ν n (qJ x) x:=by
 cases x<;>first|rfl|exact⟨rfl,h⟩
theorem aNG {L:fG}{n:World}(v:Value):relT L φ ν n (wI v) v:=by
 cases v with
 |agg cs=>
  cases h:cs.toList.all Value.oneCell' with
  |false=>simp only[wI,h,cond];trivial
  |true=>
   simp only[wI,h,cond];refine⟨cs.toList,by simp,?_⟩;rw[all_eq_true]at h;have:=All2.map (R:=relC L φ ν n) (f:=qJ) (g:=id) cs.toList (fun x a=>aIm (h x a))
   simpa using this
 |tuple b=>trivial
 |_=>first|rfl|exact⟨rfl,rfl⟩
def Holds (a:List Prop):Prop:=∀q∈a,q
theorem gG:Holds []:=fun _ h=>by cases h
theorem Holds.one {p:Prop}(h:Holds [p]):p:=h p (by simp)
inductive nL where
 |val (r:AT) (p:List Prop)
 |new (cs:List AC) (ty:TypeId) (slice:Option (Nat×Nat))
 |mZ (b:Nat) (cs:List AC)
 |app (old:ON) (cs:List AC) (ty:TypeId) (len size:Nat)
 |call (f:FuncId) (args:List AV)
def eV:AT->Option AC
 |.val (.one c)=>some c
 |_=>none
def Iy:AT->Option AV
 |.val v=>some v
 |_=>none
def qP:List AT->Option (List AV)
 | []=>some []
 |.val v::r=>(qP r).map (v::·)
 |_::_=>none
def Qy (op:BinOp)(x y:Int):Option Bool:=
 match op with
 |.eql=>some (x==y)
 |.neq=>some (x != y)
 |.lss=>some (decide (x<y))
 |.leq=>some (decide (x<=y))
 |.gtr=>some (decide (x>y))
 |.geq=>some (decide (x≥y))
 |_=>none
def arI (op:BinOp)(k:IntKind)(x y:Int):Option Int:=
 match op with
 |.add=>some (k.wrap (x+y))
 |.sub=>some (k.wrap (x-y))
 |.mul=>some (k.wrap (x*y))
 |_=>none
def yD:AC->Option (Bool×IntKind×Int)
 |.int k n=>some (true,k,n)
 |.sint k n=>some (false,k,n)
 |_=>none
def Mw (s:Bool)(k:IntKind)(n:Int):AC:=bif s then .int k n else .sint k n
def Yg (s:Bool)(b:Bool):AC:=bif s then .bool b else .sbool b
def Iz (op:BinOp)(s:Bool)(k:IntKind)(x y:Int):Option AC:=
 match Qy op x y with
 |some t=>some (Yg s t)
 |none=>match arI op k x y with
  |some n=>some (Mw s k n)
  |none=>none
def oI (P:Program)(t:TypeId):Bool:=match P.underlying t with|some (.pointer _)=>true|_=>false
def Jd (op:BinOp)(s:Bool)(k:IntKind)(x y:Int):Option AC:=
 match op with
 |.quo=>some (Mw s k (k.wrap (x.tdiv y)))
 |.rem=>some (Mw s k (x.tmod y))
 |_=>none
def Ep (op:BinOp)(t:Bool):Option AC:=
 match op with
 |.eql=>some (.bool t)
 |.neq=>some (.bool !t)
 |_=>none
def Lf (op:BinOp)(a b:ByteArray):Option AC:=
 match op with
 |.eql=>some (.sbool (a.toList==b.toList))
 |.neq=>some (.sbool !(a.toList==b.toList))
 |_=>none
def nQ (P:Program)(t:TypeId):Bool:=match P.underlying t with|some .bool=>true|_=>false
def sX:AC->Option (Bool×Bool)
 |.bool b=>some (true,b)
 |.sbool b=>some (false,b)
 |_=>none
def Ad (op:BinOp)(s:Bool)(x y:Bool):Option AC:=
 match op with
 |.eql=>some (Yg s (x==y))
 |.neq=>some (Yg s !(x==y))
 |_=>none
def Qq (P:Program)(op:BinOp)(t:TypeId)(a b:AC):Option AC:=
 match a,b with
 |.ptr _ _,.lit (.pointer none)=>bif oI P t then Ep op false else none
 |.lit (.pointer none),.lit (.pointer none)=>bif oI P t then Ep op true else none
 |.lit (.string x),.lit (.string y)=>Lf op x y
 |a,b=>match sX a with
  |some (s,x)=>(sX b).bind fun(d,y)=>bif nQ P t then Ad op (s&&d) x y else none
  |none=>(yD a).bind fun(s,k,x)=>(yD b).bind fun(d,e,y)=>if k=e then(match Iz op (s&&d) k x y with|some c=>some c|none=>bif d&&!(y==0)then Jd op (s&&d) k x y else none)else none
def wP (P:Program)(t:TypeId)(cs:List AC)(a:Nat):Option AV:=
 (vW P t).bind fun g=>bif g then(iR P t).map fun n=>.agg ((cs.drop a).take n)else(cs[a]?).map .one
def wJ (P:Program)(t:TypeId)(cs:List AC)(a:Nat):Option AV:=
 (vW P t).bind fun g=>bif g then(iR P t).bind fun n=>bif Nat.ble (a+n) cs.length then some (.agg ((cs.drop a).take n))else none else(cs[a]?).map .one
def vI (P:Program)(t:TypeId)(cs:List AC)(a:Nat)(v:AV):Option (List AC):=
 (iR P t).bind fun n=>bif (cellsOf v).length==n&&Nat.ble (a+n) cs.length then some (cs.take a++cellsOf v++cs.drop (a+n))else none
def fieldsOf (P:Program)(t:TypeId):Option (Array Field):=match P.underlying t with|some (.struct a)=>some a|_=>none
def nO (P:Program)(t:TypeId):Option (Nat×TypeId):=match P.underlying t with|some (.array n e)=>some (n,e)|_=>none
def cX (P:Program)(t:TypeId):Option TypeId:=match P.underlying t with|some (.slice e)=>some e|_=>none
def kQ (place:LI)(cells:List AC):List (Nat×AV)->Option (List AC)
 | []=>some cells
 |(i,v)::b=>(place i).bind fun(a,size)=>
  bif (cellsOf v).length==size&&Nat.ble (a+size) cells.length then kQ place (cells.take a++cellsOf v++cells.drop (a+size)) b else none
def iW:List (Nat×AT)->Option (List (Nat×AV))
 | []=>some []
 |(i,.val v)::r=>(iW r).map ((i,v)::·)
 |_::_=>none
def wQ (a:List AC)(n:Nat):List AC:=(List.range n).map fun i=>a.getD (i%a.length) .any
def fB {d e:Type}(f:d->Option e):List d->Option (List e)
 | []=>some []
 |a::g=>(f a).bind fun b=>(fB f g).map (b::·)
def lF (P:Program)(t:TypeId):Option (List AC):=
 ((P.info? t).bind (·.zero)).bind fun v=>bif v.cells.toList.all Value.oneCell' then some (v.cells.toList.map qJ)else none
def rowOf (d:Nat->Option bQ)(e:TypeId)(size:Nat):AT->Option (Option Nat×List AC×Nat)
 |.val (.one (.lit (.slice none 0 0)))=>some (none,[],0)
 |.val (.one (.slc b a len sz))=>(d b).bind fun B=>bif a==0&&sz==size&&B.ty==e&&B.cs.length==len*size then some (some b,B.cs,len)else none
 |_=>none
def kS (a:Nat->Option bQ):Option Nat->Bool
 |none=>true
 |some b=>match a b with|some B=>B.tip|none=>false
def evalOp (P:Program)(d:Operand->AT)(l:Nat->Option bQ):Op->Option nL
 |.move x=>some (.val (d x) [])
 |.assign x=>some (.val (d x) [])
 |.pick c a b=>(eV (d c)).bind fun
   |.bool t=>some (.val (bif t then d a else d b) [])
   |.sbool t=>match d a,d b with
    |.val (.one (.bool x)),.val (.one (.bool y))=>some (.val (.val (.one (.sbool (bif t then x else y)))) [])
    |.val (.one (.bool x)),.val (.one (.sbool y))=>some (.val (.val (.one (.sbool (bif t then x else y)))) [])
    |.val (.one (.sbool x)),.val (.one (.bool y))=>some (.val (.val (.one (.sbool (bif t then x else y)))) [])
    |.val (.one (.sbool x)),.val (.one (.sbool y))=>some (.val (.val (.one (.sbool (bif t then x else y)))) [])
    |.nF c (.one (.sbool x)),.val (.one (.bool y))=>some (.val (.val (.one (.sbool (bif t then x else y)))) [t=true->c=true])
    |.val (.one (.bool x)),.nF c (.one (.sbool y))=>some (.val (.val (.one (.sbool (bif t then x else y)))) [t=false->c=true])
    |.nF c (.one (.sbool x)),.val (.one (.sbool y))=>some (.val (.val (.one (.sbool (bif t then x else y)))) [t=true->c=true])
    |.val (.one (.sbool x)),.nF c (.one (.sbool y))=>some (.val (.val (.one (.sbool (bif t then x else y)))) [t=false->c=true])
    |_,_=>none
   |_=>none
 |.alloc t=>(lF P t).map fun cs=>.new cs t none
 |.box t x=>(Iy (d x)).map fun v=>.new (cellsOf v) t none
 |.build t h=>(lF P t).bind fun zero=>(iW (h.toList.map fun(i,x)=>(i,d x))).bind fun q=>
   (match P.underlying t with
    |some (.struct p)=>(fB (fun(f:Field)=>(iR P f.type).map fun n=>(f.offset,n)) p.toList).bind fun j=>kQ (fun i=>j[i]?) zero q
    |some (.array _ e)=>(iR P e).bind fun n=>kQ (fun i=>some (i*n,n)) zero q
    |_=>none).map fun cs=>.val (.val (.agg cs)) []
 |.buildSlice t len h=>(cX P t).bind fun e=>(iR P e).bind fun size=>(lF P e).bind fun zero=>
   bif Nat.ble (len*size) 16777216&&!(zero.length==0)then(iW (h.toList.map fun(i,x)=>(i,d x))).bind fun q=>(kQ (fun i=>some (i*size,size)) (wQ zero (len*size)) q).map fun cs=>.new cs e (some (len,size))else none
 |.convert w u x=>(eV (d x)).bind fun c=>(yD c).bind fun(s,_,n)=>(P.underlying w).bind fun _=>match P.underlying u with
   |some (.int k)=>some (.val (.val (.one (Mw s k (k.wrap n)))) [])
   |_=>none
 |.load t a=>(eV (d a)).bind fun
   |.ptr b g=>(l b).bind fun B=>(wJ P t B.cs g).map fun v=>.val (.val v) []
   |_=>none
 |.store t a x=>(eV (d a)).bind fun
   |.ptr b g=>(Iy (d x)).bind fun v=>(l b).bind fun B=>bif B.ro then none else(vI P t B.cs g v).map fun cs=>.mZ b cs
   |_=>none
 |.nilCheck x=>(eV (d x)).bind fun
   |.ptr b g=>some (.val (.val (.one (.ptr b g))) [])
   |_=>none
 |.binOp op t x y _=>(eV (d x)).bind fun a=>(eV (d y)).bind fun b=>(Qq P op t a b).map fun c=>.val (.val (.one c)) []
 |.unOp .not _ x=>(eV (d x)).bind fun
   |.bool b=>some (.val (.val (.one (.bool !b))) [])
   |.sbool b=>some (.val (.val (.one (.sbool !b))) [])
   |_=>none
 |.unOp .neg _ x=>(eV (d x)).bind fun c=>(yD c).map fun(s,k,n)=>.val (.val (.one (Mw s k (k.wrap (0-n))))) []
 |.fieldAddr t x f=>(eV (d x)).bind fun
   |.ptr b g=>(fieldsOf P t).bind fun p=>(p[f]?).bind fun o=>(iR P o.type).bind fun n=>bif n==0 then none else some (.val (.val (.one (.ptr b (g+o.offset)))) [])
   |_=>none
 |.field t x f=>(Iy (d x)).bind fun
   |.agg cs=>(fieldsOf P t).bind fun p=>(p[f]?).bind fun o=>(wP P o.type cs o.offset).map fun v=>.val (.val v) []
   |_=>none
 |.indexAddr t x i=>(eV (d i)).bind fun
   |.int _ n=>(eV (d x)).bind fun
    |.ptr b g=>(nO P t).bind fun(len,e)=>(iR P e).bind fun sz=>bif decide (0<=n)&&decide (n<len)then some (.val (.val (.one (.ptr b (g+n.toNat*sz)))) [])else none
    |.slc b g len _=>(cX P t).bind fun e=>(iR P e).bind fun sz=>bif decide (0<=n)&&decide (n<len)then some (.val (.val (.one (.ptr b (g+n.toNat*sz)))) [])else none
    |.dsl b r len size=>(cX P t).bind fun e=>(iR P e).bind fun sz=>bif sz==size then some (.val (.val (.one (.ptr b 0))) [n=(r:Int)/\r<len])else none
    |_=>none
   |.sint _ n=>(eV (d x)).bind fun
    |.dsl b r len size=>(cX P t).bind fun e=>(iR P e).bind fun sz=>bif sz==size then some (.val (.val (.one (.ptr b 0))) [n=(r:Int)/\r<len])else none
    |_=>none
   |_=>none
 |.index t x i=>(eV (d i)).bind fun
   |.int _ n=>(Iy (d x)).bind fun
    |.agg cs=>(nO P t).bind fun(len,e)=>(iR P e).bind fun sz=>bif decide (0<=n)&&decide (n<len)then(wP P e cs (n.toNat*sz)).map fun v=>.val (.val v) []else none
    |_=>none
   |_=>none
 |.extract x i=>match d x with
   |.tup z=>(z[i]?).map fun v=>.val (.val v) []
   |_=>none
 |.call { callee:=.builtin .len,args:=args,argTypes:=ts}=>match ts.toList,args.toList with
   | [t],[x]=>(eV (d x)).bind fun
    |.slc _ _ len _=>(cX P t).map fun _=>.val (.val (.one (.int .i64 len))) []
    |.dsl _ _ len _=>(cX P t).map fun _=>.val (.val (.one (.sint .i64 len))) []
    |.lit v=>bif Er v then(cX P t).map fun _=>.val (.val (.one (.int .i64 0))) []else none
    |_=>none
   |_,_=>none
 |.call { callee:=.builtin .append,args:=args,argTypes:=ts}=>match ts.toList,args.toList with
   | [t,C],[s,x]=>(cX P t).bind fun e=>(cX P C).bind fun _=>(iR P e).bind fun size=>(P.info? e).bind fun i=>(lF P e).bind fun zero=>(rowOf l e size (d s)).bind fun(old,cs,len)=>(rowOf l e size (d x)).bind fun(_,A,n)=>
     bif Nat.ble (len+n) 100&&Nat.ble i.bytes 1000000&&!(n==0)&&!(size==0)&&zero.length==size&&kS l old then some (.app old (cs++A) e (len+n) size)else none
   |_,_=>none
 |.call { callee:=.value (.func f),args:=args,..}=>(qP (args.toList.map d)).map fun z=>.call f z
 |_=>none
def Ks (id:Nat):Option (Nat×Nat)->AC
 |none=>.ptr id 0
 |some (n,size)=>.slc id 0 n size
def yH (k:Nat):Option (Nat×Nat)->Value
 |none=>.pointer (some ⟨k,0,none⟩)
 |some (n,_)=>.slice (some ⟨k,0,none⟩) n n
def vK (C:fG)(φ:LI)(ν:LV)(w:World)(q:Nat->Option bQ)(r:Result Next):nL->Prop
 |.val t p=>Holds p->∃v,r=.ok (.value v) w/\relT C φ ν w t v
 |.new cs ty sl=>∃l:LB,r=.ok (.value (yH w.heap.size sl)) {w with heap:=w.heap.push (.cells l.toArray ty)}/\All2 (relC C φ ν w) cs l/\(∀n size,sl=some (n,size)->l.length=n*size)
 |.mZ b cs=>∃B k o j d h a i,q b=some B/\B.ro=false/\φ b=some (k,o)/\r=.ok .skip j/\jQ w j k (d++i++a) B.ty/\w.heap[k]?=some (.cells (d++h++a).toArray B.ty (0,0))/\d.length=o/\h.length=i.length/\All2 (relC C φ ν w) cs i/\cs.length=B.cs.length
 |.call f s=>∃l:LB,r=.ok (.enter f l.toArray) w/\All2 (dW C φ ν w) s l
 |.app old cs ty len size=>∃v j g,r=.ok (.value v) j/\len<=g/\kS q old=true/\
   ((∃ i a:LB,j={w with heap:=w.heap.push (.cells (i++a).toArray ty),drawn:=w.drawn+1}/\v=.slice (some ⟨w.heap.size,0,none⟩) len g/\All2 (relC C φ ν w) cs i/\g*size<=i.length+a.length)\/
    (∃ b B k o,∃ d h a new e:LB,old=some b/\q b=some B/\B.ty=ty/\φ b=some (k,o)/\v=.slice (some ⟨k,o,none⟩) len g/\w.heap[k]?=some (.cells (d++h++a).toArray ty (0,0))/\d.length=o/\All2 (relC C φ ν w) B.cs h/\
     jQ w j k (d++(h++new)++e) ty/\new.length+e.length=a.length/\All2 (relC C φ ν w) cs (h++new)/\o+g*size<=(d++(h++new)++e).length))
section
variable {C:fG} {φ:LI} {ν:LV} {w:World} {ρ:Operand->Value} {ev:Operand->AT} {bx:Nat->Option bQ}
theorem aT {d e:Type}{x:Option d}{f:d->Option e}{b:e}(h:x.bind f=some b):∃a,x=some a/\f a=some b:=Option.bind_eq_some_iff.1 h
theorem cA {d e:Type}{x:Option d}{f:d->e}{b:e}(h:x.map f=some b):∃a,x=some a/\f a=b:=Option.map_eq_some_iff.1 h
theorem qC {t:AT}{c:AC}(h:eV t=some c):t=.val (.one c):=by
 unfold eV at h;split at h
 ·cases h;rfl
 ·cases h
theorem Ch {t:AT}{v:AV}(h:Iy t=some v):t=.val v:=by
 unfold Iy at h;split at h
 ·cases h;rfl
 ·cases h
def wZ (C:fG)(φ:LI)(ν:LV)(w:World)(bx:Nat->Option bQ):Prop:=
 ∀b B,bx b=some B->∃k o,∃d e a:LB,φ b=some (k,o)/\w.heap[k]?=some (.cells (d++e++a).toArray B.ty (0,0))/\d.length=o/\All2 (relC C φ ν w) B.cs e
variable {s:Bool}{k:IntKind}
theorem Vp {c:AC}{v:Int}(h:yD c=some (s,k,v))(r:relC C φ ν w c x):x=.int k v:=by
 cases c<;>simp[yD]at h<;>obtain⟨rfl,rfl,rfl⟩:=h<;>exact r
theorem Wk (s:Bool)(k:IntKind)(n:Int):relC C φ ν w (Mw s k n) (.int k n):=by cases s<;>rfl
theorem aJC (s:Bool)(b:Bool):relC C φ ν w (Yg s b) (.bool b):=by cases s<;>rfl
variable {op:BinOp}
theorem aSi {x z:Int}{c:AC}{t:TypeId}(h:Iz op s k x z=some c):∃v,(binOp op t (.int k x) (.int k z)).run C.P w=.ok v w/\relC C φ ν w c v:=by
 unfold Iz at h
 cases op<;>simp[Qy,arI]at h<;>subst h<;>first
  |(refine⟨_,?_,aJC _ _⟩;simp[binOp,Op.intCmp])
  |(refine⟨_,?_,Wk _ _ _⟩;simp[binOp,Op.intArith])
theorem aSC {x z:Int}{c:AC}{t:TypeId}(a:z≠0)(h:Jd op s k x z=some c):∃v,(binOp op t (.int k x) (.int k z)).run C.P w=.ok v w/\relC C φ ν w c v:=by
 unfold Jd at h
 cases op<;>simp at h<;>subst h<;>(refine⟨_,?_,Wk _ _ _⟩;simp[binOp,Op.intDiv,a])
theorem aPQ {t:TypeId}(h:oI C.P t=true):∃e,C.P.underlying t=some (.pointer e):=by
 unfold oI at h;split at h
 ·rename_i e a;exact⟨e,a⟩
 ·cases h
theorem aRx {t e:TypeId}(h:C.P.underlying t=some (.pointer e))(a:Option Addr):(Op.equal t (.pointer a) (.pointer none)).run C.P w=.ok a.isNone w:=by
 unfold Op.equal;rw[show Op.maxDepth=9999+1 from rfl];unfold Op.equalIn;simp only[underlying,Sem.run_bind,run_program,Result.andThen_ok,h,Sem.run_pure]
 cases a<;>simp
variable {y:Operand}
theorem aNS {t:TypeId}{c:AC}{a:Option Addr}{x:Operand}(d:oI C.P t=true)(h:Ep op a.isNone=some c):∃v,(do eqGuard op t x y (.pointer a) (.pointer none);binOp op t (.pointer a) (.pointer none):Sem Value).run C.P w=.ok v w/\relC C φ ν w c v:=by
 obtain⟨e,b⟩:=aPQ d;unfold Ep at h
 cases op<;>simp at h<;>subst h
 ·exact⟨.bool a.isNone,by simp[eqGuard,binOp,aRx b],rfl⟩
 ·exact⟨.bool !a.isNone,by simp[eqGuard,binOp,aRx b],by cases a<;>rfl⟩
theorem aKg {c:AC}{b:Bool}(h:sX c=some (s,b))(r:relC C φ ν w c x):x=.bool b:=by
 cases c<;>simp[sX]at h<;>obtain⟨rfl,rfl⟩:=h<;>exact r
variable {x:Operand}
theorem aPp {t:TypeId}{c:AC}{a b:Bool}(f:nQ C.P t=true)(h:Ad op s a b=some c):∃v,(do eqGuard op t x y (.bool a) (.bool b);binOp op t (.bool a) (.bool b):Sem Value).run C.P w=.ok v w/\relC C φ ν w c v:=by
 have g:C.P.underlying t=some .bool:=by
  unfold nQ at f;split at f
  ·rename_i e;exact e
  ·cases f
 have d:(Op.equal t (.bool a) (.bool b)).run C.P w=.ok (a==b) w:=by
  unfold Op.equal;rw[show Op.maxDepth=9999+1 from rfl];unfold Op.equalIn;simp only[underlying,Sem.run_bind,run_program,Result.andThen_ok,g,Sem.run_pure]
 unfold Ad at h
 cases op<;>simp at h<;>subst h
 ·exact⟨.bool (a==b),by simp[eqGuard,binOp,d],aJC _ _⟩
 ·exact⟨.bool !(a==b),by simp[eqGuard,binOp,d],aJC _ _⟩
theorem aTH {t:TypeId}{c:AC}{a b:ByteArray}(h:Lf op a b=some c):∃v,(do eqGuard op t x y (.string a) (.string b);binOp op t (.string a) (.string b):Sem Value).run C.P w=.ok v w/\relC C φ ν w c v:=by
 unfold Lf at h
 cases op<;>simp at h<;>subst h
 ·exact⟨.bool (a.toList==b.toList),by simp[eqGuard,binOp,Op.stringOp],rfl⟩
 ·exact⟨.bool !(a.toList==b.toList),by simp[eqGuard,binOp,Op.stringOp],rfl⟩
theorem eqG {t:TypeId}{l:IntKind}{a b:Int}:(eqGuard op t x y (.int k a) (.int l b)).run C.P w=.ok () w:=by
 unfold eqGuard
 cases op<;>simp
theorem Uu {place:LI}:∀{s:List (Nat×AV)} {u:List (Nat×Value)} {cs o:List AC} {cells:LB},kQ place cs s=some o->All2 (relC C φ ν w) cs cells->All2 (fun p x=>p.1=x.1/\dW C φ ν w p.2 x.2) s u->
  ∃out:LB,Instr.fill place cells.toArray u=some out.toArray/\All2 (relC C φ ν w) o out
 | [],[],cs,o,cells,h,hc,_=>by
  simp[kQ]at h;subst h;exact⟨cells,by simp[Instr.fill],hc⟩
 |(i,v)::s,(j,x)::u,cs,o,cells,h,hc,⟨⟨e,hv⟩,B⟩=>by
  simp only at e hv;subst e;unfold kQ at h;obtain⟨⟨a,size⟩,z,d⟩:=aT h;simp only at d
  cases k:((cellsOf v).length==size&&Nat.ble (a+size) cs.length)with
  |false=>rw[k]at d;cases d
  |true=>
   rw[k]at d;simp only[cond_true]at d;simp only[and_eq_true,beq_iff_eq,ble_eq]at k;obtain⟨q,A⟩:=k;have F:=hc.len;have f:=aFu hv;have g:=f.len;simp only[Array.length_toList]at g;obtain⟨out,k1,E⟩:=Uu d (cells:=cells.take a++x.cells.toList++cells.drop (a+size)) ((All2.append (All2.append (hc.take a) f) (hc.drop _))) B;refine⟨out,?_,E⟩;unfold Instr.fill;simp only[z];rw[if_neg (by simp;omega)];rw[<-k1];congr 1;apply Array.toList_inj.1
   have r:∀(l:LB) (n:Nat) (b:Array Value),((l.zipIdx n).foldl (fun cs (p:Value×Nat)=>cs.setIfInBounds (a+p.2) p.1) b).toList=hZ b.toList (a+n) l:=by
    intro l
    induction l with
    |nil=>intro n b;simp[hZ]
    |cons y l D=>intro n b;simp only[List.zipIdx_cons,List.foldl_cons,hZ];rw[D];simp[add_assoc]
   have:=r x.cells.toList 0 cells.toArray;simp only[add_zero]at this;rw[Oz _ _ _ (by simp;omega)]at this;simp only[Array.length_toList]at this;rw[<-g,q]at this;rw[<-this,<-Array.toList_zipIdx,Array.foldl_toList]
 | [],_::_,_,_,_,_,_,h=>h.elim
 |_::_,[],_,_,_,_,_,h=>h.elim
theorem aQu {a:List AC}{b:Array Value}(h:All2 (relC C φ ν w) a b.toList)(l:a.length≠0)(n:Nat):All2 (relC C φ ν w) (wQ a n) ((Array.range n).map (b[·%b.size]!)).toList:=by
 have f:=h.len;simp only[Array.length_toList]at f
 have e:((Array.range n).map (b[·%b.size]!)).toList=(List.range n).map (b[·%b.size]!):=by simp
 rw[e];unfold wQ
 refine All2.map _ fun i _=>?_
 have hi:i%a.length<a.length:=Nat.mod_lt _ (by omega);obtain⟨x,d,k⟩:=h.at (getElem?_eq_getElem hi)
 have g:a.getD (i%a.length) .any=a[i%a.length]:=by simp[List.getD,getElem?_eq_getElem hi]
 have j:b[i%b.size]! = x:=by
  rw[<-f];rw[Array.getElem?_toList]at d;rw[getElem!_def,d]
 rw[g,j];exact k
variable {pre post:LB}
theorem aHA {ys:LB}{off n:Nat}(h:off+n<=ys.length):((pre++ys++post).drop (pre.length+off)).take n=(ys.drop off).take n:=by
 rw[append_assoc,drop_append,List.drop_eq_nil_of_le (by omega:pre.length<=pre.length+off),nil_append,show pre.length+off-pre.length=off by omega,List.drop_append_of_le_length (by omega),take_append_of_le_length (by rw[List.length_drop];omega)]
variable {a:LB}
theorem aOy {w:Nat}{x:Value}(h:a[w]?=some x):(pre++a++post)[pre.length+w]?=some x:=by
 have b:=(List.getElem?_eq_some_iff.1 h).1;rw[append_assoc,List.getElem?_append_right (by omega),show pre.length+w-pre.length=w by omega,List.getElem?_append_left b];exact h
variable {d:LB}
theorem aL5 {b:LB}{w:Nat}(h:w+b.length<=d.length):hZ (i++d++a) (i.length+w) b=i++(d.take w++b++d.drop (w+b.length))++a:=by
 rw[Oz _ _ _ (by simp;omega)]
 have e:(i++d++a).take (i.length+w)=i++d.take w:=by
  rw[append_assoc,List.take_append,List.take_of_length_le (by omega),show i.length+w-i.length=w by omega,take_append_of_le_length (by omega)]
 have f:(i++d++a).drop (i.length+w+b.length)=d.drop (w+b.length)++a:=by
  rw[append_assoc,drop_append,List.drop_eq_nil_of_le (by omega),nil_append,show i.length+w+b.length-i.length=w+b.length by omega,List.drop_append_of_le_length (by omega)]
 rw[e,f];simp
theorem Lv {cs:List AC}(h:All2 (relC C φ ν w) cs d):∀y∈d,One y:=by
 intro y g;obtain⟨i,hi,e⟩:=List.getElem_of_mem g
 have a:i<cs.length:=by rw[h.len];exact hi
 obtain⟨j,b,f⟩:=h.at (getElem?_eq_getElem a);rw[getElem?_eq_getElem hi,e]at b;cases b;exact aKZ f
end
section
variable {C:fG} {φ:LI} {ν:LV} {w:World} {ρ:Operand->Value} {ev:Operand->AT} {bx:Nat->Option bQ}{cs:List AC}
theorem Pb {t:TypeId}(h:lF C.P t=some cs):∃v,(zeroValue t).run C.P w=.ok v w/\All2 (relC C φ ν w) cs v.cells.toList:=by
 unfold lF at h;obtain⟨v,d,a⟩:=aT h;obtain⟨i,e,j⟩:=aT d
 cases b:v.cells.toList.all Value.oneCell' with
 |false=>rw[b]at a;cases a
 |true=>
  rw[b]at a;simp only[cond_true,Option.some.injEq]at a;subst a;refine⟨v,by simp[zeroValue,typeInfo,e,j],?_⟩;rw[all_eq_true]at b;have:=All2.map (R:=relC C φ ν w) (f:=qJ) (g:=id) v.cells.toList (fun x k=>aIm (b x k))
  simpa using this
theorem Zm:∀{d:List (Nat×Operand)} {b:List (Nat×AV)},(∀x,relT C φ ν w (ev x) (ρ x))->iW (d.map fun(i,x)=>(i,ev x))=some b->All2 (fun p x=>p.1=x.1/\dW C φ ν w p.2 x.2) b (d.map fun(i,x)=>(i,ρ x))
 | [],b,a,h=>by simp[iW]at h;subst h;trivial
 |(i,x)::d,b,a,h=>by
  have f:=a x;simp only[List.map_cons]at h ⊢
  cases e:ev x with
  |val v=>
   rw[e]at h f;simp only[iW]at h;obtain⟨r,g,rfl⟩:=cA h;exact⟨⟨rfl,f⟩,Zm a g⟩
  |_=>rw[e]at h;simp[iW]at h
theorem aMA:∀{d:List Operand} {b:List AV},(∀x,relT C φ ν w (ev x) (ρ x))->qP (d.map ev)=some b->All2 (dW C φ ν w) b (d.map ρ)
 | [],b,a,h=>by simp[qP]at h;subst h;trivial
 |x::d,b,a,h=>by
  have f:=a x;simp only[List.map_cons]at h ⊢
  cases e:ev x with
  |val v=>
   rw[e]at h f;simp only[qP]at h;obtain⟨r,g,rfl⟩:=cA h;exact⟨f,aMA a g⟩
  |_=>rw[e]at h;simp[qP]at h
theorem aOc {t:TypeId}{a:Nat}{v:AV}(h:wP C.P t cs a=some v)(hc:All2 (relC C φ ν w) cs i):∃x,(part t i.toArray a).run C.P w=.ok x w/\dW C φ ν w v x:=by
 unfold wP at h;obtain⟨g,e,b⟩:=aT h
 cases g with
 |true=>
  simp only[cond_true]at b;obtain⟨n,d,rfl⟩:=cA b;refine⟨.agg (i.toArray.extract a (a+n)),by simp[part,Lm e,uK d],(i.drop a).take n,?_,(hc.drop a).take n⟩;congr 1;apply Array.toList_inj.1;simp[List.extract_eq_take_drop]
 |false=>
  simp only[cond_false]at b;obtain⟨c,d,rfl⟩:=cA b;obtain⟨x,f,j⟩:=hc.at d;exact⟨x,by simp[part,Lm e,f],j⟩
theorem aJA {b:List Field}{a:List (Nat×Nat)}(h:fB (fun(f:Field)=>(iR C.P f.type).map fun n=>(f.offset,n)) b=some a):(b.mapM fun(f:Field)=>Prod.mk f.offset <$> sizeOf f.type).run C.P w=.ok a w:=by
 induction b generalizing a with
 |nil=>simp[fB]at h;subst h;simp
 |cons f b j=>
  unfold fB at h;obtain⟨p,d,e⟩:=aT h;obtain⟨n,g,rfl⟩:=cA d;obtain⟨r,i,rfl⟩:=cA e;rw[List.mapM_cons];simp only[Sem.run_bind,Sem.run_map,uK g,Result.andThen_ok,Sem.run_pure,j i]
theorem aIg {place:LI}:∀{f:List (Nat×AV)} {cs b:List AC},kQ place cs f=some b->b.length=cs.length
 | [],cs,b,h=>by simp[kQ]at h;rw[h]
 |(i,v)::f,cs,b,h=>by
  unfold kQ at h;obtain⟨⟨e,size⟩,g,a⟩:=aT h;simp only at a
  cases d:((cellsOf v).length==size&&Nat.ble (e+size) cs.length)with
  |false=>rw[d]at a;cases a
  |true=>
   rw[d]at a;simp only[cond_true]at a;simp only[and_eq_true,beq_iff_eq,ble_eq]at d;rw[aIg a];simp;omega
theorem aRk {t:TypeId}{x i:Operand}{b r len size:Nat}{y:IntKind}{v:Int}{e:nL}(hi:ρ i=.int y v)(u:relT C φ ν w (.val (.one (.dsl b r len size))) (ρ x))
  (h:((cX C.P t).bind fun e=>(iR C.P e).bind fun sz=>bif sz==size then some (nL.val (.val (.one (.ptr b 0))) [v=(r:Int)/\r<len])else none)=some e):vK C φ ν w bx ((do pure (Next.value (<-Instr.indexAt t (ρ x) (ρ i))):Sem Next).run C.P w) e:=by
 obtain⟨g,a,j⟩:=aT h;obtain⟨sz,l,h8⟩:=aT j;obtain⟨k,f,k1,z⟩:=u
 cases d:sz==size with
 |false=>rw[d]at h8;cases h8
 |true=>
  rw[d]at h8;simp only[cond_true,Option.some.injEq]at h8;subst h8
  have:sz=size:=by simpa using d
  subst this
  have s:C.P.underlying t=some (.slice g):=by
   unfold cX at a;split at a
   ·rename_i e;cases a;exact e
   ·cases a
  intro o;obtain⟨rfl,p⟩:=o.one
  have q:(r:Int)<(len:Int):=by omega
  exact⟨.pointer (some ⟨k,r*sz,none⟩),by simp[z,hi,Instr.indexAt,asIntOf,underlying,s,p,uK l,Fy],k,r*sz,k1,rfl⟩
variable {e:TypeId}{p:Nat}
theorem aHR {t g k ty:TypeId}{size sLen o j:Nat}{a:Addr}{i:Option Addr}{new:Array Value}{w:World}(l:P.underlying t=some (.slice e))(f:P.underlying g=some (.slice k))(d:iR P e=some size)
  (b:(Builtin.firstCells size o (.slice i o j)).run P w=.ok new w) (h:sLen+o<=p):
  (Builtin.append_ #[t,g] ty #[.slice (some a) sLen p,.slice i o j]).run P w=((storeCells (a.add (sLen*size)) new.toList).run P w).andThen fun _ q=>.ok (.slice (some a) (sLen+o) p) q:=by
 simp[Builtin.append_,underlying,l,f,uK d,Builtin.lenOf,h,b]
theorem aIj (m:Nat):∀(r c:Nat),Builtin.growBy m r c<=(c+768)*2^r
 |0,c=>by simp[Builtin.growBy]
 |r+1,c=>by
  have e:(c+768)*2^(r+1)=((c+768)*2)*2^r:=by rw[Nat.pow_succ];grind
  unfold Builtin.growBy;split
  ·have a:1<=2^(r+1):=Nat.one_le_two_pow;have:(c+768)*1<=(c+768)*2^(r+1):=Nat.mul_le_mul_left _ a;omega
  ·refine le_trans (aIj m r _) ?_;rw[e];exact Nat.mul_le_mul_right _ (by omega)
theorem aSk {need cap:Nat}(a:cap<need)(b:need<=100000):Builtin.nextslicecap need cap<=2000000:=by
 unfold Builtin.nextslicecap;split
 ·omega
 ·split
  ·omega
  ·refine le_trans (aIj need 4 cap) ?_;rw[show(2:Nat)^4=16 from rfl];omega
theorem aKa {t s y ty:TypeId}{size o v:Nat}{b u:Option Addr}{old new:Array Value}{i:TypeInfo}{w:World}(D:P.underlying t=some (.slice e))(r:P.underlying s=some (.slice y))(q:iR P e=some size)(hi:P.info? e=some i)(l:i.bytes<=1000000)
  (E:∀w,(zeroValue e).run P w=.ok x w)
  (hold:∀d,d.heap=w.heap->(Builtin.firstCells size k (.slice b k p)).run P d=.ok old d) (g:∀d,d.heap=w.heap->(Builtin.firstCells size o (.slice u o v)).run P d=.ok new d) (h:¬k+o<=p) (B:k+o<=100000):
  ∃a,k+o<=a/\(Builtin.append_ #[t,s] ty #[.slice b k p,.slice u o v]).run P w=.ok (.slice (some ⟨w.heap.size,0,none⟩) (k+o) a) {w with heap:=w.heap.push (.cells (old++new++Builtin.zeroCells x.cells (a-(k+o))) e),drawn:=w.drawn+1}:=by
 have F:¬((k+o:Nat):Int)>IntKind.i64.max:=by
  have:IntKind.i64.max=9223372036854775807:=by decide
  omega
 have z:¬(IntKind.i64.max<(k:Int)+(o:Int)):=by
  have:IntKind.i64.max=9223372036854775807:=by decide
  omega
 have A:¬(Builtin.nextslicecap (k+o) p*i.bytes>2^48):=by
  have:=aSk (need:=k+o) (cap:=p) (by omega) B;have:Builtin.nextslicecap (k+o) p*i.bytes<=2000000*1000000:=Nat.mul_le_mul this l;omega
 have j:¬(281474976710656<Builtin.nextslicecap (k+o) p*i.bytes):=by simpa using A
 refine⟨(Question.appendCap (k+o) p e).cut (w.tape w.drawn (.appendCap (k+o) p e)),by simp[Question.cut],?_⟩
 have f:¬((9223372036854775807:Int)<(k:Int)+(o:Int)):=by omega
 have d1:=hold w.drew rfl;have d2:=g w.drew rfl;simp[Builtin.append_,underlying,D,r,uK q,Builtin.lenOf,h,typeInfo,hi,f,j,Question.forced,d1,d2,E,newRow];rfl
theorem aDK {size:Nat}{w:World}:(Builtin.firstCells size 0 (.slice none 0 0)).run P w=.ok #[] w:=by simp[Builtin.firstCells]
theorem Yy {size len:Nat}{pre ys a:LB}{ty:TypeId}{m:Nat×Nat}{w:World}(h:w.heap[k]?=some (.cells (pre++ys++a).toArray ty m))(b:ys.length=len*size):(Builtin.firstCells size len (.slice (some ⟨k,pre.length,none⟩) len p)).run P w=.ok ys.toArray w:=by
 simp only[Builtin.firstCells,loadCells];rw[Tx h pre.length (len*size) 0 #[] (by simp;omega),add_zero];have:=aHA (pre:=pre) (ys:=ys) (post:=a) (off:=0) (n:=len*size) (by omega);rw[add_zero]at this;rw[this];simp[<-b]
inductive sC (C:fG) (φ:LI) (ν:LV) (w:World) (bx:Nat->Option bQ) (e:TypeId) (size:Nat) (v:Value):Option Nat->List AC->Nat->Prop where
 |nil:v=.slice none 0 0->sC C φ ν w bx e size v none [] 0
 |row (b:Nat) (B:bQ) (k cap len:Nat) (pre ys post:LB) (h1:bx b=some B) (h2:B.ty=e) (h3:φ b=some (k,pre.length)) (h4:v=.slice (some ⟨k,pre.length,none⟩) len cap) (h5:len<=cap)
   (h6:w.heap[k]?=some (.cells (pre++ys++post).toArray e (0,0))) (h7:All2 (relC C φ ν w) B.cs ys) (h8:ys.length=len*size) (h9:cap*size<=ys.length+post.length):sC C φ ν w bx e size v (some b) B.cs len
theorem aK3 {size:Nat}{t:AT}{old:ON}{len:Nat}(h:rowOf bx e size t=some (old,cs,len))(y:relT C φ ν w t x)(n:wZ C φ ν w bx):sC C φ ν w bx e size x old cs len:=by
 unfold rowOf at h;split at h
 ·cases h;exact .nil y.1
 ·rename_i b p a sz;obtain⟨B,u,f⟩:=aT h
  cases j:(p==0&&sz==size&&B.ty==e&&B.cs.length==a*size)with
  |false=>rw[j]at f;cases f
  |true=>
   rw[j]at f;simp only[cond_true,Option.some.injEq,Prod.mk.injEq]at f;obtain⟨rfl,rfl,rfl⟩:=f;simp only[and_eq_true,beq_iff_eq]at j;obtain⟨⟨⟨rfl,rfl⟩,rfl⟩,I⟩:=j;obtain⟨k,o,l,F,m,r,A,D,i,s⟩:=y;obtain⟨J,L,g,z,d,f1,f2,f3,q⟩:=n b B u;rw[r]at f1;cases f1;subst f3
   have E:m=(g++z++d).length:=by
    unfold World.shape? at i;rw[f2]at i;simp only[Option.some.injEq,Prod.mk.injEq]at i;rw[<-i.2];simp
   have H:=q.len;refine .row b B k l a g z d u rfl r (by rw[A];simp) D f2 q (by omega) ?_;rw[E]at s;simp at s;omega
 ·cases h
theorem sC.cells {size:Nat}{old:ON}{len:Nat}(h:sC C φ ν w bx e size x old cs len):∃d:LB,d.length=len*size/\All2 (relC C φ ν w) cs d/\∀a,a.heap=w.heap->(Builtin.firstCells size len x).run C.P a=.ok d.toArray a:=by
 cases h with
 |nil h=>subst h;exact⟨[],by simp,trivial,fun a _=>aDK⟩
 |row b B k g _ o d f p q r i s j l h8 u=>
  subst i;exact⟨d,h8,l,fun a n=>Yy (by rw[n];exact j) h8⟩
theorem aMy {args:Array Operand}{ts:Array TypeId}{o:Oper}{e:nL}(E:∀x,relT C φ ν w (ev x) (ρ x))(D:wZ C φ ν w bx)(d:evalOp C.P ev bx (.call { callee:=.builtin .append,args:=args,argTypes:=ts})=some e):
  vK C φ ν w bx ((do pure (Next.value (<-Builtin.append_ ts o.type (args.map ρ))):Sem Next).run C.P w) e:=by
 simp only[evalOp]at d;split at d
 ·rename_i t O s x e1 e2;obtain⟨L,h1,d⟩:=aT d;obtain⟨a1,h2,d⟩:=aT d;obtain⟨size,T,d⟩:=aT d;obtain⟨i,z,d⟩:=aT d;obtain⟨zero,A,d⟩:=aT d;obtain⟨⟨old,cs,len⟩,h6,d⟩:=aT d;obtain⟨⟨aq,ds,n⟩,h7,d⟩:=aT d;simp only at d
  cases M:(Nat.ble (len+n) 100&&Nat.ble i.bytes 1000000&&!(n==0)&&!(size==0)&&zero.length==size&&kS bx old)with
  |false=>rw[M]at d;cases d
  |true=>
   rw[M]at d;simp only[cond_true,Option.some.injEq]at d;subst d;simp only[and_eq_true,ble_eq,Bool.not_eq_true',beq_eq_false_iff_ne,beq_iff_eq]at M;obtain⟨⟨⟨⟨⟨b1,b2⟩,b3⟩,b4⟩,b5⟩,b6⟩:=M
   have S:args=#[s,x]:=by apply Array.toList_inj.1;rw[e2]
   have et:ts=#[t,O]:=by apply Array.toList_inj.1;rw[e1]
   subst S et
   have I:∀{t e:TypeId},cX C.P t=some e->C.P.underlying t=some (.slice e):=by
    intro t e h;unfold cX at h;split at h
    ·rename_i e;cases h;exact e
    ·cases h
   have hu:=I h1;have H:=I h2;have rs:=aK3 h6 (E s) D;have rx:=aK3 h7 (E x) D;obtain⟨R,y1,y2,y3⟩:=rs.cells;obtain⟨q,z1,z2,z3⟩:=rx.cells;obtain⟨J,_,zr⟩:=Pb (C:=C) (φ:=φ) (ν:=ν) (w:=w) A
   have hz:∀w,(zeroValue L).run C.P w=.ok J w:=by
    intro y;unfold lF at A;obtain⟨v,q1,q2⟩:=aT A;obtain⟨i',q3,q4⟩:=aT q1;rw[z]at q3;cases q3
    have e1:(zeroValue L).run C.P w=.ok v w:=by simp[zeroValue,typeInfo,z,q4]
    obtain⟨bf,e2,_⟩:=Pb (C:=C) (φ:=φ) (ν:=ν) (w:=w) A;simp[zeroValue,typeInfo,z,q4]at*;assumption
   have W:J.cells.size=size:=by
    have:=zr.len;simp only[Array.length_toList]at this;omega
   obtain⟨xo,xc,U⟩:∃xo xc,ρ x=.slice xo n xc:=by
    cases rx with
    |nil h=>exact⟨none,0,h⟩
    |row b B k j _ g R f h1 h2 T z A h6 h7 h8 h9=>exact⟨_,j,z⟩
   rw[U]at z3
   have u:∀(v:Value) (y:World),(Builtin.append_ #[t,O] o.type #[ρ s,ρ x]).run C.P w=.ok v y->((do pure (Next.value (<-Builtin.append_ #[t,O] o.type (#[s,x].map ρ))):Sem Next).run C.P w)=.ok (.value v) y:=by
    intro v y h
    have e:#[s,x].map ρ=#[ρ s,ρ x]:=by simp
    rw[e,Sem.run_bind,h];rfl
   have r:∀(bo:Option Addr) (j:Nat),ρ s=.slice bo len j->¬len+n<=j->vK C φ ν w bx ((do pure (Next.value (<-Builtin.append_ #[t,O] o.type (#[s,x].map ρ))):Sem Next).run C.P w) (.app old (cs++ds) L (len+n) size):=by
    intro bo j hs hc;rw[hs]at y3;obtain⟨l,c1,c2⟩:=aKa (ty:=o.type) hu H T z b2 hz y3 z3 hc (le_trans b1 (by decide));rw[<-hs,<-U]at c2;refine⟨_,_,l,u _ _ c2,c1,b6,Or.inl ⟨R++q,(Builtin.zeroCells J.cells (l-(len+n))).toList,?_,rfl,y2.append z2,?_⟩⟩
    ·have S:R.toArray++q.toArray++Builtin.zeroCells J.cells (l-(len+n))=(R++q++(Builtin.zeroCells J.cells (l-(len+n))).toList).toArray:=by
      apply Array.toList_inj.1;simp
     rw[S]
    ·simp only[Builtin.zeroCells,Array.toList_map,List.length_map,Array.length_toList,Array.size_range,List.length_append];rw[y1,z1,W,<-add_mul,<-add_mul];exact Nat.mul_le_mul_right _ (by omega)
   cases rs with
   |nil h=>exact r none 0 h (by omega)
   |row b B k j _ g p f g1 g2 g3 g4 g5 g6 g7 g8 g9=>
    by_cases hc:len+n<=j
    ·have F:=z3 w rfl;have N:=aHR (ty:=o.type) (a:=⟨k,g.length,none⟩) hu H T F hc
     have a6:n*size<=f.length:=by
      have:(len+n)*size<=j*size:=Nat.mul_le_mul_right _ hc;rw[add_mul]at this;omega
     obtain⟨y,s1,X⟩:=Ts (P:=C.P) (g.length+len*size) q 0 w (g++p++f) g6 (by simp;omega) (Lv z2);rw[Fy,List.toList_toArray,s1]at N;simp only[Result.andThen_ok]at N;rw[<-g4,<-U]at N;rw[add_zero,Oz _ _ _ (by simp;omega)]at X
     have t1:(g++p++f).take (g.length+len*size)=g++p:=by
      rw[take_append_of_le_length (by simp;omega),List.take_of_length_le (by simp;omega)]
     have t2:(g++p++f).drop (g.length+len*size+q.length)=f.drop q.length:=by
      rw[drop_append,List.drop_eq_nil_of_le (by simp;omega),nil_append];congr 1;simp;omega
     rw[t1,t2]at X
     have Y:jQ w y k (g++(p++q)++f.drop q.length) L:=by
      rw[<-append_assoc g];exact X
     refine⟨_,y,j,u _ _ N,hc,b6,Or.inr ⟨b,B,k,g.length,g,p,f,q,f.drop q.length,rfl,g1,g2,g3,rfl,g6,rfl,g7,Y,?_,g7.append z2,?_⟩⟩
     ·simp;omega
     ·simp;omega
    ·exact r _ j g4 hc
 ·cases d
theorem xF {o:Oper}{e:nL}(l:∀x,relT C φ ν w (ev x) (ρ x))(aq:wZ C φ ν w bx)(bf:∀f,ρ (.func f)=.func (.func f) #[] #[])(be:∀f vs,e=.call f vs->∀xs w,(callFunc f xs).run C.P w=.ok (.enter f xs) w)
  (h:evalOp C.P ev bx o.op=some e):vK C φ ν w bx ((execOp ρ o).run C.P w) e:=by
 unfold execOp;generalize o.op=op at h
 cases op with
 |move x=>simp[evalOp]at h;subst h;exact fun _=>⟨_,rfl,l x⟩
 |assign x=>simp[evalOp]at h;subst h;exact fun _=>⟨_,rfl,l x⟩
 |pick c a b=>
  unfold evalOp at h;obtain⟨cc,D,j⟩:=aT h;have hc:=l c;rw[qC D]at hc;have ha:=l a;have A:=l b
  cases cc<;>simp only at j
  case bool t=>
   simp at j;subst j;have hc:ρ c=.bool t:=hc
   refine fun _=>⟨if t=true then ρ a else ρ b,by simp[hc,asBool],?_⟩
   cases t
   ·exact A
   ·exact ha
  case sbool t=>
   have hc:ρ c=.bool t:=hc
   have run:((do pure (.value (if <-asBool (ρ c)then ρ a else ρ b))):Sem Next).run C.P w=.ok (.value (if t=true then ρ a else ρ b)) w:=by simp[hc,asBool]
   split at j<;>(try cases j)<;>(simp only[*]at ha A)<;>(refine fun U=>⟨_,run,?_⟩)<;>cases t<;>simp only[relT,dW,relC,cond_true,cond_false,if_true,false_eq_true,if_false]at*
   all_goals first
    |exact A
    |exact ha
    |(have U:=U.one;simp at U;simp[U]at ha A;first|exact A|exact ha)
  all_goals cases j
 |alloc t=>
  unfold evalOp at h;obtain⟨cs,D,rfl⟩:=cA h;obtain⟨v,j,z⟩:=Pb (φ:=φ) (ν:=ν) (w:=w) D;exact⟨v.cells.toList,by simp[Instr.alloc,j,newVar,newRow,yH],z,fun _ _ e=>by cases e⟩
 |box t x=>
  unfold evalOp at h;obtain⟨v,D,rfl⟩:=cA h;have q:=l x;rw[Ch D]at q;exact⟨(ρ x).cells.toList,by simp[Instr.box,newVar,newRow,yH],aFu q,fun _ _ e=>by cases e⟩
 |build t L=>
  unfold evalOp at h;obtain⟨zero,D,j⟩:=aT h;obtain⟨ps,z,F⟩:=aT j;obtain⟨cs,p,rfl⟩:=cA F;obtain⟨zv,hz,ak⟩:=Pb (φ:=φ) (ν:=ν) (w:=w) D;have aj:=Zm l z;intro _
  cases J:C.P.underlying t with
  |none=>rw[J]at p;cases p
  |some d=>
   rw[J]at p
   cases d<;>simp only at p<;>try cases p
   case struct fs=>
    obtain⟨Y,I,N⟩:=aT p;obtain⟨out,h8,h9⟩:=Uu N ak aj;refine⟨.agg out.toArray,?_,out,rfl,h9⟩;have hm:=aJA (w:=w) I
    have e1:(fs.mapM fun(f:Field)=>Prod.mk f.offset <$> sizeOf f.type).run C.P w=.ok Y.toArray w:=by
     rw[<-Array.toArray_toList (xs:=fs),List.mapM_toArray];simp only[Sem.run_map];rw[hm];rfl
    have ao:Instr.fill (fun x=>Y[x]?) zv.cells (List.map (fun x=>(x.fst,ρ x.snd)) L.toList)=some out.toArray:=by
     rw[<-h8]
    simp[Instr.build,hz,underlying,J,e1,ao]
   case array n el=>
    obtain⟨sz,I,N⟩:=aT p;obtain⟨out,h8,h9⟩:=Uu N ak aj;refine⟨.agg out.toArray,?_,out,rfl,h9⟩
    have ao:Instr.fill (fun i=>some (i*sz,sz)) zv.cells (L.toList.map fun(i,x)=>(i,ρ x))=some out.toArray:=by
     rw[<-h8]
    simp[Instr.build,hz,underlying,J,uK I,ao]
 |buildSlice t len L=>
  simp only[evalOp]at h;obtain⟨e1,D,j⟩:=aT h;obtain⟨size,z,F⟩:=aT j;obtain⟨zero,p,I⟩:=aT F
  cases A:(Nat.ble (len*size) 16777216&&!(zero.length==0))with
  |false=>rw[A]at I;cases I
  |true=>
   rw[A]at I;simp only[cond_true]at I;simp only[and_eq_true,ble_eq,Bool.not_eq_true',beq_eq_false_iff_ne]at A;obtain⟨ps,N,h8⟩:=aT I;obtain⟨cs,h9,rfl⟩:=cA h8;obtain⟨zv,hz,ak⟩:=Pb (φ:=φ) (ν:=ν) (w:=w) p;have aj:=Zm l N;have a4:=aQu ak A.2 (len*size);obtain⟨out,k1,E⟩:=Uu h9 a4 aj
   have J:C.P.underlying t=some (.slice e1):=by
    unfold cX at D;split at D
    ·rename_i e;cases D;exact e
    ·cases D
   have a2:out.length=len*size:=by
    have e1:=E.len;rw[<-e1,aIg h9];simp[wQ]
   refine⟨out,?_,E,fun n sz e=>by cases e;exact a2⟩
   have M:Instr.fill (fun i=>some (i*size,size)) (Array.map (fun x=>zv.cells[x%zv.cells.size]!) (Array.range (len*size))) (List.map (fun x=>(x.fst,ρ x.snd)) L.toList)=some out.toArray:=by
    rw[<-k1]
   by_cases h0:len*size=0
   ·have a6:Instr.fill (fun i=>some (i*size,size)) #[] (List.map (fun x=>(x.fst,ρ x.snd)) L.toList)=some out.toArray:=by
     rw[h0]at M
     have e0:Array.map (fun x=>zv.cells[x%zv.cells.size]!) (Array.range 0)=#[]:=by apply Array.toList_inj.1;simp
     rw[e0]at M;exact M
    have e0:Array.range 0=#[]:=by apply Array.toList_inj.1;simp
    simp[Instr.buildSlice,underlying,J,uK z,h0,e0,a6,newRow,yH]
   ·have:¬16777216<len*size:=by omega
    simp[Instr.buildSlice,underlying,J,uK z,h0,this,hz,M,newRow,yH]
 |convert b4 a9 x=>
  simp only[evalOp]at h;obtain⟨c,D,j⟩:=aT h;obtain⟨⟨s,k,n⟩,z,F⟩:=aT j;obtain⟨d1,p,I⟩:=aT F;have q:=l x;rw[qC D]at q;have ex:=Vp z q
  cases J:C.P.underlying a9 with
  |none=>rw[J]at I;cases I
  |some d=>
   rw[J]at I
   cases d<;>simp only at I<;>try cases I
   case int.refl k'=>
    exact fun _=>⟨.int k' (k'.wrap n),by simp[convert,underlying,p,J,ex,Conv.intToInt],Wk _ _ _⟩
 |load t a=>
  unfold evalOp at h;obtain⟨c,D,j⟩:=aT h;have ha:=l a;rw[qC D]at ha
  cases c<;>simp only at j<;>try cases j
  case ptr b off=>
   obtain⟨B,z,F⟩:=aT j;obtain⟨v,p,rfl⟩:=cA F;obtain⟨k,o,T,xs,S,k1,E,k0,W⟩:=aq b B z;obtain⟨k',o',M,X⟩:=ha;rw[k1]at M;cases M;subst k0;intro _;unfold wJ at p;obtain⟨g,g1,O⟩:=aT p
   cases g with
   |true=>
    simp only[cond_true]at O;obtain⟨n,g3,R⟩:=aT O
    cases A:Nat.ble (off+n) B.cs.length with
    |false=>rw[A]at R;cases R
    |true=>
     rw[A]at R;simp only[cond_true,Option.some.injEq]at R;subst R;rw[ble_eq,W.len]at A;refine⟨.agg ((xs.drop off).take n).toArray,?_,_,rfl,(W.drop off).take n⟩;simp only[X,Instr.loadAt,Instr.sureAddr,loadVar,loadCells,Sem.run_bind,Sem.run_pure,Result.andThen_ok,Lm g1,uK g3,if_true,Tx E (T.length+off) n 0 #[] (by simp;omega),add_zero,aHA A];simp
   |false=>
    simp only[cond_false]at O;obtain⟨c,g3,rfl⟩:=cA O;obtain⟨x,R,g5⟩:=W.at g3;have sg:=aOy (pre:=T) (post:=S) R;rw[append_assoc]at sg;exact⟨x,by simp[X,Instr.loadAt,Instr.sureAddr,loadVar,Lm g1,Mh E,sg],g5⟩
 |store t a x=>
  unfold evalOp at h;obtain⟨c,D,j⟩:=aT h;have ha:=l a;rw[qC D]at ha
  cases c<;>simp only at j<;>try cases j
  case ptr b off=>
   obtain⟨v,z,F⟩:=aT j;obtain⟨B,p,ah⟩:=aT F
   have a3:B.ro=false:=by
    cases X:B.ro with
    |false=>rfl
    |true=>rw[X]at ah;cases ah
   rw[a3]at ah;have I:(vI C.P t B.cs off v).map (fun cs=>nL.mZ b cs)=some e:=ah;obtain⟨cs,N,rfl⟩:=cA I;have q:=l x;rw[Ch z]at q;obtain⟨k,o,T,xs,S,k1,E,k0,W⟩:=aq b B p;obtain⟨k',o',M,X⟩:=ha;rw[k1]at M;cases M;subst k0;unfold vI at N;obtain⟨n,g1,O⟩:=aT N
   cases A:((cellsOf v).length==n&&Nat.ble (off+n) B.cs.length)with
   |false=>rw[A]at O;cases O
   |true=>
    rw[A]at O;simp only[cond_true,Option.some.injEq]at O;subst O;simp only[and_eq_true,beq_iff_eq,ble_eq]at A;obtain⟨b1,b2⟩:=A;have ar:=aFu q;have hl:=ar.len;have br:=W.len;simp only[Array.length_toList]at hl
    have e:(ρ x).cells.toList.length=n:=by simp;omega
    obtain⟨w',s1,s2⟩:=Ts (P:=C.P) (T.length+off) (ρ x).cells.toList 0 w (T++xs++S) E (by simp;omega) (Lv ar);rw[add_zero,aL5 (by rw[e];omega),e]at s2;refine⟨B,k,T.length,w',T,xs,S,_,p,a3,k1,?_,s2,E,rfl,?_,All2.append (All2.append (W.take off) ar) (W.drop _),by simp;omega⟩
    ·have:(ρ x).cells.size=n:=by omega
     simp[X,Instr.storeAt,Instr.sureAddr,storeVar,uK g1,this,s1]
    ·simp only[List.length_append,List.length_take,List.length_drop,e];omega
 |nilCheck x=>
  unfold evalOp at h;obtain⟨c,D,j⟩:=aT h;have q:=l x;rw[qC D]at q
  cases c<;>simp only at j<;>cases j
  case ptr.refl b off=>
   intro _;obtain⟨k,o,k1,E⟩:=q;exact⟨ρ x,by simp[E],k,o,k1,E⟩
 |binOp op t x y u=>
  unfold evalOp at h;obtain⟨a,D,j⟩:=aT h;obtain⟨b,z,F⟩:=aT j;obtain⟨c,p,rfl⟩:=cA F;have q:=l x;rw[qC D]at q;have hy:=l y;rw[qC z]at hy;unfold Qq at p;split at p
  ·rename_i b1 o1;obtain⟨k,o,k1,E⟩:=q;obtain⟨W,_⟩:=hy
   cases U:oI C.P t with
   |false=>rw[U]at p;cases p
   |true=>
    rw[U]at p;obtain⟨v,r1,r2⟩:=aNS (C:=C) (φ:=φ) (ν:=ν) (w:=w) (a:=some ⟨k,o+o1,none⟩) (x:=x) (y:=y) U p
    exact fun _=>⟨v,by rw[<-E,<-W]at r1;simp only[Sem.run_bind]at r1 ⊢;rw[r1];rfl,r2⟩
  ·obtain⟨E,_⟩:=q;obtain⟨W,_⟩:=hy
   cases U:oI C.P t with
   |false=>rw[U]at p;cases p
   |true=>
    rw[U]at p;obtain⟨v,r1,r2⟩:=aNS (C:=C) (φ:=φ) (ν:=ν) (w:=w) (a:=none) (x:=x) (y:=y) U p
    exact fun _=>⟨v,by
     show((do eqGuard op t x y (ρ x) (ρ y);binOp op t (ρ x) (ρ y):Sem Value) >>= fun v=>pure (Next.value v):Sem Next).run C.P w=_;rw[E,W,Sem.run_bind,r1]
     rfl,r2⟩
  ·obtain⟨E,_⟩:=q;obtain⟨W,_⟩:=hy;obtain⟨v,r1,r2⟩:=aTH (C:=C) (φ:=φ) (ν:=ν) (w:=w) (t:=t) (x:=x) (y:=y) p
   exact fun _=>⟨v,by
     show((do eqGuard op t x y (ρ x) (ρ y);binOp op t (ρ x) (ρ y):Sem Value) >>= fun v=>pure (Next.value v):Sem Next).run C.P w=_;rw[E,W,Sem.run_bind,r1]
     rfl,r2⟩
  ·cases ap:sX a with
   |some sb=>
    obtain⟨s,b1⟩:=sb;rw[ap]at p;simp only at p;obtain⟨⟨s',b2⟩,g1,O⟩:=aT p;simp only at O;have E:=aKg ap q;have W:=aKg g1 hy
    cases U:nQ C.P t with
    |false=>rw[U]at O;cases O
    |true=>
     rw[U]at O;obtain⟨v,r1,r2⟩:=aPp (C:=C) (φ:=φ) (ν:=ν) (w:=w) (x:=x) (y:=y) U O
     exact fun _=>⟨v,by
      show((do eqGuard op t x y (ρ x) (ρ y);binOp op t (ρ x) (ρ y):Sem Value) >>= fun v=>pure (Next.value v):Sem Next).run C.P w=_;rw[E,W,Sem.run_bind,r1]
      rfl,r2⟩
   |none=>
   rw[ap]at p;simp only at p;obtain⟨⟨s,k,n⟩,g1,O⟩:=aT p;obtain⟨⟨s',k',n'⟩,g3,R⟩:=aT O;simp only at R;have ex:=Vp g1 q;have ey:=Vp g3 hy;split at R
   ·rename_i hk;subst hk;split at R
    ·rename_i c' A;cases R;obtain⟨v,r1,r2⟩:=aSi (C:=C) (φ:=φ) (ν:=ν) (w:=w) (t:=t) A
     exact fun _=>⟨v,by simp[ex,ey,eqG,r1],r2⟩
    ·cases A:(s'&&!(n'==0))with
     |false=>rw[A]at R;cases R
     |true=>
      rw[A]at R
      have hn:n'≠0:=by simp at A;exact A.2
      obtain⟨v,r1,r2⟩:=aSC (C:=C) (φ:=φ) (ν:=ν) (w:=w) (t:=t) hn R
      exact fun _=>⟨v,by simp[ex,ey,eqG,r1],r2⟩
   ·cases R
 |unOp op t x=>
  cases op<;>simp only[evalOp]at h<;>try cases h
  case neg=>
   obtain⟨c,D,j⟩:=aT h;obtain⟨⟨s,k,n⟩,z,rfl⟩:=cA j;have q:=l x;rw[qC D]at q;have ex:=Vp z q
   exact fun _=>⟨.int k (k.wrap (0-n)),by simp[ex,Op.unary,Op.intArith],Wk _ _ _⟩
  case not=>
   obtain⟨c,D,j⟩:=aT h;have q:=l x;rw[qC D]at q
   cases c<;>simp only at j<;>cases j
   ·rename_i b;have q:ρ x=.bool b:=q
    exact fun _=>⟨.bool !b,by simp[q,Op.unary],rfl⟩
   ·rename_i b;have q:ρ x=.bool b:=q
    exact fun _=>⟨.bool !b,by simp[q,Op.unary],rfl⟩
 |fieldAddr t x f=>
  unfold evalOp at h;obtain⟨c,D,j⟩:=aT h;have q:=l x;rw[qC D]at q
  cases c<;>simp only at j<;>try cases j
  case ptr b off=>
   obtain⟨fs,z,F⟩:=aT j;obtain⟨fd,p,I⟩:=aT F;obtain⟨n,N,h8⟩:=aT I;obtain⟨k,o,k1,E⟩:=q
   cases hn:n==0 with
   |true=>rw[hn]at h8;cases h8
   |false=>
    rw[hn]at h8;simp only[cond_false,Option.some.injEq]at h8;subst h8
    have bg:n≠0:=by simpa using hn
    have J:C.P.underlying t=some (.struct fs):=by
     unfold fieldsOf at z;split at z
     ·rename_i e;cases z;exact e
     ·cases z
    intro _;exact⟨.pointer (some ⟨k,o+off+fd.offset,none⟩),by simp[E,Instr.fieldAt,underlying,J,p,Instr.sureAddr,fieldPlace,uK N,bg,Fy],k,o,k1,by rw[add_assoc]⟩
 |field t x f=>
  unfold evalOp at h;obtain⟨v,D,j⟩:=aT h;have q:=l x;rw[Ch D]at q
  cases v<;>simp only at j<;>try cases j
  case agg cs=>
   obtain⟨fs,z,F⟩:=aT j;obtain⟨fd,p,I⟩:=aT F;obtain⟨v,N,rfl⟩:=cA I;obtain⟨xs,e,X⟩:=q;obtain⟨y,y1,y2⟩:=aOc N X
   have J:C.P.underlying t=some (.struct fs):=by
    unfold fieldsOf at z;split at z
    ·rename_i e;cases z;exact e
    ·cases z
   exact fun _=>⟨y,by simp[e,Instr.field,underlying,J,p,asAgg,y1],y2⟩
 |indexAddr t x i=>
  unfold evalOp at h;obtain⟨c,D,j⟩:=aT h;have hi:=l i;rw[qC D]at hi
  cases c<;>simp only at j<;>try cases j
  case int ik n=>
   obtain⟨c,z,F⟩:=aT j;have q:=l x;rw[qC z]at q;have hi:ρ i=.int ik n:=hi
   cases c<;>simp only at F<;>try cases F
   case ptr b off=>
    obtain⟨⟨len,e⟩,p,I⟩:=aT F;obtain⟨sz,N,h8⟩:=aT I;obtain⟨k,o,k1,E⟩:=q;simp only at N h8
    cases A:(decide (0<=n)&&decide (n<len))with
    |false=>rw[A]at h8;cases h8
    |true=>
     rw[A]at h8;simp only[cond_true,Option.some.injEq]at h8;subst h8;simp at A
     have J:C.P.underlying t=some (.array len e):=by
      unfold nO at p;split at p
      ·rename_i e;cases p;exact e
      ·cases p
     exact fun _=>⟨.pointer (some ⟨k,o+off+n.toNat*sz,none⟩),by simp[E,hi,Instr.indexAt,asIntOf,underlying,J,Instr.sureAddr,A,uK N,Fy],k,o,k1,by rw[add_assoc]⟩
   case slc b off len cap=>
    obtain⟨e,p,I⟩:=aT F;obtain⟨sz,N,h8⟩:=aT I;obtain⟨k,o,cp,_,_,k1,E,_⟩:=q
    cases A:(decide (0<=n)&&decide (n<len))with
    |false=>rw[A]at h8;cases h8
    |true=>
     rw[A]at h8;simp only[cond_true,Option.some.injEq]at h8;subst h8;simp at A
     have J:C.P.underlying t=some (.slice e):=by
      unfold cX at p;split at p
      ·rename_i e;cases p;exact e
      ·cases p
     exact fun _=>⟨.pointer (some ⟨k,o+off+n.toNat*sz,none⟩),by simp[E,hi,Instr.indexAt,asIntOf,underlying,J,Instr.sureAddr,A,uK N,Fy],k,o,k1,by rw[add_assoc]⟩
   case dsl b r len size=>
    exact aRk hi q F
  case sint ik n=>
   obtain⟨c,z,F⟩:=aT j;have q:=l x;rw[qC z]at q;have hi:ρ i=.int ik n:=hi
   cases c<;>simp only at F<;>try cases F
   case dsl b r len size=>
    exact aRk hi q F
 |index t x i=>
  unfold evalOp at h;obtain⟨c,D,j⟩:=aT h;have hi:=l i;rw[qC D]at hi
  cases c<;>simp only at j<;>try cases j
  case int ik n=>
   obtain⟨v,z,F⟩:=aT j;have q:=l x;rw[Ch z]at q;have hi:ρ i=.int ik n:=hi
   cases v<;>simp only at F<;>try cases F
   case agg cs=>
    obtain⟨⟨len,e⟩,p,I⟩:=aT F;obtain⟨sz,N,h8⟩:=aT I;simp only at N h8
    cases A:(decide (0<=n)&&decide (n<len))with
    |false=>rw[A]at h8;cases h8
    |true=>
     rw[A]at h8;simp only[cond_true]at h8;obtain⟨v,h9,rfl⟩:=cA h8;simp at A
     have J:C.P.underlying t=some (.array len e):=by
      unfold nO at p;split at p
      ·rename_i e;cases p;exact e
      ·cases p
     obtain⟨xs,ex,X⟩:=q;obtain⟨y,y1,y2⟩:=aOc h9 X
     exact fun _=>⟨y,by simp[ex,hi,Instr.index,asIntOf,underlying,J,A,uK N,y1],y2⟩
 |extract x i=>
  simp only[evalOp]at h;have q:=l x
  cases ht:ev x<;>rw[ht]at h q<;>simp only at h<;>try cases h
  case tup vs=>
   obtain⟨v,D,rfl⟩:=cA h;obtain⟨xs,e,X⟩:=q;obtain⟨y,y1,y2⟩:=X.at D
   exact fun _=>⟨y,by simp[e,Instr.extract,y1],y2⟩
 |call c=>
  obtain⟨af,args,H⟩:=c
  cases af with
  |value f=>
   cases f with
   |func f=>
    simp only[evalOp]at h;obtain⟨vs,D,rfl⟩:=cA h;have X:=aMA l D;refine⟨args.toList.map ρ,?_,X⟩
    have e:(args.toList.map ρ).toArray=args.map ρ:=by apply Array.toList_inj.1;simp
    rw[e];have:=be f vs rfl (args.map ρ) w;simp[resolve,bf,Deferred.ofValue,invoke,this]
   |_=>simp[evalOp]at h
  |builtin b=>
   cases b<;>try (simp[evalOp]at h;done)
   case len=>
    simp only[evalOp]at h;split at h
    ·rename_i t x e1 e2;obtain⟨c,D,j⟩:=aT h;have q:=l x;rw[qC D]at q
     cases c<;>simp only at j<;>try cases j
     case slc b off len cap=>
      obtain⟨el,z,rfl⟩:=cA j;obtain⟨k,o,cp,_,_,k1,E,_⟩:=q
      have J:C.P.underlying t=some (.slice el):=by
       unfold cX at z;split at z
       ·rename_i e;cases z;exact e
       ·cases z
      have ea:args=#[x]:=by apply Array.toList_inj.1;rw[e2]
      have et:H=#[t]:=by apply Array.toList_inj.1;rw[e1]
      subst ea et
      exact fun _=>⟨.int .i64 len,by simp[resolve,invoke,builtin,Builtin.len_,underlying,J,E,goInt],rfl⟩
     case dsl b r len size=>
      obtain⟨el,z,rfl⟩:=cA j;obtain⟨k,cp,k1,E⟩:=q
      have J:C.P.underlying t=some (.slice el):=by
       unfold cX at z;split at z
       ·rename_i e;cases z;exact e
       ·cases z
      have ea:args=#[x]:=by apply Array.toList_inj.1;rw[e2]
      have et:H=#[t]:=by apply Array.toList_inj.1;rw[e1]
      subst ea et
      exact fun _=>⟨.int .i64 len,by simp[resolve,invoke,builtin,Builtin.len_,underlying,J,E,goInt],rfl⟩
     case lit v=>
      cases hn:Er v with
      |false=>rw[hn]at j;cases j
      |true=>
       rw[hn]at j;simp only[cond_true]at j;obtain⟨el,z,rfl⟩:=cA j;obtain⟨c,rfl⟩:=aS5 hn;have E:ρ x=.slice none 0 c:=q.1
       have J:C.P.underlying t=some (.slice el):=by
        unfold cX at z;split at z
        ·rename_i e;cases z;exact e
        ·cases z
       have ea:args=#[x]:=by apply Array.toList_inj.1;rw[e2]
       have et:H=#[t]:=by apply Array.toList_inj.1;rw[e1]
       subst ea et
       exact fun _=>⟨.int .i64 0,by simp[resolve,invoke,builtin,Builtin.len_,underlying,J,E,goInt],rfl⟩
    ·cases h
   case append=>
    have:=aMy (o:=o) l aq h;exact this
  |_=>simp[evalOp]at h
 |_=>simp[evalOp]at h
end
structure AS where
 tmps:List AT
 boxes:List (Nat×bQ)
 next:Nat
 nums:List (Int×Nat)
 dirty:List Nat
def look:List (Nat×bQ)->Nat->Option bQ
 | [],_=>none
 |(i,B)::r,b=>bif i==b then some B else look r b
def jU:List (Nat×bQ)->Nat->List AC->List (Nat×bQ)
 | [],_,_=>[]
 |(i,B)::r,b,cs=>bif i==b then(i,{B with cs:=cs})::r else(i,B)::jU r b cs
theorem aG8 {b k:Nat}{cs:List AC}:∀{l:List (Nat×bQ)},look (jU l b cs) k=if k=b then(look l b).map (fun B=>{B with cs:=cs})else look l k
 | []=>by simp[jU,look]
 |(i,B)::r=>by
  unfold jU
  cases h:i==b with
  |true=>
   have:i=b:=by simpa using h
   subst this;simp only[cond_true,look]
   by_cases e:i=k
   ·subst e;simp
   ·have a:(i==k)=false:=by simpa using e
    have d:¬k=i:=fun x=>e x.symm
    simp[a,d]
  |false=>
   have f:¬i=b:=by simpa using h
   simp only[cond_false,look];rw[aG8]
   by_cases e:i=k
   ·subst e;simp[f]
   ·have a:(i==k)=false:=by simpa using e
    simp[a,h]
def iY (tmps:List AT):Operand->AT
 |.tmp t=>tmps.getD t .fX
 |.const v=>wI v
 |.global _=>.top
 |.func f=>.val (.one (.lit (.func (.func f) #[] #[])))
def setB (bx:Nat->Option bQ)(b:Nat)(B:bQ):Nat->Option bQ:=fun x=>if x=b then some B else bx x
structure RepF (C:fG) (w0:World) (ψ:LI) (φ:LI) (bx:Nat->Option bQ) (nb:Nat->Prop) (ν:LV) (dirty:PH) (w:World):Prop where
 box:wZ C φ ν w bx
 own:∀b B k o,bx b=some B->B.own=true->φ b=some (k,o)->w0.heap.size<=k
 inj:∀b b' B B' k o o',bx b=some B->bx b'=some B'->φ b=some (k,o)->φ b'=some (k,o')->b=b'\/(B.ro=true/\B'.ro=true/\¬(B.tip=true/\B'.tip=true)/\(B.tip=true->o'+B'.cs.length<=o+B.cs.length))
 tip:∀b B,bx b=some B->B.tip=true->B.own=true/\B.ro=true
 fresh:∀b,nb b->φ b=none
 lt:∀b k o,φ b=some (k,o)->k<w.heap.size
 low:∀k,k<w0.heap.size->(∀b∈dirty,∀o,φ b≠some (k,o))->w.heap[k]?=w0.heap[k]?
 on:On C.bt w0 w
 base:∀b x,ψ b=some x->φ b=some x
 qH:∀b B k o,bx b=some B->B.own=true->B.ro=false->φ b=some (k,o)->o=0/\w.shape? k=some (B.ty,B.cs.length)
abbrev RepW (C:fG)(w0:World)(ψ:LI)(φ:LI)(s:AS)(w:World):Prop:=RepF C w0 ψ φ (look s.boxes) (fun b=>s.next<=b) s.nums s.dirty w
structure Rep (C:fG) (w0:World) (ψ:LI) (φ:LI) (s:AS) (a:Act) (w:World):Prop where
 wd:RepW C w0 ψ φ s w
 defers:a.defers=[]
 tmps:All2 (relT C φ s.nums w) s.tmps a.tmps.toList
variable {C:fG}
theorem uF {b:List AT}{a:Act}(h:All2 (relT C φ ν w) b a.tmps.toList)(x:Operand):relT C φ ν w (iY b x) (a.eval x):=by
 cases x with
 |tmp t=>
  simp only[iY,Act.eval]
  by_cases j:t<b.length
  ·obtain⟨v,k,n⟩:=h.at (getElem?_eq_getElem j)
   have e:b.getD t .fX=b[t]:=by simp[List.getD,getElem?_eq_getElem j]
   have i:a.tmps.getD t undef=v:=by
    rw[Array.getD_eq_getD_getElem?];rw[Array.getElem?_toList]at k;simp[k]
   rw[e,i];exact n
  ·have d:b.length<=t:=Nat.le_of_not_lt j
   have e:b.getD t .fX=.fX:=by simp[List.getD,List.getElem?_eq_none d]
   have l:=h.len;simp at l
   have i:a.tmps.getD t undef=undef:=by
    rw[Array.getD_eq_getD_getElem?,Array.getElem?_eq_none (by rw[<-l];exact d)];rfl
   rw[e,i];rfl
 |const v=>exact aNG v
 |global g=>trivial
 |func f=>exact⟨rfl,rfl⟩
def putT (a:List AT):Option Tmp->AT->List AT
 |some d,v=>a.set d v
 |none,_=>a
theorem rT {b:List AT}{a:Act}(h:All2 (relT C φ ν w) b a.tmps.toList)(dst:Option Tmp){t:AT}(hv:relT C φ ν w t x):All2 (relT C φ ν w) (putT b dst t) (a.put dst x).tmps.toList:=by
 cases dst with
 |none=>exact h
 |some d=>
  simp only[putT,Act.put];rw[Array.toList_setIfInBounds];exact h.set d hv
section
variable {C:fG} {w0:World} {ψ:LI} {φ:LI} {bx:Nat->Option bQ} {nb:Nat->Prop} {ν:LV} {dirty:PH} {w w':World}
theorem RepF.cW {a:Nat->Prop}(h:RepF C w0 ψ φ bx nb ν dirty w)(e:∀b,a b->nb b):RepF C w0 ψ φ bx a ν dirty w:=⟨h.box,h.own,h.inj,h.tip,fun b d=>h.fresh b (e b d),h.lt,h.low,h.on,h.base,h.qH⟩
theorem RepF.later (h:RepF C w0 ψ φ bx nb ν dirty w)(d:Below w.heap.size w w')(a:LV)(q:∀(i:Nat) (x:Int×Nat),ν[i]?=some x->a[i]?=some x):RepF C w0 ψ φ bx nb a dirty w':=by
 have e:Ext C φ φ ν a w w':=⟨fun _ _ h=>h,q,On.below d⟩
 refine⟨fun b B s=>?_,h.own,h.inj,h.tip,h.fresh,fun b k o p=>Nat.lt_of_lt_of_le (h.lt b k o p) d.size,fun k p u=>?_,h.on.trans (On.below d),h.base,fun b B k o j f l n=>⟨(h.qH b B k o j f l n).1,(On.below (bt:=C.bt) d).shape (h.qH b B k o j f l n).2⟩⟩
 ·obtain⟨k,o,r,v,g,j,f,l,n⟩:=h.box b B s;exact⟨k,o,r,v,g,j,by rw[d.block k (gE f)];exact f,l,n.mono (xP e)⟩
 ·rw[d.block k (Nat.lt_of_lt_of_le p h.on.size)];exact h.low k p u
def pI (φ:LI)(b:Nat)(k:Nat×Nat):LI:=fun x=>if x=b then some k else φ x
theorem pG (φ:LI)(b:Nat)(k:Nat×Nat):pI φ b k b=some k:=by simp[pI]
variable {b:Nat}
theorem kW {x:Nat}{k:Nat×Nat}(h:x≠b):pI φ b k x=φ x:=by simp[pI,h]
theorem sG (bx:Nat->Option bQ)(b:Nat)(B:bQ):setB bx b B b=some B:=by simp[setB]
variable {B:bQ}
theorem mT {x:Nat}(h:x≠b):setB bx b B x=bx x:=by simp[setB,h]
theorem RepF.new (h:RepF C w0 ψ φ bx nb ν dirty w){n:Nat}(O:nb n){post:LB}{d:Nat}(hc:All2 (relC C φ ν w) B.cs i)(M:B.own=true)(R:B.tip=true->B.ro=true)(H:B.ro=false->post=[]):
  RepF C w0 ψ (pI φ n (w.heap.size,0)) (setB bx n B) (fun b=>nb b/\b≠n) ν dirty {w with heap:=w.heap.push (.cells (i++post).toArray B.ty),drawn:=d}/\Ext C φ (pI φ n (w.heap.size,0)) ν ν w {w with heap:=w.heap.push (.cells (i++post).toArray B.ty),drawn:=d}:=by
 generalize g:({w with heap:=w.heap.push (.cells (i++post).toArray B.ty),drawn:=d}:World)=w'
 have P:w'.heap.size=w.heap.size+1:=by rw[<-g];simp
 have hold:∀k,k<w.heap.size->w'.heap[k]?=w.heap[k]?:=by
  intro k f;rw[<-g];show(w.heap.push _)[k]?=_;rw[Array.getElem?_push,if_neg (by omega)]
 have r:w'.heap[w.heap.size]?=some (.cells (i++post).toArray B.ty (0,0)):=by rw[<-g];simp
 have u:On C.bt w w':=⟨by rw[<-g],by rw[<-g],by rw[<-g],by omega,fun k o s=>Or.inl (by rw[hold k (gE s)];exact s)⟩
 have F:∀b k,φ b=some k->b≠n:=by
  rintro b k j rfl;rw[h.fresh b O]at j;cases j
 have y:Ext C φ (pI φ n (w.heap.size,0)) ν ν w w':=⟨fun b k j=>by rw[kW (F b k j)];exact j,fun _ _ h=>h,u⟩
 refine⟨⟨fun b l a=>?_,fun b l k o a s f=>?_,fun b D L B2 k o S E z p q=>?_,fun b l a A=>?_,fun b j=>?_,fun b k o f=>?_,fun k f N=>?_,h.on.trans u,fun b x e=>y.φ b x (h.base b x e),fun b l k o a s I f=>?_⟩,y⟩
 ·by_cases e:b=n
  ·subst e;rw[sG]at a;cases a;exact⟨w.heap.size,0,[],i,post,pG _ _ _,by simpa using r,rfl,hc.mono (xP y)⟩
  ·rw[mT e]at a;obtain⟨k,o,J,U,T,E,z,p,q⟩:=h.box b l a;exact⟨k,o,J,U,T,y.φ b _ E,by rw[hold k (gE z)];exact z,p,q.mono (xP y)⟩
 ·by_cases e:b=n
  ·subst e;rw[pG]at f;cases f;exact h.on.size
  ·rw[mT e]at a;rw[kW e]at f;exact h.own b l k o a s f
 ·by_cases e:b=n
  ·by_cases v:D=n
   ·exact Or.inl (by rw[e,v])
   ·subst e;rw[pG]at p;rw[kW v]at q;cases p;have:=h.lt D _ _ q;omega
  ·by_cases v:D=n
   ·subst v;rw[pG]at q;rw[kW e]at p;cases q;have:=h.lt b _ _ p;omega
   ·rw[mT e]at E;rw[mT v]at z;rw[kW e]at p;rw[kW v]at q;exact h.inj b D L B2 k o S E z p q
 ·by_cases e:b=n
  ·subst e;rw[sG]at a;cases a;exact⟨M,R A⟩
  ·rw[mT e]at a;exact h.tip b l a A
 ·rw[kW j.2];exact h.fresh b j.1
 ·by_cases e:b=n
  ·subst e;rw[pG]at f;cases f;omega
  ·rw[kW e]at f;have:=h.lt b k o f;omega
 ·have:=h.on.size;rw[hold k (by omega)]
  exact h.low k f fun b j o e=>N b j o (y.φ b _ e)
 ·by_cases e:b=n
  ·subst e;rw[sG]at a;cases a;rw[pG]at f;cases f;refine⟨rfl,?_⟩;unfold World.shape?;rw[r,H I];simp[hc.len]
  ·rw[mT e]at a;rw[kW e]at f;exact⟨(h.qH b l k o a s I f).1,u.shape (h.qH b l k o a s I f).2⟩
variable {q:LB}
theorem RepF.got (h:RepF C w0 ψ φ bx nb ν dirty w){n p:Nat}(hn:nb n){g R:LB}{l:LV}(f:Below w.heap.size w w')(H:∀(i:Nat) (x:Int×Nat),ν[i]?=some x->l[i]?=some x)(X:w.heap.size<=k)(L:w'.heap[k]?=some (.cells (g++R++q).toArray B.ty (0,0)))(S:g.length=p)(hc:All2 (relC C φ l w') B.cs R)(Y:B.own=true)(ht:B.tip=true->B.ro=true)(P:B.ro=false->g=[]/\q=[]):
  RepF C w0 ψ (pI φ n (k,p)) (setB bx n B) (fun b=>nb b/\b≠n) l dirty w'/\Ext C φ (pI φ n (k,p)) ν l w w':=by
 have E:=h.later f l H
 have N:∀b k,φ b=some k->b≠n:=by
  rintro b k f rfl;rw[h.fresh b hn]at f;cases f
 have s:Ext C φ (pI φ n (k,p)) l l w' w':=⟨fun b k f=>by rw[kW (N b k f)];exact f,fun _ _ h=>h,On.refl _ _⟩
 have J:Ext C φ (pI φ n (k,p)) ν l w w':=⟨s.φ,H,On.below f⟩
 have M:=gE L;refine⟨⟨fun b r a=>?_,fun b r u p a O d=>?_,fun b I U B2 u p o' A D y z=>?_,fun b r a F=>?_,fun b f=>?_,fun b u p d=>?_,fun j hj hd=>?_,E.on,fun b x e=>J.φ b x (h.base b x e),fun b r u p a O T d=>?_⟩,J⟩
 ·by_cases e:b=n
  ·subst e;rw[sG]at a;cases a;exact⟨k,p,g,R,q,pG _ _ _,L,S,hc.mono (xP s)⟩
  ·rw[mT e]at a;obtain⟨j,p,g,ys,ps,f1,f2,f3,W⟩:=E.box b r a;exact⟨j,p,g,ys,ps,J.φ b _ f1,f2,f3,W.mono (xP s)⟩
 ·by_cases e:b=n
  ·subst e;rw[pG]at d;cases d;exact le_trans h.on.size X
  ·rw[mT e]at a;rw[kW e]at d;exact h.own b r u p a O d
 ·by_cases e:b=n
  ·by_cases v:I=n
   ·exact Or.inl (by rw[e,v])
   ·subst e;rw[pG]at y;rw[kW v]at z;cases y;have:=h.lt I _ _ z;omega
  ·by_cases v:I=n
   ·subst v;rw[pG]at z;rw[kW e]at y;cases z;have:=h.lt b _ _ y;omega
   ·rw[mT e]at A;rw[mT v]at D;rw[kW e]at y;rw[kW v]at z;exact h.inj b I U B2 u p o' A D y z
 ·by_cases e:b=n
  ·subst e;rw[sG]at a;cases a;exact⟨Y,ht F⟩
  ·rw[mT e]at a;exact h.tip b r a F
 ·rw[kW f.2];exact h.fresh b f.1
 ·by_cases e:b=n
  ·subst e;rw[pG]at d;cases d;exact M
  ·rw[kW e]at d;exact E.lt b u p d
 ·exact E.low j hj fun b f p e=>hd b f p (J.φ b _ e)
 ·by_cases e:b=n
  ·subst e;rw[sG]at a;cases a;rw[pG]at d;cases d;obtain⟨rfl,rfl⟩:=P T;refine⟨S.symm,?_⟩;unfold World.shape?;rw[L];simp[hc.len]
  ·rw[mT e]at a;rw[kW e]at d;exact E.qH b r u p a O T d
theorem RepF.Ti (h:RepF C w0 ψ φ bx nb ν dirty w)(N:bx b=some B):RepF C w0 ψ φ (setB bx b {B with tip:=false}) nb ν dirty w:=by
 have f:∀c D,setB bx b {B with tip:=false} c=some D->∃d,bx c=some d/\d.cs=D.cs/\d.ty=D.ty/\d.own=D.own/\d.ro=D.ro/\(D.tip=true->d.tip=true):=by
  intro c D g
  by_cases e:c=b
  ·subst e;rw[sG]at g;cases g;exact⟨B,N,rfl,rfl,rfl,rfl,fun e=>by cases e⟩
  ·rw[mT e]at g;exact⟨D,g,rfl,rfl,rfl,rfl,fun e=>e⟩
 refine⟨fun c D g=>?_,fun c D k o g u s=>?_,fun c x D d k o W I J L M=>?_,fun c D g P=>?_,h.fresh,h.lt,h.low,h.on,h.base,fun c D k o g u O s=>?_⟩
 ·obtain⟨d,i,j,r,_⟩:=f c D g;obtain⟨k,o,v,X,q,f1,f2,f3,A⟩:=h.box c d i;exact⟨k,o,v,X,q,f1,by rw[<-r];exact f2,f3,by rw[<-j];exact A⟩
 ·obtain⟨d,i,_,_,l,_⟩:=f c D g;exact h.own c d k o i (by rw[l];exact u) s
 ·obtain⟨E,i,j,_,_,n,p⟩:=f c D I;obtain⟨y,f1,f2,_,_,F,H⟩:=f x d J
  rcases h.inj c x E y k o W i f1 L M with e|⟨R,S,T,U⟩
  ·exact Or.inl e
  ·exact Or.inr ⟨by rw[<-n];exact R,by rw[<-F];exact S,fun⟨a,b⟩=>T ⟨p a,H b⟩,fun a=>by rw[<-f2,<-j];exact U (p a)⟩
 ·obtain⟨d,i,_,_,l,n,p⟩:=f c D g;obtain⟨a1,z⟩:=h.tip c d i (p P);exact⟨by rw[<-l];exact a1,by rw[<-n];exact z⟩
 ·obtain⟨d,i,j,r,l,n,p⟩:=f c D g;rw[<-j,<-r];exact h.qH c d k o i (by rw[l];exact u) (by rw[n];exact O) s
theorem RepF.mZ (h:RepF C w0 ψ φ bx nb ν dirty w){p:Nat}{cs:List AC}{ys n M:LB}{dirty':PH}(z:bx b=some B)(s:B.ro=false)(J:φ b=some (k,p))(q:jQ w w' k (i++M++n) B.ty)(h0:w.heap[k]?=some (.cells (i++ys++n).toArray B.ty (0,0)))(hp:i.length=p)(hl:ys.length=M.length)(hc:All2 (relC C φ ν w) cs M)(T:cs.length=B.cs.length)(ht:C.bt.contains B.ty=true)(U:∀x∈dirty,x∈dirty')(W:B.own=true\/b∈dirty'):
  RepF C w0 ψ φ (setB bx b {B with cs:=cs}) nb ν dirty' w'/\Ext C φ φ ν ν w w':=by
 have r:On C.bt w w':=⟨q.os,q.tape,q.output,by rw [q.size];exact le_refl _,fun j x ho=>by
  by_cases e:j=k
  ·subst e;rw[h0]at ho;cases ho;refine Or.inr ⟨ht,?_⟩;unfold World.shape?;rw[q.bV,h0];simp[hl]
  ·exact Or.inl (by rw[q.others j e];exact ho)⟩
 have L:Ext C φ φ ν ν w w':=⟨fun _ _ h=>h,fun _ _ h=>h,r⟩
 have F:B.tip=false:=by
  cases e:B.tip with
  |false=>rfl
  |true=>have:=(h.tip b B z e).2;rw[s]at this;cases this
 have f:∀c D,setB bx b {B with cs:=cs} c=some D->(c=b/\D={B with cs:=cs})\/(c≠b/\bx c=some D):=by
  intro c D a
  by_cases e:c=b
  ·subst e;rw[sG]at a;cases a;exact Or.inl ⟨rfl,rfl⟩
  ·rw[mT e]at a;exact Or.inr ⟨e,a⟩
 refine⟨⟨fun c D a=>?_,fun c D g l a ho d=>?_,fun c E D I g o1 o2 h1 h2 P R=>?_,fun c D a u=>?_,h.fresh,fun c g l d=>by rw[q.size];exact h.lt c g l d,fun j hj hd=>?_,h.on.trans r,fun b x e=>L.φ b x (h.base b x e),fun c D g l a ho Y d=>?_⟩,L⟩
 ·rcases f c D a with⟨rfl,rfl⟩|⟨e,a⟩
  ·exact⟨k,p,i,M,n,J,q.bV,hp,hc.mono (xP L)⟩
  ·obtain⟨j,l,H,aa,A,j1,j2,j3,j4⟩:=h.box c D a;refine⟨j,l,H,aa,A,j1,?_,j3,j4.mono (xP L)⟩;rw[q.others j (fun N=>?_)]
   ·exact j2
   ·subst N
    rcases h.inj b c B D j p l z a J j1 with y|⟨v,_⟩
    ·exact e y.symm
    ·rw[s]at v;cases v
 ·rcases f c D a with⟨rfl,rfl⟩|⟨e,a⟩
  ·exact h.own c B g l z ho d
  ·exact h.own c D g l a ho d
 ·rcases f c D h1 with⟨rfl,rfl⟩|⟨e,g1⟩
  ·rcases f E I h2 with⟨rfl,rfl⟩|⟨N,O⟩
   ·exact Or.inl rfl
   ·rcases h.inj c E B I g o1 o2 z O P R with y|⟨v,_⟩
    ·exact Or.inl y
    ·rw[s]at v;cases v
  ·rcases f E I h2 with⟨rfl,rfl⟩|⟨N,O⟩
   ·rcases h.inj c E D B g o1 o2 g1 z P R with y|⟨_,v,_⟩
    ·exact Or.inl y
    ·rw[s]at v;cases v
   ·exact h.inj c E D I g o1 o2 g1 O P R
 ·rcases f c D a with⟨rfl,rfl⟩|⟨e,a⟩
  ·simp only at u;rw[F]at u;cases u
  ·exact h.tip c D a u
 ·have X:j≠k:=by
   rintro rfl
   rcases W with ho|ho
   ·have:=h.own b B j p z ho J;omega
   ·exact hd b ho p J
  rw[q.others j X]
  exact h.low j hj fun b' S=>hd b' (U b' S)
 ·rcases f c D a with⟨rfl,rfl⟩|⟨e,a⟩
  ·obtain⟨e1,y⟩:=h.qH c B g l z ho Y d;exact⟨e1,by simp only;rw[T];exact r.shape y⟩
  ·exact⟨(h.qH c D g l a ho Y d).1,r.shape (h.qH c D g l a ho Y d).2⟩
theorem RepF.place (h:RepF C w0 ψ φ bx nb ν dirty w){n:Nat}(hn:nb n){o:Nat}{D:bQ}{s new d:LB}(hB:bx b=some B)(H:B.tip=true)(J:φ b=some (k,o))(h0:w.heap[k]?=some (.cells (i++q++s).toArray B.ty (0,0)))(hp:i.length=o)(hy:All2 (relC C φ ν w) B.cs q)
  (A:jQ w w' k (i++(q++new)++d) B.ty) (hl:new.length+d.length=s.length) (hc:All2 (relC C φ ν w) D.cs (q++new)) (S:D.ty=B.ty/\D.own=true/\D.ro=true) (ht:C.bt.contains B.ty=true):
  RepF C w0 ψ (pI φ n (k,o)) (setB (setB bx n D) b {B with tip:=false}) (fun x=>nb x/\x≠n) ν dirty w'/\Ext C φ (pI φ n (k,o)) ν ν w w':=by
 have N:b≠n:=by rintro rfl;rw[h.fresh b hn]at J;cases J
 have aq:∀c x,φ c=some x->c≠n:=by rintro c x hc rfl;rw[h.fresh c hn]at hc;cases hc
 have ag:(i++(q++new)++d).length=(i++q++s).length:=by simp;omega
 have U:On C.bt w w':=⟨A.os,A.tape,A.output,by rw [A.size];exact le_refl _,fun j x R=>by
  by_cases e:j=k
  ·subst e;rw[h0]at R;cases R;refine Or.inr ⟨ht,?_⟩;unfold World.shape?;rw[A.bV,h0];simp only[List.size_toArray];rw[ag]
  ·exact Or.inl (by rw[A.others j e];exact R)⟩
 have L:Ext C φ (pI φ n (k,o)) ν ν w w':=⟨fun c x hc=>by rw[kW (aq c x hc)];exact hc,fun _ _ h=>h,U⟩
 obtain⟨T,F⟩:=h.tip b B hB H;have ba:=hy.len;have af:=hc.len
 -- who is there
 have r:∀c E,setB (setB bx n D) b {B with tip:=false} c=some E->(c=b/\E={B with tip:=false})\/(c=n/\c≠b/\E=D)\/(c≠b/\c≠n/\bx c=some E):=by
  intro c E g
  by_cases e:c=b
  ·subst e;rw[sG]at g;cases g;exact Or.inl ⟨rfl,rfl⟩
  ·rw[mT e]at g
   by_cases u:c=n
   ·subst u;rw[sG]at g;cases g;exact Or.inr (Or.inl ⟨rfl,e,rfl⟩)
   ·rw[mT u]at g;exact Or.inr (Or.inr ⟨e,u,g⟩)
 -- others in this block lie ahead of its end
 have oth:∀c E l,c≠b->bx c=some E->φ c=some (k,l)->E.ro=true/\E.tip=false/\l+E.cs.length<=o+B.cs.length:=by
  intro c E l ap g au
  rcases h.inj b c B E k o l hB g J au with e|⟨_,M,i3,i4⟩
  ·exact absurd e.symm ap
  ·refine⟨M,?_,i4 H⟩
   cases e:E.tip with
   |false=>rfl
   |true=>exact absurd ⟨H,e⟩ i3
 refine⟨⟨fun c E g=>?_,fun c E O l g R f=>?_,fun c c' E Y O o1 o2 h1 h2 P z=>?_,fun c E g ah=>?_,fun x ai=>?_,fun c O l f=>?_,fun j hj hd=>?_,h.on.trans U,fun b x e=>L.φ b x (h.base b x e),fun c E O l g R W f=>?_⟩,L⟩
 ·rcases r c E g with⟨rfl,rfl⟩|⟨rfl,_,rfl⟩|⟨I,u,g⟩
  ·refine⟨k,o,i,q,new++d,L.φ c _ J,?_,hp,hy.mono (xP L)⟩;have:=A.bV
   simpa using this
  ·exact⟨k,o,i,q++new,d,pG _ _ _,by rw[S.1];exact A.bV,hp,hc.mono (xP L)⟩
  ·obtain⟨j,l,y,p,v,j1,j2,j3,j4⟩:=h.box c E g
   by_cases ab:j=k
   ·subst ab;obtain⟨_,_,a8⟩:=oth c E l I g j1
    have ar:E.ty=B.ty:=by
     rw[h0]at j2;have:=Option.some.inj j2
     injection this with I u e3
     exact u.symm
    have bb:=j4.len
    -- the same beginning
    have hL:y++p++v=i++q++s:=by
     rw[h0]at j2;have:=Option.some.inj j2
     injection this with I u e3
     have:=congrArg Array.toList I
     simpa using this.symm
    refine⟨j,l,y,p,(i++(q++new)++d).drop (l+p.length),L.φ c _ j1,?_,j3,j4.mono (xP L)⟩;rw[A.bV,ar];congr 2;apply Array.toList_inj.1;simp only[List.toList_toArray]
    have t1:(i++(q++new)++d).take (l+p.length)=y++p:=by
     have a1:(i++(q++new)++d).take (l+p.length)=(i++q++s).take (l+p.length):=by
      have b1:i++(q++new)++d=(i++q)++(new++d):=by simp
      have q1:l+p.length<=(i++q).length:=by rw[List.length_append];omega
      rw[b1,take_append_of_le_length (l₁:=i++q) q1,take_append_of_le_length (l₁:=i++q) q1]
     rw[a1,<-hL,take_append_of_le_length (by simp;omega),List.take_of_length_le (by simp;omega)]
    rw[<-t1];exact(List.take_append_drop _ _).symm
   ·exact⟨j,l,y,p,v,L.φ c _ j1,by rw[A.others j ab];exact j2,j3,j4.mono (xP L)⟩
 ·rcases r c E g with⟨rfl,rfl⟩|⟨rfl,_,rfl⟩|⟨I,u,g⟩
  ·rw[kW N]at f;exact h.own c B O l hB T f
  ·rw[pG]at f;cases f;exact h.own b B k o hB T J
  ·rw[kW u]at f;exact h.own c E O l g R f
 ·rcases r c E h1 with⟨rfl,rfl⟩|⟨rfl,d1,rfl⟩|⟨I,u,g1⟩
  ·rw[kW N,J]at P;cases P
   rcases r c' Y h2 with⟨rfl,rfl⟩|⟨rfl,d2,rfl⟩|⟨f1,f2,g2⟩
   ·exact Or.inl rfl
   ·exact Or.inr ⟨F,S.2.2,fun⟨a,_⟩=>(by cases a),fun a=>(by cases a)⟩
   ·rw[kW f2]at z;obtain⟨X,M,i3⟩:=oth c' Y o2 f1 g2 z;exact Or.inr ⟨F,X,fun⟨a,_⟩=>(by cases a),fun a=>(by cases a)⟩
  ·rw[pG]at P;cases P
   rcases r c' Y h2 with⟨rfl,rfl⟩|⟨rfl,d2,rfl⟩|⟨f1,f2,g2⟩
   ·rw[kW N,J]at z;cases z;refine Or.inr ⟨S.2.2,F,fun⟨_,a⟩=>(by cases a),fun _=>?_⟩;simp only;simp at af;omega
   ·exact Or.inl rfl
   ·rw[kW f2]at z;obtain⟨X,M,i3⟩:=oth c' Y o2 f1 g2 z;refine Or.inr ⟨S.2.2,X,fun⟨_,a⟩=>(by rw[M]at a;cases a),fun _=>?_⟩;simp at af;omega
  ·rw[kW u]at P
   rcases r c' Y h2 with⟨rfl,rfl⟩|⟨rfl,d2,rfl⟩|⟨f1,f2,g2⟩
   ·rw[kW N,J]at z;cases z;obtain⟨X,M,i3⟩:=oth c E o1 I g1 P;exact Or.inr ⟨X,F,fun⟨a,_⟩=>(by rw[M]at a;cases a),fun a=>(by rw[M]at a;cases a)⟩
   ·rw[pG]at z;cases z;obtain⟨X,M,i3⟩:=oth c E o1 I g1 P;exact Or.inr ⟨X,S.2.2,fun⟨a,_⟩=>(by rw[M]at a;cases a),fun a=>(by rw[M]at a;cases a)⟩
   ·rw[kW f2]at z;exact h.inj c c' E Y O o1 o2 g1 g2 P z
 ·rcases r c E g with⟨rfl,rfl⟩|⟨rfl,_,rfl⟩|⟨I,u,g⟩
  ·cases ah
  ·exact S.2
  ·exact h.tip c E g ah
 ·rw[kW ai.2];exact h.fresh x ai.1
 ·rw[A.size]
  by_cases e:c=n
  ·subst e;rw[pG]at f;cases f;exact h.lt b k o J
  ·rw[kW e]at f;exact h.lt c O l f
 ·have:=h.own b B k o hB T J;rw[A.others j (by omega)]
  exact h.low j hj fun c hc l e=>hd c hc l (L.φ c _ e)
 ·rcases r c E g with⟨rfl,rfl⟩|⟨rfl,_,rfl⟩|⟨I,u,g⟩
  ·simp only at W;rw[F]at W;cases W
  ·rw[S.2.2]at W;cases W
  ·rw[kW u]at f;exact⟨(h.qH c E O l g R W f).1,U.shape (h.qH c E O l g R W f).2⟩
end
def oT:List (Nat×bQ)->Nat->List (Nat×bQ)
 | [],_=>[]
 |(i,B)::r,b=>bif i==b then(i,{B with tip:=false})::r else(i,B)::oT r b
theorem aG9 {b:Nat}{B:bQ}:∀{l:List (Nat×bQ)},look l b=some B->look (oT l b)=setB (look l) b {B with tip:=false}
 | [],h=>by simp[look]at h
 |(i,D)::r,h=>by
  funext x;unfold oT;unfold look at h
  cases e:i==b with
  |true=>
   rw[e]at h;cases h
   have:i=b:=by simpa using e
   subst this;simp only[cond_true,look,setB]
   by_cases ex:x=i
   ·subst ex;simp
   ·have:(i==x)=false:=by simp;omega
    simp[this,ex]
  |false=>
   rw[e]at h;simp only[cond_false]at h
   have a:¬i=b:=by simpa using e
   simp only[cond_false,look];rw[aG9 h];simp only[setB]
   by_cases ex:i=x
   ·subst ex;simp[a]
   ·have:(i==x)=false:=by simp;omega
    simp[this]
theorem Dk (n:Nat)(B:bQ)(l:List (Nat×bQ)):look ((n,B)::l)=setB (look l) n B:=by
 funext b;unfold setB;simp only[look]
 by_cases e:b=n
 ·subst e;simp
 ·have:(n==b)=false:=by simp;omega
  simp[this,e]
theorem aFM {l:List (Nat×bQ)}{b:Nat}{B:bQ}(h:look l b=some B)(cs:List AC):look (jU l b cs)=setB (look l) b {B with cs:=cs}:=by grind [jU,setB,aG8]
def Enters (P:Program)(f:FuncId):Prop:=∀a w,(callFunc f a).run P w=.ok (.enter f a) w
abbrev Spec:=FuncId->Bool->List (Int×Nat)->Nat->(Nat->Option bQ)->List AV->Option (List (Int×Nat)×AT×List Prop×Option bQ)
def SpecOk (C:fG)(w0:World)(ψ:LI)(sp:Spec):Prop:=∀ f d ν id q s n r p j,sp f d ν id q s=some (n,r,p,j)->Enters C.P f/\(Holds p->∀ h,(∀ (i:Nat) (x:Int×Nat),(ν++n)[i]?=some x->h[i]?=some x)->∀ φ w (u:LB),
 (∀b x,ψ b=some x->φ b=some x)->(d=true->Below w0.heap.size w0 w)->On C.bt w0 w->wZ C φ h w q->All2 (dW C φ h w) s u->Calls C.P f u.toArray w fun e l=>∃v,e=.returned v/\Below w.heap.size w l/\
  match j with
  |none=>relT C φ h l r v
  |some B=>B.own=true/\(B.tip=true->B.ro=true)/\∃k o,∃g y a:LB,w.heap.size<=k/\l.heap[k]?=some (.cells (g++y++a).toArray B.ty (0,0))/\g.length=o/\All2 (relC C φ h l) B.cs y/\relT C (pI φ id (k,o)) h l r v/\(B.ro=false->g=[]/\a=[]))
def clean (s:AS):Bool:=s.dirty.all fun b=>match look s.boxes b with|some B=>B.own|none=>false
theorem RepF.below {w0:World}{ψ:LI}{s:AS}(h:RepW C w0 ψ φ s w)(hc:clean s=true):Below w0.heap.size w0 w:=by
 refine⟨h.on.os,h.on.tape,h.on.output,h.on.size,fun k f=>h.low k f fun b d o e=>?_⟩;unfold clean at hc;rw[all_eq_true]at hc;have:=hc b d
 cases a:look s.boxes b with
 |none=>rw[a]at this;cases this
 |some B=>
  rw[a]at this;have:=h.own b B k o a this e;omega
inductive Gd where
 |yes|no|bad
 |cond (c:Bool)
def gd (all:Array Oper)(e:List AT)(o:Oper):Gd:=
 match o.guard with
 |none=>.yes
 |some (g,a)=>match(all[g]?).bind (·.dst)with
  |none=>.no
  |some d=>match e[d]? with
   |none=>.no
   |some (.val (.one (.bool b)))=>bif b==a then .yes else .no
   |some (.val (.one (.sbool t)))=>.cond (t==a)
   |some .fX=>.no
   |some (.nF c (.one (.sbool t)))=>.cond (c&&(t==a))
   |some (.nF c (.one (.bool t)))=>.cond (c&&(t==a))
   |_=>.bad
section
variable {C:fG} {w0:World} {ψ:LI} {sp:Spec}{all:Array Oper}{o:Oper}
theorem Qn {n:World}{i:List AT}{a:Act}(h:All2 (relT C φ ν n) i a.tmps.toList):
  match gd all i o with
  |.yes=>Region.wanted o (yielded all a.tmps)=true
  |.no=>Region.wanted o (yielded all a.tmps)=false
  |.cond c=>Region.wanted o (yielded all a.tmps)=c
  |.bad=>True:=by
 unfold gd Region.wanted
 cases s:o.guard with
 |none=>simp
 |some p=>
  obtain⟨g,e⟩:=p;simp only[yielded]
  cases r:(all[g]?).bind (·.dst)with
  |none=>simp
  |some d=>
   simp only[Option.bind_some]
   cases l:i[d]? with
   |none=>
    have k:=h.len;simp at k
    have:a.tmps[d]?=none:=by
     rw[Array.getElem?_eq_none_iff,<-k];exact List.getElem?_eq_none_iff.1 l
    simp[this]
   |some t=>
    obtain⟨v,j,f⟩:=h.at l;rw[Array.getElem?_toList]at j;simp only[j]
    cases t with
    |top=>simp
    |fX=>have:v=undef:=f;subst this;simp[undef]
    |tup u=>simp
    |val x=>
     cases x with
     |agg cs=>simp
     |one c=>
      cases c<;>try trivial
      case bool b=>
       have:v=.bool b:=f;subst this
       cases b<;>cases e<;>simp
      case sbool b=>
       have:v=.bool b:=f;subst this
       cases b<;>cases e<;>simp
    |nF c x=>
     cases x with
     |agg cs=>simp
     |one q=>
      cases q<;>try trivial
      case bool b=>
       simp only[relT,dW,relC]at f
       cases c with
       |true=>simp only[if_true]at f;subst f;cases b<;>cases e<;>simp
       |false=>simp only[false_eq_true,if_false]at f;subst f;simp[undef]
      case sbool b=>
       simp only[relT,dW,relC]at f
       cases c with
       |true=>simp only[if_true]at f;subst f;cases b<;>cases e<;>simp
       |false=>simp only[false_eq_true,if_false]at f;subst f;simp[undef]
variable (C sp)
def oD (c:Bool):List Prop->List Prop
 | []=>[]
 |p::a=>[c=true->Holds (p::a)]
theorem Oc {c:Bool}{a:List Prop}(h:Holds (oD c a))(hc:c=true):Holds a:=by
 cases a with
 |nil=>exact gG
 |cons p a=>exact h.one hc
def mU (s:AS)(o:Oper):nL->Option (AS×List Prop)
 |.val r p=>some ({s with tmps:=putT s.tmps o.dst r},p)
 |.new cs ty sl=>some ({s with boxes:=(s.next,⟨cs,ty,true,sl.isSome,sl.isSome⟩)::s.boxes,next:=s.next+1,tmps:=putT s.tmps o.dst (.val (.one (Ks s.next sl)))},[])
 |.app old cs ty len size=>bif C.bt.contains ty then some ({s with boxes:=(match old with|none=>(s.next,⟨cs,ty,true,true,true⟩)::s.boxes|some b=>oT ((s.next,⟨cs,ty,true,true,true⟩)::s.boxes) b),next:=s.next+1,tmps:=putT s.tmps o.dst (.val (.one (.slc s.next 0 len size)))},[])else none
 |.mZ b cs=>(look s.boxes b).bind fun B=>bif C.bt.contains B.ty then some ({s with boxes:=jU s.boxes b cs,dirty:=bif B.own then s.dirty else b::s.dirty,tmps:=putT s.tmps o.dst .fX},[])else none
 | .call f e=>(sp f (clean s) s.nums s.next (look s.boxes) e).map fun (a,r,p,d)=>(match d with
   |none=>{s with nums:=s.nums++a,tmps:=putT s.tmps o.dst r}
   |some B=>{s with nums:=s.nums++a,boxes:=(s.next,B)::s.boxes,next:=s.next+1,tmps:=putT s.tmps o.dst r},p)
def mJ (c:Bool)(s:AS)(o:Oper):nL->Option (AS×List Prop)
 |.val (.val v) p=>some ({s with tmps:=putT s.tmps o.dst (.nF c v)},oD c p)
 |.call f b=>(sp f (clean s) s.nums s.next (look s.boxes) b).bind fun
   |(a,.val v,p,none)=>some ({s with nums:=s.nums++a,tmps:=putT s.tmps o.dst (.nF c v)},oD c p)
   |_=>none
 |_=>none
def wU (all:Array Oper)(s:AS)(o:Oper):Option (AS×List Prop):=
 match gd all s.tmps o with
 |.yes=>(evalOp C.P (iY s.tmps) (look s.boxes) o.op).bind (mU C sp s o)
 |.no=>some ({s with tmps:=putT s.tmps o.dst .fX},[])
 |.cond c=>(evalOp C.P (iY s.tmps) (look s.boxes) o.op).bind (mJ sp c s o)
 |.bad=>none
variable {C sp}
theorem sK (ν a:LV)(i:Nat)(x:Int×Nat)(h:ν[i]?=some x):(ν++a)[i]?=some x:=by
 rw[List.getElem?_append_left (List.getElem?_eq_some_iff.1 h).1];exact h
theorem rR (a:Act)(d:Option Tmp)(v:Value):(a.put d v).defers=a.defers:=by cases d<;>rfl
theorem aNQ {n:World}{ty:TypeId}{w:Nat}{sl:Option (Nat×Nat)}(h:∀m size,sl=some (m,size)->i.length=m*size):
  relT C (pI φ w (n.heap.size,0)) ν {n with heap:=n.heap.push (.cells i.toArray ty)} (.val (.one (Ks w sl))) (yH n.heap.size sl):=by
 cases sl with
 |none=>exact⟨n.heap.size,0,pG _ _ _,rfl⟩
 |some p=>
  obtain⟨m,size⟩:=p;refine⟨n.heap.size,0,m,ty,i.length,pG _ _ _,rfl,le_refl _,by simp[World.shape?],?_⟩;rw[h m size rfl];omega
def mE (a:Nat->Option bQ)(n:Nat)(D:bQ):Option Nat->Nat->Option bQ
 |none=>setB a n D
 |some b=>match a b with
  |some B=>setB (setB a n D) b {B with tip:=false}
  |none=>setB a n D
theorem aOT {a:Nat->Option bQ}{b:Nat}(h:kS a (some b)=true):∃B,a b=some B/\B.tip=true:=by grind [kS]
theorem aMx {y:Nat->Option bQ}{M:Nat->Prop}{dirty:PH}{s:World}{n g len size:Nat}{v:Value}{old:ON}{cs:List AC}{ty:TypeId}(h:RepF C w0 ψ φ y M ν dirty w)(I:M n)(q:len<=g)(O:kS y old=true)(H:C.bt.contains ty=true)
  (X:(∃ u a:LB,s={w with heap:=w.heap.push (.cells (u++a).toArray ty),drawn:=w.drawn+1}/\v=.slice (some ⟨w.heap.size,0,none⟩) len g/\All2 (relC C φ ν w) cs u/\g*size<=u.length+a.length)\/
    (∃ b B k o,∃ i j a new f:LB,old=some b/\y b=some B/\B.ty=ty/\φ b=some (k,o)/\v=.slice (some ⟨k,o,none⟩) len g/\w.heap[k]?=some (.cells (i++j++a).toArray ty (0,0))/\i.length=o/\All2 (relC C φ ν w) B.cs j/\
     jQ w s k (i++(j++new)++f) ty/\new.length+f.length=a.length/\All2 (relC C φ ν w) cs (j++new)/\o+g*size<=(i++(j++new)++f).length)):
  ∃l,RepF C w0 ψ l (mE y n ⟨cs,ty,true,true,true⟩ old) (fun x=>M x/\x≠n) ν dirty s/\Ext C φ l ν ν w s/\relT C l ν s (.val (.one (.slc n 0 len size))) v:=by
 rcases X with⟨u,a,rfl,rfl,W,h2⟩|⟨b,B,k,o,i,j,a,new,f,rfl,z,rfl,P,rfl,R,S,T,N,U,A,E⟩
 ·obtain⟨k1,L⟩:=h.new I (B:=⟨cs,ty,true,true,true⟩) (post:=a) (d:=w.drawn+1) W rfl (fun h=>h) (fun e=>by cases e);refine⟨_,?_,L,w.heap.size,0,g,ty,(u++a).length,pG _ _ _,rfl,q,by simp[World.shape?],by simp;omega⟩
  cases old with
  |none=>exact k1
  |some b=>
   obtain⟨B,F,_⟩:=aOT O
   have J:b≠n:=by
    rintro rfl;obtain⟨k,o,_,_,_,f1,_⟩:=h.box _ _ F;rw[h.fresh _ I]at f1;cases f1
   unfold mE;simp only[F];exact k1.Ti (by rw[mT J];exact F)
 ·obtain⟨Y,p,r⟩:=aOT O;rw[z]at p;cases p;obtain⟨k1,L⟩:=h.place I (D:=⟨cs,B.ty,true,true,true⟩) z r P R S T N U A ⟨rfl,rfl,rfl⟩ H;refine⟨_,?_,L,k,o,g,B.ty,(i++(j++new)++f).length,pG _ _ _,rfl,q,?_,by simpa using E⟩
  ·unfold mE;simp only[z];exact k1
  ·unfold World.shape?;rw[N.bV];simp
variable {s:AS}{a:Act}{p:List Prop}{Q:XW}
theorem aMW (aa:SpecOk C w0 ψ sp){s':AS}{K:AW}{e:nL}
  (h:Rep C w0 ψ φ s a w) (H:evalOp C.P (iY s.tmps) (look s.boxes) o.op=some e) (i:mU C sp s o e=some (s',p)) (hp:Holds p)
  (E:∀x a' u,Ext C φ x s.nums s'.nums w u->Rep C w0 ψ x s' a' u->K a' u):o.wp C.P a w K Q:=by
 unfold Oper.wp
 cases e with
 |val r q=>
  simp only[mU,Option.some.injEq,Prod.mk.injEq]at i;obtain⟨rfl,rfl⟩:=i;have:=xF (o:=o) (uF h.tmps) h.wd.box (fun _=>rfl) (fun f J e=>by cases e) H;obtain⟨v,A,D⟩:=this hp;rw[A];exact E φ _ w (Ext.refl _ _ _) ⟨h.wd,by rw[rR];exact h.defers,rT h.tmps o.dst D⟩
 |new cs ty sl=>
  simp only[mU,Option.some.injEq,Prod.mk.injEq]at i;obtain⟨rfl,rfl⟩:=i;obtain⟨xs,A,D,M⟩:=xF (o:=o) (uF h.tmps) h.wd.box (fun _=>rfl) (fun f J e=>by cases e) H;rw[A];obtain⟨k1,l⟩:=h.wd.new (n:=s.next) (le_refl _) (B:=⟨cs,ty,true,sl.isSome,sl.isSome⟩) (post:=[]) (d:=w.drawn) D rfl (fun h=>h) (fun _=>rfl);rw[<-Dk,List.append_nil]at k1;rw[List.append_nil]at l;refine E _ _ _ l ⟨k1.cW fun b g=>⟨Nat.le_of_succ_le g,by simp only at g;omega⟩,by rw[rR];exact h.defers,rT (h.tmps.mono (xQ l)) o.dst (aNQ M)⟩
 |app old cs ty len size=>
  simp only[mU]at i
  cases g:C.bt.contains ty with
  |false=>rw[g]at i;cases i
  |true=>
   rw[g]at i;simp only[cond_true,Option.some.injEq,Prod.mk.injEq]at i;obtain⟨rfl,rfl⟩:=i;obtain⟨v,u,ah,A,D,M,r4⟩:=xF (o:=o) (uF h.tmps) h.wd.box (fun _=>rfl) (fun f J e=>by cases e) H;rw[A];obtain⟨x,k1,l,k3⟩:=aMx h.wd (n:=s.next) (le_refl _) D M g r4;refine E x _ _ l ⟨?_,by rw[rR];exact h.defers,rT (h.tmps.mono (xQ l)) o.dst k3⟩
   refine RepF.cW (nb:=fun b=>s.next<=b/\b≠s.next) ?_ fun b g=>⟨Nat.le_of_succ_le g,by simp only at g;omega⟩
   cases old with
   |none=>simp only[mE]at k1 ⊢;rw[<-Dk]at k1;exact k1
   |some b=>
    simp only[mE]at k1 ⊢;obtain⟨B,U,_⟩:=aOT M;rw[U]at k1
    have Y:b≠s.next:=by
     rintro rfl;obtain⟨k,o,_,_,_,f1,_⟩:=h.wd.box _ _ U;rw[h.wd.fresh _ (le_refl _)]at f1;cases f1
    rw[<-Dk]at k1;rw[aG9 (B:=B) (by rw[Dk,mT Y];exact U)];exact k1
 |mZ b cs=>
  simp only[mU]at i;obtain⟨B,F,y⟩:=aT i
  cases g:C.bt.contains B.ty with
  |false=>rw[g]at y;cases y
  |true=>
   rw[g]at y;simp only[cond_true,Option.some.injEq,Prod.mk.injEq]at y;obtain⟨rfl,rfl⟩:=y;obtain⟨B',k,oo,u,ab,ys,z,zs,L,gr,N,R,S,T,g6,g7,g8,g9⟩:=xF (o:=o) (uF h.tmps) h.wd.box (fun _=>rfl) (fun f J e=>by cases e) H;rw[F]at L;cases L;rw[R];obtain⟨k1,l⟩:=h.wd.mZ (dirty':=bif B.own then s.dirty else b::s.dirty) F gr N S T g6 g7 g8 g9 g (by cases B.own<;>simp_all) (by cases B.own<;>simp);rw[<-aFM F]at k1;exact E _ _ _ l ⟨k1,by rw[rR];exact h.defers,rT (h.tmps.mono (xQ l)) o.dst rfl⟩
 |call f J=>
  simp only[mU]at i;obtain⟨⟨j,r,q,I⟩,F,y⟩:=cA i;simp only[Prod.mk.injEq]at y;obtain⟨rfl,rfl⟩:=y;obtain⟨X,hc⟩:=aa f (clean s) s.nums s.next (look s.boxes) J j r q I F;obtain⟨xs,A,D⟩:=xF (o:=o) (uF h.tmps) h.wd.box (fun _=>rfl) (fun f' ar e=>by cases e;exact X) H;rw[A]
  have h0:Ext C φ φ s.nums (s.nums++j) w w:=⟨fun _ _ h=>h,sK _ _,On.refl _ _⟩
  refine(hc hp _ (fun _ _ h=>h) φ w xs h.wd.base (fun W=>RepF.below h.wd W) h.wd.on (h.wd.later (Below.refl _ _) _ (sK _ j)).box (D.mono (Vg h0))).mono ?_;rintro e u⟨v,rfl,g,hv⟩
  have hx:Ext C φ φ s.nums (s.nums++j) w u:=⟨fun _ _ h=>h,sK _ _,On.below g⟩
  cases I with
  |none=>
   have k1:=h.wd.later g (s.nums++j) (sK _ _);exact E φ _ u hx ⟨k1,by rw[rR];exact h.defers,rT (h.tmps.mono (xQ hx)) o.dst hv⟩
  |some B=>
   obtain⟨b1,b2,k,o',ab,ys,z,L,N,O,R,S,T⟩:=hv;obtain⟨k1,l⟩:=h.wd.got (n:=s.next) (le_refl _) g (sK _ j) L N O R b1 b2 T;rw[<-Dk]at k1;exact E _ _ u l ⟨k1.cW fun b g=>⟨Nat.le_of_succ_le g,by simp only at g;omega⟩,by rw[rR];exact h.defers,rT (h.tmps.mono (xQ l)) o.dst S⟩
theorem aSs (F:SpecOk C w0 ψ sp){D:AS}{n:World}{K:AW}{e:nL}{c:Bool}
  (h:Rep C w0 ψ φ s a n) (J:evalOp C.P (iY s.tmps) (look s.boxes) o.op=some e) (z:mJ sp c s o e=some (D,p)) (L:Holds p)
  (H:∀g y u,Ext C φ g s.nums D.nums n u->Rep C w0 ψ g D y u->K y u):if c=true then o.wp C.P a n K Q else K (a.put o.dst undef) n:=by
 have skip:∀v b,D={s with nums:=s.nums++b,tmps:=putT s.tmps o.dst (.nF c v)}->c=false->K (a.put o.dst undef) n:=by
  rintro v b rfl rfl
  have A:Ext C φ φ s.nums (s.nums++b) n n:=⟨fun _ _ h=>h,sK _ _,On.refl _ _⟩
  have k1:=h.wd.later (Below.refl _ _) (s.nums++b) (sK _ _);exact H φ _ n A ⟨k1,by rw[rR];exact h.defers,rT (h.tmps.mono (xQ A)) o.dst (by simp[relT])⟩
 cases e with
 |val r q=>
  cases r with
  |val v=>
   simp only[mJ,Option.some.injEq,Prod.mk.injEq]at z;obtain⟨rfl,rfl⟩:=z
   cases c with
   |false=>simp only[false_eq_true,if_false];exact skip v [] (by simp) rfl
   |true=>
    simp only[if_true];refine aMW F h J (p:=q) (s':={s with tmps:=putT s.tmps o.dst (.val v)}) rfl (Oc L rfl) ?_;intro g y u A l;refine H g y u A ⟨l.wd,l.defers,?_⟩;have:=l.tmps;simp only at this ⊢;exact swap this
  |_=>simp[mJ]at z
 |call f M=>
  simp only[mJ]at z;obtain⟨⟨b,r,q,I⟩,E,j⟩:=aT z
  cases r with
  |val v=>
   cases I with
   |some B=>simp at j
   |none=>
   simp only[Option.some.injEq,Prod.mk.injEq]at j;obtain⟨rfl,rfl⟩:=j
   cases c with
   |false=>simp only[false_eq_true,if_false];exact skip v b rfl rfl
   |true=>
    simp only[if_true];refine aMW F h J (p:=q) (s':={s with nums:=s.nums++b,tmps:=putT s.tmps o.dst (.val v)}) (by simp[mU,E]) (Oc L rfl) ?_;intro g y u A l;refine H g y u A ⟨l.wd,l.defers,?_⟩;exact swap l.tmps
  |_=>simp at j
 |_=>simp[mJ]at z
where
 swap {φ:LI} {ν:LV} {n:World} {k:List AT} {d:Option Tmp} {v:AV} {i:LB} (h:All2 (relT C φ ν n) (putT k d (.val v)) i):All2 (relT C φ ν n) (putT k d (.nF true v)) i:=by
  cases d with
  |none=>exact h
  |some d=>
   simp only[putT]at h ⊢;exact sw d k i h
 sw {φ:LI} {ν:LV} {n:World} {v:AV}:∀(d:Nat) (k:List AT) (i:LB),All2 (relT C φ ν n) (k.set d (.val v)) i->All2 (relT C φ ν n) (k.set d (.nF true v)) i
  |_,[],i,h=>h
  |0,_::_,x::i,⟨E,j⟩=>⟨by simpa[relT]using E,j⟩
  |d+1,_::k,x::i,⟨E,j⟩=>⟨E,sw d k i j⟩
  |0,_::_,[],h=>h.elim
  |d+1,_::_,[],h=>h.elim
theorem aTG (g:SpecOk C w0 ψ sp){r:AS}{n:World}{i:Nat}{K:AW}
  (y:all[i]?=some o) (h:Rep C w0 ψ φ s a n) (b:wU C sp all s o=some (r,p)) (x:Holds p)
  (q:∀j v u,Ext C φ j s.nums r.nums n u->Rep C w0 ψ j r v u->K v u):wpOp C.P all Q i K a n:=by
 unfold wpOp;simp only[y];have d:=Qn (all:=all) (o:=o) h.tmps;unfold wU at b
 cases f:gd all s.tmps o with
 |yes=>
  rw[f]at d b;simp only at d b;obtain⟨e,k,l⟩:=aT b;rw[if_pos d];exact Or.inl (aMW g h k l x q)
 |no=>
  rw[f]at d b;simp only[Option.some.injEq,Prod.mk.injEq]at d b;obtain⟨rfl,rfl⟩:=b;rw[if_neg (by simp[d])];exact q φ _ n (Ext.refl _ _ _) ⟨h.wd,by rw[rR];exact h.defers,rT h.tmps o.dst rfl⟩
 |cond c=>
  rw[f]at d b;simp only at d b;obtain⟨e,k,l⟩:=aT b;have:=aSs (Q:=Q) g h k l x q;rw[d]
  cases c with
  |true=>simp only[if_true]at this ⊢;exact Or.inl this
  |false=>simpa using this
 |bad=>rw[f]at b;cases b
end
end Ab
end Go.Proofs.YthhffdeihoofiaaGreatDoor
