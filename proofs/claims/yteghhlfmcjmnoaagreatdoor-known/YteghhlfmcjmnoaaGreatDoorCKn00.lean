import Derived.Tactics2
import Derived.Below
import Derived.Orders
import Derived.LoopN
import Derived.Laws.Sem
set_option linter.unusedSimpArgs false
set_option linter.unusedVariables false
set_option maxRecDepth 100000
set_option maxHeartbeats 2000000
namespace Go.Proofs.YteghhlfmcjmnoaaGreatDoor
open Go.RowKit
namespace Ab
abbrev One (v:Value):Prop:=v.oneCell'=true
def boxy (bt:List TypeId):Obj->Bool
 | .cells _ ty _=>bt.contains ty
 | _=>false
structure On (bt:List TypeId) (w W:World):Prop where
 os:W.os=w.os
 tape:W.tape=w.tape
 output:W.output=w.output
 size:w.heap.size<=W.heap.size
 blk:∀ (k:Nat) (o:Obj),w.heap[k]?=some o->W.heap[k]?=some o\/(boxy bt o=true/\W.shape? k=w.shape? k)
theorem On.refl (bt:List TypeId)(w:World):On bt w w:=⟨rfl,rfl,rfl,Nat.le_refl _,fun _ _ h=>Or.inl h⟩
theorem On.trans {bt:List TypeId}{a b c:World}(h:On bt a b)(g:On bt b c):On bt a c:=
 ⟨g.os.trans h.os,g.tape.trans h.tape,g.output.trans h.output,Nat.le_trans h.size g.size,fun k o ho=>by
  rcases h.blk k o ho with h1 | ⟨h1,h2⟩
  ·rcases g.blk k o h1 with h3 | ⟨h3,h4⟩
   ·exact Or.inl h3
   ·exact Or.inr ⟨h3,by rw [h4];unfold World.shape?;rw [h1,ho]⟩
  ·refine Or.inr ⟨h1,?_⟩
   -- the block is a box at b,too
   cases o with
   | cells cs ty m=>
    have e1:a.shape? k=some (ty,cs.size):=by unfold World.shape?;rw [ho]
    rw [e1] at h2;unfold World.shape? at h2;split at h2
    ·rename_i c' t' m' hb
     rcases g.blk k _ hb with h5 | ⟨_,h5⟩
     ·unfold World.shape?;rw [h5,ho];exact h2
     ·rw [h5,e1];unfold World.shape?;rw [hb];exact h2
    ·cases h2
   | _=>cases h1⟩
theorem On.shape {bt:List TypeId}{w W:World}(h:On bt w W){k:Nat}{x:TypeId×Nat}(hs:w.shape? k=some x):W.shape? k=some x:=by
 unfold World.shape? at hs;split at hs
 ·rename_i c t m a
  rcases h.blk k _ a with h1 | ⟨_,h1⟩
  ·unfold World.shape?;rw [h1];exact hs
  ·rw [h1];unfold World.shape?;rw [a];exact hs
 ·cases hs
theorem aAf {w:World}{k:Nat}{o:Obj}(h:w.heap[k]?=some o):k<w.heap.size:=(Array.getElem?_eq_some_iff.1 h).1
theorem On.below {bt:List TypeId}{w W:World}(h:Below w.heap.size w W):On bt w W:=
 ⟨h.os,h.tape,h.output,h.size,fun k o ho=>Or.inl (by rw [h.block k (aAf ho)];exact ho)⟩
theorem On.drew (bt:List TypeId)(w:World):On bt w {w with drawn:=w.drawn+1}:=⟨rfl,rfl,rfl,Nat.le_refl _,fun _ _ h=>Or.inl h⟩
def All2 {α β:Type}(R:α->β->Prop):List α->List β->Prop
 | [],[]=>True
 | a::as,b::bs=>R a b/\All2 R as bs
 | _,_=>False
section All2
variable {α β:Type} {R S:α->β->Prop}
theorem All2.mono (h:∀ a b,R a b->S a b):∀ {as:List α} {bs:List β},All2 R as bs->All2 S as bs
 | [],[],_=>trivial
 | _::_,_::_,⟨h1,h2⟩=>⟨h _ _ h1,All2.mono h h2⟩
 | [],_::_,h=>h.elim
 | _::_,[],h=>h.elim
theorem All2.len:∀ {as:List α} {bs:List β},All2 R as bs->as.length=bs.length
 | [],[],_=>rfl
 | _::_,_::_,⟨_,h2⟩=>by simp [All2.len h2]
 | [],_::_,h=>h.elim
 | _::_,[],h=>h.elim
theorem All2.at:∀ {as:List α} {bs:List β},All2 R as bs->∀ {i:Nat} {a:α},as[i]?=some a->∃ b,bs[i]?=some b/\R a b
 | [],[],_,_,_,h=>by simp at h
 | _::_,_::_,⟨h1,_⟩,0,_,h=>⟨_,rfl,by simp at h;subst h;exact h1⟩
 | _::_,_::_,⟨_,h2⟩,i+1,_,h=>by simpa using All2.at h2 (by simpa using h)
 | [],_::_,h,_,_,_=>h.elim
 | _::_,[],h,_,_,_=>h.elim
theorem All2.set:∀ {as:List α} {bs:List β},All2 R as bs->∀ (i:Nat) {a:α} {b:β},R a b->All2 R (as.set i a) (bs.set i b)
 | [],[],_,_,_,_,_=>trivial
 | _::_,_::_,⟨_,h2⟩,0,_,_,h=>⟨h,h2⟩
 | _::_,_::_,⟨h1,h2⟩,i+1,_,_,h=>⟨h1,All2.set h2 i h⟩
 | [],_::_,h,_,_,_,_=>h.elim
 | _::_,[],h,_,_,_,_=>h.elim
theorem All2.append:∀ {as as':List α} {bs bs':List β},All2 R as bs->All2 R as' bs'->All2 R (as++as') (bs++bs')
 | [],_,[],_,_,h=>h
 | _::_,_,_::_,_,⟨h1,h2⟩,h=>⟨h1,All2.append h2 h⟩
 | [],_,_::_,_,h,_=>h.elim
 | _::_,_,[],_,h,_=>h.elim
theorem All2.take:∀ {as:List α} {bs:List β} (n:Nat),All2 R as bs->All2 R (as.take n) (bs.take n)
 | [],[],_,_=>by simp [All2]
 | _::_,_::_,0,_=>by simp [All2]
 | _::_,_::_,n+1,⟨h1,h2⟩=>⟨h1,All2.take n h2⟩
 | [],_::_,_,h=>h.elim
 | _::_,[],_,h=>h.elim
theorem All2.drop:∀ {as:List α} {bs:List β} (n:Nat),All2 R as bs->All2 R (as.drop n) (bs.drop n)
 | [],[],_,_=>by simp [All2]
 | _::_,_::_,0,h=>h
 | _::_,_::_,n+1,⟨_,h2⟩=>All2.drop n h2
 | [],_::_,_,h=>h.elim
 | _::_,[],_,h=>h.elim
theorem All2.map {γ:Type}{f:γ->α}{g:γ->β}:∀ (l:List γ),(∀ x∈l,R (f x) (g x))->All2 R (l.map f) (l.map g)
 | [],_=>trivial
 | x::l,h=>⟨h x (by simp),All2.map l fun y hy=>h y (by simp [hy])⟩
end All2
inductive AC where
 | int (k:IntKind) (n:Int)
 | bool (b:Bool)
 | sint (k:IntKind) (n:Int)
 | sbool (t:Bool)
 | lit (v:Value)
 | ptr (b off:Nat)
 | slc (b off len size:Nat)
 | dsl (b r len size:Nat)
 | sg (i:Nat)
 | dg (k:Bool) (i:Nat)
 | sem (R:World->Value->Prop)
 | any
inductive AV where
 | one (c:AC)
 | agg (cs:List AC)
inductive AT where
 | top
 | und
 | val (v:AV)
 | tup (vs:List AV)
 | cnd (c:Bool) (v:AV)
structure Cfg where
 P:Program
 bt:List TypeId
 dig:Bool->World->Int->Value->Prop
 bits:Nat->Int->Prop
 digOn:∀ {k w W z x},On bt w W->dig k w z x->dig k W z x
 digOne:∀ {k w z x},dig k w z x->One x
section
variable (C:Cfg)
def relC (φ:Nat->Option (Nat×Nat))(ν:List (Int×Nat))(w:World):AC->Value->Prop
 | .int k n,x=>x=.int k n
 | .bool b,x=>x=.bool b
 | .sint k n,x=>x=.int k n
 | .sbool t,x=>x=.bool t
 | .lit v,x=>x=v/\One v
 | .ptr b off,x=>∃ k o,φ b=some (k,o)/\x=.pointer (some ⟨k,o+off,none⟩)
 | .slc b off len size,x=>∃ k o cap e m,φ b=some (k,o)/\x=.slice (some ⟨k,o+off,none⟩) len cap/\len<=cap/\w.shape? k=some (e,m)/\o+off+cap*size<=m
 | .dsl b r len size,x=>∃ k cap,φ b=some (k,r*size)/\x=.slice (some ⟨k,0,none⟩) len cap
 | .sg i,x=>∃ z n,ν[i]?=some (z,n)/\x=.bool (decide (z<0))
 | .dg k i,x=>∃ z n,ν[i]?=some (z,n)/\C.dig k w z x/\C.bits n z
 | .sem R,x=>One x/\∀ W,On C.bt w W->R W x
 | .any,x=>One x
def relV (φ:Nat->Option (Nat×Nat))(ν:List (Int×Nat))(w:World):AV->Value->Prop
 | .one c,x=>relC C φ ν w c x
 | .agg cs,x=>∃ xs:List Value,x=.agg xs.toArray/\All2 (relC C φ ν w) cs xs
def relT (φ:Nat->Option (Nat×Nat))(ν:List (Int×Nat))(w:World):AT->Value->Prop
 | .top,_=>True
 | .und,x=>x=undef
 | .val v,x=>relV C φ ν w v x
 | .tup vs,x=>∃ xs:List Value,x=.tuple xs.toArray/\All2 (relV C φ ν w) vs xs
 | .cnd c v,x=>if c=true then relV C φ ν w v x else x=undef
structure Ext (φ φ':Nat->Option (Nat×Nat)) (ν ν':List (Int×Nat)) (w w':World):Prop where
 φ:∀ b k,φ b=some k->φ' b=some k
 ν:∀ (i:Nat) (x:Int×Nat),ν[i]?=some x->ν'[i]?=some x
 on:On C.bt w w'
variable {C}
theorem Ext.refl (φ:Nat->Option (Nat×Nat))(ν:List (Int×Nat))(w:World):Ext C φ φ ν ν w w:=⟨fun _ _ h=>h,fun _ _ h=>h,On.refl _ _⟩
theorem Ext.trans {φ φ' φ'':Nat->Option (Nat×Nat)}{ν ν' ν'':List (Int×Nat)}{w w' w'':World}(h:Ext C φ φ' ν ν' w w')(g:Ext C φ' φ'' ν' ν'' w' w''):Ext C φ φ'' ν ν'' w w'':=
 ⟨fun b k e=>g.φ b k (h.φ b k e),fun i x e=>g.ν i x (h.ν i x e),h.on.trans g.on⟩
section
variable {φ φ':Nat->Option (Nat×Nat)} {ν ν':List (Int×Nat)} {w w':World}
theorem aBl (h:Ext C φ φ' ν ν' w w')(c:AC)(x:Value)(r:relC C φ ν w c x):relC C φ' ν' w' c x:=by
 cases c<;>simp only [relC] at r ⊢<;>try exact r
 ·obtain ⟨k,o,a,b⟩:=r;exact ⟨k,o,h.φ _ _ a,b⟩
 ·obtain ⟨k,o,d,e,m,a,b,f,g,i⟩:=r;exact ⟨k,o,d,e,m,h.φ _ _ a,b,f,h.on.shape g,i⟩
 ·obtain ⟨k,d,a,b⟩:=r;exact ⟨k,d,h.φ _ _ a,b⟩
 ·obtain ⟨z,n,a,b⟩:=r;exact ⟨z,n,h.ν _ _ a,b⟩
 ·obtain ⟨z,n,a,b,f⟩:=r;exact ⟨z,n,h.ν _ _ a,C.digOn h.on b,f⟩
 ·exact ⟨r.1,fun W hW=>r.2 W (h.on.trans hW)⟩
theorem aEK (h:Ext C φ φ' ν ν' w w')(v:AV)(x:Value)(r:relV C φ ν w v x):relV C φ' ν' w' v x:=by
 cases v with
 | one c=>exact aBl h c x r
 | agg cs=>obtain ⟨a,b,d⟩:=r;exact ⟨a,b,d.mono (aBl h)⟩
theorem aBm (h:Ext C φ φ' ν ν' w w')(v:AT)(x:Value)(r:relT C φ ν w v x):relT C φ' ν' w' v x:=by
 cases v with
 | top=>trivial
 | und=>exact r
 | val v=>exact aEK h v x r
 | tup vs=>obtain ⟨a,b,d⟩:=r;exact ⟨a,b,d.mono (aEK h)⟩
 | cnd c v=>
  simp only [relT] at r ⊢
  cases c with
  | true=>simp only [if_true] at r ⊢;exact aEK h v x r
  | false=>simpa using r
theorem aJH {c:AC}{x:Value}(r:relC C φ ν w c x):One x:=by
 cases c<;>simp only [relC] at r
 ·subst r;rfl
 ·subst r;rfl
 ·subst r;rfl
 ·subst r;rfl
 ·obtain ⟨rfl,h⟩:=r;exact h
 ·obtain ⟨k,o,_,rfl⟩:=r;rfl
 ·obtain ⟨k,o,a,e,m,_,rfl,_⟩:=r;rfl
 ·obtain ⟨k,a,_,rfl⟩:=r;rfl
 ·obtain ⟨z,n,_,rfl⟩:=r;rfl
 ·obtain ⟨z,n,_,h,_⟩:=r;exact C.digOne h
 ·exact r.1
 ·exact r
theorem aMD {x:Value}(h:One x):x.cells=#[x]:=by cases x<;>first | rfl | (simp [One,Value.oneCell'] at h)
def cellsOf:AV->List AC
 | .one c=>[c]
 | .agg cs=>cs
theorem aEY {v:AV}{x:Value}(r:relV C φ ν w v x):All2 (relC C φ ν w) (cellsOf v) x.cells.toList:=by
 cases v with
 | one c=>
  rw [aMD (aJH r)];exact ⟨r,trivial⟩
 | agg cs=>obtain ⟨a,rfl,h⟩:=r;exact h
end
end
def szOf (P:Program)(t:TypeId):Option Nat:=(P.info? t).map (·.size)
def aggOf (P:Program)(t:TypeId):Option Bool:=
 match P.underlying t with
 | some (.struct _)=>some true
 | some (.array _ _)=>some true
 | some _=>some false
 | none=>none
theorem aAE {P:Program}{t n:Nat}(h:szOf P t=some n)(w:World):(sizeOf t).run P w=.ok n w:=by
 unfold szOf at h
 cases a:P.info? t with
 | none=>simp [a] at h
 | some i=>simp [a] at h;subst h;simp [sizeOf,typeInfo,a]
theorem aCB {P:Program}{t:TypeId}{g:Bool}(h:aggOf P t=some g)(w:World):(isAgg t).run P w=.ok g w:=by
 unfold aggOf at h;unfold isAgg;simp only [Sem.run_bind,underlying]
 cases a:P.underlying t with
 | none=>simp [a] at h
 | some d=>
  simp only [a] at h;simp [a]
  cases d<;>simp at h ⊢<;>exact h
theorem aB3 (k off i:Nat):(⟨k,off,none⟩:Addr).add i=⟨k,off+i,none⟩:=by
 unfold Addr.add;split
 ·rename_i h;subst h;rfl
 ·rfl
theorem aD4 {w:World}{k:Nat}{xs:List Value}{ty:TypeId}{m:Nat×Nat}(h:w.heap[k]?=some (.cells xs.toArray ty m))(off:Nat):w.cell? ⟨k,off,none⟩=xs[off]?:=by
 unfold World.cell?;simp [h]
theorem aB5 {P:Program}{w:World}{k:Nat}{xs:List Value}{ty:TypeId}{m:Nat×Nat}(h:w.heap[k]?=some (.cells xs.toArray ty m))(off:Nat):
  ∀ (n i:Nat) (acc:Array Value),off+i+n<=xs.length->(loadCellsFrom ⟨k,off,none⟩ i n acc).run P w=.ok (acc++((xs.drop (off+i)).take n).toArray) w
 | 0,i,acc,_=>by simp [loadCellsFrom]
 | n+1,i,acc,hl=>by
  have hc:xs[off+i]?=some xs[off+i]:=List.getElem?_eq_getElem (by omega);unfold loadCellsFrom;rw [Sem.run_bind,run_load,aB3,aD4 h,hc];simp only [Result.andThen_ok];rw [aB5 h off n (i+1) _ (by omega)];congr 1;rw [List.drop_eq_getElem_cons (show off+i<xs.length by omega),List.take_succ_cons];apply Array.toList_inj.1;simp [Nat.add_assoc]
structure Stored (w w':World) (k:Nat) (ys:List Value) (ty:TypeId):Prop where
 blk:w'.heap[k]?=some (.cells ys.toArray ty (0,0))
 others:∀ j,j≠k->w'.heap[j]?=w.heap[j]?
 size:w'.heap.size=w.heap.size
 os:w'.os=w.os
 tape:w'.tape=w.tape
 output:w'.output=w.output
theorem aKU {w:World}{k:Nat}{xs:List Value}{ty:TypeId}(h:w.heap[k]?=some (.cells xs.toArray ty (0,0)))(off:Nat)(v:Value):Stored w (w.setCell ⟨k,off,none⟩ v) k (xs.set off v) ty:=by
 refine ⟨?_,fun j hj=>?_,by simp [World.setCell],rfl,rfl,rfl⟩
 ·simp [World.setCell,Array.getElem?_modify,h]
 ·exact Below.heap_setCell _ _ _ _ hj
def splice (xs:List Value)(off:Nat):List Value->List Value
 | []=>xs
 | v::vs=>splice (xs.set off v) (off+1) vs
theorem aCD:∀ (vs xs:List Value) (off:Nat),off+vs.length<=xs.length->splice xs off vs=xs.take off++vs++xs.drop (off+vs.length)
 | [],xs,off,h=>by simp [splice]
 | v::vs,xs,off,h=>by
  simp at h;unfold splice;rw [aCD vs (xs.set off v) (off+1) (by simp;omega)]
  have e1:(xs.set off v).take (off+1)=xs.take off++[v]:=by
   rw [List.take_succ_eq_append_getElem (by simp;omega),List.take_set_of_le (Nat.le_refl _)];simp
  have a:(xs.set off v).drop (off+1+vs.length)=xs.drop (off+(vs.length+1)):=by
   rw [List.drop_set_of_lt (by omega)];congr 1;omega
  rw [e1,a];simp
theorem aBu {P:Program}{k:Nat}{ty:TypeId}(off:Nat):∀ (vs:List Value) (i:Nat) (w:World) (xs:List Value),w.heap[k]?=some (.cells xs.toArray ty (0,0))->off+i+vs.length<=xs.length->(∀ v∈vs,One v)->
  ∃ w',(storeCells ⟨k,off,none⟩ vs i).run P w=.ok () w'/\Stored w w' k (splice xs (off+i) vs) ty
 | [],i,w,xs,h,hl,ho=>⟨w,by simp [storeCells],⟨by simpa [splice] using h,fun _ _=>rfl,rfl,rfl,rfl,rfl⟩⟩
 | v::vs,i,w,xs,h,hl,ho=>by
  simp at hl;have hs:=aKU h (off+i) v;obtain ⟨w',h1,h2⟩:=aBu off vs (i+1) (w.setCell ⟨k,off+i,none⟩ v) (xs.set (off+i) v) hs.blk (by simp;omega) (fun x hx=>ho x (by simp [hx]));have hc:xs[off+i]?=some xs[off+i]:=List.getElem?_eq_getElem (by omega)
  have hf:w.frozen? ⟨k,off+i,none⟩=false:=by simp [World.frozen?,h]
  refine ⟨w',?_,⟨by rw [h2.blk];simp [splice,Nat.add_assoc],fun j hj=>(h2.others j hj).trans (hs.others j hj),h2.size.trans hs.size,h2.os.trans hs.os,h2.tape.trans hs.tape,h2.output.trans hs.output⟩⟩;unfold storeCells;rw [Sem.run_bind,run_store _ _ _ _ _ (ho v (by simp)),aB3,aD4 h,hc];simp only [hf,Bool.false_eq_true,if_false,Result.andThen_ok];exact h1
end Ab
open Go.RowKit
namespace Ab
structure Box where
 cs:List AC
 ty:TypeId
 own:Bool
 ro:Bool
 tip:Bool
def nilS:Value->Bool
 | .slice none 0 _=>true
 | _=>false
theorem aRa {v:Value}(h:nilS v=true):∃ c,v=.slice none 0 c:=by
 unfold nilS at h;split at h
 ·exact ⟨_,rfl⟩
 ·cases h
def liftC:Value->AC
 | .int k n=>.int k n
 | .bool b=>.bool b
 | v=>.lit v
def liftT:Value->AT
 | .agg cs=>bif cs.toList.all Value.oneCell' then .val (.agg (cs.toList.map liftC)) else .top
 | .tuple _=>.top
 | v=>.val (.one (liftC v))
theorem aHr {C:Cfg}{φ:Nat->Option (Nat×Nat)}{ν:List (Int×Nat)}{w:World}{v:Value}(h:One v):relC C φ ν w (liftC v) v:=by
 cases v<;>first | rfl | exact ⟨rfl,h⟩
theorem aMi {C:Cfg}{φ:Nat->Option (Nat×Nat)}{ν:List (Int×Nat)}{w:World}(v:Value):relT C φ ν w (liftT v) v:=by
 cases v with
 | agg cs=>
  cases h:cs.toList.all Value.oneCell' with
  | false=>simp only [liftT,h,cond];trivial
  | true=>
   simp only [liftT,h,cond];refine ⟨cs.toList,by simp,?_⟩;rw [List.all_eq_true] at h;have:=All2.map (R:=relC C φ ν w) (f:=liftC) (g:=id) cs.toList (fun x hx=>aHr (h x hx))
   simpa using this
 | tuple vs=>trivial
 | _=>first | rfl | exact ⟨rfl,rfl⟩
def Holds (ps:List Prop):Prop:=∀ q∈ps,q
theorem aAc:Holds []:=fun _ h=>by cases h
theorem Holds.one {p:Prop}(h:Holds [p]):p:=h p (by simp)
inductive Eff where
 | val (r:AT) (p:List Prop)
 | new (cs:List AC) (ty:TypeId) (slice:Option (Nat×Nat))
 | sto (b:Nat) (cs:List AC)
 | app (old:Option Nat) (cs:List AC) (ty:TypeId) (len size:Nat)
 | call (f:FuncId) (args:List AV)
def asOne:AT->Option AC
 | .val (.one c)=>some c
 | _=>none
def asV:AT->Option AV
 | .val v=>some v
 | _=>none
def asVs:List AT->Option (List AV)
 | []=>some []
 | .val v::r=>(asVs r).map (v::·)
 | _::_=>none
def cmpB (op:BinOp)(x y:Int):Option Bool:=
 match op with
 | .eql=>some (x==y)
 | .neq=>some (x != y)
 | .lss=>some (decide (x<y))
 | .leq=>some (decide (x<=y))
 | .gtr=>some (decide (x>y))
 | .geq=>some (decide (x≥y))
 | _=>none
def arI (op:BinOp)(k:IntKind)(x y:Int):Option Int:=
 match op with
 | .add=>some (k.wrap (x+y))
 | .sub=>some (k.wrap (x-y))
 | .mul=>some (k.wrap (x*y))
 | _=>none
def intC:AC->Option (Bool×IntKind×Int)
 | .int k n=>some (true,k,n)
 | .sint k n=>some (false,k,n)
 | _=>none
def mkI (s:Bool)(k:IntKind)(n:Int):AC:=bif s then .int k n else .sint k n
def mkB (s:Bool)(b:Bool):AC:=bif s then .bool b else .sbool b
def binI (op:BinOp)(s:Bool)(k:IntKind)(x y:Int):Option AC:=
 match cmpB op x y with
 | some t=>some (mkB s t)
 | none=>match arI op k x y with
  | some n=>some (mkI s k n)
  | none=>none
def isPtr (P:Program)(t:TypeId):Bool:=match P.underlying t with | some (.pointer _)=>true | _=>false
def divI (op:BinOp)(s:Bool)(k:IntKind)(x y:Int):Option AC:=
 match op with
 | .quo=>some (mkI s k (k.wrap (x.tdiv y)))
 | .rem=>some (mkI s k (x.tmod y))
 | _=>none
def nilB (op:BinOp)(t:Bool):Option AC:=
 match op with
 | .eql=>some (.bool t)
 | .neq=>some (.bool !t)
 | _=>none
def strB (op:BinOp)(a b:ByteArray):Option AC:=
 match op with
 | .eql=>some (.sbool (a.toList==b.toList))
 | .neq=>some (.sbool !(a.toList==b.toList))
 | _=>none
def isBoolT (P:Program)(t:TypeId):Bool:=match P.underlying t with | some .bool=>true | _=>false
def boolC:AC->Option (Bool×Bool)
 | .bool b=>some (true,b)
 | .sbool b=>some (false,b)
 | _=>none
def boolB (op:BinOp)(s:Bool)(x y:Bool):Option AC:=
 match op with
 | .eql=>some (mkB s (x==y))
 | .neq=>some (mkB s !(x==y))
 | _=>none
def binC (P:Program)(op:BinOp)(t:TypeId)(a b:AC):Option AC:=
 match a,b with
 | .ptr _ _,.lit (.pointer none)=>bif isPtr P t then nilB op false else none
 | .lit (.pointer none),.lit (.pointer none)=>bif isPtr P t then nilB op true else none
 | .lit (.string x),.lit (.string y)=>strB op x y
 | a,b=>match boolC a with
  | some (s,x)=>(boolC b).bind fun (s',y)=>bif isBoolT P t then boolB op (s&&s') x y else none
  | none=>(intC a).bind fun (s,k,x)=>(intC b).bind fun (s',k',y)=>if k=k' then (match binI op (s&&s') k x y with | some c=>some c | none=>bif s'&&!(y==0) then divI op (s&&s') k x y else none) else none
def part' (P:Program)(t:TypeId)(cs:List AC)(off:Nat):Option AV:=
 (aggOf P t).bind fun g=>bif g then (szOf P t).map fun n=>.agg ((cs.drop off).take n) else (cs[off]?).map .one
def loadA (P:Program)(t:TypeId)(cs:List AC)(off:Nat):Option AV:=
 (aggOf P t).bind fun g=>bif g then (szOf P t).bind fun n=>bif Nat.ble (off+n) cs.length then some (.agg ((cs.drop off).take n)) else none else (cs[off]?).map .one
def storeA (P:Program)(t:TypeId)(cs:List AC)(off:Nat)(v:AV):Option (List AC):=
 (szOf P t).bind fun n=>bif (cellsOf v).length==n&&Nat.ble (off+n) cs.length then some (cs.take off++cellsOf v++cs.drop (off+n)) else none
def fieldsOf (P:Program)(t:TypeId):Option (Array Field):=match P.underlying t with | some (.struct fs)=>some fs | _=>none
def elemLen (P:Program)(t:TypeId):Option (Nat×TypeId):=match P.underlying t with | some (.array n e)=>some (n,e) | _=>none
def elemOfS (P:Program)(t:TypeId):Option TypeId:=match P.underlying t with | some (.slice e)=>some e | _=>none
def fillA (place:Nat->Option (Nat×Nat))(cells:List AC):List (Nat×AV)->Option (List AC)
 | []=>some cells
 | (i,v)::rest=>(place i).bind fun (off,size)=>
  bif (cellsOf v).length==size&&Nat.ble (off+size) cells.length then fillA place (cells.take off++cellsOf v++cells.drop (off+size)) rest else none
def asParts:List (Nat×AT)->Option (List (Nat×AV))
 | []=>some []
 | (i,.val v)::r=>(asParts r).map ((i,v)::·)
 | _::_=>none
def rowCs (zcs:List AC)(n:Nat):List AC:=(List.range n).map fun i=>zcs.getD (i%zcs.length) .any
def mapO {α β:Type}(f:α->Option β):List α->Option (List β)
 | []=>some []
 | a::as=>(f a).bind fun b=>(mapO f as).map (b::·)
def zeroCs (P:Program)(t:TypeId):Option (List AC):=
 ((P.info? t).bind (·.zero)).bind fun v=>bif v.cells.toList.all Value.oneCell' then some (v.cells.toList.map liftC) else none
def rowOf (bx:Nat->Option Box)(e:TypeId)(size:Nat):AT->Option (Option Nat×List AC×Nat)
 | .val (.one (.lit (.slice none 0 0)))=>some (none,[],0)
 | .val (.one (.slc b off len sz))=>(bx b).bind fun B=>bif off==0&&sz==size&&B.ty==e&&B.cs.length==len*size then some (some b,B.cs,len) else none
 | _=>none
def okTip (bx:Nat->Option Box):Option Nat->Bool
 | none=>true
 | some b=>match bx b with | some B=>B.tip | none=>false
def evalOp (P:Program)(ev:Operand->AT)(bx:Nat->Option Box):Op->Option Eff
 | .move x=>some (.val (ev x) [])
 | .assign x=>some (.val (ev x) [])
 | .pick c a b=>(asOne (ev c)).bind fun
   | .bool t=>some (.val (bif t then ev a else ev b) [])
   | .sbool t=>match ev a,ev b with
    | .val (.one (.bool x)),.val (.one (.bool y))=>some (.val (.val (.one (.sbool (bif t then x else y)))) [])
    | .val (.one (.bool x)),.val (.one (.sbool y))=>some (.val (.val (.one (.sbool (bif t then x else y)))) [])
    | .val (.one (.sbool x)),.val (.one (.bool y))=>some (.val (.val (.one (.sbool (bif t then x else y)))) [])
    | .val (.one (.sbool x)),.val (.one (.sbool y))=>some (.val (.val (.one (.sbool (bif t then x else y)))) [])
    | .cnd c (.one (.sbool x)),.val (.one (.bool y))=>some (.val (.val (.one (.sbool (bif t then x else y)))) [t=true->c=true])
    | .val (.one (.bool x)),.cnd c (.one (.sbool y))=>some (.val (.val (.one (.sbool (bif t then x else y)))) [t=false->c=true])
    | .cnd c (.one (.sbool x)),.val (.one (.sbool y))=>some (.val (.val (.one (.sbool (bif t then x else y)))) [t=true->c=true])
    | .val (.one (.sbool x)),.cnd c (.one (.sbool y))=>some (.val (.val (.one (.sbool (bif t then x else y)))) [t=false->c=true])
    | _,_=>none
   | _=>none
 | .alloc t=>(zeroCs P t).map fun cs=>.new cs t none
 | .box t x=>(asV (ev x)).map fun v=>.new (cellsOf v) t none
 | .build t parts=>(zeroCs P t).bind fun zero=>(asParts (parts.toList.map fun (i,x)=>(i,ev x))).bind fun ps=>
   (match P.underlying t with
    | some (.struct fs)=>(mapO (fun (f:Field)=>(szOf P f.type).map fun n=>(f.offset,n)) fs.toList).bind fun places=>fillA (fun i=>places[i]?) zero ps
    | some (.array _ e)=>(szOf P e).bind fun n=>fillA (fun i=>some (i*n,n)) zero ps
    | _=>none).map fun cs=>.val (.val (.agg cs)) []
 | .buildSlice t len parts=>(elemOfS P t).bind fun e=>(szOf P e).bind fun size=>(zeroCs P e).bind fun zero=>
   bif Nat.ble (len*size) 16777216&&!(zero.length==0) then (asParts (parts.toList.map fun (i,x)=>(i,ev x))).bind fun ps=>(fillA (fun i=>some (i*size,size)) (rowCs zero (len*size)) ps).map fun cs=>.new cs e (some (len,size)) else none
 | .convert src dst x=>(asOne (ev x)).bind fun c=>(intC c).bind fun (s,_,n)=>(P.underlying src).bind fun _=>match P.underlying dst with
   | some (.int k)=>some (.val (.val (.one (mkI s k (k.wrap n)))) [])
   | _=>none
 | .load t a=>(asOne (ev a)).bind fun
   | .ptr b off=>(bx b).bind fun B=>(loadA P t B.cs off).map fun v=>.val (.val v) []
   | _=>none
 | .store t a x=>(asOne (ev a)).bind fun
   | .ptr b off=>(asV (ev x)).bind fun v=>(bx b).bind fun B=>bif B.ro then none else (storeA P t B.cs off v).map fun cs=>.sto b cs
   | _=>none
 | .nilCheck x=>(asOne (ev x)).bind fun
   | .ptr b off=>some (.val (.val (.one (.ptr b off))) [])
   | _=>none
 | .binOp op t x y _=>(asOne (ev x)).bind fun a=>(asOne (ev y)).bind fun b=>(binC P op t a b).map fun c=>.val (.val (.one c)) []
 | .unOp .not _ x=>(asOne (ev x)).bind fun
   | .bool b=>some (.val (.val (.one (.bool !b))) [])
   | .sbool b=>some (.val (.val (.one (.sbool !b))) [])
   | _=>none
 | .unOp .neg _ x=>(asOne (ev x)).bind fun c=>(intC c).map fun (s,k,n)=>.val (.val (.one (mkI s k (k.wrap (0-n))))) []
 | .fieldAddr t x f=>(asOne (ev x)).bind fun
   | .ptr b off=>(fieldsOf P t).bind fun fs=>(fs[f]?).bind fun fd=>(szOf P fd.type).bind fun n=>bif n==0 then none else some (.val (.val (.one (.ptr b (off+fd.offset)))) [])
   | _=>none
 | .field t x f=>(asV (ev x)).bind fun
   | .agg cs=>(fieldsOf P t).bind fun fs=>(fs[f]?).bind fun fd=>(part' P fd.type cs fd.offset).map fun v=>.val (.val v) []
   | _=>none
 | .indexAddr t x i=>(asOne (ev i)).bind fun
   | .int _ n=>(asOne (ev x)).bind fun
    | .ptr b off=>(elemLen P t).bind fun (len,e)=>(szOf P e).bind fun sz=>bif decide (0<=n)&&decide (n<len) then some (.val (.val (.one (.ptr b (off+n.toNat*sz)))) []) else none
    | .slc b off len _=>(elemOfS P t).bind fun e=>(szOf P e).bind fun sz=>bif decide (0<=n)&&decide (n<len) then some (.val (.val (.one (.ptr b (off+n.toNat*sz)))) []) else none
    | .dsl b r len size=>(elemOfS P t).bind fun e=>(szOf P e).bind fun sz=>bif sz==size then some (.val (.val (.one (.ptr b 0))) [n=(r:Int)/\r<len]) else none
    | _=>none
   | .sint _ n=>(asOne (ev x)).bind fun
    | .dsl b r len size=>(elemOfS P t).bind fun e=>(szOf P e).bind fun sz=>bif sz==size then some (.val (.val (.one (.ptr b 0))) [n=(r:Int)/\r<len]) else none
    | _=>none
   | _=>none
 | .index t x i=>(asOne (ev i)).bind fun
   | .int _ n=>(asV (ev x)).bind fun
    | .agg cs=>(elemLen P t).bind fun (len,e)=>(szOf P e).bind fun sz=>bif decide (0<=n)&&decide (n<len) then (part' P e cs (n.toNat*sz)).map fun v=>.val (.val v) [] else none
    | _=>none
   | _=>none
 | .extract x i=>match ev x with
   | .tup vs=>(vs[i]?).map fun v=>.val (.val v) []
   | _=>none
 | .call { callee:=.builtin .len,args:=args,argTypes:=ts}=>match ts.toList,args.toList with
   | [t],[x]=>(asOne (ev x)).bind fun
    | .slc _ _ len _=>(elemOfS P t).map fun _=>.val (.val (.one (.int .i64 len))) []
    | .dsl _ _ len _=>(elemOfS P t).map fun _=>.val (.val (.one (.sint .i64 len))) []
    | .lit v=>bif nilS v then (elemOfS P t).map fun _=>.val (.val (.one (.int .i64 0))) [] else none
    | _=>none
   | _,_=>none
 | .call { callee:=.builtin .append,args:=args,argTypes:=ts}=>match ts.toList,args.toList with
   | [t,t'],[s,x]=>(elemOfS P t).bind fun e=>(elemOfS P t').bind fun _=>(szOf P e).bind fun size=>(P.info? e).bind fun i=>(zeroCs P e).bind fun zero=>(rowOf bx e size (ev s)).bind fun (old,cs,len)=>(rowOf bx e size (ev x)).bind fun (_,ds,n)=>
     bif Nat.ble (len+n) 100&&Nat.ble i.bytes 1000000&&!(n==0)&&!(size==0)&&zero.length==size&&okTip bx old then some (.app old (cs++ds) e (len+n) size) else none
   | _,_=>none
 | .call { callee:=.value (.func f),args:=args,..}=>(asVs (args.toList.map ev)).map fun vs=>.call f vs
 | _=>none
def newC (id:Nat):Option (Nat×Nat)->AC
 | none=>.ptr id 0
 | some (n,size)=>.slc id 0 n size
def newV (k:Nat):Option (Nat×Nat)->Value
 | none=>.pointer (some ⟨k,0,none⟩)
 | some (n,_)=>.slice (some ⟨k,0,none⟩) n n
def EffOk (C:Cfg)(φ:Nat->Option (Nat×Nat))(ν:List (Int×Nat))(w:World)(bx:Nat->Option Box)(r:Result Next):Eff->Prop
 | .val t p=>Holds p->∃ v,r=.ok (.value v) w/\relT C φ ν w t v
 | .new cs ty sl=>∃ xs:List Value,r=.ok (.value (newV w.heap.size sl)) {w with heap:=w.heap.push (.cells xs.toArray ty)}/\All2 (relC C φ ν w) cs xs/\(∀ n size,sl=some (n,size)->xs.length=n*size)
 | .sto b cs=>∃ B k o w' pre ys post zs,bx b=some B/\B.ro=false/\φ b=some (k,o)/\r=.ok .skip w'/\Stored w w' k (pre++zs++post) B.ty/\w.heap[k]?=some (.cells (pre++ys++post).toArray B.ty (0,0))/\pre.length=o/\ys.length=zs.length/\All2 (relC C φ ν w) cs zs/\cs.length=B.cs.length
 | .call f vs=>∃ xs:List Value,r=.ok (.enter f xs.toArray) w/\All2 (relV C φ ν w) vs xs
 | .app old cs ty len size=>∃ v w' cap,r=.ok (.value v) w'/\len<=cap/\okTip bx old=true/\
   ((∃ zs post:List Value,w'={w with heap:=w.heap.push (.cells (zs++post).toArray ty),drawn:=w.drawn+1}/\v=.slice (some ⟨w.heap.size,0,none⟩) len cap/\All2 (relC C φ ν w) cs zs/\cap*size<=zs.length+post.length)\/
    (∃ b B k o,∃ pre ys post new post':List Value,old=some b/\bx b=some B/\B.ty=ty/\φ b=some (k,o)/\v=.slice (some ⟨k,o,none⟩) len cap/\w.heap[k]?=some (.cells (pre++ys++post).toArray ty (0,0))/\pre.length=o/\All2 (relC C φ ν w) B.cs ys/\
     Stored w w' k (pre++(ys++new)++post') ty/\new.length+post'.length=post.length/\All2 (relC C φ ν w) cs (ys++new)/\o+cap*size<=(pre++(ys++new)++post').length))
end Ab
open Go.RowKit
namespace Ab
section
variable {C:Cfg} {φ:Nat->Option (Nat×Nat)} {ν:List (Int×Nat)} {w:World} {ρ:Operand->Value} {ev:Operand->AT} {bx:Nat->Option Box}
theorem bnd {α β:Type}{x:Option α}{f:α->Option β}{b:β}(h:x.bind f=some b):∃ a,x=some a/\f a=some b:=Option.bind_eq_some_iff.1 h
theorem mpd {α β:Type}{x:Option α}{f:α->β}{b:β}(h:x.map f=some b):∃ a,x=some a/\f a=b:=Option.map_eq_some_iff.1 h
theorem aBD {t:AT}{c:AC}(h:asOne t=some c):t=.val (.one c):=by
 unfold asOne at h;split at h
 ·cases h;rfl
 ·cases h
theorem v_of {t:AT}{v:AV}(h:asV t=some v):t=.val v:=by
 unfold asV at h;split at h
 ·cases h;rfl
 ·cases h
def BxOk (C:Cfg)(φ:Nat->Option (Nat×Nat))(ν:List (Int×Nat))(w:World)(bx:Nat->Option Box):Prop:=
 ∀ b B,bx b=some B->∃ k o,∃ pre ys post:List Value,φ b=some (k,o)/\w.heap[k]?=some (.cells (pre++ys++post).toArray B.ty (0,0))/\pre.length=o/\All2 (relC C φ ν w) B.cs ys
theorem aGm {c:AC}{s:Bool}{k:IntKind}{n:Int}{x:Value}(h:intC c=some (s,k,n))(r:relC C φ ν w c x):x=.int k n:=by
 cases c<;>simp [intC] at h<;>obtain ⟨rfl,rfl,rfl⟩:=h<;>exact r
theorem aGs (s:Bool)(k:IntKind)(n:Int):relC C φ ν w (mkI s k n) (.int k n):=by cases s<;>rfl
theorem aIs (s:Bool)(b:Bool):relC C φ ν w (mkB s b) (.bool b):=by cases s<;>rfl
theorem aQh {a:BinOp}{s:Bool}{k:IntKind}{x y:Int}{c:AC}{t:TypeId}(h:binI a s k x y=some c):∃ v,(binOp a t (.int k x) (.int k y)).run C.P w=.ok v w/\relC C φ ν w c v:=by
 unfold binI at h
 cases a<;>simp [cmpB,arI] at h<;>subst h<;>first
  | (refine ⟨_,?_,aIs _ _⟩;simp [binOp,Op.intCmp])
  | (refine ⟨_,?_,aGs _ _ _⟩;simp [binOp,Op.intArith])
theorem aQC {a:BinOp}{s:Bool}{k:IntKind}{x y:Int}{c:AC}{t:TypeId}(b:y≠0)(h:divI a s k x y=some c):∃ v,(binOp a t (.int k x) (.int k y)).run C.P w=.ok v w/\relC C φ ν w c v:=by
 unfold divI at h
 cases a<;>simp at h<;>subst h<;>(refine ⟨_,?_,aGs _ _ _⟩;simp [binOp,Op.intDiv,b])
theorem aOc {t:TypeId}(h:isPtr C.P t=true):∃ e,C.P.underlying t=some (.pointer e):=by
 unfold isPtr at h;split at h
 ·rename_i e a;exact ⟨e,a⟩
 ·cases h
theorem aPB {t e:TypeId}(h:C.P.underlying t=some (.pointer e))(a:Option Addr):(Op.equal t (.pointer a) (.pointer none)).run C.P w=.ok a.isNone w:=by
 unfold Op.equal;rw [show Op.maxDepth=9999+1 from rfl];unfold Op.equalIn;simp only [underlying,Sem.run_bind,run_program,Result.andThen_ok,h,Sem.run_pure]
 cases a<;>simp
theorem aMw {b:BinOp}{t:TypeId}{c:AC}{a:Option Addr}{x y:Operand}(f:isPtr C.P t=true)(h:nilB b a.isNone=some c):∃ v,(do eqGuard b t x y (.pointer a) (.pointer none);binOp b t (.pointer a) (.pointer none):Sem Value).run C.P w=.ok v w/\relC C φ ν w c v:=by
 obtain ⟨e,d⟩:=aOc f;unfold nilB at h
 cases b<;>simp at h<;>subst h
 ·exact ⟨.bool a.isNone,by simp [eqGuard,binOp,aPB d],rfl⟩
 ·exact ⟨.bool !a.isNone,by simp [eqGuard,binOp,aPB d],by cases a<;>rfl⟩
theorem aI5 {c:AC}{s b:Bool}{x:Value}(h:boolC c=some (s,b))(r:relC C φ ν w c x):x=.bool b:=by
 cases c<;>simp [boolC] at h<;>obtain ⟨rfl,rfl⟩:=h<;>exact r
theorem aNO {f:BinOp}{t:TypeId}{c:AC}{s a b:Bool}{x y:Operand}(g:isBoolT C.P t=true)(h:boolB f s a b=some c):∃ v,(do eqGuard f t x y (.bool a) (.bool b);binOp f t (.bool a) (.bool b):Sem Value).run C.P w=.ok v w/\relC C φ ν w c v:=by
 have i:C.P.underlying t=some .bool:=by
  unfold isBoolT at g;split at g
  ·rename_i e;exact e
  ·cases g
 have d:(Op.equal t (.bool a) (.bool b)).run C.P w=.ok (a==b) w:=by
  unfold Op.equal;rw [show Op.maxDepth=9999+1 from rfl];unfold Op.equalIn;simp only [underlying,Sem.run_bind,run_program,Result.andThen_ok,i,Sem.run_pure]
 unfold boolB at h
 cases f<;>simp at h<;>subst h
 ·exact ⟨.bool (a==b),by simp [eqGuard,binOp,d],aIs _ _⟩
 ·exact ⟨.bool !(a==b),by simp [eqGuard,binOp,d],aIs _ _⟩
theorem aRE {d:BinOp}{t:TypeId}{c:AC}{a b:ByteArray}{x y:Operand}(h:strB d a b=some c):∃ v,(do eqGuard d t x y (.string a) (.string b);binOp d t (.string a) (.string b):Sem Value).run C.P w=.ok v w/\relC C φ ν w c v:=by
 unfold strB at h
 cases d<;>simp at h<;>subst h
 ·exact ⟨.bool (a.toList==b.toList),by simp [eqGuard,binOp,Op.stringOp],rfl⟩
 ·exact ⟨.bool !(a.toList==b.toList),by simp [eqGuard,binOp,Op.stringOp],rfl⟩
theorem eqG {c:BinOp}{t:TypeId}{x y:Operand}{k l:IntKind}{a b:Int}:(eqGuard c t x y (.int k a) (.int l b)).run C.P w=.ok () w:=by
 unfold eqGuard
 cases c<;>simp
theorem aED {a:Nat->Option (Nat×Nat)}:∀ {ps:List (Nat×AV)} {xs:List (Nat×Value)} {cs zs:List AC} {cells:List Value},fillA a cs ps=some zs->All2 (relC C φ ν w) cs cells->All2 (fun p x=>p.1=x.1/\relV C φ ν w p.2 x.2) ps xs->
  ∃ out:List Value,Instr.fill a cells.toArray xs=some out.toArray/\All2 (relC C φ ν w) zs out
 | [],[],cs,zs,cells,h,hc,_=>by
  simp [fillA] at h;subst h;exact ⟨cells,by simp [Instr.fill],hc⟩
 | (i,v)::ps,(j,x)::xs,cs,zs,cells,h,hc,⟨⟨e,hv⟩,hp⟩=>by
  simp only at e hv;subst e;unfold fillA at h;obtain ⟨⟨off,size⟩,h1,h2⟩:=bnd h;simp only at h2
  cases hb:((cellsOf v).length==size&&Nat.ble (off+size) cs.length) with
  | false=>rw [hb] at h2;cases h2
  | true=>
   rw [hb] at h2;simp only [cond_true] at h2;simp only [Bool.and_eq_true,beq_iff_eq,Nat.ble_eq] at hb;obtain ⟨hb1,hb2⟩:=hb;have hl:=hc.len;have hcv:=aEY hv;have hlv:=hcv.len;simp only [Array.length_toList] at hlv;obtain ⟨out,k1,k2⟩:=aED h2 (cells:=cells.take off++x.cells.toList++cells.drop (off+size)) ((All2.append (All2.append (hc.take off) hcv) (hc.drop _))) hp;refine ⟨out,?_,k2⟩;unfold Instr.fill;simp only [h1];rw [if_neg (by simp;omega)];rw [<-k1];congr 1;apply Array.toList_inj.1
   have key:∀ (l:List Value) (n:Nat) (acc:Array Value),((l.zipIdx n).foldl (fun cs (p:Value×Nat)=>cs.setIfInBounds (off+p.2) p.1) acc).toList=splice acc.toList (off+n) l:=by
    intro l
    induction l with
    | nil=>intro n acc;simp [splice]
    | cons y l ih=>intro n acc;simp only [List.zipIdx_cons,List.foldl_cons,splice];rw [ih];simp [Nat.add_assoc]
   have:=key x.cells.toList 0 cells.toArray;simp only [Nat.add_zero] at this;rw [aCD _ _ _ (by simp;omega)] at this;simp only [Array.length_toList] at this;rw [<-hlv,hb1] at this;rw [<-this,<-Array.toList_zipIdx,Array.foldl_toList]
 | [],_::_,_,_,_,_,_,h=>h.elim
 | _::_,[],_,_,_,_,_,h=>h.elim
theorem aOK {a:List AC}{zs:Array Value}(h:All2 (relC C φ ν w) a zs.toList)(k:a.length≠0)(n:Nat):All2 (relC C φ ν w) (rowCs a n) ((Array.range n).map (zs[·%zs.size]!)).toList:=by
 have b:=h.len;simp only [Array.length_toList] at b
 have e:((Array.range n).map (zs[·%zs.size]!)).toList=(List.range n).map (zs[·%zs.size]!):=by simp
 rw [e];unfold rowCs
 refine All2.map _ fun i _=>?_
 have c:i%a.length<a.length:=Nat.mod_lt _ (by omega);obtain ⟨x,d,j⟩:=h.at (List.getElem?_eq_getElem c)
 have f:a.getD (i%a.length) .any=a[i%a.length]:=by simp [List.getD,List.getElem?_eq_getElem c]
 have g:zs[i%zs.size]! = x:=by
  rw [<-b];rw [Array.getElem?_toList] at d;rw [getElem!_def,d]
 rw [f,g];exact j
theorem aGL {pre ys post:List Value}{off n:Nat}(h:off+n<=ys.length):((pre++ys++post).drop (pre.length+off)).take n=(ys.drop off).take n:=by
 rw [List.append_assoc,List.drop_append,List.drop_eq_nil_of_le (by omega:pre.length<=pre.length+off),List.nil_append,show pre.length+off-pre.length=off by omega,List.drop_append_of_le_length (by omega),List.take_append_of_le_length (by rw [List.length_drop];omega)]
theorem aM3 {pre ys post:List Value}{off:Nat}{x:Value}(h:ys[off]?=some x):(pre++ys++post)[pre.length+off]?=some x:=by
 have a:=(List.getElem?_eq_some_iff.1 h).1;rw [List.append_assoc,List.getElem?_append_right (by omega),show pre.length+off-pre.length=off by omega,List.getElem?_append_left a];exact h
theorem aKT {pre ys post vs:List Value}{off:Nat}(h:off+vs.length<=ys.length):splice (pre++ys++post) (pre.length+off) vs=pre++(ys.take off++vs++ys.drop (off+vs.length))++post:=by
 rw [aCD _ _ _ (by simp;omega)]
 have a:(pre++ys++post).take (pre.length+off)=pre++ys.take off:=by
  rw [List.append_assoc,List.take_append,List.take_of_length_le (by omega),show pre.length+off-pre.length=off by omega,List.take_append_of_le_length (by omega)]
 have b:(pre++ys++post).drop (pre.length+off+vs.length)=ys.drop (off+vs.length)++post:=by
  rw [List.append_assoc,List.drop_append,List.drop_eq_nil_of_le (by omega),List.nil_append,show pre.length+off+vs.length-pre.length=off+vs.length by omega,List.drop_append_of_le_length (by omega)]
 rw [a,b];simp
theorem aDa {cs:List AC}{xs:List Value}(h:All2 (relC C φ ν w) cs xs):∀ y∈xs,One y:=by
 intro y f;obtain ⟨i,b,e⟩:=List.getElem_of_mem f
 have a:i<cs.length:=by rw [h.len];exact b
 obtain ⟨g,c,d⟩:=h.at (List.getElem?_eq_getElem a);rw [List.getElem?_eq_getElem b,e] at c;cases c;exact aJH d
end
end Ab
end Go.Proofs.YteghhlfmcjmnoaaGreatDoor
