import Derived.Tactics2
import Derived.Below
import Derived.Orders
import Derived.LoopN
import Derived.Laws.Sem
set_option linter.all false
set_option maxRecDepth 100000
set_option maxHeartbeats 2000000
namespace Go.Proofs.YtpdflaaamaokbaaGreatDoor
open List renaming getElem?_eq_getElem->j8,all_eq_true->j9,range->k8,append_assoc->k9,drop_append->l4,drop_eq_nil_of_le->l5,nil_append->l7,drop_append_of_le_length->l8,take_append_of_le_length->l9,length_drop->n4,take_of_length_le->n5,map_cons->n6,length_append->n7,map->n8
open Go.Builtin renaming firstCells->n9,append_->o8,growBy->o9,nextslicecap->p7,zeroCells->p8,len_->p9
open _root_.Array renaming toList_inj->q7,length_toList->q8,range->q9,map->s4
open Nat renaming le_refl->s8,le_trans->s9,add_assoc->u7,ble->u9,ble_eq->w9,add_zero->z6,mul_le_mul_right->z7,add_mul->z8
open Go.Instr renaming fill->A0,indexAt->A5,build->A6,buildSlice->A7,loadAt->A8,sureAddr->A9
open Go.Sem renaming run_bind->B0,run_pure->B6,run_map->B7
open Option.some renaming injEq->B8
open Bool renaming false_eq_true->B9,and_eq_true->C0,not_eq_true'->C3
open Go.Result renaming andThen_ok->C6
open Go.World renaming shape?->C7,setCell->C8
open Go.Value renaming oneCell'->C9
open Go.Next renaming value->D0
open Go.Op renaming intArith->D1,equal->D2,maxDepth->D3,equalIn->D4,stringOp->D5,unary->D6
open Go.IntKind renaming i64->D7
abbrev LI:=Nat->Option (Nat×Nat)
abbrev LV:=List (Int×Nat)
abbrev LN:=List Int
abbrev LB:=List Value
abbrev NU:=List Nat
abbrev NN:=Nat->Nat
abbrev EW:=Ending->World->Prop
abbrev ON:=List UInt8
abbrev FF:=Option Nat
abbrev XW:=FuncId->Option Func
abbrev AW:=Exit->Act->World->Prop
abbrev LL:=Act->World->Prop
open Go.RowKit
namespace Ab
abbrev One (v:Value):Prop:=v.oneCell'=true
def Qj (bt:List TypeId):Obj->Bool
 |.cells _ ty _=>bt.contains ty
 |_=>false
structure On (bt:List TypeId) (w W:World):Prop where
 os:W.os=w.os
 tape:W.tape=w.tape
 output:W.output=w.output
 size:w.heap.size<=W.heap.size
 bS:∀(k:Nat) (o:Obj),w.heap[k]?=some o->W.heap[k]?=some o\/(Qj bt o=true/\W.shape? k=w.shape? k)
theorem On.refl (bt:List TypeId)(w:World):On bt w w:=⟨rfl,rfl,rfl,s8 _,λ_ _ h=>Or.inl h⟩
theorem On.trans {bt:List TypeId}{a b c:World}(h:On bt a b)(g:On bt b c):On bt a c:=
 ⟨g.os.trans h.os,g.tape.trans h.tape,g.output.trans h.output,s9 h.size g.size,λk o f=>by
  rcases h.bS k o f with e|⟨e,d⟩
  .rcases g.bS k o e with i|⟨i,p⟩
   .exact Or.inl i
   .exact Or.inr ⟨i,by rw[p];unfold C7;rw[e,f]⟩
  .refine Or.inr ⟨e,?_⟩
   -- the block is a box at b,too
   cases o with
   |cells cs ty m=>
    have l:a.shape? k=some (ty,cs.size):=by unfold C7;rw[f]
    rw[l]at d;unfold C7 at d;split at d
    .rename_i q s r n
     rcases g.bS k _ n with j|⟨_,j⟩
     .unfold C7;rw[j,f];exact d
     .rw[j,l];unfold C7;rw[n];exact d
    .cases d
   |_=>cases e⟩
theorem On.shape {bt:List TypeId}{w b:World}(h:On bt w b){k:Nat}{x:TypeId×Nat}(hs:w.shape? k=some x):b.shape? k=some x:=by
 unfold C7 at hs;split at hs
 .rename_i c t m d
  rcases h.bS k _ d with a|⟨_,a⟩
  .unfold C7;rw[a];exact hs
  .rw[a];unfold C7;rw[d];exact hs
 .cases hs
variable {w:World}{k:Nat}
theorem gZ {o:Obj}(h:w.heap[k]?=some o):k<w.heap.size:=(Array.getElem?_eq_some_iff.1 h).1
theorem On.below {bt:List TypeId}{b:World}(h:Below w.heap.size w b):On bt w b:=
 ⟨h.os,h.tape,h.output,h.size,λk o a=>Or.inl (by rw[h.block k (gZ a)];exact a)⟩
def All2 {α β:Type}(R:α->β->Prop):List α->List β->Prop
 | [],[]=>True
 |a::d,b::bs=>R a b/\All2 R d bs
 |_,_=>False
section All2
variable {α β:Type} {R S:α->β->Prop}
theorem All2.mono (h:∀a b,R a b->S a b):∀{d:List α} {bs:List β},All2 R d bs->All2 S d bs
 | [],[],_=>trivial
 |_::_,_::_,⟨e,f⟩=>⟨h _ _ e,All2.mono h f⟩
 | [],_::_,h=>h.elim
 |_::_,[],h=>h.elim
theorem All2.len:∀{a:List α} {bs:List β},All2 R a bs->a.length=bs.length
 | [],[],_=>rfl
 |_::_,_::_,⟨_,b⟩=>by simp[All2.len b]
 | [],_::_,h=>h.elim
 |_::_,[],h=>h.elim
theorem All2.at:∀{d:List α} {bs:List β},All2 R d bs->∀{i:Nat} {a:α},d[i]?=some a->∃b,bs[i]?=some b/\R a b
 | [],[],_,_,_,h=>by simp at h
 |_::_,_::_,⟨e,_⟩,0,_,h=>⟨_,rfl,by simp at h;subst h;exact e⟩
 |_::_,_::_,⟨_,f⟩,i+1,_,h=>by simpa using All2.at f (by simpa using h)
 | [],_::_,h,_,_,_=>h.elim
 |_::_,[],h,_,_,_=>h.elim
theorem All2.set:∀{e:List α} {bs:List β},All2 R e bs->∀(i:Nat) {a:α} {b:β},R a b->All2 R (e.set i a) (bs.set i b)
 | [],[],_,_,_,_,_=>trivial
 |_::_,_::_,⟨_,d⟩,0,_,_,h=>⟨h,d⟩
 |_::_,_::_,⟨f,d⟩,i+1,_,_,h=>⟨f,All2.set d i h⟩
 | [],_::_,h,_,_,_,_=>h.elim
 |_::_,[],h,_,_,_,_=>h.elim
theorem All2.append:∀{d a:List α} {bs b:List β},All2 R d bs->All2 R a b->All2 R (d++a) (bs++b)
 | [],_,[],_,_,h=>h
 |_::_,_,_::_,_,⟨e,f⟩,h=>⟨e,All2.append f h⟩
 | [],_,_::_,_,h,_=>h.elim
 |_::_,_,[],_,h,_=>h.elim
theorem All2.take:∀{a:List α} {bs:List β} (n:Nat),All2 R a bs->All2 R (a.take n) (bs.take n)
 | [],[],_,_=>by simp[All2]
 |_::_,_::_,0,_=>by simp[All2]
 |_::_,_::_,n+1,⟨b,d⟩=>⟨b,All2.take n d⟩
 | [],_::_,_,h=>h.elim
 |_::_,[],_,h=>h.elim
theorem All2.drop:∀{a:List α} {bs:List β} (n:Nat),All2 R a bs->All2 R (a.drop n) (bs.drop n)
 | [],[],_,_=>by simp[All2]
 |_::_,_::_,0,h=>h
 |_::_,_::_,n+1,⟨_,b⟩=>All2.drop n b
 | [],_::_,_,h=>h.elim
 |_::_,[],_,h=>h.elim
theorem All2.map {a:Type}{f:a->α}{g:a->β}:∀(l:List a),(∀x∈l,R (f x) (g x))->All2 R (l.map f) (l.map g)
 | [],_=>trivial
 |x::l,h=>⟨h x (by simp),All2.map l λy b=>h y (by simp[b])⟩
end All2
inductive AC where
 |int (k:IntKind) (n:Int)
 |bool (b:Bool)
 |sint (k:IntKind) (n:Int)
 |sbool (t:Bool)
 |lit (v:Value)
 |ptr (b off:Nat)
 |slc (b off len size:Nat)
 |dsl (b r len size:Nat)
 |sg (i:Nat)
 |dg (k:Bool) (i:Nat)
 |gD (R:World->Value->Prop)
 |any
inductive AV where
 |one (c:AC)
 |agg (cs:List AC)
inductive AT where
 |top
 |gG
 |val (v:AV)
 |tup (vs:List AV)
 |nI (c:Bool) (v:AV)
structure fE where
 P:Program
 bt:List TypeId
 eS:Bool->World->Int->Value->Prop
 bits:Nat->Int->Prop
 zZ:∀{k w W z x},On bt w W->eS k w z x->eS k W z x
 Ac:∀{k w z x},eS k w z x->One x
section
variable (C:fE)
def relC (φ:LI)(ν:LV)(w:World):AC->Value->Prop
 |.int k n,x=>x=.int k n
 |.bool b,x=>x=.bool b
 |.sint k n,x=>x=.int k n
 |.sbool t,x=>x=.bool t
 |.lit v,x=>x=v/\One v
 |.ptr b d,x=>∃k o,φ b=some (k,o)/\x=.pointer (some ⟨k,o+d,none⟩)
 |.slc b d len size,x=>∃k o a e m,φ b=some (k,o)/\x=.slice (some ⟨k,o+d,none⟩) len a/\len<=a/\w.shape? k=some (e,m)/\o+d+a*size<=m
 |.dsl b r len size,x=>∃k a,φ b=some (k,r*size)/\x=.slice (some ⟨k,0,none⟩) len a
 |.sg i,x=>∃z n,ν[i]?=some (z,n)/\x=.bool (decide (z<0))
 |.dg k i,x=>∃z n,ν[i]?=some (z,n)/\C.eS k w z x/\C.bits n z
 |.gD R,x=>One x/\∀W,On C.bt w W->R W x
 |.any,x=>One x
def dU (φ:LI)(ν:LV)(w:World):AV->Value->Prop
 |.one c,x=>relC C φ ν w c x
 |.agg cs,x=>∃a:LB,x=.agg a.toArray/\All2 (relC C φ ν w) cs a
def relT (φ:LI)(ν:LV)(w:World):AT->Value->Prop
 |.top,_=>True
 |.gG,x=>x=undef
 |.val v,x=>dU C φ ν w v x
 |.tup vs,x=>∃a:LB,x=.tuple a.toArray/\All2 (dU C φ ν w) vs a
 |.nI c v,x=>if c=true then dU C φ ν w v x else x=undef
structure Ext (φ φ':LI) (ν ν':LV) (w w':World):Prop where
 φ:∀b k,φ b=some k->φ' b=some k
 ν:∀(i:Nat) (x:Int×Nat),ν[i]?=some x->ν'[i]?=some x
 on:On C.bt w w'
variable {C}
theorem Ext.refl (φ:LI)(ν:LV)(w:World):Ext C φ φ ν ν w w:=⟨λ_ _ h=>h,λ_ _ h=>h,On.refl _ _⟩
theorem Ext.trans {φ φ' d:LI}{ν ν' a:LV}{w w' J:World}(h:Ext C φ φ' ν ν' w w')(g:Ext C φ' d ν' a w' J):Ext C φ d ν a w J:=
 ⟨λb k e=>g.φ b k (h.φ b k e),λi x e=>g.ν i x (h.ν i x e),h.on.trans g.on⟩
section
variable {φ φ':LI} {ν ν':LV} {w w':World}
theorem xH (h:Ext C φ φ' ν ν' w w')(c:AC)(x:Value)(r:relC C φ ν w c x):relC C φ' ν' w' c x:=by
 cases c<;>simp only[relC]at r ⊢<;>try exact r
 .obtain⟨k,o,a,b⟩:=r;exact⟨k,o,h.φ _ _ a,b⟩
 .obtain⟨k,o,d,e,m,a,b,f,g,i⟩:=r;exact⟨k,o,d,e,m,h.φ _ _ a,b,f,h.on.shape g,i⟩
 .obtain⟨k,d,a,b⟩:=r;exact⟨k,d,h.φ _ _ a,b⟩
 .obtain⟨z,n,a,b⟩:=r;exact⟨z,n,h.ν _ _ a,b⟩
 .obtain⟨z,n,a,b,f⟩:=r;exact⟨z,n,h.ν _ _ a,C.zZ h.on b,f⟩
 .exact⟨r.1,λW j=>r.2 W (h.on.trans j)⟩
theorem Vf (h:Ext C φ φ' ν ν' w w')(v:AV)(x:Value)(r:dU C φ ν w v x):dU C φ' ν' w' v x:=by
 cases v with
 |one c=>exact xH h c x r
 |agg cs=>obtain⟨d,a,b⟩:=r;exact⟨d,a,b.mono (xH h)⟩
theorem xI (h:Ext C φ φ' ν ν' w w')(v:AT)(x:Value)(r:relT C φ ν w v x):relT C φ' ν' w' v x:=by
 cases v with
 |top=>trivial
 |gG=>exact r
 |val v=>exact Vf h v x r
 |tup e=>obtain⟨d,a,b⟩:=r;exact⟨d,a,b.mono (Vf h)⟩
 |nI c v=>
  simp only[relT]at r ⊢
  cases c with
  |true=>simp only[if_true]at r ⊢;exact Vf h v x r
  |false=>simpa using r
variable {x:Value}
theorem aK8 {c:AC}(r:relC C φ ν w c x):One x:=by
 cases c<;>simp only[relC]at r
 .subst r;rfl
 .subst r;rfl
 .subst r;rfl
 .subst r;rfl
 .obtain⟨rfl,h⟩:=r;exact h
 .obtain⟨k,o,_,rfl⟩:=r;rfl
 .obtain⟨k,o,a,e,m,_,rfl,_⟩:=r;rfl
 .obtain⟨k,a,_,rfl⟩:=r;rfl
 .obtain⟨z,n,_,rfl⟩:=r;rfl
 .obtain⟨z,n,_,h,_⟩:=r;exact C.Ac h
 .exact r.1
 .exact r
theorem aOu (h:One x):x.cells=#[x]:=by cases x<;>first|rfl|(simp[One,C9]at h)
def cellsOf:AV->List AC
 |.one c=>[c]
 |.agg cs=>cs
theorem Zy {v:AV}(r:dU C φ ν w v x):All2 (relC C φ ν w) (cellsOf v) x.cells.toList:=by
 cases v with
 |one c=>
  rw[aOu (aK8 r)];exact⟨r,trivial⟩
 |agg cs=>obtain⟨a,rfl,h⟩:=r;exact h
end
end
def iS (P:Program)(t:TypeId):FF:=(P.info? t).map (·.size)
def vI (P:Program)(t:TypeId):Option Bool:=
 match P.underlying t with
 |some (.struct _)=>some true
 |some (.array _ _)=>some true
 |some _=>some false
 |none=>none
variable {P:Program}
theorem uC {t:Nat}(h:iS P t=some k)(w:World):(sizeOf t).run P w=.ok k w:=by
 unfold iS at h
 cases hi:P.info? t with
 |none=>simp[hi]at h
 |some i=>simp[hi]at h;subst h;simp[sizeOf,typeInfo,hi]
theorem Kp {t:TypeId}{i:Bool}(h:vI P t=some i)(w:World):(isAgg t).run P w=.ok i w:=by
 unfold vI at h;unfold isAgg;simp only[B0,underlying]
 cases hi:P.underlying t with
 |none=>simp[hi]at h
 |some d=>
  simp only[hi]at h;simp[hi]
  cases d<;>simp at h ⊢<;>exact h
theorem Fu (k a i:Nat):(⟨k,a,none⟩:Addr).add i=⟨k,a+i,none⟩:=by
 unfold Addr.add;split
 .rename_i h;subst h;rfl
 .rfl
variable {a:LB}
theorem Ls {ty:TypeId}{m:Nat×Nat}(h:w.heap[k]?=some (.cells a.toArray ty m))(b:Nat):w.cell? ⟨k,b,none⟩=a[b]?:=by
 unfold World.cell?;simp[h]
theorem Ts {P:Program}{w:World}{k:Nat}{a:LB}{ty:TypeId}{m:Nat×Nat}(h:w.heap[k]?=some (.cells a.toArray ty m))(off:Nat):
  ∀(n i:Nat) (b:Array Value),off+i+n<=a.length->(loadCellsFrom ⟨k,off,none⟩ i n b).run P w=.ok (b++((a.drop (off+i)).take n).toArray) w
 |0,i,b,_=>by simp[loadCellsFrom]
 |n+1,i,b,d=>by
  have hc:a[off+i]?=some a[off+i]:=j8 (by omega);unfold loadCellsFrom;rw[B0,run_load,Fu,Ls h,hc];simp only[C6];rw[Ts h off n (i+1) _ (by omega)];congr 1;rw[List.drop_eq_getElem_cons (show off+i<a.length by omega),List.take_succ_cons];apply q7.1;simp[u7]
structure fZ (w w':World) (k:Nat) (ys:LB) (ty:TypeId):Prop where
 bS:w'.heap[k]?=some (.cells ys.toArray ty (0,0))
 others:∀j,j≠k->w'.heap[j]?=w.heap[j]?
 size:w'.heap.size=w.heap.size
 os:w'.os=w.os
 tape:w'.tape=w.tape
 output:w'.output=w.output
theorem Zn {ty:TypeId}(h:w.heap[k]?=some (.cells a.toArray ty (0,0)))(b:Nat)(v:Value):fZ w (w.setCell ⟨k,b,none⟩ v) k (a.set b v) ty:=by
 refine⟨?_,λj d=>?_,by simp[C8],rfl,rfl,rfl⟩
 .simp[C8,Array.getElem?_modify,h]
 .exact Below.heap_setCell _ _ _ _ d
def hX (b:LB)(a:Nat):List Value->List Value
 | []=>b
 |v::d=>hX (b.set a v) (a+1) d
theorem Oj:∀(d b:LB) (a:Nat),a+d.length<=b.length->hX b a d=b.take a++d++b.drop (a+d.length)
 | [],b,a,h=>by simp[hX]
 |v::d,b,a,h=>by
  simp at h;unfold hX;rw[Oj d (b.set a v) (a+1) (by simp;omega)]
  have e:(b.set a v).take (a+1)=b.take a++[v]:=by
   rw[List.take_succ_eq_append_getElem (by simp;omega),List.take_set_of_le (s8 _)];simp
  have f:(b.set a v).drop (a+1+d.length)=b.drop (a+(d.length+1)):=by
   rw[List.drop_set_of_lt (by omega)];congr 1;omega
  rw[e,f];simp
theorem Tm {P:Program}{k:Nat}{ty:TypeId}(a:Nat):∀(f:LB) (i:Nat) (w:World) (b:LB),w.heap[k]?=some (.cells b.toArray ty (0,0))->a+i+f.length<=b.length->(∀v∈f,One v)->
  ∃w',(storeCells ⟨k,a,none⟩ f i).run P w=.ok () w'/\fZ w w' k (hX b (a+i) f) ty
 | [],i,w,b,h,n,g=>⟨w,by simp[storeCells],⟨by simpa[hX]using h,λ_ _=>rfl,rfl,rfl,rfl,rfl⟩⟩
 |v::f,i,w,b,h,n,g=>by
  simp at n;have e:=Zn h (a+i) v;obtain⟨w',o,d⟩:=Tm a f (i+1) (w.setCell ⟨k,a+i,none⟩ v) (b.set (a+i) v) e.bS (by simp;omega) (λx q=>g x (by simp[q]));have hc:b[a+i]?=some b[a+i]:=j8 (by omega)
  have p:w.frozen? ⟨k,a+i,none⟩=false:=by simp[World.frozen?,h]
  refine⟨w',?_,⟨by rw[d.bS];simp[hX,u7],λj l=>(d.others j l).trans (e.others j l),d.size.trans e.size,d.os.trans e.os,d.tape.trans e.tape,d.output.trans e.output⟩⟩;unfold storeCells;rw[B0,run_store _ _ _ _ _ (g v (by simp)),Fu,Ls h,hc];simp only[p,B9,if_false,C6];exact o
structure bL where
 cs:List AC
 ty:TypeId
 own:Bool
 ro:Bool
 tip:Bool
def Ep:Value->Bool
 |.slice none 0 _=>true
 |_=>false
variable {x:Value}
theorem aTo (h:Ep x=true):∃c,x=.slice none 0 c:=by
 unfold Ep at h;split at h
 .exact⟨_,rfl⟩
 .cases h
def qF:Value->AC
 |.int k n=>.int k n
 |.bool b=>.bool b
 |v=>.lit v
def vX:Value->AT
 |.agg cs=>bif cs.toList.all C9 then .val (.agg (cs.toList.map qF))else .top
 |.tuple _=>.top
 |v=>.val (.one (qF v))
variable {φ:LI}{ν:LV}
theorem aIt {L:fE}{n:World}(h:One x):relC L φ ν n (qF x) x:=by
 cases x<;>first|rfl|exact⟨rfl,h⟩
theorem aN4 {L:fE}{n:World}(v:Value):relT L φ ν n (vX v) v:=by
 cases v with
 |agg cs=>
  cases h:cs.toList.all C9 with
  |false=>simp only[vX,h,cond];trivial
  |true=>
   simp only[vX,h,cond];refine⟨cs.toList,by simp,?_⟩;rw[j9]at h;have:=All2.map (R:=relC L φ ν n) (f:=qF) (g:=id) cs.toList (λx a=>aIt (h x a))
   simpa using this
 |tuple b=>trivial
 |_=>first|rfl|exact⟨rfl,rfl⟩
def Holds (a:List Prop):Prop:=∀q∈a,q
theorem gJ:Holds []:=λ_ h=>by cases h
theorem Holds.one {p:Prop}(h:Holds [p]):p:=h p (by simp)
inductive nN where
 |val (r:AT) (p:List Prop)
 |new (cs:List AC) (ty:TypeId) (slice:Option (Nat×Nat))
 |nB (b:Nat) (cs:List AC)
 |app (old:FF) (cs:List AC) (ty:TypeId) (len size:Nat)
 |call (f:FuncId) (args:List AV)
def eT:AT->Option AC
 |.val (.one c)=>some c
 |_=>none
def Ij:AT->Option AV
 |.val v=>some v
 |_=>none
def qL:List AT->Option (List AV)
 | []=>some []
 |.val v::r=>(qL r).map (v::·)
 |_::_=>none
def Qq (op:BinOp)(x y:Int):Option Bool:=
 match op with
 |.eql=>some (x==y)
 |.neq=>some (x != y)
 |.lss=>some (decide (x<y))
 |.leq=>some (decide (x<=y))
 |.gtr=>some (decide (x>y))
 |.geq=>some (decide (x≥y))
 |_=>none
def arI (op:BinOp)(k:IntKind)(x y:Int):Option Int:=
 match op with
 |.add=>some (k.wrap (x+y))
 |.sub=>some (k.wrap (x-y))
 |.mul=>some (k.wrap (x*y))
 |_=>none
def xV:AC->Option (Bool×IntKind×Int)
 |.int k n=>some (true,k,n)
 |.sint k n=>some (false,k,n)
 |_=>none
def Mg (s:Bool)(k:IntKind)(n:Int):AC:=bif s then .int k n else .sint k n
def Xz (s:Bool)(b:Bool):AC:=bif s then .bool b else .sbool b
def Ik (op:BinOp)(s:Bool)(k:IntKind)(x y:Int):Option AC:=
 match Qq op x y with
 |some t=>some (Xz s t)
 |none=>match arI op k x y with
  |some n=>some (Mg s k n)
  |none=>none
def oF (P:Program)(t:TypeId):Bool:=match P.underlying t with|some (.pointer _)=>true|_=>false
def Ip (op:BinOp)(s:Bool)(k:IntKind)(x y:Int):Option AC:=
 match op with
 |.quo=>some (Mg s k (k.wrap (x.tdiv y)))
 |.rem=>some (Mg s k (x.tmod y))
 |_=>none
def Eo (op:BinOp)(t:Bool):Option AC:=
 match op with
 |.eql=>some (.bool t)
 |.neq=>some (.bool !t)
 |_=>none
def Kh (op:BinOp)(a b:ByteArray):Option AC:=
 match op with
 |.eql=>some (.sbool (a.toList==b.toList))
 |.neq=>some (.sbool !(a.toList==b.toList))
 |_=>none
def nS (P:Program)(t:TypeId):Bool:=match P.underlying t with|some .bool=>true|_=>false
def sN:AC->Option (Bool×Bool)
 |.bool b=>some (true,b)
 |.sbool b=>some (false,b)
 |_=>none
def zW (op:BinOp)(s:Bool)(x y:Bool):Option AC:=
 match op with
 |.eql=>some (Xz s (x==y))
 |.neq=>some (Xz s !(x==y))
 |_=>none
def Qi (P:Program)(op:BinOp)(t:TypeId)(a b:AC):Option AC:=
 match a,b with
 |.ptr _ _,.lit (.pointer none)=>bif oF P t then Eo op false else none
 |.lit (.pointer none),.lit (.pointer none)=>bif oF P t then Eo op true else none
 |.lit (.string x),.lit (.string y)=>Kh op x y
 |a,b=>match sN a with
  |some (s,x)=>(sN b).bind λ(d,y)=>bif nS P t then zW op (s&&d) x y else none
  |none=>(xV a).bind λ(s,k,x)=>(xV b).bind λ(d,e,y)=>if k=e then(match Ik op (s&&d) k x y with|some c=>some c|none=>bif d&&!(y==0)then Ip op (s&&d) k x y else none)else none
def wF (P:Program)(t:TypeId)(cs:List AC)(a:Nat):Option AV:=
 (vI P t).bind λg=>bif g then(iS P t).map λn=>.agg ((cs.drop a).take n)else(cs[a]?).map .one
def vY (P:Program)(t:TypeId)(cs:List AC)(a:Nat):Option AV:=
 (vI P t).bind λg=>bif g then(iS P t).bind λn=>bif u9 (a+n) cs.length then some (.agg ((cs.drop a).take n))else none else(cs[a]?).map .one
def uW (P:Program)(t:TypeId)(cs:List AC)(a:Nat)(v:AV):Option (List AC):=
 (iS P t).bind λn=>bif (cellsOf v).length==n&&u9 (a+n) cs.length then some (cs.take a++cellsOf v++cs.drop (a+n))else none
def fieldsOf (P:Program)(t:TypeId):Option (Array Field):=match P.underlying t with|some (.struct a)=>some a|_=>none
def nQ (P:Program)(t:TypeId):Option (Nat×TypeId):=match P.underlying t with|some (.array n e)=>some (n,e)|_=>none
def cT (P:Program)(t:TypeId):Option TypeId:=match P.underlying t with|some (.slice e)=>some e|_=>none
def kN (place:LI)(cells:List AC):List (Nat×AV)->Option (List AC)
 | []=>some cells
 |(i,v)::b=>(place i).bind λ(a,size)=>
  bif (cellsOf v).length==size&&u9 (a+size) cells.length then kN place (cells.take a++cellsOf v++cells.drop (a+size)) b else none
def iV:List (Nat×AT)->Option (List (Nat×AV))
 | []=>some []
 |(i,.val v)::r=>(iV r).map ((i,v)::·)
 |_::_=>none
def wG (a:List AC)(n:Nat):List AC:=(k8 n).map λi=>a.getD (i%a.length) .any
def eZ {d e:Type}(f:d->Option e):List d->Option (List e)
 | []=>some []
 |a::g=>(f a).bind λb=>(eZ f g).map (b::·)
def lF (P:Program)(t:TypeId):Option (List AC):=
 ((P.info? t).bind (·.zero)).bind λv=>bif v.cells.toList.all C9 then some (v.cells.toList.map qF)else none
def rowOf (d:Nat->Option bL)(e:TypeId)(size:Nat):AT->Option (Option Nat×List AC×Nat)
 |.val (.one (.lit (.slice none 0 0)))=>some (none,[],0)
 |.val (.one (.slc b a len sz))=>(d b).bind λB=>bif a==0&&sz==size&&B.ty==e&&B.cs.length==len*size then some (some b,B.cs,len)else none
 |_=>none
def kQ (a:Nat->Option bL):Option Nat->Bool
 |none=>true
 |some b=>match a b with|some B=>B.tip|none=>false
def evalOp (P:Program)(d:Operand->AT)(l:Nat->Option bL):Op->Option nN
 |.move x=>some (.val (d x) [])
 |.assign x=>some (.val (d x) [])
 |.pick c a b=>(eT (d c)).bind fun
   |.bool t=>some (.val (bif t then d a else d b) [])
   |.sbool t=>match d a,d b with
    |.val (.one (.bool x)),.val (.one (.bool y))=>some (.val (.val (.one (.sbool (bif t then x else y)))) [])
    |.val (.one (.bool x)),.val (.one (.sbool y))=>some (.val (.val (.one (.sbool (bif t then x else y)))) [])
    |.val (.one (.sbool x)),.val (.one (.bool y))=>some (.val (.val (.one (.sbool (bif t then x else y)))) [])
    |.val (.one (.sbool x)),.val (.one (.sbool y))=>some (.val (.val (.one (.sbool (bif t then x else y)))) [])
    |.nI c (.one (.sbool x)),.val (.one (.bool y))=>some (.val (.val (.one (.sbool (bif t then x else y)))) [t=true->c=true])
    |.val (.one (.bool x)),.nI c (.one (.sbool y))=>some (.val (.val (.one (.sbool (bif t then x else y)))) [t=false->c=true])
    |.nI c (.one (.sbool x)),.val (.one (.sbool y))=>some (.val (.val (.one (.sbool (bif t then x else y)))) [t=true->c=true])
    |.val (.one (.sbool x)),.nI c (.one (.sbool y))=>some (.val (.val (.one (.sbool (bif t then x else y)))) [t=false->c=true])
    |_,_=>none
   |_=>none
 |.alloc t=>(lF P t).map λcs=>.new cs t none
 |.box t x=>(Ij (d x)).map λv=>.new (cellsOf v) t none
 |.build t h=>(lF P t).bind λzero=>(iV (h.toList.map λ(i,x)=>(i,d x))).bind λq=>
   (match P.underlying t with
    |some (.struct p)=>(eZ (λ(f:Field)=>(iS P f.type).map λn=>(f.offset,n)) p.toList).bind λj=>kN (λi=>j[i]?) zero q
    |some (.array _ e)=>(iS P e).bind λn=>kN (λi=>some (i*n,n)) zero q
    |_=>none).map λcs=>.val (.val (.agg cs)) []
 |.buildSlice t len h=>(cT P t).bind λe=>(iS P e).bind λsize=>(lF P e).bind λzero=>
   bif u9 (len*size) 16777216&&!(zero.length==0)then(iV (h.toList.map λ(i,x)=>(i,d x))).bind λq=>(kN (λi=>some (i*size,size)) (wG zero (len*size)) q).map λcs=>.new cs e (some (len,size))else none
 |.convert w u x=>(eT (d x)).bind λc=>(xV c).bind λ(s,_,n)=>(P.underlying w).bind λ_=>match P.underlying u with
   |some (.int k)=>some (.val (.val (.one (Mg s k (k.wrap n)))) [])
   |_=>none
 |.load t a=>(eT (d a)).bind fun
   |.ptr b g=>(l b).bind λB=>(vY P t B.cs g).map λv=>.val (.val v) []
   |_=>none
 |.store t a x=>(eT (d a)).bind fun
   |.ptr b g=>(Ij (d x)).bind λv=>(l b).bind λB=>bif B.ro then none else(uW P t B.cs g v).map λcs=>.nB b cs
   |_=>none
 |.nilCheck x=>(eT (d x)).bind fun
   |.ptr b g=>some (.val (.val (.one (.ptr b g))) [])
   |_=>none
 |.binOp op t x y _=>(eT (d x)).bind λa=>(eT (d y)).bind λb=>(Qi P op t a b).map λc=>.val (.val (.one c)) []
 |.unOp .not _ x=>(eT (d x)).bind fun
   |.bool b=>some (.val (.val (.one (.bool !b))) [])
   |.sbool b=>some (.val (.val (.one (.sbool !b))) [])
   |_=>none
 |.unOp .neg _ x=>(eT (d x)).bind λc=>(xV c).map λ(s,k,n)=>.val (.val (.one (Mg s k (k.wrap (0-n))))) []
 |.fieldAddr t x f=>(eT (d x)).bind fun
   |.ptr b g=>(fieldsOf P t).bind λp=>(p[f]?).bind λo=>(iS P o.type).bind λn=>bif n==0 then none else some (.val (.val (.one (.ptr b (g+o.offset)))) [])
   |_=>none
 |.field t x f=>(Ij (d x)).bind fun
   |.agg cs=>(fieldsOf P t).bind λp=>(p[f]?).bind λo=>(wF P o.type cs o.offset).map λv=>.val (.val v) []
   |_=>none
 |.indexAddr t x i=>(eT (d i)).bind fun
   |.int _ n=>(eT (d x)).bind fun
    |.ptr b g=>(nQ P t).bind λ(len,e)=>(iS P e).bind λsz=>bif decide (0<=n)&&decide (n<len)then some (.val (.val (.one (.ptr b (g+n.toNat*sz)))) [])else none
    |.slc b g len _=>(cT P t).bind λe=>(iS P e).bind λsz=>bif decide (0<=n)&&decide (n<len)then some (.val (.val (.one (.ptr b (g+n.toNat*sz)))) [])else none
    |.dsl b r len size=>(cT P t).bind λe=>(iS P e).bind λsz=>bif sz==size then some (.val (.val (.one (.ptr b 0))) [n=(r:Int)/\r<len])else none
    |_=>none
   |.sint _ n=>(eT (d x)).bind fun
    |.dsl b r len size=>(cT P t).bind λe=>(iS P e).bind λsz=>bif sz==size then some (.val (.val (.one (.ptr b 0))) [n=(r:Int)/\r<len])else none
    |_=>none
   |_=>none
 |.index t x i=>(eT (d i)).bind fun
   |.int _ n=>(Ij (d x)).bind fun
    |.agg cs=>(nQ P t).bind λ(len,e)=>(iS P e).bind λsz=>bif decide (0<=n)&&decide (n<len)then(wF P e cs (n.toNat*sz)).map λv=>.val (.val v) []else none
    |_=>none
   |_=>none
 |.extract x i=>match d x with
   |.tup z=>(z[i]?).map λv=>.val (.val v) []
   |_=>none
 |.call { callee:=.builtin .len,args:=args,argTypes:=ts}=>match ts.toList,args.toList with
   | [t],[x]=>(eT (d x)).bind fun
    |.slc _ _ len _=>(cT P t).map λ_=>.val (.val (.one (.int .i64 len))) []
    |.dsl _ _ len _=>(cT P t).map λ_=>.val (.val (.one (.sint .i64 len))) []
    |.lit v=>bif Ep v then(cT P t).map λ_=>.val (.val (.one (.int .i64 0))) []else none
    |_=>none
   |_,_=>none
 |.call { callee:=.builtin .append,args:=args,argTypes:=ts}=>match ts.toList,args.toList with
   | [t,C],[s,x]=>(cT P t).bind λe=>(cT P C).bind λ_=>(iS P e).bind λsize=>(P.info? e).bind λi=>(lF P e).bind λzero=>(rowOf l e size (d s)).bind λ(old,cs,len)=>(rowOf l e size (d x)).bind λ(_,A,n)=>
     bif u9 (len+n) 100&&u9 i.bytes 1000000&&!(n==0)&&!(size==0)&&zero.length==size&&kQ l old then some (.app old (cs++A) e (len+n) size)else none
   |_,_=>none
 |.call { callee:=.value (.func f),args:=args,..}=>(qL (args.toList.map d)).map λz=>.call f z
 |_=>none
def Jv (id:Nat):Option (Nat×Nat)->AC
 |none=>.ptr id 0
 |some (n,size)=>.slc id 0 n size
def xY (k:Nat):Option (Nat×Nat)->Value
 |none=>.pointer (some ⟨k,0,none⟩)
 |some (n,_)=>.slice (some ⟨k,0,none⟩) n n
def uY (C:fE)(φ:LI)(ν:LV)(w:World)(q:Nat->Option bL)(r:Result Next):nN->Prop
 |.val t p=>Holds p->∃v,r=.ok (.value v) w/\relT C φ ν w t v
 |.new cs ty sl=>∃l:LB,r=.ok (.value (xY w.heap.size sl)) {w with heap:=w.heap.push (.cells l.toArray ty)}/\All2 (relC C φ ν w) cs l/\(∀n size,sl=some (n,size)->l.length=n*size)
 |.nB b cs=>∃B k o j d h a i,q b=some B/\B.ro=false/\φ b=some (k,o)/\r=.ok .skip j/\fZ w j k (d++i++a) B.ty/\w.heap[k]?=some (.cells (d++h++a).toArray B.ty (0,0))/\d.length=o/\h.length=i.length/\All2 (relC C φ ν w) cs i/\cs.length=B.cs.length
 |.call f s=>∃l:LB,r=.ok (.enter f l.toArray) w/\All2 (dU C φ ν w) s l
 |.app old cs ty len size=>∃v j g,r=.ok (.value v) j/\len<=g/\kQ q old=true/\
   ((∃ i a:LB,j={w with heap:=w.heap.push (.cells (i++a).toArray ty),drawn:=w.drawn+1}/\v=.slice (some ⟨w.heap.size,0,none⟩) len g/\All2 (relC C φ ν w) cs i/\g*size<=i.length+a.length)\/
    (∃ b B k o,∃ d h a new e:LB,old=some b/\q b=some B/\B.ty=ty/\φ b=some (k,o)/\v=.slice (some ⟨k,o,none⟩) len g/\w.heap[k]?=some (.cells (d++h++a).toArray ty (0,0))/\d.length=o/\All2 (relC C φ ν w) B.cs h/\
     fZ w j k (d++(h++new)++e) ty/\new.length+e.length=a.length/\All2 (relC C φ ν w) cs (h++new)/\o+g*size<=(d++(h++new)++e).length))
section
variable {C:fE} {φ:LI} {ν:LV} {w:World} {ρ:Operand->Value} {ev:Operand->AT} {bx:Nat->Option bL}
theorem aS {d e:Type}{x:Option d}{f:d->Option e}{b:e}(h:x.bind f=some b):∃a,x=some a/\f a=some b:=Option.bind_eq_some_iff.1 h
theorem bU {d e:Type}{x:Option d}{f:d->e}{b:e}(h:x.map f=some b):∃a,x=some a/\f a=b:=Option.map_eq_some_iff.1 h
theorem pY {t:AT}{c:AC}(h:eT t=some c):t=.val (.one c):=by
 unfold eT at h;split at h
 .cases h;rfl
 .cases h
theorem Cg {t:AT}{v:AV}(h:Ij t=some v):t=.val v:=by
 unfold Ij at h;split at h
 .cases h;rfl
 .cases h
def wQ (C:fE)(φ:LI)(ν:LV)(w:World)(bx:Nat->Option bL):Prop:=
 ∀b B,bx b=some B->∃k o,∃d e a:LB,φ b=some (k,o)/\w.heap[k]?=some (.cells (d++e++a).toArray B.ty (0,0))/\d.length=o/\All2 (relC C φ ν w) B.cs e
variable {s:Bool}{k:IntKind}
theorem Wc {c:AC}{v:Int}(h:xV c=some (s,k,v))(r:relC C φ ν w c x):x=.int k v:=by
 cases c<;>simp[xV]at h<;>obtain⟨rfl,rfl,rfl⟩:=h<;>exact r
theorem Wh (s:Bool)(k:IntKind)(n:Int):relC C φ ν w (Mg s k n) (.int k n):=by cases s<;>rfl
theorem aJN (s:Bool)(b:Bool):relC C φ ν w (Xz s b) (.bool b):=by cases s<;>rfl
variable {op:BinOp}
theorem aSx {x z:Int}{c:AC}{t:TypeId}(h:Ik op s k x z=some c):∃v,(binOp op t (.int k x) (.int k z)).run C.P w=.ok v w/\relC C φ ν w c v:=by
 unfold Ik at h
 cases op<;>simp[Qq,arI]at h<;>subst h<;>first
  |(refine⟨_,?_,aJN _ _⟩;simp[binOp,Op.intCmp])
  |(refine⟨_,?_,Wh _ _ _⟩;simp[binOp,D1])
theorem aSR {x z:Int}{c:AC}{t:TypeId}(a:z≠0)(h:Ip op s k x z=some c):∃v,(binOp op t (.int k x) (.int k z)).run C.P w=.ok v w/\relC C φ ν w c v:=by
 unfold Ip at h
 cases op<;>simp at h<;>subst h<;>(refine⟨_,?_,Wh _ _ _⟩;simp[binOp,Op.intDiv,a])
theorem aQa {t:TypeId}(h:oF C.P t=true):∃e,C.P.underlying t=some (.pointer e):=by
 unfold oF at h;split at h
 .rename_i e a;exact⟨e,a⟩
 .cases h
theorem aRL {t e:TypeId}(h:C.P.underlying t=some (.pointer e))(a:Option Addr):(D2 t (.pointer a) (.pointer none)).run C.P w=.ok a.isNone w:=by
 unfold D2;rw[show D3=9999+1 from rfl];unfold D4;simp only[underlying,B0,run_program,C6,h,B6]
 cases a<;>simp
variable {y:Operand}
theorem aOg {t:TypeId}{c:AC}{a:Option Addr}{x:Operand}(d:oF C.P t=true)(h:Eo op a.isNone=some c):∃v,(do eqGuard op t x y (.pointer a) (.pointer none);binOp op t (.pointer a) (.pointer none):Sem Value).run C.P w=.ok v w/\relC C φ ν w c v:=by
 obtain⟨e,b⟩:=aQa d;unfold Eo at h
 cases op<;>simp at h<;>subst h
 .exact⟨.bool a.isNone,by simp[eqGuard,binOp,aRL b],rfl⟩
 .exact⟨.bool !a.isNone,by simp[eqGuard,binOp,aRL b],by cases a<;>rfl⟩
theorem aKs {c:AC}{b:Bool}(h:sN c=some (s,b))(r:relC C φ ν w c x):x=.bool b:=by
 cases c<;>simp[sN]at h<;>obtain⟨rfl,rfl⟩:=h<;>exact r
variable {x:Operand}
theorem aPL {t:TypeId}{c:AC}{a b:Bool}(f:nS C.P t=true)(h:zW op s a b=some c):∃v,(do eqGuard op t x y (.bool a) (.bool b);binOp op t (.bool a) (.bool b):Sem Value).run C.P w=.ok v w/\relC C φ ν w c v:=by
 have g:C.P.underlying t=some .bool:=by
  unfold nS at f;split at f
  .rename_i e;exact e
  .cases f
 have d:(D2 t (.bool a) (.bool b)).run C.P w=.ok (a==b) w:=by
  unfold D2;rw[show D3=9999+1 from rfl];unfold D4;simp only[underlying,B0,run_program,C6,g,B6]
 unfold zW at h
 cases op<;>simp at h<;>subst h
 .exact⟨.bool (a==b),by simp[eqGuard,binOp,d],aJN _ _⟩
 .exact⟨.bool !(a==b),by simp[eqGuard,binOp,d],aJN _ _⟩
theorem aT5 {t:TypeId}{c:AC}{a b:ByteArray}(h:Kh op a b=some c):∃v,(do eqGuard op t x y (.string a) (.string b);binOp op t (.string a) (.string b):Sem Value).run C.P w=.ok v w/\relC C φ ν w c v:=by
 unfold Kh at h
 cases op<;>simp at h<;>subst h
 .exact⟨.bool (a.toList==b.toList),by simp[eqGuard,binOp,D5],rfl⟩
 .exact⟨.bool !(a.toList==b.toList),by simp[eqGuard,binOp,D5],rfl⟩
theorem eqG {t:TypeId}{l:IntKind}{a b:Int}:(eqGuard op t x y (.int k a) (.int l b)).run C.P w=.ok () w:=by
 unfold eqGuard
 cases op<;>simp
theorem Uy {place:LI}:∀{s:List (Nat×AV)} {u:List (Nat×Value)} {cs o:List AC} {cells:LB},kN place cs s=some o->All2 (relC C φ ν w) cs cells->All2 (λp x=>p.1=x.1/\dU C φ ν w p.2 x.2) s u->
  ∃out:LB,A0 place cells.toArray u=some out.toArray/\All2 (relC C φ ν w) o out
 | [],[],cs,o,cells,h,hc,_=>by
  simp[kN]at h;subst h;exact⟨cells,by simp[A0],hc⟩
 |(i,v)::s,(j,x)::u,cs,o,cells,h,hc,⟨⟨e,hv⟩,B⟩=>by
  simp only at e hv;subst e;unfold kN at h;obtain⟨⟨a,size⟩,z,d⟩:=aS h;simp only at d
  cases k:((cellsOf v).length==size&&u9 (a+size) cs.length)with
  |false=>rw[k]at d;cases d
  |true=>
   rw[k]at d;simp only[cond_true]at d;simp only[C0,beq_iff_eq,w9]at k;obtain⟨q,A⟩:=k;have F:=hc.len;have f:=Zy hv;have g:=f.len;simp only[q8]at g;obtain⟨out,k1,E⟩:=Uy d (cells:=cells.take a++x.cells.toList++cells.drop (a+size)) ((All2.append (All2.append (hc.take a) f) (hc.drop _))) B;refine⟨out,?_,E⟩;unfold A0;simp only[z];rw[if_neg (by simp;omega)];rw[<-k1];congr 1;apply q7.1
   have r:∀(l:LB) (n:Nat) (b:Array Value),((l.zipIdx n).foldl (λcs (p:Value×Nat)=>cs.setIfInBounds (a+p.2) p.1) b).toList=hX b.toList (a+n) l:=by
    intro l
    induction l with
    |nil=>intro n b;simp[hX]
    |cons y l D=>intro n b;simp only[List.zipIdx_cons,List.foldl_cons,hX];rw[D];simp[u7]
   have:=r x.cells.toList 0 cells.toArray;simp only[z6]at this;rw[Oj _ _ _ (by simp;omega)]at this;simp only[q8]at this;rw[<-g,q]at this;rw[<-this,<-Array.toList_zipIdx,Array.foldl_toList]
 | [],_::_,_,_,_,_,_,h=>h.elim
 |_::_,[],_,_,_,_,_,h=>h.elim
theorem aQL {a:List AC}{b:Array Value}(h:All2 (relC C φ ν w) a b.toList)(l:a.length≠0)(n:Nat):All2 (relC C φ ν w) (wG a n) ((q9 n).map (b[·%b.size]!)).toList:=by
 have f:=h.len;simp only[q8]at f
 have e:((q9 n).map (b[·%b.size]!)).toList=(k8 n).map (b[·%b.size]!):=by simp
 rw[e];unfold wG
 refine All2.map _ λi _=>?_
 have hi:i%a.length<a.length:=Nat.mod_lt _ (by omega);obtain⟨x,d,k⟩:=h.at (j8 hi)
 have g:a.getD (i%a.length) .any=a[i%a.length]:=by simp[List.getD,j8 hi]
 have j:b[i%b.size]! = x:=by
  rw[<-f];rw[Array.getElem?_toList]at d;rw[getElem!_def,d]
 rw[g,j];exact k
variable {pre post:LB}
theorem aHH {ys:LB}{off n:Nat}(h:off+n<=ys.length):((pre++ys++post).drop (pre.length+off)).take n=(ys.drop off).take n:=by
 rw[k9,l4,l5 (by omega:pre.length<=pre.length+off),l7,show pre.length+off-pre.length=off by omega,l8 (by omega),l9 (by rw[n4];omega)]
theorem aOW {w:Nat}{x:Value}(h:a[w]?=some x):(pre++a++post)[pre.length+w]?=some x:=by
 have b:=(List.getElem?_eq_some_iff.1 h).1;rw[k9,List.getElem?_append_right (by omega),show pre.length+w-pre.length=w by omega,List.getElem?_append_left b];exact h
theorem aMq {e b d:LB}{w:Nat}(h:w+d.length<=e.length):hX (a++e++b) (a.length+w) d=a++(e.take w++d++e.drop (w+d.length))++b:=by
 rw[Oj _ _ _ (by simp;omega)]
 have f:(a++e++b).take (a.length+w)=a++e.take w:=by
  rw[k9,List.take_append,n5 (by omega),show a.length+w-a.length=w by omega,l9 (by omega)]
 have g:(a++e++b).drop (a.length+w+d.length)=e.drop (w+d.length)++b:=by
  rw[k9,l4,l5 (by omega),l7,show a.length+w+d.length-a.length=w+d.length by omega,l8 (by omega)]
 rw[f,g];simp
theorem Kx {cs:List AC}(h:All2 (relC C φ ν w) cs a):∀y∈a,One y:=by
 intro y g;obtain⟨i,hi,e⟩:=List.getElem_of_mem g
 have b:i<cs.length:=by rw[h.len];exact hi
 obtain⟨j,d,f⟩:=h.at (j8 b);rw[j8 hi,e]at d;cases d;exact aK8 f
end
section
variable {C:fE} {φ:LI} {ν:LV} {w:World} {ρ:Operand->Value} {ev:Operand->AT} {bx:Nat->Option bL}{cs:List AC}
theorem Om {t:TypeId}(h:lF C.P t=some cs):∃v,(zeroValue t).run C.P w=.ok v w/\All2 (relC C φ ν w) cs v.cells.toList:=by
 unfold lF at h;obtain⟨v,d,a⟩:=aS h;obtain⟨i,e,j⟩:=aS d
 cases b:v.cells.toList.all C9 with
 |false=>rw[b]at a;cases a
 |true=>
  rw[b]at a;simp only[cond_true,B8]at a;subst a;refine⟨v,by simp[zeroValue,typeInfo,e,j],?_⟩;rw[j9]at b;have:=All2.map (R:=relC C φ ν w) (f:=qF) (g:=id) v.cells.toList (λx k=>aIt (b x k))
  simpa using this
theorem Zr:∀{d:List (Nat×Operand)} {b:List (Nat×AV)},(∀x,relT C φ ν w (ev x) (ρ x))->iV (d.map λ(i,x)=>(i,ev x))=some b->All2 (λp x=>p.1=x.1/\dU C φ ν w p.2 x.2) b (d.map λ(i,x)=>(i,ρ x))
 | [],b,a,h=>by simp[iV]at h;subst h;trivial
 |(i,x)::d,b,a,h=>by
  have f:=a x;simp only[n6]at h ⊢
  cases e:ev x with
  |val v=>
   rw[e]at h f;simp only[iV]at h;obtain⟨r,g,rfl⟩:=bU h;exact⟨⟨rfl,f⟩,Zr a g⟩
  |_=>rw[e]at h;simp[iV]at h
theorem aMY:∀{d:List Operand} {b:List AV},(∀x,relT C φ ν w (ev x) (ρ x))->qL (d.map ev)=some b->All2 (dU C φ ν w) b (d.map ρ)
 | [],b,a,h=>by simp[qL]at h;subst h;trivial
 |x::d,b,a,h=>by
  have f:=a x;simp only[n6]at h ⊢
  cases e:ev x with
  |val v=>
   rw[e]at h f;simp only[qL]at h;obtain⟨r,g,rfl⟩:=bU h;exact⟨f,aMY a g⟩
  |_=>rw[e]at h;simp[qL]at h
theorem aOD {t:TypeId}{b:Nat}{v:AV}(h:wF C.P t cs b=some v)(hc:All2 (relC C φ ν w) cs a):∃x,(part t a.toArray b).run C.P w=.ok x w/\dU C φ ν w v x:=by
 unfold wF at h;obtain⟨g,f,d⟩:=aS h
 cases g with
 |true=>
  simp only[cond_true]at d;obtain⟨n,e,rfl⟩:=bU d;refine⟨.agg (a.toArray.extract b (b+n)),by simp[part,Kp f,uC e],(a.drop b).take n,?_,(hc.drop b).take n⟩;congr 1;apply q7.1;simp[List.extract_eq_take_drop]
 |false=>
  simp only[cond_false]at d;obtain⟨c,e,rfl⟩:=bU d;obtain⟨x,i,j⟩:=hc.at e;exact⟨x,by simp[part,Kp f,i],j⟩
theorem aJL {b:List Field}{a:List (Nat×Nat)}(h:eZ (λ(f:Field)=>(iS C.P f.type).map λn=>(f.offset,n)) b=some a):(b.mapM λ(f:Field)=>Prod.mk f.offset <$> sizeOf f.type).run C.P w=.ok a w:=by
 induction b generalizing a with
 |nil=>simp[eZ]at h;subst h;simp
 |cons f b j=>
  unfold eZ at h;obtain⟨p,d,e⟩:=aS h;obtain⟨n,g,rfl⟩:=bU d;obtain⟨r,i,rfl⟩:=bU e;rw[List.mapM_cons];simp only[B0,B7,uC g,C6,B6,j i]
theorem aIn {place:LI}:∀{f:List (Nat×AV)} {cs b:List AC},kN place cs f=some b->b.length=cs.length
 | [],cs,b,h=>by simp[kN]at h;rw[h]
 |(i,v)::f,cs,b,h=>by
  unfold kN at h;obtain⟨⟨e,size⟩,g,a⟩:=aS h;simp only at a
  cases d:((cellsOf v).length==size&&u9 (e+size) cs.length)with
  |false=>rw[d]at a;cases a
  |true=>
   rw[d]at a;simp only[cond_true]at a;simp only[C0,beq_iff_eq,w9]at d;rw[aIn a];simp;omega
theorem aRw {t:TypeId}{x i:Operand}{b r len size:Nat}{y:IntKind}{v:Int}{e:nN}(hi:ρ i=.int y v)(u:relT C φ ν w (.val (.one (.dsl b r len size))) (ρ x))
  (h:((cT C.P t).bind λe=>(iS C.P e).bind λsz=>bif sz==size then some (nN.val (.val (.one (.ptr b 0))) [v=(r:Int)/\r<len])else none)=some e):uY C φ ν w bx ((do pure (D0 (<-A5 t (ρ x) (ρ i))):Sem Next).run C.P w) e:=by
 obtain⟨g,a,j⟩:=aS h;obtain⟨sz,l,h8⟩:=aS j;obtain⟨k,f,k1,z⟩:=u
 cases d:sz==size with
 |false=>rw[d]at h8;cases h8
 |true=>
  rw[d]at h8;simp only[cond_true,B8]at h8;subst h8
  have:sz=size:=by simpa using d
  subst this
  have s:C.P.underlying t=some (.slice g):=by
   unfold cT at a;split at a
   .rename_i e;cases a;exact e
   .cases a
  intro o;obtain⟨rfl,p⟩:=o.one
  have q:(r:Int)<(len:Int):=by omega
  exact⟨.pointer (some ⟨k,r*sz,none⟩),by simp[z,hi,A5,asIntOf,underlying,s,p,uC l,Fu],k,r*sz,k1,rfl⟩
variable {e:TypeId}{p:Nat}
theorem aHY {t g k ty:TypeId}{size sLen W j:Nat}{a:Addr}{i:Option Addr}{new:Array Value}{w:World}(l:P.underlying t=some (.slice e))(f:P.underlying g=some (.slice k))(d:iS P e=some size)
  (b:(n9 size W (.slice i W j)).run P w=.ok new w) (h:sLen+W<=p):
  (o8 #[t,g] ty #[.slice (some a) sLen p,.slice i W j]).run P w=((storeCells (a.add (sLen*size)) new.toList).run P w).andThen λ_ o=>.ok (.slice (some a) (sLen+W) p) o:=by
 simp[o8,underlying,l,f,uC d,Builtin.lenOf,h,b]
theorem aIq (m:Nat):∀(r c:Nat),o9 m r c<=(c+768)*2^r
 |0,c=>by simp[o9]
 |r+1,c=>by
  have e:(c+768)*2^(r+1)=((c+768)*2)*2^r:=by rw[Nat.pow_succ];grind
  unfold o9;split
  .have a:1<=2^(r+1):=Nat.one_le_two_pow;have:(c+768)*1<=(c+768)*2^(r+1):=Nat.mul_le_mul_left _ a;omega
  .refine s9 (aIq m r _) ?_;rw[e];exact z7 _ (by omega)
theorem aSz {need cap:Nat}(a:cap<need)(b:need<=100000):p7 need cap<=2000000:=by
 unfold p7;split
 .omega
 .split
  .omega
  .refine s9 (aIq need 4 cap) ?_;rw[show(2:Nat)^4=16 from rfl];omega
theorem aKm {t r v ty:TypeId}{size W u:Nat}{b s:Option Addr}{old new:Array Value}{i:TypeInfo}{w:World}(B:P.underlying t=some (.slice e))(q:P.underlying r=some (.slice v))(o:iS P e=some size)(hi:P.info? e=some i)(l:i.bytes<=1000000)
  (D:∀w,(zeroValue e).run P w=.ok x w)
  (hold:∀d,d.heap=w.heap->(n9 size k (.slice b k p)).run P d=.ok old d) (g:∀d,d.heap=w.heap->(n9 size W (.slice s W u)).run P d=.ok new d) (h:¬k+W<=p) (A:k+W<=100000):
  ∃a,k+W<=a/\(o8 #[t,r] ty #[.slice b k p,.slice s W u]).run P w=.ok (.slice (some ⟨w.heap.size,0,none⟩) (k+W) a) {w with heap:=w.heap.push (.cells (old++new++p8 x.cells (a-(k+W))) e),drawn:=w.drawn+1}:=by
 have E:¬((k+W:Nat):Int)>D7.max:=by
  have:D7.max=9223372036854775807:=by decide
  omega
 have y:¬(D7.max<(k:Int)+(W:Int)):=by
  have:D7.max=9223372036854775807:=by decide
  omega
 have z:¬(p7 (k+W) p*i.bytes>2^48):=by
  have:=aSz (need:=k+W) (cap:=p) (by omega) A;have:p7 (k+W) p*i.bytes<=2000000*1000000:=Nat.mul_le_mul this l;omega
 have j:¬(281474976710656<p7 (k+W) p*i.bytes):=by simpa using z
 refine⟨(Question.appendCap (k+W) p e).cut (w.tape w.drawn (.appendCap (k+W) p e)),by simp[Question.cut],?_⟩
 have f:¬((9223372036854775807:Int)<(k:Int)+(W:Int)):=by omega
 have d1:=hold w.drew rfl;have d2:=g w.drew rfl;simp[o8,underlying,B,q,uC o,Builtin.lenOf,h,typeInfo,hi,f,j,Question.forced,d1,d2,D,newRow];rfl
theorem aDJ {size:Nat}{w:World}:(n9 size 0 (.slice none 0 0)).run P w=.ok #[] w:=by simp[n9]
theorem Yu {size len:Nat}{pre ys:LB}{ty:TypeId}{m:Nat×Nat}{w:World}(h:w.heap[k]?=some (.cells (pre++ys++a).toArray ty m))(b:ys.length=len*size):(n9 size len (.slice (some ⟨k,pre.length,none⟩) len p)).run P w=.ok ys.toArray w:=by
 simp only[n9,loadCells];rw[Ts h pre.length (len*size) 0 #[] (by simp;omega),z6];have:=aHH (pre:=pre) (ys:=ys) (post:=a) (off:=0) (n:=len*size) (by omega);rw[z6]at this;rw[this];simp[<-b]
inductive rY (C:fE) (φ:LI) (ν:LV) (w:World) (bx:Nat->Option bL) (e:TypeId) (size:Nat) (v:Value):Option Nat->List AC->Nat->Prop where
 |nil:v=.slice none 0 0->rY C φ ν w bx e size v none [] 0
 |row (b:Nat) (B:bL) (k cap len:Nat) (pre ys post:LB) (h1:bx b=some B) (h2:B.ty=e) (h3:φ b=some (k,pre.length)) (h4:v=.slice (some ⟨k,pre.length,none⟩) len cap) (h5:len<=cap)
   (h6:w.heap[k]?=some (.cells (pre++ys++post).toArray e (0,0))) (h7:All2 (relC C φ ν w) B.cs ys) (h8:ys.length=len*size) (h9:cap*size<=ys.length+post.length):rY C φ ν w bx e size v (some b) B.cs len
theorem aLb {size:Nat}{t:AT}{old:FF}{len:Nat}(h:rowOf bx e size t=some (old,cs,len))(y:relT C φ ν w t x)(n:wQ C φ ν w bx):rY C φ ν w bx e size x old cs len:=by
 unfold rowOf at h;split at h
 .cases h;exact .nil y.1
 .rename_i b p a sz;obtain⟨B,u,f⟩:=aS h
  cases j:(p==0&&sz==size&&B.ty==e&&B.cs.length==a*size)with
  |false=>rw[j]at f;cases f
  |true=>
   rw[j]at f;simp only[cond_true,B8,Prod.mk.injEq]at f;obtain⟨rfl,rfl,rfl⟩:=f;simp only[C0,beq_iff_eq]at j;obtain⟨⟨⟨rfl,rfl⟩,rfl⟩,I⟩:=j;obtain⟨k,o,l,F,m,r,A,D,i,s⟩:=y;obtain⟨J,L,g,z,d,f1,f2,f3,q⟩:=n b B u;rw[r]at f1;cases f1;subst f3
   have E:m=(g++z++d).length:=by
    unfold C7 at i;rw[f2]at i;simp only[B8,Prod.mk.injEq]at i;rw[<-i.2];simp
   have H:=q.len;refine .row b B k l a g z d u rfl r (by rw[A];simp) D f2 q (by omega) ?_;rw[E]at s;simp at s;omega
 .cases h
theorem rY.cells {size:Nat}{old:FF}{len:Nat}(h:rY C φ ν w bx e size x old cs len):∃d:LB,d.length=len*size/\All2 (relC C φ ν w) cs d/\∀a,a.heap=w.heap->(n9 size len x).run C.P a=.ok d.toArray a:=by
 cases h with
 |nil h=>subst h;exact⟨[],by simp,trivial,λa _=>aDJ⟩
 |row b B k g _ o d f p q r i s j l h8 u=>
  subst i;exact⟨d,h8,l,λa n=>Yu (by rw[n];exact j) h8⟩
theorem aMW {args:Array Operand}{ts:Array TypeId}{o:Oper}{e:nN}(E:∀x,relT C φ ν w (ev x) (ρ x))(D:wQ C φ ν w bx)(d:evalOp C.P ev bx (.call { callee:=.builtin .append,args:=args,argTypes:=ts})=some e):
  uY C φ ν w bx ((do pure (D0 (<-o8 ts o.type (args.map ρ))):Sem Next).run C.P w) e:=by
 simp only[evalOp]at d;split at d
 .rename_i t O s x e1 e2;obtain⟨L,h1,d⟩:=aS d;obtain⟨a1,h2,d⟩:=aS d;obtain⟨size,T,d⟩:=aS d;obtain⟨i,z,d⟩:=aS d;obtain⟨zero,A,d⟩:=aS d;obtain⟨⟨old,cs,len⟩,h6,d⟩:=aS d;obtain⟨⟨aq,ds,n⟩,h7,d⟩:=aS d;simp only at d
  cases M:(u9 (len+n) 100&&u9 i.bytes 1000000&&!(n==0)&&!(size==0)&&zero.length==size&&kQ bx old)with
  |false=>rw[M]at d;cases d
  |true=>
   rw[M]at d;simp only[cond_true,B8]at d;subst d;simp only[C0,w9,C3,beq_eq_false_iff_ne,beq_iff_eq]at M;obtain⟨⟨⟨⟨⟨b1,b2⟩,b3⟩,b4⟩,b5⟩,b6⟩:=M
   have S:args=#[s,x]:=by apply q7.1;rw[e2]
   have et:ts=#[t,O]:=by apply q7.1;rw[e1]
   subst S et
   have I:∀{t e:TypeId},cT C.P t=some e->C.P.underlying t=some (.slice e):=by
    intro t e h;unfold cT at h;split at h
    .rename_i e;cases h;exact e
    .cases h
   have hu:=I h1;have H:=I h2;have rs:=aLb h6 (E s) D;have rx:=aLb h7 (E x) D;obtain⟨R,y1,y2,y3⟩:=rs.cells;obtain⟨q,z1,z2,z3⟩:=rx.cells;obtain⟨J,_,zr⟩:=Om (C:=C) (φ:=φ) (ν:=ν) (w:=w) A
   have hz:∀w,(zeroValue L).run C.P w=.ok J w:=by
    intro y;unfold lF at A;obtain⟨v,q1,q2⟩:=aS A;obtain⟨i',q3,q4⟩:=aS q1;rw[z]at q3;cases q3
    have e1:(zeroValue L).run C.P w=.ok v w:=by simp[zeroValue,typeInfo,z,q4]
    obtain⟨bf,e2,_⟩:=Om (C:=C) (φ:=φ) (ν:=ν) (w:=w) A;simp[zeroValue,typeInfo,z,q4]at*;assumption
   have W:J.cells.size=size:=by
    have:=zr.len;simp only[q8]at this;omega
   obtain⟨xo,xc,U⟩:∃xo xc,ρ x=.slice xo n xc:=by
    cases rx with
    |nil h=>exact⟨none,0,h⟩
    |row b B k j _ g R f h1 h2 T z A h6 h7 h8 h9=>exact⟨_,j,z⟩
   rw[U]at z3
   have u:∀(v:Value) (y:World),(o8 #[t,O] o.type #[ρ s,ρ x]).run C.P w=.ok v y->((do pure (D0 (<-o8 #[t,O] o.type (#[s,x].map ρ))):Sem Next).run C.P w)=.ok (.value v) y:=by
    intro v y h
    have e:#[s,x].map ρ=#[ρ s,ρ x]:=by simp
    rw[e,B0,h];rfl
   have r:∀(bo:Option Addr) (j:Nat),ρ s=.slice bo len j->¬len+n<=j->uY C φ ν w bx ((do pure (D0 (<-o8 #[t,O] o.type (#[s,x].map ρ))):Sem Next).run C.P w) (.app old (cs++ds) L (len+n) size):=by
    intro bo j hs hc;rw[hs]at y3;obtain⟨l,c1,c2⟩:=aKm (ty:=o.type) hu H T z b2 hz y3 z3 hc (s9 b1 (by decide));rw[<-hs,<-U]at c2;refine⟨_,_,l,u _ _ c2,c1,b6,Or.inl ⟨R++q,(p8 J.cells (l-(len+n))).toList,?_,rfl,y2.append z2,?_⟩⟩
    .have S:R.toArray++q.toArray++p8 J.cells (l-(len+n))=(R++q++(p8 J.cells (l-(len+n))).toList).toArray:=by
      apply q7.1;simp
     rw[S]
    .simp only[p8,Array.toList_map,List.length_map,q8,Array.size_range,n7];rw[y1,z1,W,<-z8,<-z8];exact z7 _ (by omega)
   cases rs with
   |nil h=>exact r none 0 h (by omega)
   |row b B k j _ g p f g1 g2 g3 g4 g5 g6 g7 g8 g9=>
    by_cases hc:len+n<=j
    .have F:=z3 w rfl;have N:=aHY (ty:=o.type) (a:=⟨k,g.length,none⟩) hu H T F hc
     have a6:n*size<=f.length:=by
      have:(len+n)*size<=j*size:=z7 _ hc;rw[z8]at this;omega
     obtain⟨y,s1,X⟩:=Tm (P:=C.P) (g.length+len*size) q 0 w (g++p++f) g6 (by simp;omega) (Kx z2);rw[Fu,List.toList_toArray,s1]at N;simp only[C6]at N;rw[<-g4,<-U]at N;rw[z6,Oj _ _ _ (by simp;omega)]at X
     have t1:(g++p++f).take (g.length+len*size)=g++p:=by
      rw[l9 (by simp;omega),n5 (by simp;omega)]
     have t2:(g++p++f).drop (g.length+len*size+q.length)=f.drop q.length:=by
      rw[l4,l5 (by simp;omega),l7];congr 1;simp;omega
     rw[t1,t2]at X
     have Y:fZ w y k (g++(p++q)++f.drop q.length) L:=by
      rw[<-k9 g];exact X
     refine⟨_,y,j,u _ _ N,hc,b6,Or.inr ⟨b,B,k,g.length,g,p,f,q,f.drop q.length,rfl,g1,g2,g3,rfl,g6,rfl,g7,Y,?_,g7.append z2,?_⟩⟩
     .simp;omega
     .simp;omega
    .exact r _ j g4 hc
 .cases d
theorem wS {o:Oper}{e:nN}(l:∀x,relT C φ ν w (ev x) (ρ x))(aq:wQ C φ ν w bx)(bf:∀f,ρ (.func f)=.func (.func f) #[] #[])(be:∀f vs,e=.call f vs->∀xs w,(callFunc f xs).run C.P w=.ok (.enter f xs) w)
  (h:evalOp C.P ev bx o.op=some e):uY C φ ν w bx ((execOp ρ o).run C.P w) e:=by
 unfold execOp;generalize o.op=op at h
 cases op with
 |move x=>simp[evalOp]at h;subst h;exact λ_=>⟨_,rfl,l x⟩
 |assign x=>simp[evalOp]at h;subst h;exact λ_=>⟨_,rfl,l x⟩
 |pick c a b=>
  unfold evalOp at h;obtain⟨cc,D,j⟩:=aS h;have hc:=l c;rw[pY D]at hc;have ha:=l a;have A:=l b
  cases cc<;>simp only at j
  case bool t=>
   simp at j;subst j;have hc:ρ c=.bool t:=hc
   refine λ_=>⟨if t=true then ρ a else ρ b,by simp[hc,asBool],?_⟩
   cases t
   .exact A
   .exact ha
  case sbool t=>
   have hc:ρ c=.bool t:=hc
   have run:((do pure (.value (if <-asBool (ρ c)then ρ a else ρ b))):Sem Next).run C.P w=.ok (.value (if t=true then ρ a else ρ b)) w:=by simp[hc,asBool]
   split at j<;>(try cases j)<;>(simp only[*]at ha A)<;>(refine λU=>⟨_,run,?_⟩)<;>cases t<;>simp only[relT,dU,relC,cond_true,cond_false,if_true,B9,if_false]at*
   all_goals first
    |exact A
    |exact ha
    |(have U:=U.one;simp at U;simp[U]at ha A;first|exact A|exact ha)
  all_goals cases j
 |alloc t=>
  unfold evalOp at h;obtain⟨cs,D,rfl⟩:=bU h;obtain⟨v,j,z⟩:=Om (φ:=φ) (ν:=ν) (w:=w) D;exact⟨v.cells.toList,by simp[Instr.alloc,j,newVar,newRow,xY],z,λ_ _ e=>by cases e⟩
 |box t x=>
  unfold evalOp at h;obtain⟨v,D,rfl⟩:=bU h;have q:=l x;rw[Cg D]at q;exact⟨(ρ x).cells.toList,by simp[Instr.box,newVar,newRow,xY],Zy q,λ_ _ e=>by cases e⟩
 |build t L=>
  unfold evalOp at h;obtain⟨zero,D,j⟩:=aS h;obtain⟨ps,z,F⟩:=aS j;obtain⟨cs,p,rfl⟩:=bU F;obtain⟨zv,hz,ak⟩:=Om (φ:=φ) (ν:=ν) (w:=w) D;have aj:=Zr l z;intro _
  cases J:C.P.underlying t with
  |none=>rw[J]at p;cases p
  |some d=>
   rw[J]at p
   cases d<;>simp only at p<;>try cases p
   case struct fs=>
    obtain⟨Y,I,N⟩:=aS p;obtain⟨out,h8,h9⟩:=Uy N ak aj;refine⟨.agg out.toArray,?_,out,rfl,h9⟩;have hm:=aJL (w:=w) I
    have e1:(fs.mapM λ(f:Field)=>Prod.mk f.offset <$> sizeOf f.type).run C.P w=.ok Y.toArray w:=by
     rw[<-Array.toArray_toList (xs:=fs),List.mapM_toArray];simp only[B7];rw[hm];rfl
    have ao:A0 (λx=>Y[x]?) zv.cells (n8 (λx=>(x.fst,ρ x.snd)) L.toList)=some out.toArray:=by
     rw[<-h8]
    simp[A6,hz,underlying,J,e1,ao]
   case array n el=>
    obtain⟨sz,I,N⟩:=aS p;obtain⟨out,h8,h9⟩:=Uy N ak aj;refine⟨.agg out.toArray,?_,out,rfl,h9⟩
    have ao:A0 (λi=>some (i*sz,sz)) zv.cells (L.toList.map λ(i,x)=>(i,ρ x))=some out.toArray:=by
     rw[<-h8]
    simp[A6,hz,underlying,J,uC I,ao]
 |buildSlice t len L=>
  simp only[evalOp]at h;obtain⟨e1,D,j⟩:=aS h;obtain⟨size,z,F⟩:=aS j;obtain⟨zero,p,I⟩:=aS F
  cases A:(u9 (len*size) 16777216&&!(zero.length==0))with
  |false=>rw[A]at I;cases I
  |true=>
   rw[A]at I;simp only[cond_true]at I;simp only[C0,w9,C3,beq_eq_false_iff_ne]at A;obtain⟨ps,N,h8⟩:=aS I;obtain⟨cs,h9,rfl⟩:=bU h8;obtain⟨zv,hz,ak⟩:=Om (φ:=φ) (ν:=ν) (w:=w) p;have aj:=Zr l N;have a4:=aQL ak A.2 (len*size);obtain⟨out,k1,E⟩:=Uy h9 a4 aj
   have J:C.P.underlying t=some (.slice e1):=by
    unfold cT at D;split at D
    .rename_i e;cases D;exact e
    .cases D
   have a2:out.length=len*size:=by
    have e1:=E.len;rw[<-e1,aIn h9];simp[wG]
   refine⟨out,?_,E,λn sz e=>by cases e;exact a2⟩
   have M:A0 (λi=>some (i*size,size)) (s4 (λx=>zv.cells[x%zv.cells.size]!) (q9 (len*size))) (n8 (λx=>(x.fst,ρ x.snd)) L.toList)=some out.toArray:=by
    rw[<-k1]
   by_cases h0:len*size=0
   .have a6:A0 (λi=>some (i*size,size)) #[] (n8 (λx=>(x.fst,ρ x.snd)) L.toList)=some out.toArray:=by
     rw[h0]at M
     have e0:s4 (λx=>zv.cells[x%zv.cells.size]!) (q9 0)=#[]:=by apply q7.1;simp
     rw[e0]at M;exact M
    have e0:q9 0=#[]:=by apply q7.1;simp
    simp[A7,underlying,J,uC z,h0,e0,a6,newRow,xY]
   .have:¬16777216<len*size:=by omega
    simp[A7,underlying,J,uC z,h0,this,hz,M,newRow,xY]
 |convert b4 a9 x=>
  simp only[evalOp]at h;obtain⟨c,D,j⟩:=aS h;obtain⟨⟨s,k,n⟩,z,F⟩:=aS j;obtain⟨d1,p,I⟩:=aS F;have q:=l x;rw[pY D]at q;have ex:=Wc z q
  cases J:C.P.underlying a9 with
  |none=>rw[J]at I;cases I
  |some d=>
   rw[J]at I
   cases d<;>simp only at I<;>try cases I
   case int.refl k'=>
    exact λ_=>⟨.int k' (k'.wrap n),by simp[convert,underlying,p,J,ex,Conv.intToInt],Wh _ _ _⟩
 |load t a=>
  unfold evalOp at h;obtain⟨c,D,j⟩:=aS h;have ha:=l a;rw[pY D]at ha
  cases c<;>simp only at j<;>try cases j
  case ptr b off=>
   obtain⟨B,z,F⟩:=aS j;obtain⟨v,p,rfl⟩:=bU F;obtain⟨k,o,T,xs,S,k1,E,k0,W⟩:=aq b B z;obtain⟨k',o',M,X⟩:=ha;rw[k1]at M;cases M;subst k0;intro _;unfold vY at p;obtain⟨g,g1,O⟩:=aS p
   cases g with
   |true=>
    simp only[cond_true]at O;obtain⟨n,g3,R⟩:=aS O
    cases A:u9 (off+n) B.cs.length with
    |false=>rw[A]at R;cases R
    |true=>
     rw[A]at R;simp only[cond_true,B8]at R;subst R;rw[w9,W.len]at A;refine⟨.agg ((xs.drop off).take n).toArray,?_,_,rfl,(W.drop off).take n⟩;simp only[X,A8,A9,loadVar,loadCells,B0,B6,C6,Kp g1,uC g3,if_true,Ts E (T.length+off) n 0 #[] (by simp;omega),z6,aHH A];simp
   |false=>
    simp only[cond_false]at O;obtain⟨c,g3,rfl⟩:=bU O;obtain⟨x,R,g5⟩:=W.at g3;have sg:=aOW (pre:=T) (post:=S) R;rw[k9]at sg;exact⟨x,by simp[X,A8,A9,loadVar,Kp g1,Ls E,sg],g5⟩
 |store t a x=>
  unfold evalOp at h;obtain⟨c,D,j⟩:=aS h;have ha:=l a;rw[pY D]at ha
  cases c<;>simp only at j<;>try cases j
  case ptr b off=>
   obtain⟨v,z,F⟩:=aS j;obtain⟨B,p,ah⟩:=aS F
   have a3:B.ro=false:=by
    cases X:B.ro with
    |false=>rfl
    |true=>rw[X]at ah;cases ah
   rw[a3]at ah;have I:(uW C.P t B.cs off v).map (λcs=>nN.nB b cs)=some e:=ah;obtain⟨cs,N,rfl⟩:=bU I;have q:=l x;rw[Cg z]at q;obtain⟨k,o,T,xs,S,k1,E,k0,W⟩:=aq b B p;obtain⟨k',o',M,X⟩:=ha;rw[k1]at M;cases M;subst k0;unfold uW at N;obtain⟨n,g1,O⟩:=aS N
   cases A:((cellsOf v).length==n&&u9 (off+n) B.cs.length)with
   |false=>rw[A]at O;cases O
   |true=>
    rw[A]at O;simp only[cond_true,B8]at O;subst O;simp only[C0,beq_iff_eq,w9]at A;obtain⟨b1,b2⟩:=A;have ar:=Zy q;have hl:=ar.len;have br:=W.len;simp only[q8]at hl
    have e:(ρ x).cells.toList.length=n:=by simp;omega
    obtain⟨w',s1,s2⟩:=Tm (P:=C.P) (T.length+off) (ρ x).cells.toList 0 w (T++xs++S) E (by simp;omega) (Kx ar);rw[z6,aMq (by rw[e];omega),e]at s2;refine⟨B,k,T.length,w',T,xs,S,_,p,a3,k1,?_,s2,E,rfl,?_,All2.append (All2.append (W.take off) ar) (W.drop _),by simp;omega⟩
    .have:(ρ x).cells.size=n:=by omega
     simp[X,Instr.storeAt,A9,storeVar,uC g1,this,s1]
    .simp only[n7,List.length_take,n4,e];omega
 |nilCheck x=>
  unfold evalOp at h;obtain⟨c,D,j⟩:=aS h;have q:=l x;rw[pY D]at q
  cases c<;>simp only at j<;>cases j
  case ptr.refl b off=>
   intro _;obtain⟨k,o,k1,E⟩:=q;exact⟨ρ x,by simp[E],k,o,k1,E⟩
 |binOp op t x y u=>
  unfold evalOp at h;obtain⟨a,D,j⟩:=aS h;obtain⟨b,z,F⟩:=aS j;obtain⟨c,p,rfl⟩:=bU F;have q:=l x;rw[pY D]at q;have hy:=l y;rw[pY z]at hy;unfold Qi at p;split at p
  .rename_i b1 o1;obtain⟨k,o,k1,E⟩:=q;obtain⟨W,_⟩:=hy
   cases U:oF C.P t with
   |false=>rw[U]at p;cases p
   |true=>
    rw[U]at p;obtain⟨v,r1,r2⟩:=aOg (C:=C) (φ:=φ) (ν:=ν) (w:=w) (a:=some ⟨k,o+o1,none⟩) (x:=x) (y:=y) U p
    exact λ_=>⟨v,by rw[<-E,<-W]at r1;simp only[B0]at r1 ⊢;rw[r1];rfl,r2⟩
  .obtain⟨E,_⟩:=q;obtain⟨W,_⟩:=hy
   cases U:oF C.P t with
   |false=>rw[U]at p;cases p
   |true=>
    rw[U]at p;obtain⟨v,r1,r2⟩:=aOg (C:=C) (φ:=φ) (ν:=ν) (w:=w) (a:=none) (x:=x) (y:=y) U p
    exact λ_=>⟨v,by
     show((do eqGuard op t x y (ρ x) (ρ y);binOp op t (ρ x) (ρ y):Sem Value) >>= λv=>pure (D0 v):Sem Next).run C.P w=_;rw[E,W,B0,r1]
     rfl,r2⟩
  .obtain⟨E,_⟩:=q;obtain⟨W,_⟩:=hy;obtain⟨v,r1,r2⟩:=aT5 (C:=C) (φ:=φ) (ν:=ν) (w:=w) (t:=t) (x:=x) (y:=y) p
   exact λ_=>⟨v,by
     show((do eqGuard op t x y (ρ x) (ρ y);binOp op t (ρ x) (ρ y):Sem Value) >>= λv=>pure (D0 v):Sem Next).run C.P w=_;rw[E,W,B0,r1]
     rfl,r2⟩
  .cases ap:sN a with
   |some sb=>
    obtain⟨s,b1⟩:=sb;rw[ap]at p;simp only at p;obtain⟨⟨s',b2⟩,g1,O⟩:=aS p;simp only at O;have E:=aKs ap q;have W:=aKs g1 hy
    cases U:nS C.P t with
    |false=>rw[U]at O;cases O
    |true=>
     rw[U]at O;obtain⟨v,r1,r2⟩:=aPL (C:=C) (φ:=φ) (ν:=ν) (w:=w) (x:=x) (y:=y) U O
     exact λ_=>⟨v,by
      show((do eqGuard op t x y (ρ x) (ρ y);binOp op t (ρ x) (ρ y):Sem Value) >>= λv=>pure (D0 v):Sem Next).run C.P w=_;rw[E,W,B0,r1]
      rfl,r2⟩
   |none=>
   rw[ap]at p;simp only at p;obtain⟨⟨s,k,n⟩,g1,O⟩:=aS p;obtain⟨⟨s',k',n'⟩,g3,R⟩:=aS O;simp only at R;have ex:=Wc g1 q;have ey:=Wc g3 hy;split at R
   .rename_i hk;subst hk;split at R
    .rename_i c' A;cases R;obtain⟨v,r1,r2⟩:=aSx (C:=C) (φ:=φ) (ν:=ν) (w:=w) (t:=t) A
     exact λ_=>⟨v,by simp[ex,ey,eqG,r1],r2⟩
    .cases A:(s'&&!(n'==0))with
     |false=>rw[A]at R;cases R
     |true=>
      rw[A]at R
      have hn:n'≠0:=by simp at A;exact A.2
      obtain⟨v,r1,r2⟩:=aSR (C:=C) (φ:=φ) (ν:=ν) (w:=w) (t:=t) hn R
      exact λ_=>⟨v,by simp[ex,ey,eqG,r1],r2⟩
   .cases R
 |unOp op t x=>
  cases op<;>simp only[evalOp]at h<;>try cases h
  case neg=>
   obtain⟨c,D,j⟩:=aS h;obtain⟨⟨s,k,n⟩,z,rfl⟩:=bU j;have q:=l x;rw[pY D]at q;have ex:=Wc z q
   exact λ_=>⟨.int k (k.wrap (0-n)),by simp[ex,D6,D1],Wh _ _ _⟩
  case not=>
   obtain⟨c,D,j⟩:=aS h;have q:=l x;rw[pY D]at q
   cases c<;>simp only at j<;>cases j
   .rename_i b;have q:ρ x=.bool b:=q
    exact λ_=>⟨.bool !b,by simp[q,D6],rfl⟩
   .rename_i b;have q:ρ x=.bool b:=q
    exact λ_=>⟨.bool !b,by simp[q,D6],rfl⟩
 |fieldAddr t x f=>
  unfold evalOp at h;obtain⟨c,D,j⟩:=aS h;have q:=l x;rw[pY D]at q
  cases c<;>simp only at j<;>try cases j
  case ptr b off=>
   obtain⟨fs,z,F⟩:=aS j;obtain⟨fd,p,I⟩:=aS F;obtain⟨n,N,h8⟩:=aS I;obtain⟨k,o,k1,E⟩:=q
   cases hn:n==0 with
   |true=>rw[hn]at h8;cases h8
   |false=>
    rw[hn]at h8;simp only[cond_false,B8]at h8;subst h8
    have bg:n≠0:=by simpa using hn
    have J:C.P.underlying t=some (.struct fs):=by
     unfold fieldsOf at z;split at z
     .rename_i e;cases z;exact e
     .cases z
    intro _;exact⟨.pointer (some ⟨k,o+off+fd.offset,none⟩),by simp[E,Instr.fieldAt,underlying,J,p,A9,fieldPlace,uC N,bg,Fu],k,o,k1,by rw[u7]⟩
 |field t x f=>
  unfold evalOp at h;obtain⟨v,D,j⟩:=aS h;have q:=l x;rw[Cg D]at q
  cases v<;>simp only at j<;>try cases j
  case agg cs=>
   obtain⟨fs,z,F⟩:=aS j;obtain⟨fd,p,I⟩:=aS F;obtain⟨v,N,rfl⟩:=bU I;obtain⟨xs,e,X⟩:=q;obtain⟨y,y1,y2⟩:=aOD N X
   have J:C.P.underlying t=some (.struct fs):=by
    unfold fieldsOf at z;split at z
    .rename_i e;cases z;exact e
    .cases z
   exact λ_=>⟨y,by simp[e,Instr.field,underlying,J,p,asAgg,y1],y2⟩
 |indexAddr t x i=>
  unfold evalOp at h;obtain⟨c,D,j⟩:=aS h;have hi:=l i;rw[pY D]at hi
  cases c<;>simp only at j<;>try cases j
  case int ik n=>
   obtain⟨c,z,F⟩:=aS j;have q:=l x;rw[pY z]at q;have hi:ρ i=.int ik n:=hi
   cases c<;>simp only at F<;>try cases F
   case ptr b off=>
    obtain⟨⟨len,e⟩,p,I⟩:=aS F;obtain⟨sz,N,h8⟩:=aS I;obtain⟨k,o,k1,E⟩:=q;simp only at N h8
    cases A:(decide (0<=n)&&decide (n<len))with
    |false=>rw[A]at h8;cases h8
    |true=>
     rw[A]at h8;simp only[cond_true,B8]at h8;subst h8;simp at A
     have J:C.P.underlying t=some (.array len e):=by
      unfold nQ at p;split at p
      .rename_i e;cases p;exact e
      .cases p
     exact λ_=>⟨.pointer (some ⟨k,o+off+n.toNat*sz,none⟩),by simp[E,hi,A5,asIntOf,underlying,J,A9,A,uC N,Fu],k,o,k1,by rw[u7]⟩
   case slc b off len cap=>
    obtain⟨e,p,I⟩:=aS F;obtain⟨sz,N,h8⟩:=aS I;obtain⟨k,o,cp,_,_,k1,E,_⟩:=q
    cases A:(decide (0<=n)&&decide (n<len))with
    |false=>rw[A]at h8;cases h8
    |true=>
     rw[A]at h8;simp only[cond_true,B8]at h8;subst h8;simp at A
     have J:C.P.underlying t=some (.slice e):=by
      unfold cT at p;split at p
      .rename_i e;cases p;exact e
      .cases p
     exact λ_=>⟨.pointer (some ⟨k,o+off+n.toNat*sz,none⟩),by simp[E,hi,A5,asIntOf,underlying,J,A9,A,uC N,Fu],k,o,k1,by rw[u7]⟩
   case dsl b r len size=>
    exact aRw hi q F
  case sint ik n=>
   obtain⟨c,z,F⟩:=aS j;have q:=l x;rw[pY z]at q;have hi:ρ i=.int ik n:=hi
   cases c<;>simp only at F<;>try cases F
   case dsl b r len size=>
    exact aRw hi q F
 |index t x i=>
  unfold evalOp at h;obtain⟨c,D,j⟩:=aS h;have hi:=l i;rw[pY D]at hi
  cases c<;>simp only at j<;>try cases j
  case int ik n=>
   obtain⟨v,z,F⟩:=aS j;have q:=l x;rw[Cg z]at q;have hi:ρ i=.int ik n:=hi
   cases v<;>simp only at F<;>try cases F
   case agg cs=>
    obtain⟨⟨len,e⟩,p,I⟩:=aS F;obtain⟨sz,N,h8⟩:=aS I;simp only at N h8
    cases A:(decide (0<=n)&&decide (n<len))with
    |false=>rw[A]at h8;cases h8
    |true=>
     rw[A]at h8;simp only[cond_true]at h8;obtain⟨v,h9,rfl⟩:=bU h8;simp at A
     have J:C.P.underlying t=some (.array len e):=by
      unfold nQ at p;split at p
      .rename_i e;cases p;exact e
      .cases p
     obtain⟨xs,ex,X⟩:=q;obtain⟨y,y1,y2⟩:=aOD h9 X
     exact λ_=>⟨y,by simp[ex,hi,Instr.index,asIntOf,underlying,J,A,uC N,y1],y2⟩
 |extract x i=>
  simp only[evalOp]at h;have q:=l x
  cases ht:ev x<;>rw[ht]at h q<;>simp only at h<;>try cases h
  case tup vs=>
   obtain⟨v,D,rfl⟩:=bU h;obtain⟨xs,e,X⟩:=q;obtain⟨y,y1,y2⟩:=X.at D
   exact λ_=>⟨y,by simp[e,Instr.extract,y1],y2⟩
 |call c=>
  obtain⟨af,args,H⟩:=c
  cases af with
  |value f=>
   cases f with
   |func f=>
    simp only[evalOp]at h;obtain⟨vs,D,rfl⟩:=bU h;have X:=aMY l D;refine⟨args.toList.map ρ,?_,X⟩
    have e:(args.toList.map ρ).toArray=args.map ρ:=by apply q7.1;simp
    rw[e];have:=be f vs rfl (args.map ρ) w;simp[resolve,bf,Deferred.ofValue,invoke,this]
   |_=>simp[evalOp]at h
  |builtin b=>
   cases b<;>try (simp[evalOp]at h;done)
   case len=>
    simp only[evalOp]at h;split at h
    .rename_i t x e1 e2;obtain⟨c,D,j⟩:=aS h;have q:=l x;rw[pY D]at q
     cases c<;>simp only at j<;>try cases j
     case slc b off len cap=>
      obtain⟨el,z,rfl⟩:=bU j;obtain⟨k,o,cp,_,_,k1,E,_⟩:=q
      have J:C.P.underlying t=some (.slice el):=by
       unfold cT at z;split at z
       .rename_i e;cases z;exact e
       .cases z
      have ea:args=#[x]:=by apply q7.1;rw[e2]
      have et:H=#[t]:=by apply q7.1;rw[e1]
      subst ea et
      exact λ_=>⟨.int .i64 len,by simp[resolve,invoke,builtin,p9,underlying,J,E,goInt],rfl⟩
     case dsl b r len size=>
      obtain⟨el,z,rfl⟩:=bU j;obtain⟨k,cp,k1,E⟩:=q
      have J:C.P.underlying t=some (.slice el):=by
       unfold cT at z;split at z
       .rename_i e;cases z;exact e
       .cases z
      have ea:args=#[x]:=by apply q7.1;rw[e2]
      have et:H=#[t]:=by apply q7.1;rw[e1]
      subst ea et
      exact λ_=>⟨.int .i64 len,by simp[resolve,invoke,builtin,p9,underlying,J,E,goInt],rfl⟩
     case lit v=>
      cases hn:Ep v with
      |false=>rw[hn]at j;cases j
      |true=>
       rw[hn]at j;simp only[cond_true]at j;obtain⟨el,z,rfl⟩:=bU j;obtain⟨c,rfl⟩:=aTo hn;have E:ρ x=.slice none 0 c:=q.1
       have J:C.P.underlying t=some (.slice el):=by
        unfold cT at z;split at z
        .rename_i e;cases z;exact e
        .cases z
       have ea:args=#[x]:=by apply q7.1;rw[e2]
       have et:H=#[t]:=by apply q7.1;rw[e1]
       subst ea et
       exact λ_=>⟨.int .i64 0,by simp[resolve,invoke,builtin,p9,underlying,J,E,goInt],rfl⟩
    .cases h
   case append=>
    have:=aMW (o:=o) l aq h;exact this
  |_=>simp[evalOp]at h
 |_=>simp[evalOp]at h
end
end Ab
end Go.Proofs.YtpdflaaamaokbaaGreatDoor
