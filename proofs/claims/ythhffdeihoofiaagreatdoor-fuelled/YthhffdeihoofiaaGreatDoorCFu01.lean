import Derived.Test.YthhffdeihoofiaaGreatDoorCFu00
import Derived.Test.YthhffdeihoofiaaGreatDoorRows
import Derived.WalkKit
import Derived.WalkSpells
import Derived.WalkLawsBesides
set_option linter.all false
set_option maxRecDepth 100000
set_option maxHeartbeats 2000000
namespace Go.Proofs.YthhffdeihoofiaaGreatDoor
open Nat (add_zero zero_add zero_le)
open Option (map_some toList_some)
open List (mem_cons map_congr_left mem_map mem_flatMap all_eq_true)
open Bool (or_eq_true and_eq_true)
open Go.Proofs.Tryz
open Go.RowKit
namespace Ab
inductive K (F:Type) where
 |code (c:Code)
 |bV (id:Nat)
 |lp (b:Code) (n:Nat)
 |ops (all:Array Oper) (rest:PH)
 |fr (fn:Func) (dst:Option Tmp) (f:F)
 |top (fn:Func)
inductive Tr where
 |ret (r:AT) (s:AS)
 |br (t:Bool) (a b:Tr)
 |need (p:List Prop) (t:Tr)
 |stop (ks:List (K (List AT))) (s:AS)
def Tr.ok (G:AT->AS->Prop)(H:List (K (List AT))->AS->Prop):Tr->Prop
 |.ret r s=>G r s
 |.br t a b=>(t=true->a.ok G H)/\(t=false->b.ok G H)
 |.need p t=>Holds p/\t.ok G H
 |.stop d s=>H d s
def wrap:List Prop->Tr->Tr
 | [],t=>t
 |p::a,t=>.need (p::a) t
theorem Wi {G:AT->AS->Prop}{H:List (K (List AT))->AS->Prop}{a:List Prop}{t:Tr}(h:(wrap a t).ok G H):Holds a/\t.ok G H:=by
 cases a with
 |nil=>exact⟨gG,h⟩
 |cons p a=>exact h
def dJ {F:Type}:List (K F)->List (K F)
 |.fr fn d f::a=>.fr fn d f::a
 |.top fn::a=>.top fn::a
 |_::a=>dJ a
 | []=>[]
def bZ {F:Type}(id:Nat):List (K F)->Option (List (K F))
 |.bV i::a=>bif i==id then some a else bZ id a
 |.fr ..::_=>none
 |.top _::_=>none
 |_::a=>bZ id a
 | []=>none
def oX (P:Program)(s:AS):ResultVar->Option AV
 |.tmp t=>Iy (s.tmps.getD t .fX)
 |.cell a t=>(eV (s.tmps.getD a .fX)).bind fun
   |.ptr b d=>(look s.boxes b).bind fun B=>wJ P t B.cs d
   |_=>none
def Ex (P:Program)(fn:Func)(s:AS):Option AT:=
 (fB (oX P s) fn.results.toList).map fun
  | [v]=>.val v
  |vs=>.tup vs
section
variable (C:fG) (sp:Spec) (bodies:FF) (draw:Array Oper->AS->Option (AS×List Prop)) (stp:List (K (List AT))->Bool)
def splitOn (all:Array Oper)(a:List AT)(o:Oper):Option (Nat×Bool):=
 o.guard.bind fun(g,_)=>((all[g]?).bind (·.dst)).bind fun d=>match a[d]? with
  |some (.val (.one (.sbool t)))=>some (d,t)
  |_=>none
def inl (all:Array Oper)(s:AS)(o:Oper):Option (Func×Code×List AV):=
 match gd all s.tmps o with
 |.yes=>(evalOp C.P (iY s.tmps) (look s.boxes) o.op).bind fun
   |.call f a=>(bodies f).bind fun fn=>fn.body.map fun c=>(fn,c,a)
   |_=>none
 |_=>none
def run:Nat->List (K (List AT))->AS->Option Tr
 |0,_,_=>none
 |f+1,e,s=>bif stp e then some (.stop e s)else match e with
  | []=>none
  |.top fn::_=>(Ex C.P fn s).map fun r=>.ret r s
  |.fr fn h l::e=>(Ex C.P fn s).bind fun r=>run f e {s with tmps:=putT l h r}
  |.bV _::e=>run f e s
  |.lp b 0::e=>none
  |.lp b (n+1)::e=>run f (.code b::.lp b n::e) s
  |.ops _ []::e=>run f e s
  |.ops all (i::g)::e=>(all[i]?).bind fun o=>
   match splitOn all s.tmps o with
   |some (d,t)=>(run f (.ops all (i::g)::e) {s with tmps:=s.tmps.set d (.val (.one (.bool true)))}).bind fun x=>(run f (.ops all (i::g)::e) {s with tmps:=s.tmps.set d (.val (.one (.bool false)))}).map fun y=>.br t x y
   |none=>
   match wU C sp all s o with
   |some (j,p)=>(run f (.ops all g::e) j).map (wrap p)
   |none=>match inl C bodies all s o with
    |some (fn,c,k)=>run f (.code c::.fr fn o.dst s.tmps::.ops all g::e) {s with tmps:=k.map .val++List.replicate (fn.ntmps-k.length) .fX}
    |none=>none
  |.code c::e=>match c with
   |.skip=>run f e s
   |.seq a b=>run f (.code a::.code b::e) s
   |.block id b=>run f (.code b::.bV id::e) s
   |.loop b=>run f (.lp b f::e) s
   |.exit id=>(bZ id e).bind fun e=>run f e s
   |.ret=>run f (dJ e) s
   |.cond x a b=>(eV (iY s.tmps x)).bind fun
    |.bool t=>run f (.code (bif t then a else b)::e) s
    |.sbool t=>(run f (.code a::e) s).bind fun x=>(run f (.code b::e) s).map fun y=>.br t x y
    |_=>none
   |.region _ ops false=>run f (.ops ops (List.range ops.size)::e) s
   |.region _ ops true=>(draw ops s).bind fun(j,p)=>(run f e j).map (wrap p)
   |_=>none
end
def gC (P:Program)(R:NN):List (K Act)->Exit->Act->World->Prop
 | []=>fun _ _ _=>False
 |.code c::ks=>Exit.then (c.wp P (gC P R ks)) (gC P R ks)
 |.bV id::ks=>Exit.inBlock id (gC P R ks)
 |.lp b n::ks=>Exit.then (Code.rounds P b (gC P R ks) n) (gC P R ks)
 |.ops all d::ks=>Exit.then (wpOps P all (gC P R ks) d) (gC P R ks)
 |.fr fn dst a::ks=>bodyPost P fn fun e w=>match e with|.returned v=>gC P R ks .normal (a.put dst v) w|_=>False
 |.top fn::_=>bodyPost P fn R
def SR (C:fG)(φ:LI)(ν:LV)(w:World):List (K (List AT))->List (K Act)->Prop
 | [],[]=>True
 |.code c::ks,.code h::kcs=>h=c/\SR C φ ν w ks kcs
 |.bV i::ks,.bV k::kcs=>k=i/\SR C φ ν w ks kcs
 |.lp b n::ks,.lp g l::kcs=>g=b/\l=n/\SR C φ ν w ks kcs
 |.ops a r::ks,.ops f o::kcs=>f=a/\o=r/\SR C φ ν w ks kcs
 |.fr fn d p::ks,.fr e j a::kcs=>e=fn/\j=d/\a.defers=[]/\All2 (relT C φ ν w) p a.tmps.toList/\SR C φ ν w ks kcs
 |.top fn::ks,.top e::kcs=>e=fn/\SR C φ ν w ks kcs
 |_,_=>False
section
variable {C:fG} {w0:World} {ψ:LI} {sp:Spec} {bodies:FF} {draw:Array Oper->AS->Option (AS×List Prop)} {R:NN}
theorem SR.ext {φ I:LI}{ν k:LV}{n o:World}(j:Ext C φ I ν k n o):∀{g:List (K (List AT))} {f:List (K Act)},SR C φ ν n g f->SR C I k o g f
 | [],[],_=>trivial
 |.code c::g,.code s::f,h=>⟨h.1,SR.ext j h.2⟩
 |.bV i::g,.bV v::f,h=>⟨h.1,SR.ext j h.2⟩
 |.lp b e::g,.lp q x::f,h=>⟨h.1,h.2.1,SR.ext j h.2.2⟩
 |.ops a r::g,.ops p y::f,h=>⟨h.1,h.2.1,SR.ext j h.2.2⟩
 |.fr fn d z::g,.fr l u a::f,h=>⟨h.1,h.2.1,h.2.2.1,h.2.2.2.1.mono (xQ j),SR.ext j h.2.2.2.2⟩
 |.top fn::g,.top l::f,h=>⟨h.1,SR.ext j h.2⟩
theorem SR.dJ {φ:LI}{ν:LV}{n w':World}{a:Act}:∀{g:List (K (List AT))} {f:List (K Act)},SR C φ ν n g f->SR C φ ν n (dJ g) (dJ f)/\(gC C.P R (Ab.dJ f) .ret a w'->gC C.P R f .ret a w')
 | [],[],_=>⟨trivial,fun h=>h⟩
 |.code c::g,.code l::f,h=>⟨(SR.dJ (w':=w') (a:=a) h.2).1,(SR.dJ h.2).2⟩
 |.bV i::g,.bV p::f,h=>⟨(SR.dJ (w':=w') (a:=a) h.2).1,(SR.dJ h.2).2⟩
 |.lp b e::g,.lp k q::f,h=>⟨(SR.dJ (w':=w') (a:=a) h.2.2).1,(SR.dJ h.2.2).2⟩
 |.ops x r::g,.ops v s::f,h=>⟨(SR.dJ (w':=w') (a:=a) h.2.2).1,(SR.dJ h.2.2).2⟩
 |.fr fn d u::g,.fr j o x::f,h=>⟨h,fun h=>h⟩
 |.top fn::g,.top j::f,h=>⟨h,fun h=>h⟩
theorem SR.bZ {φ:LI}{ν:LV}{n w':World}{a:Act}{id:Nat}:∀{l f:List (K (List AT))} {kcs:List (K Act)},SR C φ ν n l kcs->Ab.bZ id l=some f->∃j,SR C φ ν n f j/\(gC C.P R j .normal a w'->gC C.P R kcs (.exit id) a w')
 |.code c::l,f,.code v::kcs,h,e=>let⟨k,o,p⟩:=SR.bZ (kcs:=kcs) h.2 (show Ab.bZ id l=some f by simpa[Ab.bZ]using e);⟨k,o,p⟩
 |.lp b d::l,f,.lp u y::kcs,h,e=>let⟨k,o,p⟩:=SR.bZ (kcs:=kcs) h.2.2 (show Ab.bZ id l=some f by simpa[Ab.bZ]using e);⟨k,o,p⟩
 |.ops x r::l,f,.ops A z::kcs,h,e=>let⟨k,o,p⟩:=SR.bZ (kcs:=kcs) h.2.2 (show Ab.bZ id l=some f by simpa[Ab.bZ]using e);⟨k,o,p⟩
 |.bV i::l,f,.bV s::kcs,h,e=>by
  obtain⟨rfl,h⟩:=h;unfold Ab.bZ at e
  cases hi:s==id with
  |true=>
   rw[hi]at e;cases e
   have:s=id:=by simpa using hi
   subst this;exact⟨kcs,h,fun g=>by simp only[gC,Exit.inBlock,if_true];exact g⟩
  |false=>
   rw[hi]at e;simp only[cond_false]at e
   have q:¬id=s:=by intro e;subst e;simp at hi
   obtain⟨j,o,p⟩:=SR.bZ h e;exact⟨j,o,fun g=>by simp only[gC,Exit.inBlock];rw[if_neg q];exact p g⟩
 | [],_,[],_,e=>by simp[Ab.bZ]at e
 |.fr ..::_,_,_,_,e=>by simp[Ab.bZ]at e
 |.top _::_,_,_,_,e=>by simp[Ab.bZ]at e
def oY (tmps:Array Value):ResultVar->Sem Value
 |.tmp t=>pure (tmps.getD t undef)
 |.cell a t=>do loadVar t (<-asAddr (tmps.getD a undef))
theorem aL1 (fn:Func)(tmps:Array Value):results fn tmps=(fn.results.mapM (oY tmps)) >>= fun a=>pure (if h:a.size=1 then a[0]else .tuple a):=by
 unfold results;congr
variable {φ:LI}
theorem aOq {s:AS}{a:Act}{n:World}(h:Rep C w0 ψ φ s a n){A:ResultVar}{v:AV}(q:oX C.P s A=some v):
  ∃x,(oY a.tmps A).run C.P n=.ok x n/\dW C φ s.nums n v x:=by
 cases A with
 |tmp t=>
  simp only[oX]at q;have:=uF h.tmps (.tmp t);simp only[iY,Act.eval]at this;rw[Ch q]at this;exact⟨_,rfl,this⟩
 |cell c t=>
  simp only[oX]at q;obtain⟨I,L,u⟩:=aT q;have y:=uF h.tmps (.tmp c);simp only[iY,Act.eval]at y;rw[qC L]at y
  cases I<;>simp only at u<;>try cases u
  case ptr b off=>
   obtain⟨B,M,E⟩:=aT u;obtain⟨k,o,i,N,e,k1,H,k0,z⟩:=h.wd.box b B M;obtain⟨O,S,j,F⟩:=y;rw[k1]at j;cases j;subst k0;unfold wJ at E;obtain⟨g,D,l⟩:=aT E
   cases g with
   |true=>
    simp only[cond_true]at l;obtain⟨d,r,f⟩:=aT l
    cases p:Nat.ble (off+d) B.cs.length with
    |false=>rw[p]at f;cases f
    |true=>
     rw[p]at f;simp only[cond_true,Option.some.injEq]at f;subst f;rw[Nat.ble_eq,z.len]at p;refine⟨.agg ((N.drop off).take d).toArray,?_,_,rfl,(z.drop off).take d⟩;simp only[oY];rw[F];simp only[asAddr,loadVar,loadCells,Sem.run_bind,Sem.run_pure,Result.andThen_ok,Lm D,uK r,if_true,Tx H (i.length+off) d 0 #[] (by simp;omega),add_zero,aHA p];simp
   |false=>
    simp only[cond_false]at l;obtain⟨c,r,rfl⟩:=cA l;obtain⟨x,f,J⟩:=z.at r;refine⟨x,?_,J⟩;simp only[oY];rw[F];have sg:=aOy (pre:=i) (post:=e) f;rw[List.append_assoc]at sg;simp[asAddr,loadVar,Lm D,Mh H,sg]
theorem aOp {s:AS}{a:Act}{n:World}(h:Rep C w0 ψ φ s a n){fn:Func}{r:AT}(k:Ex C.P fn s=some r):∃x,(results fn a.tmps).run C.P n=.ok x n/\relT C φ s.nums n r x:=by
 unfold Ex at k;obtain⟨f,u,e⟩:=cA k
 have i:∀(l:List ResultVar) (f:List AV),fB (oX C.P s) l=some f->∃b:LB,(l.mapM (oY a.tmps)).run C.P n=.ok b n/\All2 (dW C φ s.nums n) f b:=by
  intro l
  induction l with
  |nil=>intro f h;simp[fB]at h;subst h;exact⟨[],by simp,trivial⟩
  |cons A l y=>
   intro f hv;unfold fB at hv;obtain⟨v,o,p⟩:=aT hv;obtain⟨j,q,rfl⟩:=cA p;obtain⟨x,x1,x2⟩:=aOq h o;obtain⟨b,y1,y2⟩:=y j q;refine⟨x::b,?_,x2,y2⟩;rw[List.mapM_cons,Sem.run_bind,x1];simp only[Result.andThen_ok,Sem.run_bind,y1,Sem.run_pure]
 obtain⟨b,k1,g⟩:=i _ _ u
 have d:(results fn a.tmps).run C.P n=.ok (if h:b.toArray.size=1 then b.toArray[0]else .tuple b.toArray) n:=by
  rw[aL1,<-Array.toArray_toList (xs:=fn.results),List.mapM_toArray];simp only[Sem.run_bind,Sem.run_map];rw[k1];rfl
 match f,b,g,e,d with
 | [],[],_,e,d=>subst e;exact⟨_,d,[],by simp,trivial⟩
 | [v],[x],⟨g,_⟩,e,d=>subst e;exact⟨x,by rw[d];simp,g⟩
 |v::B::f,x::z::b,g,e,d=>subst e;exact⟨_,d,x::z::b,by simp,g⟩
end
section
variable {C:fG} {w0:World} {ψ:LI} {sp:Spec} {bodies:FF} {draw:Array Oper->AS->Option (AS×List Prop)} {R:NN}
def bU (C:fG)(bodies:FF):Prop:=∀f fn,bodies f=some fn->C.P.funcs[f]?=some fn/\Enters C.P f
def uI (C:fG)(w0:World)(ψ:LI)(draw:Array Oper->AS->Option (AS×List Prop)):Prop:=∀ops s d p,draw ops s=some (d,p)->Holds p->∀φ a w (id:Nat) (Q:XW),Rep C w0 ψ φ s a w->
 (∀b f e,Ext C φ b s.nums d.nums w e->Rep C w0 ψ b d f e->Q .normal f e)->(Code.region id ops true).wp C.P Q a w
variable {φ:LI}
theorem aVL {s:AS}{a:Act}{n:World}{all:Array Oper}{o:Oper}{fn:Func}{c:Code}{l:List AV}(g:bU C bodies)(h:Rep C w0 ψ φ s a n)(hi:inl C bodies all s o=some (fn,c,l)):
  Region.wanted o (yielded all a.tmps)=true/\∃f b,C.P.funcs[f]?=some fn/\fn.body=some c/\(execOp a.eval o).run C.P n=.ok (.enter f b.toArray) n/\All2 (dW C φ s.nums n) l b:=by
 have i:=Qn (all:=all) (o:=o) h.tmps;unfold inl at hi
 cases j:gd all s.tmps o<;>rw[j]at hi i<;>simp only at hi i<;>try cases hi
 obtain⟨e,q,d⟩:=aT hi
 cases e<;>simp only at d<;>try cases d
 rename_i f k;obtain⟨p,r,u⟩:=aT d;obtain⟨B,v,x⟩:=cA u;cases x;obtain⟨y,h8⟩:=g f fn r;obtain⟨b,z,A⟩:=xF (o:=o) (uF h.tmps) h.wd.box (fun _=>rfl) (fun D k e=>by cases e;exact h8) q;exact⟨i,f,b,y,v,z,A⟩
theorem aK4 {b:Type}:∀{l:List b} {i:Nat} {a:b},l[i]?=some a->l.set i a=l
 | [],_,_,h=>by simp at h
 |x::l,0,a,h=>by simp at h;simp[h]
 |x::l,i+1,a,h=>by simp only[List.set_cons_succ];rw[aK4 (by simpa using h)]
theorem Vt {φ:LI}{ν:LV}{n:World}:∀{a:List AV} {b:LB},All2 (dW C φ ν n) a b->All2 (relT C φ ν n) (a.map .val) b
 | [],[],_=>trivial
 |_::_,_::_,⟨d,e⟩=>⟨d,Vt e⟩
 | [],_::_,h=>h.elim
 |_::_,[],h=>h.elim
theorem Vs {φ:LI}{ν:LV}{w:World}:∀(n:Nat),All2 (relT C φ ν w) (List.replicate n .fX) (List.replicate n undef)
 |0=>trivial
 |n+1=>⟨rfl,Vs n⟩
theorem sI {stp:List (K (List AT))->Bool}(ai:SpecOk C w0 ψ sp)(ag:bU C bodies)(ah:uI C w0 ψ draw)(G:AT->AS->Prop)(H:List (K (List AT))->AS->Prop)(hH:∀D s,H D s->∀(j:List (K Act)) (φ:LI) (a:Act) (w:World),SR C φ s.nums w D j->Rep C w0 ψ φ s a w->gC C.P R j .normal a w)(hG:∀r s φ v w,G r s->relT C φ s.nums w r v->RepW C w0 ψ φ s w->R (.returned v) w):
  ∀(f:Nat) (D:List (K (List AT))) (s:AS) (I:Tr),run C sp bodies draw stp f D s=some I->I.ok G H->∀(j:List (K Act)) (φ:LI) (a:Act) (w:World),SR C φ s.nums w D j->Rep C w0 ψ φ s a w->gC C.P R j .normal a w
 |0,D,s,I,h,k,j,φ,a,w,q,u=>by simp[run]at h
 |f+1,D,s,I,h,k,j,φ,a,w,q,u=>by
  have E:=sI (stp:=stp) ai ag ah G H hH hG f;unfold run at h
  cases J:stp D with
  |true=>
   rw[J]at h;simp only[cond_true,Option.some.injEq]at h;subst h;exact hH D s k j φ a w q u
  |false=>
  rw[J]at h;simp only[cond_false]at h;clear J
  match D,j,q with
  | [],[],_=>cases h
  |.top fn::D,.top am::j,q=>
   obtain⟨rfl,q⟩:=q;simp only at h;obtain⟨r,M,rfl⟩:=cA h;obtain⟨x,x1,x2⟩:=aOp u M;exact⟨u.defers,x,x1,hG r s φ x w k x2 u.wd⟩
  |.fr fn a8 tm::D,.fr am ad b::j,q=>
   obtain⟨rfl,rfl,hd,W,q⟩:=q;simp only at h;obtain⟨r,M,B⟩:=aT h;obtain⟨x,x1,x2⟩:=aOp u M;refine⟨u.defers,x,x1,?_⟩;exact E D _ I B k j φ _ w q ⟨u.wd,by rw[rR];exact hd,rT W ad x2⟩
  |.bV i::D,.bV i'::j,q=>
   obtain⟨rfl,q⟩:=q;simp only at h;exact E D s I h k j φ a w q u
  |.lp b 0::D,_,_=>cases h
  |.lp b (n+1)::D,.lp b' n'::j,q=>
   obtain⟨rfl,rfl,q⟩:=q;simp only at h;have:=E _ s I h k (.code b'::.lp b' n::j) φ a w ⟨rfl,rfl,rfl,q⟩ u;exact this
  |.ops all []::D,.ops A r'::j,q=>
   obtain⟨rfl,rfl,q⟩:=q;simp only at h;exact E D s I h k j φ a w q u
  |.ops all (i::F)::D,.ops A r'::j,q=>
   obtain⟨rfl,rfl,q⟩:=q;simp only at h;obtain⟨o,M,B⟩:=aT h
   cases L:splitOn A s.tmps o with
   |some dt=>
    obtain⟨d,t⟩:=dt;rw[L]at B;simp only at B;obtain⟨t1,S,h4⟩:=aT B;obtain⟨t2,h5,rfl⟩:=cA h4
    have W:s.tmps[d]?=some (.val (.one (.sbool t))):=by
     unfold splitOn at L;obtain⟨⟨g,a5⟩,_,q2⟩:=aT L;obtain⟨d',_,q4⟩:=aT q2;split at q4
     ·rename_i t' e;cases q4;exact e
     ·cases q4
    have O:∀b,t=b->All2 (relT C φ s.nums w) (s.tmps.set d (.val (.one (.bool b)))) a.tmps.toList:=by
     rintro b rfl;obtain⟨v,v1,v2⟩:=u.tmps.at W;have:=u.tmps.set d (a:=.val (.one (.bool t))) (b:=v) v2
     rwa[aK4 v1]at this
    cases t with
    |true=>exact E _ _ t1 S (k.1 rfl) (.ops A (i::F)::j) φ a w ⟨rfl,rfl,q⟩ ⟨u.wd,u.defers,O true rfl⟩
    |false=>exact E _ _ t2 h5 (k.2 rfl) (.ops A (i::F)::j) φ a w ⟨rfl,rfl,q⟩ ⟨u.wd,u.defers,O false rfl⟩
   |none=>
   rw[L]at B;simp only at B;show wpOps C.P A (gC C.P R j) (i::F) a w;rw[wpOps_cons]
   cases J:wU C sp A s o with
   |some av=>
    obtain⟨s',p⟩:=av;rw[J]at B;simp only at B;obtain⟨Y,S,rfl⟩:=cA B;refine aTG ai M u J (Wi k).1 ?_;intro aa a' w' N U;exact E _ s' Y S (Wi k).2 (.ops A F::j) aa a' w' ⟨rfl,rfl,q.ext N⟩ U
   |none=>
    rw[J]at B;simp only at B
    cases T:inl C bodies A s o with
    |none=>rw[T]at B;cases B
    |some x=>
     obtain⟨fn,c,vs⟩:=x;rw[T]at B;simp only at B;obtain⟨hw,g,xs,g1,g2,g3,g4⟩:=aVL ag u T;unfold wpOp;simp only[M];rw[if_pos hw];refine Or.inl ?_;unfold Oper.wp;rw[g3];show Calls C.P g xs.toArray w _
     have X:=E _ _ I B k (.code c::.fr fn o.dst a::.ops A F::j) φ { tmps:=xs.toArray++Array.replicate (fn.ntmps-xs.toArray.size) undef,defers:=[]} w ⟨rfl,rfl,rfl,u.defers,u.tmps,rfl,rfl,q⟩
      ⟨u.wd,rfl,by
       have hl:=g4.len;simp only[Array.toList_append,Array.toList_replicate,List.size_toArray];rw[<-hl]
       exact(Vt g4).append (Vs _)⟩
     refine(calls_of_wp g1 g2 X).mono ?_;intro e w' he
     cases e with
     |returned v=>exact he
     |panicked ch=>exact he.elim
     |outgrown=>exact he.elim
  |.code c::D,.code c'::j,q=>
   obtain⟨rfl,q⟩:=q;show c'.wp C.P (gC C.P R j) a w
   cases c' with
   |skip=>simp only at h;exact wp_skip (E D s I h k j φ a w q u)
   |seq x y=>simp only at h;exact wp_seq (E _ s I h k (.code x::.code y::j) φ a w ⟨rfl,rfl,q⟩ u)
   |block id b=>simp only at h;exact wp_block (E _ s I h k (.code b::.bV id::j) φ a w ⟨rfl,rfl,q⟩ u)
   |loop b=>simp only at h;exact wp_loop_rounds f (E _ s I h k (.lp b f::j) φ a w ⟨rfl,rfl,q⟩ u)
   |exit id=>
    simp only at h;obtain⟨ar,M,B⟩:=aT h;obtain⟨aj,g1,g2⟩:=SR.bZ (R:=R) (a:=a) (w':=w) q M;exact wp_exit (g2 (E ar s I B k aj φ a w g1 u))
   |ret=>
    simp only at h;obtain⟨g1,g2⟩:=SR.dJ (R:=R) (a:=a) (w':=w) q;have:=E _ s I h k _ φ a w g1 u;refine wp_ret (g2 ?_)
    have X:∀l:List (K Act),gC C.P R (dJ l) .normal a w->gC C.P R (dJ l) .ret a w:=by
     intro l
     induction l with
     |nil=>exact fun h=>h
     |cons x l E=>cases x<;>first|exact E|exact fun h=>h
    exact X j this
   |cond x y z=>
    simp only at h;obtain⟨cc,M,B⟩:=aT h;have N:=uF u.tmps x;rw[qC M]at N
    cases cc<;>simp only at B<;>try cases B
    case bool t=>
     have N:a.eval x=.bool t:=N;have:=E _ s I B k (.code (bif t then y else z)::j) φ a w ⟨rfl,q⟩ u;refine wp_cond N ?_
     cases t<;>exact this
    case sbool t=>
     have N:a.eval x=.bool t:=N;obtain⟨t1,S,h4⟩:=aT B;obtain⟨t2,h5,rfl⟩:=cA h4;exact wp_cond_split N (fun e=>E _ s t1 S (k.1 e) (.code y::j) φ a w ⟨rfl,q⟩ u) (fun e=>E _ s t2 h5 (k.2 e) (.code z::j) φ a w ⟨rfl,q⟩ u)
   |region id ops dr=>
    cases dr with
    |false=>simp only at h;exact wp_region (E _ s I h k (.ops ops (List.range ops.size)::j) φ a w ⟨rfl,rfl,q⟩ u)
    |true=>
     simp only at h;obtain⟨⟨s',p⟩,M,B⟩:=aT h;obtain⟨Y,S,rfl⟩:=cA B;refine ah ops s s' p M (Wi k).1 φ a w id _ u ?_;intro aa a' w' N U;exact E D s' Y S (Wi k).2 j aa a' w' (q.ext N) U
   |_=>cases h
theorem mL (h:SpecOk C w0 ψ sp)(d:bU C bodies)(e:uI C w0 ψ draw){M:FuncId}{fn:Func}{c:Code}(o:C.P.funcs[M]?=some fn)(l:fn.body=some c){args:LB}{vs:List AV}{s:AS}
  (q:s.tmps=vs.map .val++List.replicate (fn.ntmps-vs.length) .fX) (hv:All2 (dW C φ s.nums w0) vs args) (x:RepW C w0 ψ φ s w0)
  (n:Nat) {stp:List (K (List AT))->Bool} {X:Tr} (u:run C sp bodies draw stp n [.code c,.top fn] s=some X) (G:AT->AS->Prop) (H:List (K (List AT))->AS->Prop) (k:∀i s,H i s->∀(b:List (K Act)) (φ:LI) (a:Act) (w:World),SR C φ s.nums w i b->Rep C w0 ψ φ s a w->gC C.P R b .normal a w) (g:X.ok G H) (j:∀r s φ v w,G r s->relT C φ s.nums w r v->RepW C w0 ψ φ s w->R (.returned v) w):Calls C.P M args.toArray w0 R:=by
 refine calls_of_wp o l ?_;have p:=hv.len
 exact sI h d e G H k j n _ s X u g [.code c,.top fn] φ _ w0 ⟨rfl,rfl,trivial⟩ ⟨x,rfl,by
  rw[q];simp only[Array.toList_append,Array.toList_replicate,List.size_toArray];rw[<-p]
  exact(Vt hv).append (Vs _)⟩
end
structure iK where
 res:AT
 new:Option bQ
 mZ:Option (Nat×List AC)
 app:Option Nat
def fA (bt:List TypeId)(sp:Spec)(g d:Nat->Option bQ)(ν:LV)(id:Nat):nL->Option (iK×List (Int×Nat)×List Prop)
 |.val r p=>some (⟨r,none,none,none⟩,[],p)
 |.new cs ty sl=>some (⟨.val (.one (Ks id sl)),some ⟨cs,ty,true,sl.isSome,sl.isSome⟩,none,none⟩,[],[])
 |.app old cs ty len size=>bif bt.contains ty then some (⟨.val (.one (.slc id 0 len size)),some ⟨cs,ty,true,true,true⟩,none,old⟩,[],[])else none
 |.mZ b cs=>(d b).bind fun B=>bif bt.contains B.ty then some (⟨.fX,none,some (b,cs),none⟩,[],[])else none
 |.call f e=>(sp f false ν id g e).bind fun
   |(a,r,p,none)=>some (⟨r,none,none,none⟩,a,p)
   |(a,r,p,some B)=>some (⟨r,some B,none,none⟩,a,p)
def fS (c:Bool)(sp:Spec)(d:Nat->Option bQ)(ν:LV)(id:Nat):nL->Option (iK×List (Int×Nat)×List Prop)
 |.val (.val v) p=>some (⟨.nF c v,none,none,none⟩,[],oD c p)
 |.call f b=>(sp f false ν id d b).bind fun
   |(a,.val v,p,none)=>some (⟨.nF c v,none,none,none⟩,a,oD c p)
   |_=>none
 |_=>none
def pE:List AT->Option (List AV×List Bool)
 | []=>some ([],[])
 |.val v::r=>(pE r).map fun p=>(v::p.1,p.2)
 |.nF c v::r=>(pE r).map fun p=>(v::p.1,c::p.2)
 |_::_=>none
def kC (c:Bool)(sp:Spec)(e:Nat->Option bQ)(ν:LV)(id:Nat)(b:Operand->AT):Op->Option (iK×List (Int×Nat)×List Prop)
 |.call { callee:=.value (.func f),args:=args,..}=>(pE (args.toList.map b)).bind fun p=>(sp f false ν id e p.1).bind fun
   |(a,.val v,q,none)=>some (⟨.nF c v,none,none,none⟩,a,oD c (q++p.2.map fun d=>d=true))
   |_=>none
 |_=>none
def orElse {b:Type}(x y:Option b):Option b:=match x with|some a=>some a|none=>y
def qW (C:fG)(sp:Spec)(d:Nat->Option bQ)(all:Array Oper)(a:List AT)(b:Nat->Option bQ)(ν:LV)(id:Nat)(o:Oper):Option (iK×List (Int×Nat)×List Prop):=
 match gd all a o with
 |.yes=>(evalOp C.P (iY a) b o.op).bind (fA C.bt sp d b ν id)
 |.no=>some (⟨.fX,none,none,none⟩,[],[])
 |.cond c=>orElse ((evalOp C.P (iY a) b o.op).bind (fS c sp d ν id)) (kC c sp d ν id (iY a) o.op)
 |.bad=>none
def iM (id:Nat)(e:iK)(a:Nat->Option bQ):Nat->Option bQ:=
 match e.new with
 |some B=>mE a id B e.app
 |none=>match e.mZ with
  |some (b,cs)=>match a b with
   |some B=>setB a b {B with cs:=cs}
   |none=>a
  |none=>a
def xZ (id:Nat)(e:iK)(l:List (Nat×bQ)):List (Nat×bQ):=
 match e.new with
 | some B=>(match e.app with
  |none=>(id,B)::l
  |some b=>match look l b with
   |some _=>oT ((id,B)::l) b
   |none=>(id,B)::l)
 |none=>match e.mZ with
  |some (b,cs)=>jU l b cs
  |none=>l
section
variable {C:fG} {w0:World} {ψ:LI} {sp:Spec}
def Hr:AT->AT
 |.nF c v=>bif c then .val v else .nF c v
 |t=>t
variable {φ:LI}{ν:LV}
theorem aTV {n:World}{t:AT}{x:Value}(h:relT C φ ν n t x):relT C φ ν n (Hr t) x:=by
 cases t with
 |nF c v=>
  cases c with
  |true=>simpa[Hr,relT]using h
  |false=>exact h
 |_=>exact h
theorem aJ1:∀{ts:List AT} {a:List AV} {cs:List Bool},pE ts=some (a,cs)->(∀d∈cs,d=true)->qP (ts.map Hr)=some a
 | [],a,cs,h,_=>by simp[pE]at h;rw[h.1];rfl
 |.val v::r,a,cs,h,hc=>by
  simp only[pE]at h;obtain⟨p,b,f⟩:=cA h;cases f;simp only[List.map_cons,Hr,qP,aJ1 b hc,map_some]
 |.nF c v::r,a,cs,h,hc=>by
  simp only[pE]at h;obtain⟨p,b,f⟩:=cA h;cases f;have e:c=true:=hc c (by simp);subst e;simp only[List.map_cons,Hr,cond_true,qP,aJ1 b (fun d g=>hc d (by simp[g])),map_some]
 |.top::_,_,_,h,_=>by simp[pE]at h
 |.fX::_,_,_,h,_=>by simp[pE]at h
 |.tup _::_,_,_,h,_=>by simp[pE]at h
variable {p:List Prop}
theorem aER {id:Nat}{c:Bool}{l:Nat->Option bQ}{b:LV}{j:Operand->AT}{op:Op}{e:iK}(h:kC c sp l ν id j op=some (e,b,p)):∃f args ts g cs a v q,op=.call { callee:=.value (.func f),args:=args,argTypes:=ts}/\pE (args.toList.map j)=some (g,cs)/\sp f false ν id l g=some (a,.val v,q,none)/\e=⟨.nF c v,none,none,none⟩/\b=a/\p=oD c (q++cs.map fun d=>d=true):=by
 unfold kC at h;split at h
 ·rename_i f args ts;obtain⟨⟨g,cs⟩,n,o⟩:=aT h;obtain⟨⟨a,r,q,i⟩,s,k⟩:=aT o
  cases r<;>cases i<;>simp only at k<;>try cases k
  exact⟨f,args,ts,g,cs,_,_,_,rfl,n,s,rfl,rfl,rfl⟩
 ·cases h
theorem aVA (am:SpecOk C w0 ψ sp){tm:List AT}{xb F:Nat->Option bQ}{nb:Nat->Prop}{id i:Nat}{s ak:LV}{dirty:PH}{a:Act}{w:World}{all:Array Oper}{o:Oper}{e:iK}{Q:XW}{K:AW}
  (ho:all[i]?=some o) (h:RepF C w0 ψ φ F nb s dirty w) (S:a.defers=[]) (H:All2 (relT C φ s w) tm a.tmps.toList) (l:qW C sp xb all tm F ν id o=some (e,ak,p)) (hp:Holds p) (ao:∀b B,xb b=some B->F b=some B) (ap:∀(i:Nat) (x:Int×Nat),(ν++ak)[i]?=some x->s[i]?=some x)
  (ai:nb id) (T:∀b cs,e.mZ=some (b,cs)->b∈dirty)
  (hK:∀N a' M,RepF C w0 ψ N (iM id e F) (fun b=>nb b/\b≠id) s dirty M->a'.defers=[]->All2 (relT C N s M) (putT tm o.dst e.res) a'.tmps.toList->Ext C φ N s s w M->K a' M):wpOp C.P all Q i K a w:=by
 unfold wpOp;simp only[ho];have U:=Qn (all:=all) (o:=o) H
 have L:RepF C w0 ψ φ F (fun b=>nb b/\b≠id) s dirty w:=h.cW fun _ u=>u.1
 have skip:∀r,e=⟨r,none,none,none⟩->relT C φ s w r undef->K (a.put o.dst undef) w:=by
  rintro r rfl hr;exact hK φ _ w L (by rw[rR];exact S) (rT H o.dst hr) (Ext.refl _ _ _)
 have go:∀(ev:Operand->AT),(∀x,relT C φ s w (ev x) (a.eval x))->∀(f:nL) (e':iK) (p:List Prop),Holds p->evalOp C.P ev F o.op=some f->fA C.bt sp xb F ν id f=some (e',ak,p)->(e'.new=e.new/\e'.mZ=e.mZ/\e'.app=e.app/\∀φ w v,relT C φ s w e'.res v->relT C φ s w e.res v)->o.wp C.P a w K Q:=by
  intro ev D f e' p hp J g j
  have hB:iM id e F=iM id e' F:=by unfold iM;rw[j.1,j.2.1,j.2.2.1]
  rw[hB]at hK;unfold Oper.wp
  cases f with
  |val r q=>
   simp only[fA,Option.some.injEq,Prod.mk.injEq]at g;obtain⟨rfl,rfl,rfl⟩:=g;obtain⟨v,X,Y⟩:=xF (o:=o) D h.box (fun _=>rfl) (fun f R e=>by cases e) J hp;rw[X];exact hK φ _ w L (by rw[rR];exact S) (rT H o.dst (j.2.2.2 _ _ _ Y)) (Ext.refl _ _ _)
  |new cs ty sl=>
   simp only[fA,Option.some.injEq,Prod.mk.injEq]at g;obtain⟨rfl,rfl,rfl⟩:=g;obtain⟨xs,X,Y,r3⟩:=xF (o:=o) D h.box (fun _=>rfl) (fun f R e=>by cases e) J;rw[X];obtain⟨k1,I⟩:=h.new (n:=id) ai (B:=⟨cs,ty,true,sl.isSome,sl.isSome⟩) (post:=[]) (d:=w.drawn) Y rfl (fun h=>h) (fun _=>rfl);rw[List.append_nil]at k1 I;exact hK _ _ _ k1 (by rw[rR];exact S) (rT (H.mono (xQ I)) o.dst (j.2.2.2 _ _ _ (aNQ r3))) I
  |app old cs ty len size=>
   simp only[fA]at g
   cases u:C.bt.contains ty with
   |false=>rw[u]at g;cases g
   |true=>
    rw[u]at g;simp only[cond_true,Option.some.injEq,Prod.mk.injEq]at g;obtain⟨rfl,rfl,rfl⟩:=g;obtain⟨v,M,a7,X,Y,r3,r4⟩:=xF (o:=o) D h.box (fun _=>rfl) (fun f R e=>by cases e) J;rw[X];obtain⟨N,k1,I,k3⟩:=aMx h (n:=id) ai Y r3 u r4;exact hK N _ _ k1 (by rw[rR];exact S) (rT (H.mono (xQ I)) o.dst (j.2.2.2 _ _ _ k3)) I
  |mZ b cs=>
   simp only[fA]at g;obtain⟨B,O,z⟩:=aT g
   cases u:C.bt.contains B.ty with
   |false=>rw[u]at z;cases z
   |true=>
    rw[u]at z;simp only[cond_true,Option.some.injEq,Prod.mk.injEq]at z;obtain⟨rfl,rfl,rfl⟩:=z;obtain⟨B',k,oo,M,a4,ys,ae,zs,m1,mr,m2,m3,m4,m5,m6,m7,m8,m9⟩:=xF (o:=o) D h.box (fun _=>rfl) (fun f R e=>by cases e) J;rw[O]at m1;cases m1;rw[m3];obtain⟨k1,I⟩:=h.mZ (dirty':=dirty) O mr m2 m4 m5 m6 m7 m8 m9 u (fun _ A=>A) (Or.inr (T b cs (by rw[<-j.2.1])))
    have e2:iM id ⟨.fX,none,some (b,cs),none⟩ F=setB F b {B with cs:=cs}:=by simp only[iM,O]
    rw[<-e2]at k1;exact hK _ _ _ (k1.cW fun _ u=>u.1) (by rw[rR];exact S) (rT (H.mono (xQ I)) o.dst (j.2.2.2 _ _ _ rfl)) I
  |call f R=>
   simp only[fA]at g;obtain⟨⟨aa,r,q,aj⟩,O,z⟩:=aT g
   cases aj with
   |some B=>
    simp only[Option.some.injEq,Prod.mk.injEq]at z;obtain⟨rfl,rfl,rfl⟩:=z;obtain⟨ah,hc⟩:=am f false ν id xb R aa r q (some B) O;obtain⟨xs,X,Y⟩:=xF (o:=o) D h.box (fun _=>rfl) (fun f' a6 e=>by cases e;exact ah) J;rw[X];refine(hc hp s ap φ w xs h.base (fun e=>by cases e) h.on (fun b B e=>h.box b B (ao b B e)) Y).mono ?_;rintro e M⟨v,rfl,u,b1,b2,k,o',a4,ys,ae,m1,m2,m3,m4,m5,m6⟩;obtain⟨k1,I⟩:=h.got (n:=id) ai u (fun _ _ h=>h) m1 m2 m3 m4 b1 b2 m6;exact hK _ _ M k1 (by rw[rR];exact S) (rT (H.mono (xQ I)) o.dst (j.2.2.2 _ _ _ m5)) I
   |none=>
   simp only[Option.some.injEq,Prod.mk.injEq]at z;obtain⟨rfl,rfl,rfl⟩:=z;obtain⟨ah,hc⟩:=am f false ν id xb R aa r q none O;obtain⟨xs,X,Y⟩:=xF (o:=o) D h.box (fun _=>rfl) (fun f' a6 e=>by cases e;exact ah) J;rw[X];refine(hc hp s ap φ w xs h.base (fun e=>by cases e) h.on (fun b B e=>h.box b B (ao b B e)) Y).mono ?_;rintro e M⟨v,rfl,u,hv⟩
   have A:Ext C φ φ s s w M:=⟨fun _ _ h=>h,fun _ _ h=>h,On.below u⟩
   exact hK φ _ M (L.later u s (fun _ _ h=>h)) (by rw[rR];exact S) (rT (H.mono (xQ A)) o.dst (j.2.2.2 _ _ _ hv)) A
 unfold qW at l
 cases W:gd all tm o with
 |yes=>
  rw[W]at U l;simp only at U l;obtain⟨f,J,g⟩:=aT l;rw[if_pos U];exact Or.inl (go _ (uF H) f e p hp J g ⟨rfl,rfl,rfl,fun _ _ _ h=>h⟩)
 |no=>
  rw[W]at U l;simp only[Option.some.injEq,Prod.mk.injEq]at U l;obtain⟨rfl,rfl,rfl⟩:=l;rw[if_neg (by simp[U])];exact skip _ rfl rfl
 |cond c=>
  rw[W]at U l;simp only at U l;rw[U]
  have two:∀v,e=⟨.nF c v,none,none,none⟩->(c=true->o.wp C.P a w K Q)->if c=true then o.wp C.P a w K Q\/(o.asks C.P a w/\LetsOut Q)else K (a.put o.dst undef) w:=by
   intro v hv hw
   cases c with
   |true=>simp only[if_true];exact Or.inl (hw rfl)
   |false=>simp only[Bool.false_eq_true,if_false];exact skip _ hv (by simp[relT])
  cases A:(evalOp C.P (iY tm) F o.op).bind (fS c sp xb ν id)with
  |none=>
   rw[A]at l;simp only[orElse]at l;obtain⟨f,args,ts,R,cs,aa,v,q,ay,hu,O,rfl,rfl,rfl⟩:=aER l
   refine two v rfl fun hc=>?_
   subst hc;have E:=Oc hp rfl
   have ax:∀d∈cs,d=true:=fun d S=>E (d=true) (List.mem_append_right _ (List.mem_map.2 ⟨d,S,rfl⟩))
   refine go (fun x=>Hr (iY tm x)) (fun x=>aTV (uF H x)) (.call f R) ⟨.val v,none,none,none⟩ q (fun y hy=>E y (List.mem_append_left _ hy)) ?_ (by simp[fA,O]) ⟨rfl,rfl,rfl,fun φ w x A=>by simpa[relT]using A⟩;rw[ay];simp only[evalOp];have:=aJ1 hu ax;rw[List.map_map]at this;rw[show(fun x=>Hr (iY tm x))=(Hr∘iY tm)from rfl,this];rfl
  |some y=>
  rw[A]at l;simp only[orElse,Option.some.injEq]at l;subst l;obtain⟨f,J,g⟩:=aT A
  cases f with
  |val r q=>
   cases r with
   |val v=>
    simp only[fS,Option.some.injEq,Prod.mk.injEq]at g;obtain⟨rfl,rfl,rfl⟩:=g
    refine two v rfl fun hc=>?_
    subst hc;have E:=Oc hp rfl;exact go _ (uF H) (.val (.val v) q) ⟨.val v,none,none,none⟩ q E J rfl ⟨rfl,rfl,rfl,fun φ w x A=>by simpa[relT]using A⟩
   |_=>simp[fS]at g
  |call f R=>
   simp only[fS]at g;obtain⟨⟨aa,r,q,aj⟩,O,z⟩:=aT g
   cases r with
   |val v=>
    cases aj with
    |some B=>simp at z
    |none=>
    simp only[Option.some.injEq,Prod.mk.injEq]at z;obtain⟨rfl,rfl,rfl⟩:=z
    refine two v rfl fun hc=>?_
    subst hc;have E:=Oc hp rfl;exact go _ (uF H) (.call f R) ⟨.val v,none,none,none⟩ q E J (by simp[fA,O]) ⟨rfl,rfl,rfl,fun φ w x A=>by simpa[relT]using A⟩
   |_=>simp at z
  |_=>simp[fS]at g
 |bad=>rw[W]at l;cases l
end
def fR:AT->List Nat
 |.val (.one (.ptr b _))=>[b]
 |.val (.one (.slc b _ _ _))=>[b]
 |_=>[]
def fE (b:Operand->AT):Op->List Nat
 |.load _ a=>fR (b a)
 |.store _ a _=>fR (b a)
 |.call { callee:=.builtin .append,args:=args,..}=>args.toList.flatMap fun x=>fR (b x)
 |_=>[]
def reads (all:Array Oper)(o:Oper):List Tmp:=
 (o.op.operands.toList.filterMap fun|.tmp t=>some t|_=>none)++(match o.guard with|some (g,_)=>((all[g]?).bind (·.dst)).toList|none=>[])
abbrev Tb:=List (Oper×iK×List Nat)
def mA (L:Nat->Bool):Nat->Tb->List AT->List AT
 |_,[],a=>a
 |k,(o,e,_)::r,a=>mA L (k+1) r (bif L k then putT a o.dst e.res else a)
def bxL (L:Nat->Bool)(n0:Nat):Nat->Tb->(Nat->Option bQ)->(Nat->Option bQ)
 |_,[],a=>a
 |k,(_,e,_)::r,a=>bxL L n0 (k+1) r (bif L k then iM (n0+k) e a else a)
def qQ (n0:Nat):Nat->Tb->List (Nat×bQ)->List (Nat×bQ)
 |_,[],l=>l
 |k,(_,e,_)::r,l=>qQ n0 (k+1) r (xZ (n0+k) e l)
def Bz (C:fG)(sp:Spec)(f:Nat->Option bQ)(all:Array Oper)(n0:Nat):Nat->List Oper->List AT->List (Nat×bQ)->List (Int×Nat)->Option (Tb×List (Int×Nat)×List Prop)
 |_,[],_,_,ν=>some ([],ν,[])
 |k,o::r,a,l,ν=>(qW C sp f all a (look l) ν (n0+k) o).bind fun(e,b,p)=>
  (Bz C sp f all n0 (k+1) r (putT a o.dst e.res) (xZ (n0+k) e l) (ν++b)).map fun(T,d,q)=>((o,e,fE (iY a) o.op)::T,d,p++q)
def eQ (id:Nat)(e:iK):PH:=
 match e.new with
 |some _=>id::e.app.toList
 |none=>(e.mZ.map (·.1)).toList
theorem aFL (id:Nat)(e:iK)(l:List (Nat×bQ))(hid:look l id=none):look (xZ id e l)=iM id e (look l):=by
 unfold xZ iM
 cases e.new with
 |some B=>
  simp only
  cases e.app with
  |none=>exact Dk _ _ _
  |some b=>
   simp only[mE]
   cases a:look l b with
   |none=>simp only;exact Dk _ _ _
   |some O=>
    simp only
    have d:b≠id:=by rintro rfl;rw[hid]at a;cases a
    rw[aG9 (B:=O) (by rw[Dk,mT d];exact a),Dk]
 |none=>
  simp only
  cases e.mZ with
  |none=>rfl
  |some p=>
   obtain⟨b,cs⟩:=p;simp only
   cases h:look l b with
   |some B=>exact aFM h cs
   |none=>
    funext x;rw[aG8]
    by_cases ex:x=b
    ·subst ex;rw[if_pos rfl,h];simp only;exact h.symm
    ·rw[if_neg ex]
variable {a:Nat->Option bQ}{w b:Nat}
theorem aLr {D:bQ}{old:ON}(d:b≠w)(f:old≠some b):mE a w D old b=a b:=by
 unfold mE
 cases old with
 |none=>exact mT d
 |some o=>
  have g:b≠o:=fun e=>f (by rw[e])
  simp only
  cases a o with
  |none=>exact mT d
  |some O=>simp only;rw[mT g];exact mT d
theorem aMw {d:Nat->Option bQ}{D:bQ}{old:ON}(h:b=w\/old=some b)(g:a b=d b):mE a w D old b=mE d w D old b:=by
 unfold mE
 cases old with
 |none=>
  rcases h with rfl|h
  ·simp only[sG]
  ·cases h
 |some o=>
  simp only
  by_cases f:b=o
  ·subst f;rw[g]
   cases d b with
   |none=>simp only[setB];split;rfl;exact g
   |some O=>simp only;rw[sG,sG]
  ·have i:b=w:=by
    rcases h with h|h
    ·exact h
    ·exact absurd (Option.some.inj h).symm f
   subst i
   have e:∀a:Nat->Option bQ,(match a o with|some B=>setB (setB a b D) o {B with tip:=false} |none=>setB a b D) b=some D:=by
    intro a
    cases a o with
    |none=>exact sG _ _ _
    |some O=>simp only;rw[mT f];exact sG _ _ _
   exact(e a).trans (e d).symm
variable {id:Nat}{e:iK}
theorem Nt (h:b∉eQ id e):iM id e a b=a b:=by
 unfold eQ at h;unfold iM
 cases d:e.new with
 |some B=>
  simp only[d,mem_cons,not_or]at h ⊢;exact aLr h.1 (fun f=>h.2 (by rw[f];simp))
 |none=>
  simp only[d]at h ⊢
  cases g:e.mZ with
  |none=>rfl
  |some p=>
   obtain⟨c,cs⟩:=p;simp only[g,map_some,toList_some,List.mem_singleton]at h ⊢
   cases a c with
   |none=>rfl
   |some B=>simp only;exact mT h
theorem aId {f:Nat->Option bQ}(h:b∈eQ id e)(d:f b=a b):iM id e f b=iM id e a b:=by
 unfold eQ at h;unfold iM
 cases g:e.new with
 |some B=>
  simp only[g,mem_cons]at h ⊢;refine aMw ?_ d
  rcases h with h|h
  ·exact Or.inl h
  ·exact Or.inr (by simpa using h)
 |none=>
  simp only[g]at h ⊢
  cases i:e.mZ with
  |none=>simp[i]at h
  |some p=>
   obtain⟨c,cs⟩:=p;simp only[i,map_some,toList_some,List.mem_singleton]at h ⊢;subst h;rw[d]
   cases a b with
   |none=>simp only;exact d
   |some B=>simp only;rw[sG,sG]
theorem aHq (a:List AT)(d:Option Tmp)(v:AT):(putT a d v).length=a.length:=by cases d<;>simp[putT]
theorem Zg {a:List AT}{d:Option Tmp}{v:AT}{t:Nat}(h:d≠some t):(putT a d v)[t]?=a[t]?:=by
 cases d with
 |none=>rfl
 |some d=>simp only[putT];rw[List.getElem?_set_ne (fun e=>h (by rw[e]))]
theorem aFZ {b a:List AT}{v:AT}{t:Nat}(h:b.length=a.length):(putT b (some t) v)[t]?=(putT a (some t) v)[t]?:=by
 simp[putT,List.getElem?_set,h]
theorem aOU {L:Nat->Bool}:∀(T:Tb) (k:Nat) (a:List AT),(mA L k T a).length=a.length
 | [],_,_=>rfl
 |(o,e,_)::r,k,a=>by
  unfold mA;rw[aOU r];cases L k
  ·rfl
  ·exact aHq _ _ _
theorem Vm {L L':Nat->Bool}{t:Nat}:∀(T:Tb) (k:Nat) (b a:List AT),b.length=a.length->b[t]?=a[t]?->(∀(i:Nat) x,T[i]?=some x->x.1.dst=some t->L (k+i)=L' (k+i))->(mA L k T b)[t]?=(mA L' k T a)[t]?
 | [],_,_,_,_,h,_=>h
 |(o,e,c)::r,k,b,a,g,h,f=>by
  unfold mA;refine Vm r (k+1) _ _ ?_ ?_ (fun i x n d=>by have:=f (i+1) x (by simpa using n) d;rw[show k+1+i=k+(i+1) by omega];exact this)
  ·cases L k<;>cases L' k<;>simp[aHq,g]
  ·by_cases d:o.dst=some t
   ·have:=f 0 (o,e,c) rfl d;rw[add_zero]at this;rw[this,d];cases L' k
    ·exact h
    ·exact aFZ g
   ·have j:(bif L k then putT b o.dst e.res else b)[t]?=b[t]?:=by cases L k;rfl;exact Zg d
    have l:(bif L' k then putT a o.dst e.res else a)[t]?=a[t]?:=by cases L' k;rfl;exact Zg d
    rw[j,l,h]
variable {L:Nat->Bool}
theorem aTO {t:Nat}:∀(T:Tb) (k:Nat) (a:List AT),(∀(i:Nat) x,T[i]?=some x->x.1.dst=some t->L (k+i)=false)->(mA L k T a)[t]?=a[t]?:=by
 intro T k a h;have:=Vm (L:=L) (L':=fun _=>false) (t:=t) T k a a rfl rfl h;rw[this];clear this h
 induction T generalizing k with
 |nil=>rfl
 |cons x r b=>obtain⟨o,e,c⟩:=x;unfold mA;exact b (k+1)
theorem aJY {L:Nat->Bool}:∀(T:Tb) (k:Nat) (a:List AT),(∀i,k<=i->L i=false)->mA L k T a=a
 | [],_,_,_=>rfl
 |(o,e,c)::r,k,a,h=>by
  unfold mA;rw[h k (Nat.le_refl _)]
  exact aJY r (k+1) a fun i hi=>h i (by omega)
theorem aRU {L:Nat->Bool}{t:Nat}:∀(T:Tb) (j k:Nat) (b:List AT) (x:Oper×iK×List Nat),T[j]?=some x->x.1.dst=some t->L (k+j)=true->(∀(i:Nat) y,i≠j->T[i]?=some y->y.1.dst≠some t)->(mA L k T b)[t]?=(putT b (some t) x.2.1.res)[t]?
 |(o,e,c)::r,0,k,b,x,a,f,d,g=>by
  simp at a;subst a;unfold mA;rw[add_zero]at d;rw[d];simp only[cond_true];rw[aTO r (k+1) _ (fun i y h l=>absurd l (g (i+1) y (by omega) (by simpa using h)))];simp only at f;rw[f]
 |(o,e,c)::r,j+1,k,b,x,a,f,d,g=>by
  unfold mA;have n:o.dst≠some t:=g 0 (o,e,c) (by omega) rfl;rw[aRU r j (k+1) _ x (by simpa using a) f (by rw[show k+1+j=k+(j+1) by omega];exact d) (fun i y hi h=>g (i+1) y (by omega) (by simpa using h))];refine aFZ ?_;cases L k
  ·rfl
  ·exact aHq _ _ _
 | [],j,k,b,x,a,_,_,_=>by simp at a
variable {T:Tb}
theorem aWq {b:List AT}{x:Oper×iK×List Nat}(f:T[w]?=some x)(h:L w=false)(g:∀(i:Nat) y t,i≠w->T[i]?=some y->x.1.dst=some t->y.1.dst≠some t):mA (fun i=>L i||i==w) 0 T b=putT (mA L 0 T b) x.1.dst x.2.1.res:=by
 apply List.ext_getElem?;intro t
 by_cases a:x.1.dst=some t
 ·rw[aRU T w 0 b x f a (by simp) (fun i y hi d=>g i y t hi d a),a];exact aFZ (aOU _ _ _).symm
 ·rw[Zg a]
  refine Vm T 0 b b rfl rfl fun i y d e=>?_
  have:i≠w:=by rintro rfl;rw[f]at d;cases d;exact a e
  simp[this]
theorem Oa {L L':Nat->Bool}{n0 b:Nat}:∀(T:Tb) (k:Nat) (d a:Nat->Option bQ),d b=a b->(∀(i:Nat) x,T[i]?=some x->b∈eQ (n0+(k+i)) x.2.1->L (k+i)=L' (k+i))->bxL L n0 k T d b=bxL L' n0 k T a b
 | [],_,_,_,h,_=>h
 |(o,e,c)::r,k,d,a,h,g=>by
  unfold bxL;refine Oa r (k+1) _ _ ?_ (fun i x n f=>by have:=g (i+1) x (by simpa using n) (by rw[show k+(i+1)=k+1+i by omega];exact f);rw[show k+1+i=k+(i+1) by omega];exact this)
  by_cases f:b∈eQ (n0+k) e
  ·have:=g 0 (o,e,c) rfl f;rw[add_zero]at this;rw[this];cases L' k
   ·exact h
   ·exact aId f h
  ·have j:(bif L k then iM (n0+k) e d else d) b=d b:=by cases L k;rfl;exact Nt f
   have l:(bif L' k then iM (n0+k) e a else a) b=a b:=by cases L' k;rfl;exact Nt f
   rw[j,l,h]
theorem Vw {L:Nat->Bool}{n0:Nat}:∀(T:Tb) (k:Nat) (a:Nat->Option bQ),(∀i,k<=i->L i=false)->bxL L n0 k T a=a
 | [],_,_,_=>rfl
 |(o,e,c)::r,k,a,h=>by
  unfold bxL;rw[h k (Nat.le_refl _)]
  exact Vw r (k+1) a fun i hi=>h i (by omega)
variable {n0:Nat}
theorem aMJ (T:Tb)(k:Nat)(a:Nat->Option bQ)(h:∀(i:Nat) x,T[i]?=some x->b∈eQ (n0+(k+i)) x.2.1->L (k+i)=false):bxL L n0 k T a b=a b:=by
 rw[Oa (L':=fun _=>false) T k a a rfl h,Vw T k a fun _ _=>rfl]
theorem aRf {L:Nat->Bool}{n0 j:Nat}:∀(T:Tb) (k:Nat) (a:Nat->Option bQ) (i:Nat) (x:Oper×iK×List Nat),T[i]?=some x->j=k+i->L j=false->(∀(m:Nat) y b,i<m->T[m]?=some y->b∈eQ (n0+j) x.2.1->b∈eQ (n0+(k+m)) y.2.1->L (k+m)=false)->bxL (fun i=>L i||i==j) n0 k T a=iM (n0+j) x.2.1 (bxL L n0 k T a)
 |(o,e,c)::r,k,a,0,x,f,l,h,p=>by
  simp at f;subst f;simp only[add_zero]at l;subst l;unfold bxL;simp only[h,Bool.false_or,beq_self_eq_true,cond_true,cond_false]
  have d:bxL (fun i=>L i||i==j) n0 (j+1) r (iM (n0+j) e a)=bxL L n0 (j+1) r (iM (n0+j) e a):=by
   funext b
   refine Oa r (j+1) _ _ rfl fun m y _ _=>?_
   have:¬j+1+m=j:=by omega
   simp[this]
  rw[d];funext b
  by_cases g:b∈eQ (n0+j) e
  ·have n:∀a,bxL L n0 (j+1) r a b=a b:=fun a=>aMJ r (j+1) a fun m y q w=>by
    have:=p (m+1) y b (by omega) (by simpa using q) g (by rw[show j+(m+1)=j+1+m by omega];exact w);rw[show j+1+m=j+(m+1) by omega];exact this
   rw[n];exact aId g (n a).symm
  ·rw[Nt g]
   exact Oa r (j+1) _ _ (Nt g) fun _ _ _ _=>rfl
 |(o,e,c)::r,k,a,i+1,x,f,l,h,p=>by
  unfold bxL
  have v:¬k=j:=by omega
  have:(L k||k==j)=L k:=by simp[v]
  rw[this]
  exact aRf r (k+1) _ i x (by simpa using f) (by omega) h fun m y b n q s u=>by
   have:=p (m+1) y b (by omega) (by simpa using q) s (by rw[show k+(m+1)=k+1+m by omega];exact u);rw[show k+1+m=k+(m+1) by omega];exact this
 | [],k,a,i,x,f,_,_,_=>by simp at f
theorem aRT {L:Nat->Bool}:∀(T:Tb) (k:Nat) (a:List AT),(∀i,i<T.length->L (k+i)=true)->mA L k T a=mA (fun _=>true) k T a
 | [],_,_,_=>rfl
 |(o,e,c)::r,k,a,h=>by
  unfold mA;rw[show L k=true from h 0 (by simp)]
  exact aRT r (k+1) _ fun i hi=>by have:=h (i+1) (by simpa using hi);rw[show k+1+i=k+(i+1) by omega];exact this
def zP (l:List (Nat×bQ))(n:Nat):Prop:=∀b,n<=b->look l b=none
variable {l:List (Nat×bQ)}
theorem aKP {k:Nat}(h:zP l (n0+k)):zP (xZ (n0+k) e l) (n0+(k+1)):=by
 intro b g;rw[aFL _ _ _ (h _ (Nat.le_refl _))]
 by_cases ht:b∈eQ (n0+k) e
 ·-- an old box: there is none
  unfold eQ at ht;unfold iM
  cases a:e.new with
  |some B=>
   rw[a]at ht;simp only[mem_cons]at ht
   rcases ht with ht|ht
   ·omega
   ·have f:e.app=some b:=by simpa using ht
    simp only[f,mE,h b (by omega)];rw[mT (by omega)];exact h b (by omega)
  |none=>
   rw[a]at ht;simp only at ht ⊢
   cases d:e.mZ with
   |none=>rw[d]at ht;simp at ht
   |some p=>
    obtain⟨c,cs⟩:=p;rw[d]at ht;simp at ht;subst ht;simp only[h b (by omega)]
 ·rw[Nt ht];exact h b (by omega)
theorem aRg {L:Nat->Bool}{n0:Nat}:∀(T:Tb) (k:Nat) (l:List (Nat×bQ)),zP l (n0+k)->(∀i,i<T.length->L (k+i)=true)->bxL L n0 k T (look l)=look (qQ n0 k T l)
 | [],_,_,_,_=>rfl
 |(o,e,c)::r,k,l,a,h=>by
  unfold bxL qQ;rw[show L k=true from h 0 (by simp)];simp only[cond_true];rw[<-aFL _ _ _ (a _ (Nat.le_refl _))]
  exact aRg r (k+1) _ (aKP a) fun i hi=>by have:=h (i+1) (by simpa using hi);rw[show k+1+i=k+(i+1) by omega];exact this
theorem aRS {L:fG}{sp:Spec}{B:Nat->Option bQ}{all:Array Oper}{n0:Nat}{l:LV}:∀(os:List Oper) (k:Nat) (b:List AT) (a:List (Nat×bQ)) (ν:LV) (T:Tb) (p:List Prop),Bz L sp B all n0 k os b a ν=some (T,l,p)->zP a (n0+k)->Holds p->
  T.length=os.length/\(∀(i:Nat) (x:Int×Nat),ν[i]?=some x->l[i]?=some x)/\∀(j:Nat) (x:Oper×iK×List Nat),T[j]?=some x->os[j]?=some x.1/\∃f g q,Holds q/\(∀(i:Nat) (y:Int×Nat),(f++g)[i]?=some y->l[i]?=some y)/\
   qW L sp B all (mA (fun i=>decide (i<k+j)) k T b) (bxL (fun i=>decide (i<k+j)) n0 k T (look a)) f (n0+(k+j)) x.1=some (x.2.1,g,q)/\x.2.2=fE (iY (mA (fun i=>decide (i<k+j)) k T b)) x.1.op
 | [],k,b,a,ν,T,p,h,r,v=>by
  simp only[Bz,Option.some.injEq,Prod.mk.injEq]at h;obtain⟨rfl,rfl,rfl⟩:=h;exact⟨rfl,fun _ _ h=>h,fun j x d=>by simp at d⟩
 |o::os,k,b,a,ν,T,p,h,r,v=>by
  unfold Bz at h;obtain⟨⟨e,w,q⟩,H,I⟩:=aT h;obtain⟨⟨n,D,R⟩,J,A⟩:=cA I;simp only[Prod.mk.injEq]at A;obtain⟨rfl,rfl,rfl⟩:=A;obtain⟨E,z,F⟩:=aRS os (k+1) _ _ _ n R J (aKP r) (fun x d=>v x (by simp[d]));refine⟨by simp[E],fun i x d=>z i x (sK _ _ i x d),fun j x d=>?_⟩
  cases j with
  |zero=>
   simp at d;subst d
   have s:mA (fun i=>decide (i<k+0)) k ((o,e,fE (iY b) o.op)::n) b=b:=aJY _ _ _ fun i hi=>by simp;omega
   have u:bxL (fun i=>decide (i<k+0)) n0 k ((o,e,fE (iY b) o.op)::n) (look a)=look a:=Vw _ _ _ fun i hi=>by simp;omega
   rw[s,u];exact⟨rfl,ν,w,q,(fun x d=>v x (by simp[d])),z,H,rfl⟩
  |succ j=>
   obtain⟨k1,f,g,S,M,N,O,P⟩:=F j x (by simpa using d)
   have s:mA (fun i=>decide (i<k+(j+1))) k ((o,e,fE (iY b) o.op)::n) b=mA (fun i=>decide (i<k+1+j)) (k+1) n (putT b o.dst e.res):=by
    conv=>lhs;unfold mA
    rw[show decide (k<k+(j+1))=true by simp];rw[show k+(j+1)=k+1+j by omega];rfl
   have u:bxL (fun i=>decide (i<k+(j+1))) n0 k ((o,e,fE (iY b) o.op)::n) (look a)=bxL (fun i=>decide (i<k+1+j)) n0 (k+1) n (look (xZ (n0+k) e a)):=by
    rw[aFL _ _ _ (r _ (Nat.le_refl _))]
    conv=>lhs;unfold bxL
    rw[show decide (k<k+(j+1))=true by simp];rw[show k+(j+1)=k+1+j by omega];rfl
   rw[s,u,show n0+(k+(j+1))=n0+(k+1+j) by omega];exact⟨by simpa using k1,f,g,S,M,N,O,P⟩
variable {d:Nat->Option bQ}
theorem aF1 {e:TypeId}{size:Nat}{t:AT}(h:∀b∈fR t,d b=a b):rowOf d e size t=rowOf a e size t:=by
 unfold rowOf;split
 ·rfl
 ·rename_i b f len sz;rw[h b (by simp[fR])]
 ·rfl
theorem aIH {i:Nat->Option bQ}{e:TypeId}{size:Nat}{t:AT}{cs:List AC}{len:Nat}(h:rowOf i e size t=some (some b,cs,len)):b∈fR t:=by
 unfold rowOf at h;split at h
 ·cases h
 ·rename_i j f a sz;obtain⟨B,k,d⟩:=aT h
  cases g:(f==0&&sz==size&&B.ty==e&&B.cs.length==a*size)with
  |false=>rw[g]at d;cases d
  |true=>rw[g]at d;cases d;simp[fR]
 ·cases h
variable {k:Operand->AT}{z:Nat->Option bQ}{op:Op}
theorem aIe {P:Program}{j:Operand->AT}{n:Nat->Option bQ}(h:∀x∈op.operands.toList,j x=k x)(A:∀b∈fE j op,z b=n b):evalOp P j z op=evalOp P k n op:=by
 cases op with
 |load t a=>
  have C:=h a (by simp[Op.operands]);simp only[evalOp,<-C]
  cases hc:eV (j a)with
  |none=>rfl
  |some c=>
   cases c<;>try rfl
   case ptr b off=>
    simp only[Option.bind_some];rw[A b (by simp[fE,qC hc,fR])]
 |store t a x=>
  have C:=h a (by simp[Op.operands]);have B:=h x (by simp[Op.operands]);simp only[evalOp,<-C,<-B]
  cases hc:eV (j a)with
  |none=>rfl
  |some c=>
   cases c<;>try rfl
   case ptr b off=>
    simp only[Option.bind_some];rw[A b (by simp[fE,qC hc,fR])]
 |build t g=>
  have:(g.toList.map fun(i,x)=>(i,j x))=(g.toList.map fun(i,x)=>(i,k x)):=map_congr_left fun p D=>by
   obtain⟨i,x⟩:=p;simp only;rw[h x (by simp only[Op.operands,mem_map];exact⟨(i,x),D,rfl⟩)]
  simp only[evalOp,this]
 |buildSlice t len g=>
  have:(g.toList.map fun(i,x)=>(i,j x))=(g.toList.map fun(i,x)=>(i,k x)):=map_congr_left fun p D=>by
   obtain⟨i,x⟩:=p;simp only;rw[h x (by simp only[Op.operands,mem_map];exact⟨(i,x),D,rfl⟩)]
  simp only[evalOp,this]
 |convert s d x=>simp only[evalOp,h x (by simp[Op.operands])]
 |call c=>
  obtain⟨q,args,l⟩:=c
  cases q with
  |builtin b=>
   cases b<;>try rfl
   case append=>
    simp only[evalOp];split
    ·rename_i t L s x E v;have H:j s=k s:=h s (by simp[Op.operands,Call.operands,v]);have B:j x=k x:=h x (by simp[Op.operands,Call.operands,v])
     have I:∀e size,rowOf z e size (j s)=rowOf n e size (j s):=fun e size=>aF1 fun b w=>A b (by simp only[fE,mem_flatMap];exact⟨s,by simp[v],w⟩)
     have J:∀e size,rowOf z e size (j x)=rowOf n e size (j x):=fun e size=>aF1 fun b w=>A b (by simp only[fE,mem_flatMap];exact⟨x,by simp[v],w⟩)
     simp only[<-H,<-B,<-I,<-J];congr;funext e;congr;funext _;congr;funext size;congr;funext i;congr;funext zero
     cases F:rowOf z e size (j s)with
     |none=>rfl
     |some p=>
      obtain⟨old,cs,len⟩:=p;simp only[Option.bind_some]
      have:kS z old=kS n old:=by
       cases old with
       |none=>rfl
       |some b=>
        unfold kS;simp only;rw[A b (by simp only[fE,mem_flatMap];exact⟨s,by simp[v],aIH F⟩)]
      rw[this]
    ·rfl
   case len=>
    simp only[evalOp]
    cases E:l.toList with
    |nil=>rfl
    |cons t r=>
     cases r with
     |cons _ _=>rfl
     |nil=>
      cases v:args.toList with
      |nil=>rfl
      |cons x r=>
       cases r with
       |cons _ _=>rfl
       |nil=>
        simp only;rw[h x (by simp[Op.operands,Call.operands,v])]
  |value f=>
   cases f with
   |func f=>
    have:args.toList.map j=args.toList.map k:=map_congr_left fun x B=>h x (by simp[Op.operands,Call.operands];right;simpa using B)
    simp only[evalOp,this]
   |_=>rfl
  |_=>rfl
 |move x=>simp only[evalOp,h x (by simp[Op.operands])]
 |assign x=>simp only[evalOp,h x (by simp[Op.operands])]
 |pick c a b=>simp only[evalOp,h c (by simp[Op.operands]),h a (by simp[Op.operands]),h b (by simp[Op.operands])]
 |box t x=>simp only[evalOp,h x (by simp[Op.operands])]
 |nilCheck x=>simp only[evalOp,h x (by simp[Op.operands])]
 |binOp o t x y u=>simp only[evalOp,h x (by simp[Op.operands]),h y (by simp[Op.operands])]
 |unOp o t x=>cases o<;>simp only[evalOp,h x (by simp[Op.operands])]
 |fieldAddr t x f=>simp only[evalOp,h x (by simp[Op.operands])]
 |field t x f=>simp only[evalOp,h x (by simp[Op.operands])]
 |indexAddr t x i=>simp only[evalOp,h x (by simp[Op.operands]),h i (by simp[Op.operands])]
 |index t x i=>simp only[evalOp,h x (by simp[Op.operands]),h i (by simp[Op.operands])]
 |extract x i=>simp only[evalOp,h x (by simp[Op.operands])]
 |_=>rfl
def nL.old:nL->Option Nat
 |.mZ b _=>some b
 |.app old _ _ _ _=>old
 |_=>none
def NoSto (e:Option nL):Prop:=∀f b,e=some f->f.old≠some b
theorem kH {d:Type}{x:Option d}{f:d->Option nL}(h:∀a,NoSto (f a)):NoSto (x.bind f):=by
 intro g b e;obtain⟨a,_,i⟩:=aT e;exact h a g b i
theorem xH {d:Type}{x:Option d}{f:d->nL}(h:∀a,NoSto (some (f a))):NoSto (x.map f):=by
 intro g b e;obtain⟨a,_,i⟩:=cA e;exact h a g b (by rw[i])
theorem rQ (r:AT)(p:List Prop):NoSto (some (.val r p)):=fun _ _ e=>by cases e;intro h;cases h
theorem Nu (c:Bool){x y:Option nL}(a:NoSto x)(b:NoSto y):NoSto (bif c then x else y):=by cases c;exact b;exact a
theorem aFQ (cs:List AC)(ty:TypeId)(sl:Option (Nat×Nat)):NoSto (some (.new cs ty sl)):=fun _ _ e=>by cases e;intro h;cases h
theorem aLU (f:FuncId)(a:List AV):NoSto (some (.call f a)):=fun _ _ e=>by cases e;intro h;cases h
theorem pO:NoSto none:=fun _ _ e=>by cases e
variable {r:Nat->Option bQ}
theorem Zo {P:Program}{f:nL}(h:evalOp P k r op=some f)(p:f.old=some b):b∈fE k op:=by
 have no:NoSto (evalOp P k r op)->b∈fE k op:=fun M=>absurd p (M f b h)
 cases op with
 |store t a x=>
  simp only[evalOp]at h;obtain⟨c,w,l⟩:=aT h
  cases c<;>simp only at l<;>try cases l
  case ptr b' off=>
   obtain⟨v,I,z⟩:=aT l;obtain⟨B,J,g⟩:=aT z
   cases A:B.ro with
   |true=>rw[A]at g;cases g
   |false=>
    rw[A]at g;simp only[cond_false]at g;obtain⟨E,L,h8⟩:=cA g;subst h8;cases p;simp[fE,qC w,fR]
 |call c=>
  obtain⟨e,args,j⟩:=c
  cases e with
  |builtin D=>
   cases D<;>try (cases h;done)
   case len=>
    refine no ?_;simp only[evalOp];split
    ·refine kH (fun c=>?_)
     cases c<;>first|exact pO|exact xH fun _=>rQ _ _|exact Nu _ (xH fun _=>rQ _ _) pO
    ·exact pO
   case append=>
    simp only[evalOp]at h;split at h
    ·rename_i t T s x R F;obtain⟨S,w,h⟩:=aT h;obtain⟨H,l,h⟩:=aT h;obtain⟨size,I,h⟩:=aT h;obtain⟨i,z,h⟩:=aT h;obtain⟨zero,J,h⟩:=aT h;obtain⟨⟨old,cs,len⟩,g,h⟩:=aT h;obtain⟨⟨C,O,n⟩,L,h⟩:=aT h;simp only at h;generalize (Nat.ble (len+n) 100&&Nat.ble i.bytes 1000000&&!(n==0)&&!(size==0)&&zero.length==size&&kS r old)=q at h
     cases q with
     |false=>cases h
     |true=>
      cases h;simp only[nL.old]at p;subst p;simp only[fE,mem_flatMap];exact⟨s,by simp[F],aIH g⟩
    ·cases h
  |value f=>
   cases f with
   |func f=>exact no (xH fun _=>aLU _ _)
   |_=>cases h
  |_=>cases h
 |unOp o t x=>
  refine no ?_
  cases o<;>simp only[evalOp]<;>first
   |exact pO
   |exact kH fun c=>xH fun _=>rQ _ _
   |exact kH fun c=>by cases c<;>first|exact pO|exact rQ _ _
 |move x=>exact no (rQ _ _)
 |assign x=>exact no (rQ _ _)
 |pick c x y=>
  refine no (kH fun c=>?_)
  cases c<;>(try exact pO)<;>(try exact rQ _ _)
  simp only
  split<;>first|exact pO|exact rQ _ _
 |alloc t=>exact no (xH fun _=>aFQ _ _ _)
 |box t x=>exact no (xH fun _=>aFQ _ _ _)
 |build t N=>exact no (kH fun _=>kH fun _=>xH fun _=>rQ _ _)
 |buildSlice t len N=>exact no (kH fun _=>kH fun _=>kH fun _=>Nu _ (kH fun _=>xH fun _=>aFQ _ _ _) pO)
 |convert s d x=>
  refine no (kH fun _=>kH fun _=>kH fun _=>?_)
  split<;>first|exact pO|exact rQ _ _
 |load t a=>
  refine no (kH fun c=>?_)
  cases c<;>(try exact pO)
  exact kH fun _=>xH fun _=>rQ _ _
 |nilCheck x=>
  refine no (kH fun c=>?_)
  cases c<;>first|exact pO|exact rQ _ _
 |binOp o t x y u=>exact no (kH fun _=>kH fun _=>xH fun _=>rQ _ _)
 |fieldAddr t x f=>
  refine no (kH fun c=>?_)
  cases c<;>(try exact pO)
  exact kH fun _=>kH fun _=>kH fun n=>Nu _ pO (rQ _ _)
 |field t x f=>
  refine no (kH fun c=>?_)
  cases c<;>(try exact pO)
  exact kH fun _=>kH fun _=>xH fun _=>rQ _ _
 |indexAddr t x i=>
  refine no (kH fun c=>?_)
  cases c<;>(try exact pO)
  all_goals
   refine kH fun c=>?_
   cases c<;>(try exact pO)
   all_goals exact kH fun _=>kH fun _=>Nu _ (rQ _ _) pO
 |index t x i=>
  refine no (kH fun c=>?_)
  cases c<;>(try exact pO)
  refine kH fun c=>?_
  cases c<;>(try exact pO)
  exact kH fun _=>kH fun _=>Nu _ (xH fun _=>rQ _ _) pO
 |extract x i=>
  refine no ?_;simp only[evalOp]
  cases k x<;>first|exact pO|exact xH fun _=>rQ _ _
 |_=>cases h
variable {all:Array Oper}{ν:LV}{o:Oper}{p:List Prop}
theorem entTouch {L:fG}{sp:Spec}{i:List AT}{w:Nat->Option bQ}{u:LV}(h:qW L sp z all i w ν id o=some (e,u,p))(hs:b∈eQ id e):(b=id/\e.new≠none)\/b∈fE (iY i) o.op:=by
 have plain:∀r,e=⟨r,none,none,none⟩->(b=id/\e.new≠none)\/b∈fE (iY i) o.op:=by
  rintro r rfl;simp[eQ]at hs
 unfold qW at h
 cases F:gd all i o<;>rw[F]at h<;>simp only at h
 ·obtain⟨f,l,a⟩:=aT h
  cases f with
  |val r q=>simp only[fA,Option.some.injEq,Prod.mk.injEq]at a;exact plain r a.1.symm
  |new cs ty sl=>
   simp only[fA,Option.some.injEq,Prod.mk.injEq]at a;obtain⟨rfl,_⟩:=a;simp[eQ]at hs;exact Or.inl ⟨hs,by simp⟩
  |app old cs ty len size=>
   simp only[fA]at a
   cases n:L.bt.contains ty<;>rw[n]at a
   ·cases a
   ·simp only[cond_true,Option.some.injEq,Prod.mk.injEq]at a;obtain⟨rfl,_⟩:=a;simp only[eQ,mem_cons]at hs
    rcases hs with hs|hs
    ·exact Or.inl ⟨hs,by simp⟩
    ·exact Or.inr (Zo l (by simpa[nL.old]using hs))
  |mZ H A=>
   simp only[fA]at a;obtain⟨B,E,d⟩:=aT a
   cases n:L.bt.contains B.ty<;>rw[n]at d
   ·cases d
   ·simp only[cond_true,Option.some.injEq,Prod.mk.injEq]at d;obtain⟨rfl,_⟩:=d;simp[eQ]at hs;exact Or.inr (Zo l (by simp[nL.old,hs]))
  |call f x=>
   simp only[fA]at a;obtain⟨⟨j,r,q,g⟩,_,k⟩:=aT a
   cases g with
   |some B=>
    simp only[Option.some.injEq,Prod.mk.injEq]at k;obtain⟨rfl,_⟩:=k;simp[eQ]at hs;exact Or.inl ⟨hs,by simp⟩
   |none=>
    simp only[Option.some.injEq,Prod.mk.injEq]at k;exact plain _ k.1.symm
 ·simp only[Option.some.injEq,Prod.mk.injEq]at h;exact plain _ h.1.symm
 ·cases h
 ·rename_i c
  cases s:(evalOp L.P (iY i) w o.op).bind (fS c sp z ν id)with
  |none=>
   rw[s]at h;simp only[orElse]at h;obtain⟨f,args,ts,x,cs,j,v,q,_,_,_,D,_,_⟩:=aER h;exact plain _ D
  |some y=>
  rw[s]at h;simp only[orElse,Option.some.injEq]at h;subst h;obtain⟨f,l,a⟩:=aT s
  cases f with
  |val r q=>
   cases r<;>simp only[fS]at a<;>try cases a
   exact plain _ rfl
  |call f x=>
   simp only[fS]at a;obtain⟨⟨j,r,q,g⟩,E,d⟩:=aT a
   cases r<;>cases g<;>simp only at d<;>try cases d
   exact plain _ rfl
  |_=>simp[fS]at a
theorem aMZ {b a:List AT}{x:Operand}(h:∀t,x=.tmp t->b[t]?=a[t]?):iY b x=iY a x:=by
 cases x with
 |tmp t=>simp only[iY,List.getD];rw[h t rfl]
 |_=>rfl
theorem aG0 {c:Bool}{sp:Spec}{b a:Operand->AT}(h:∀x∈op.operands.toList,b x=a x):kC c sp d ν id b op=kC c sp d ν id a op:=by
 unfold kC;split
 ·rename_i f args ts
  have:args.toList.map b=args.toList.map a:=map_congr_left fun x e=>h x (by simp[Op.operands,Call.operands];exact Or.inr (by simpa using e))
  rw[this]
 ·rfl
theorem aLz {L:fG}{sp:Spec}{i a:List AT}{k h:Nat->Option bQ}(n:∀t∈reads all o,i[t]?=a[t]?)(l:∀b∈fE (iY i) o.op,k b=h b):qW L sp r all i k ν id o=qW L sp r all a h ν id o:=by
 have s:gd all i o=gd all a o:=by
  unfold gd
  cases y:o.guard with
  |none=>rfl
  |some p=>
   obtain⟨g,q⟩:=p;simp only
   cases v:(all[g]?).bind (·.dst)with
   |none=>rfl
   |some d=>
    simp only;rw[n d (by simp[reads,y,v])]
 have j:∀ x∈o.op.operands.toList,iY i x=iY a x:=fun x z=>aMZ fun t e=>n t (by
  subst e;simp only[reads,List.mem_append,List.mem_filterMap]
  exact Or.inl ⟨.tmp t,z,rfl⟩)
 have u:evalOp L.P (iY i) k o.op=evalOp L.P (iY a) h o.op:=aIe j l;unfold qW;rw[s,<-u]
 cases gd all a o with
 |yes=>
  simp only
  cases w:evalOp L.P (iY i) k o.op with
  |none=>rfl
  |some f=>
   simp only[Option.bind_some]
   cases f with
   |mZ b cs=>simp only[fA];rw[l b (Zo w rfl)]
   |_=>rfl
 |cond c=>
  simp only;rw[aG0 j]
 |_=>rfl
def maskOf (acc:PH)(o:Oper):Nat:=o.after.toList.foldl (fun m e=>bif Region.binds .any e then m |||2^e.on |||acc.getD e.on 0 else m) 0
def masks:List Nat->List Oper->List Nat
 |acc,[]=>acc
 |acc,o::r=>masks (acc++[maskOf acc o]) r
theorem aIp:∀(os:List Oper) (a:PH),∃r,masks a os=a++r/\r.length=os.length
 | [],a=>⟨[],by simp[masks],rfl⟩
 |o::os,a=>by
  obtain⟨r,b,d⟩:=aIp os (a++[maskOf a o]);exact⟨maskOf a o::r,by unfold masks;rw[b];simp,by simp[d]⟩
theorem aKD:∀(os:List Oper) (a:PH) (j:Nat) (o:Oper),os[j]?=some o->(masks a os)[a.length+j]?=some (maskOf ((masks a os).take (a.length+j)) o)
 |o'::os,a,0,o,h=>by
  simp at h;subst h;obtain⟨r,b,_⟩:=aIp os (a++[maskOf a o']);unfold masks;rw[b];simp
 |o'::os,a,j+1,o,h=>by
  have:=aKD os (a++[maskOf a o']) j o (by simpa using h);unfold masks;rw[show a.length+(j+1)=(a++[maskOf a o']).length+j by simp;omega];exact this
 | [],a,j,o,h=>by simp at h
variable {i:Nat}
theorem aLM {acc:PH}(h:(maskOf acc o).testBit i=true):∃e∈o.after.toList,Region.binds .any e=true/\(e.on=i\/(acc.getD e.on 0).testBit i=true):=by
 unfold maskOf at h
 have b:∀(l:List Edge) (m:Nat),(l.foldl (fun m e=>bif Region.binds .any e then m |||2^e.on |||acc.getD e.on 0 else m) m).testBit i=true->m.testBit i=true\/∃e∈l,Region.binds .any e=true/\(e.on=i\/(acc.getD e.on 0).testBit i=true):=by
  intro l
  induction l with
  |nil=>exact fun m h=>Or.inl h
  |cons e l j=>
   intro m h;simp only[List.foldl_cons]at h
   rcases j _ h with h|⟨d,f,g⟩
   ·cases a:Region.binds .any e with
    |false=>rw[a]at h;exact Or.inl h
    |true=>
     rw[a]at h;simp only[cond_true,Nat.testBit_or,or_eq_true,Nat.testBit_two_pow,decide_eq_true_eq]at h
     rcases h with(h|h)|h
     ·exact Or.inl h
     ·exact Or.inr ⟨e,by simp,a,Or.inl h⟩
     ·exact Or.inr ⟨e,by simp,a,Or.inr h⟩
   ·exact Or.inr ⟨d,by simp[f],g⟩
 rcases b _ _ h with h|h
 ·simp at h
 ·exact h
def qK (ops:Array Oper)(L:Nat->Bool):Prop:=∀(i:Nat) (o:Oper),L i=true->ops[i]?=some o->∀e∈o.after,Region.binds .any e=true->L e.on=true
variable {ops:Array Oper}
theorem Nn (hc:qK ops L):∀(j:Nat) (o:Oper),ops[j]?=some o->(∀e∈o.after,Region.binds .any e=true->L e.on=true)->∀i,((masks [] ops.toList).getD j 0).testBit i=true->L i=true:=by
 intro j
 induction j using Nat.strongRecOn with
 |ind j v=>
  intro o l u i hi;have w:=(Array.getElem?_eq_some_iff.1 l).1;have k:=aKD ops.toList [] j o (by simpa using l);simp only[List.length_nil,zero_add]at k
  have p:(masks [] ops.toList).getD j 0=maskOf ((masks [] ops.toList).take j) o:=by simp[List.getD,k]
  rw[p]at hi;obtain⟨e,r,s,h3⟩:=aLM hi;have g:=u e (by simpa using r) s
  rcases h3 with h3|h3
  ·rw[<-h3];exact g
  ·have a:e.on<j:=by
    rcases Nat.lt_or_ge e.on j with h|h
    ·exact h
    ·have:(((masks [] ops.toList).take j).getD e.on 0)=0:=by
      simp only[List.getD];rw[List.getElem?_eq_none (by rw[List.length_take];omega)];rfl
     rw[this]at h3;simp at h3
   have q:((masks [] ops.toList).take j).getD e.on 0=(masks [] ops.toList).getD e.on 0:=by simp[List.getD,List.getElem?_take_of_lt a]
   rw[q]at h3;have b:ops[e.on]?=some ops[e.on]:=Array.getElem?_eq_getElem (by omega);exact v e.on a _ b (fun n f d=>hc e.on _ g b n f d) i h3
def Et (M:PH)(i j:Nat):Bool:=(decide (i<j)&&(M.getD j 0).testBit i)||(decide (j<i)&&(M.getD i 0).testBit j)
def oE (all:Array Oper)(n0 i:Nat)(x y:Oper×iK×List Nat):Bool:=
 (match x.1.dst with|some t=>(reads all y.1).contains t|none=>false)||(eQ (n0+i) x.2.1).any fun b=>y.2.2.contains b
def lE (all:Array Oper)(M:PH)(n0 i j:Nat)(x y:Oper×iK×List Nat):Bool:=
 (x.1.dst.isNone||x.1.dst != y.1.dst)&&(!oE all n0 i x y||Et M i j)&&(!(y.2.2.contains (n0+i))||(decide (i<j)&&(M.getD j 0).testBit i))
def Xz (all:Array Oper)(n0:Nat)(T:Tb)(M:PH):Bool:=
 T.zipIdx.all fun(y,j)=>!(y.2.2.contains (n0+j))&&y.1.after.toList.all (fun e=>!Region.binds .any e||decide (e.on<j))&&T.zipIdx.all fun(x,i)=>i==j||lE all M n0 i j x y
theorem Ud {a:Type}{l:List a}{x:a}(h:l[i]?=some x):(x,i)∈l.zipIdx:=by
 rw[List.mem_zipIdx_iff_getElem?];exact h
def Aj (l:List (Nat×bQ)):Nat->Option bQ:=fun b=>(look l b).bind fun B=>bif !B.own&&B.ro then some B else none
theorem aM0 {B:bQ}(h:Aj l b=some B):look l b=some B:=by
 unfold Aj at h;obtain⟨D,d,a⟩:=aT h
 cases hc:(!D.own&&D.ro)with
 |false=>rw[hc]at a;cases a
 |true=>rw[hc]at a;cases a;exact d
def Eb (a:Nat->Option bQ)(n0:Nat)(T:Tb):Bool:=T.zipIdx.all fun(y,j)=>(eQ (n0+j) y.2.1).all fun b=>(a b).isNone
theorem aSm (h:Eb a n0 T=true){x:Oper×iK×List Nat}(e:T[i]?=some x)(d:b∈eQ (n0+i) x.2.1):a b=none:=by
 unfold Eb at h;rw[all_eq_true]at h;have:=h (x,i) (Ud e);simp only[all_eq_true]at this
 simpa using this b d
def aK (C:fG)(sp:Spec)(ops:Array Oper)(s:AS):Option (AS×List Prop):=
 (Bz C sp (Aj s.boxes) ops s.next 0 ops.toList s.tmps s.boxes s.nums).bind fun(T,a,p)=>
  bif Xz ops s.next T (masks [] ops.toList)&&Eb (Aj s.boxes) s.next T then
   some (⟨mA (fun _=>true) 0 T s.tmps,qQ s.next 0 T s.boxes,s.next+ops.size,a,s.dirty++T.filterMap (fun x=>x.2.1.mZ.map (·.1))⟩,p)
  else none
theorem aML {f:PH}(h:Xz all n0 T f=true){k:Nat}{y:Oper×iK×List Nat}(p:T[k]?=some y):
  (n0+k)∉y.2.2/\(∀e∈y.1.after,Region.binds .any e=true->e.on<k)/\∀(i:Nat) x,T[i]?=some x->i≠k->lE all f n0 i k x y=true:=by
 unfold Xz at h;rw[all_eq_true]at h;have:=h (y,k) (Ud p);simp only[and_eq_true,all_eq_true]at this;obtain⟨⟨b,d⟩,g⟩:=this;refine⟨by simpa using b,fun e n l=>?_,fun i x o a=>?_⟩
 ·have:=d e (by simpa using n)
  simpa[l]using this
 ·have:=g (x,i) (Ud o)
  simpa[a]using this
theorem Zp (L:Nat->Bool)(j:Nat)(b:L j=false):∀(l:PH),l.Nodup->j∈l->(l.filter fun i=>!(L i||i==j)).length+1=(l.filter fun i=>!L i).length
 | [],_,h=>by simp at h
 |x::l,a,h=>by
  rw[List.nodup_cons]at a
  by_cases e:x=j
  ·subst e
   have:(l.filter fun i=>!(L i||i==x))=l.filter fun i=>!L i:=by
    apply List.filter_congr;intro i hi
    have:i≠x:=fun e=>a.1 (e▸hi)
    simp[this]
   simp only[List.filter_cons,b,Bool.false_or,beq_self_eq_true,Bool.not_true,Bool.false_eq_true,if_false,Bool.not_false,if_true,List.length_cons,this]
  ·have d:j∈l:=by simpa[Ne.symm e]using h
   have f:=Zp L j b l a.2 d;simp only[List.filter_cons,beq_eq_false_iff_ne.2 e,Bool.or_false];cases L x
   ·simp only[Bool.not_false,if_true,List.length_cons];omega
   ·simpa using f
section
variable {C:fG} {sp:Spec}{ψ:LI}
theorem aIc {n:World}(cb:SpecOk C n ψ sp){s s':AS}(ba:aK C sp ops s=some (s',p))(hp:Holds p){I:LI}{a0:Act}{U:World}{Q:XW}(hr:Rep C n ψ I s a0 U)
  (hQ:∀aj a' w',Ext C I aj s.nums s'.nums U w'->Rep C n ψ aj s' a' w'->Q .normal a' w'):wpAny C.P .any ops Q ops.size (Array.replicate ops.size false) a0 {U with drawn:=U.drawn+1}:=by
 unfold aK at ba;obtain⟨⟨T,ag,q⟩,ht,O⟩:=aT ba;simp only at O
 cases J:(Xz ops s.next T (masks [] ops.toList)&&Eb (Aj s.boxes) s.next T)with
 |false=>rw[J]at O;cases O
 |true=>
  rw[J]at O;rw[and_eq_true]at J;obtain⟨aq,a8⟩:=J;simp only[cond_true,Option.some.injEq,Prod.mk.injEq]at O;obtain⟨rfl,rfl⟩:=O
  have ab:zP s.boxes s.next:=by
   intro b g
   cases hl:look s.boxes b with
   |none=>rfl
   |some B=>
    obtain⟨k,o,_,_,_,hk,_⟩:=hr.wd.box _ _ hl;rw[hr.wd.fresh b g]at hk;cases hk
  obtain⟨bc,bj,z⟩:=aRS ops.toList 0 s.tmps s.boxes s.nums T q ht ab hp;simp only[Array.length_toList]at bc;simp only[zero_add]at z;generalize al:s.dirty++T.filterMap (fun x=>x.2.1.mZ.map (·.1))=dirty at*
  have cf:∀(fuel:Nat) (f:Array Bool) (φ:LI) (a:Act) (w:World),
    f.size=ops.size->((List.range ops.size).filter fun i=>!f.getD i false).length=fuel->qK ops (fun i=>f.getD i false)->
    RepF C n ψ φ (bxL (fun i=>f.getD i false) s.next 0 T (look s.boxes)) (fun b=>s.next<=b/\∀j,b=s.next+j->f.getD j false=false) ag dirty w->a.defers=[]->
    All2 (relT C φ ag w) (mA (fun i=>f.getD i false) 0 T s.tmps) a.tmps.toList->Ext C I φ s.nums ag U w->wpAny C.P .any ops Q fuel f a w:=by
   intro fuel
   induction fuel with
   |zero=>
    intro f φ a w R hf X M hd ai hx
    have W:∀i,i<ops.size->f.getD i false=true:=by
     intro i hi
     cases hv:f.getD i false with
     |true=>rfl
     |false=>
      have:i∈(List.range ops.size).filter fun i=>!f.getD i false:=by simp[hi,<-Array.getD_eq_getD_getElem?,hv]
      rw[List.length_eq_zero_iff.1 hf]at this;cases this
    refine⟨?_,?_⟩
    ·apply List.eq_nil_iff_forall_not_mem.2;intro j hj;obtain⟨S,o,h3,_⟩:=mem_ready.1 hj;have:=W j (Array.getElem?_eq_some_iff.1 h3).1
     have aa:j<f.size:=by rw[R];exact(Array.getElem?_eq_some_iff.1 h3).1
     simp[aa]at this S;rw[this]at S;cases S
    ·have e1:=aRT (L:=fun i=>f.getD i false) T 0 s.tmps fun i hi=>by rw[zero_add];exact W i (by omega)
     have e2:=aRg (L:=fun i=>f.getD i false) (n0:=s.next) T 0 s.boxes ab fun i hi=>by rw[zero_add];exact W i (by omega)
     rw[e1]at ai;rw[e2]at M;refine hQ φ a w hx ⟨M.cW fun b g=>⟨by simp only at g;omega,fun j hj=>?_⟩,hd,ai⟩;rw[Array.getD_eq_getD_getElem?,Array.getElem?_eq_none (by simp only at g;omega)];rfl
   |succ fuel ih=>
    intro f φ a w R hf X M hd ai hx;refine⟨fun bg=>?_,fun j hj=>?_⟩
    ·-- someone can always come
     exfalso
     have av:((List.range ops.size).filter fun i=>!f.getD i false)≠[]:=by intro e;rw[e]at hf;simp at hf
     -- the af that is not f
     have:∃i,i<ops.size/\f.getD i false=false:=by
      obtain⟨i,r,e⟩:=List.exists_cons_of_ne_nil av
      have hi:i∈(List.range ops.size).filter fun i=>!f.getD i false:=by rw[e];simp
      rw[List.mem_filter,List.mem_range]at hi;exact⟨i,hi.1,by simpa using hi.2⟩
     obtain⟨i,b6,b7⟩:=this
     have af:∀d,d<ops.size->f.getD d false=false->False:=by
      intro d
      induction d using Nat.strongRecOn with
      |ind d ce=>
       intro be bf;have ho:ops[d]?=some ops[d]:=Array.getElem?_eq_getElem be
       have am:d∈Region.ready .any ops f:=by
        refine mem_ready.2 ⟨?_,ops[d],ho,fun e he g=>?_⟩
        ·have b9:d<f.size:=by rw[R];exact be
         simp[b9]at bf ⊢;exact bf
        ·obtain⟨x,v⟩:∃x,T[d]?=some x:=⟨T[d]'(by omega),List.getElem?_eq_getElem (by omega)⟩
         have ad:=(z d x v).1
         have N:x.1=ops[d]:=by
          rw[Array.getElem?_toList,ho]at ad;exact(Option.some.inj ad).symm
         obtain⟨_,c2,_⟩:=aML aq v;have b8:=c2 e (by rw[N];exact he) g
         cases hv:f.getD e.on false with
         |true=>rfl
         |false=>exact(ce e.on b8 (by omega) hv).elim
       rw[bg]at am;cases am
     exact af i b6 b7
    ·obtain⟨bb,o,ho,H⟩:=mem_ready.1 hj;have au:j<ops.size:=(Array.getElem?_eq_some_iff.1 ho).1
     have D:f.getD j false=false:=by
      have aa:j<f.size:=by rw[R];exact au
      simp[aa]at bb ⊢;exact bb
     obtain⟨x,v⟩:∃x,T[j]?=some x:=⟨T[j]'(by omega),List.getElem?_eq_getElem (by omega)⟩
     obtain⟨ad,c7,c8,q2,ca,bk,Y,a5⟩:=z j x v
     have N:x.1=o:=by
      rw[Array.getElem?_toList,ho]at ad;exact(Option.some.inj ad).symm
     obtain⟨c1,c2,c3⟩:=aML aq v
     -- who is ordered against j is f if,and only if,it comes earlier
     have a6:∀i,((masks [] ops.toList).getD j 0).testBit i=true->f.getD i false=true:=fun i hi=>Nn X j o ho H i hi
     have ak:∀i y,T[i]?=some y->((masks [] ops.toList).getD i 0).testBit j=true->f.getD i false=false:=by
      intro i y A hi
      cases hv:f.getD i false with
      |false=>rfl
      |true=>
       have a2:=(z i y A).1;rw[Array.getElem?_toList]at a2;have:=Nn X i y.1 a2 (fun e he g=>X i y.1 hv a2 e he g) j hi;rw[D]at this;cases this
     have ap:∀i y,T[i]?=some y->Et (masks [] ops.toList) i j=true->f.getD i false=decide (i<j):=by
      intro i y A h;unfold Et at h;simp only[or_eq_true,and_eq_true,decide_eq_true_eq]at h
      rcases h with⟨S,O⟩|⟨S,O⟩
      ·rw[a6 i O];simp[S]
      ·rw[ak i y A O];simp;omega
     have F:=c3
     -- what j looks at
     have ay:∀t∈reads ops x.1,(mA (fun i=>decide (i<j)) 0 T s.tmps)[t]?=(mA (fun i=>f.getD i false) 0 T s.tmps)[t]?:=by
      intro t cc
      refine Vm T 0 _ _ rfl rfl fun i y A a1=>?_
      rw[zero_add]
      by_cases l:i=j
      ·subst l;rw[D];simp
      ·have:=F i y A l;unfold lE at this;simp only[and_eq_true]at this;obtain⟨⟨_,hc⟩,_⟩:=this
       have u:oE ops s.next i y x=true:=by
        unfold oE;rw[a1];simp only[or_eq_true];exact Or.inl (by simpa using cc)
       rw[u]at hc;simp only[Bool.not_true,Bool.false_or]at hc;exact(ap i y A hc).symm
     have a7:∀b,b∈fE (iY (mA (fun i=>decide (i<j)) 0 T s.tmps)) x.1.op->bxL (fun i=>decide (i<j)) s.next 0 T (look s.boxes) b=bxL (fun i=>f.getD i false) s.next 0 T (look s.boxes) b:=by
      intro b g;rw[<-a5]at g
      refine Oa T 0 _ _ rfl fun i y A ae=>?_
      rw[zero_add]at ae ⊢
      by_cases l:i=j
      ·subst l;rw[D];simp
      ·have:=F i y A l;unfold lE at this;simp only[and_eq_true]at this;obtain⟨⟨_,hc⟩,_⟩:=this
       have u:oE ops s.next i y x=true:=by
        unfold oE;simp only[or_eq_true,List.any_eq_true];exact Or.inr ⟨b,ae,by simpa using g⟩
       rw[u]at hc;simp only[Bool.not_true,Bool.false_or]at hc;exact(ap i y A hc).symm
     rw[aLz ay a7]at Y;rw[N]at Y;refine aVA cb (nb:=fun b=>s.next<=b/\∀i,b=s.next+i->f.getD i false=false) (id:=s.next+j) ho M hd ai Y ca (fun b B g=>(aMJ T 0 _ fun i y A ae=>by rw[zero_add]at ae;rw[aSm a8 A ae]at g;cases g).trans (aM0 g)) bk ⟨by omega,fun i hi=>?_⟩ ?_ ?_
     ·have:i=j:=by omega
      subst this;exact D
     ·intro b cs hs;rw[<-al];simp only[List.mem_append,List.mem_filterMap];exact Or.inr ⟨x,List.mem_of_getElem? v,by rw[hs];rfl⟩
     ·intro aj a' w' az b3 bi cd
      have E:(fun i=>(f.setIfInBounds j true).getD i false)=fun i=>f.getD i false||i==j:=by
       funext i
       by_cases l:i=j
       ·subst l
        have aa:i<f.size:=by rw[R];exact au
        simp[aa,Array.getElem?_setIfInBounds]
       ·rw[getD_set_ne false (Ne.symm l)];simp[l]
      refine ih (f.setIfInBounds j true) aj a' w' (by simp[R]) ?_ ?_ ?_ b3 ?_ (hx.trans cd)
      ·have:=Zp (fun i=>f.getD i false) j D (List.range ops.size) List.nodup_range (by simp[au])
       have e:(fun i=>!(f.setIfInBounds j true).getD i false)=fun i=>!(f.getD i false||i==j):=by
        funext i;exact congrArg Bool.not (congrFun E i)
       rw[e];omega
      ·rw[E];intro i o' hi ax e he g;simp only[or_eq_true,beq_iff_eq]at hi ⊢
       rcases hi with hi|hi
       ·exact Or.inl (X i o' hi ax e he g)
       ·subst hi;rw[ho]at ax;cases ax;exact Or.inl (H e he g)
      ·rw[E]
       have:=aRf (L:=fun i=>f.getD i false) (n0:=s.next) (j:=j) T 0 (look s.boxes) j x v (by omega) D (by
        intro m y b hm A S O;rw[zero_add]at O ⊢
        -- both eQ b: ordered
        have av:j≠m:=by omega
        obtain⟨_,cz,c5,c6,_,_,bq,bp⟩:=z m y A;obtain⟨_,cv,cx,cy,_,_,bo,bn⟩:=z j x v
        rcases entTouch bq O with⟨b2,ck⟩|hya
        ·-- y makes the box that x touches
         rcases entTouch bo S with⟨cm,_⟩|hxa
         ·omega
         ·have:=c3 m y A (by omega);unfold lE at this;rw[<-bn]at hxa;rw[b2]at hxa
          have ar:x.2.2.contains (s.next+m)=true:=by simpa using hxa
          simp only[and_eq_true,ar,Bool.not_true,Bool.false_or,decide_eq_true_eq]at this;omega
        ·have:=(aML aq A).2.2 j x v av;unfold lE at this;simp only[and_eq_true]at this;obtain⟨⟨_,hc⟩,_⟩:=this
         have u:oE ops s.next j x y=true:=by
          unfold oE;simp only[or_eq_true,List.any_eq_true];exact Or.inr ⟨b,S,by rw[bp];simpa using hya⟩
         rw[u]at hc;simp only[Bool.not_true,Bool.false_or]at hc;unfold Et at hc;simp only[or_eq_true,and_eq_true,decide_eq_true_eq]at hc
         rcases hc with⟨h3,h4⟩|⟨h3,h4⟩
         ·exact ak m y A h4
         ·omega)
       rw[this]
       refine az.cW fun b g=>⟨⟨g.1,fun i hi=>?_⟩,fun e=>?_⟩
       ·have:=g.2 i hi
        by_cases l:i=j
        ·rw[l];exact D
        ·rw[getD_set_ne false (Ne.symm l)]at this;exact this
       ·have:=g.2 j e;have e2:=congrFun E j;simp only[beq_self_eq_true,Bool.or_true]at e2;rw[e2]at this;cases this
      ·rw[E]
       rw [aWq v D (fun i y t hi A hd a1=>by
        have:=F i y A hi;unfold lE at this;simp only[and_eq_true]at this;have S:=this.1.1;rw[a1,hd]at S
        simp at S)]
       rw[N];exact bi
  have g:Below U.heap.size U {U with drawn:=U.drawn+1}:=⟨rfl,rfl,rfl,Nat.le_refl _,fun _ _=>rfl⟩
  have hx:Ext C I I s.nums ag U {U with drawn:=U.drawn+1}:=⟨fun _ _ h=>h,bj,On.below g⟩
  have ah:∀i,(Array.replicate ops.size false).getD i false=false:=by
   intro i;rw[Array.getD_eq_getD_getElem?]
   by_cases hi:i<ops.size
   ·simp[hi]
   ·rw[Array.getElem?_eq_none (by simp;omega)];rfl
  refine cf ops.size (Array.replicate ops.size false) I a0 _ (by simp) ?_ ?_ ?_ hr.defers ?_ hx
  ·have:((List.range ops.size).filter fun i=>!(Array.replicate ops.size false).getD i false)=List.range ops.size:=by
    apply List.filter_eq_self.2;intro i _;rw[ah i];rfl
   rw[this];simp
  ·intro i o hi;have hi:(Array.replicate ops.size false).getD i false=true:=hi;rw[ah i]at hi;cases hi
  ·rw[Vw T 0 (look s.boxes) fun i _=>ah i];have:=hr.wd.later g ag bj;refine⟨this.box,this.own,this.inj,this.tip,fun b g=>this.fresh b g.1,this.lt,fun k hk b4=>this.low k hk fun b b1=>b4 b ?_,this.on,this.base,this.qH⟩;rw[<-al];simp[b1]
  ·rw[aJY T 0 s.tmps fun i _=>ah i];exact hr.tmps.mono (xQ hx)
theorem pN {w0:World}(e:C.P.follows .mixedOrders=true)(b:SpecOk C w0 ψ sp):uI C w0 ψ (aK C sp):=by
 intro ops s i p a f h a0 j id Q g d;exact wp_region_any e (aIc b a f g d)
end
inductive Tok where
 |num (k:Bool) (z:Int) (n:Nat)
 |c (x:AC)
inductive VT where
 |one (c:AC)
 |agg (ts:List Tok)
inductive RV where
 |val (v:VT)
 |tup (vs:List VT)
def fO:AC->Bool
 |.sg _=>false
 |.dg _ _=>false
 |.ptr _ _=>false
 |.slc _ _ _ _=>false
 |.dsl _ _ _ _=>false
 |_=>true
def toks (ν:LV):List AC->Option (List Tok)
 | []=>some []
 |.sg i::.dg k j::r=>bif i==j then(ν[i]?).bind fun(z,n)=>(toks ν r).map (.num k z n::·)else none
 |c::r=>bif fO c then(toks ν r).map (.c c::·)else none
def vJ (ν:LV):AV->Option VT
 |.one c=>bif fO c then some (.one c)else none
 |.agg cs=>(toks ν cs).map .agg
section
variable (C:fG)
def RT (w:World):List Tok->List Value->Prop
 | [],[]=>True
 |.num k z n::ts,x::y::a=>x=.bool (decide (z<0))/\C.eU k w z y/\C.bits n z/\RT w ts a
 |.c c::ts,x::a=>fO c=true/\relC C (fun _=>none) [] w c x/\RT w ts a
 |_,_=>False
def lJ (w:World):VT->Value->Prop
 |.one c,x=>fO c=true/\relC C (fun _=>none) [] w c x
 |.agg ts,x=>∃a:LB,x=.agg a.toArray/\RT C w ts a
def RRV (w:World):RV->Value->Prop
 |.val v,x=>lJ C w v x
 |.tup vs,x=>∃a:LB,x=.tuple a.toArray/\All2 (lJ C w) vs a
end
def iJ:Nat->List Tok->List AC×List (Int×Nat)
 |_,[]=>([],[])
 |b,.num k z n::r=>(.sg b::.dg k b::(iJ (b+1) r).1,(z,n)::(iJ (b+1) r).2)
 |b,.c x::r=>(x::(iJ b r).1,(iJ b r).2)
def sQ (b:Nat):VT->AV×List (Int×Nat)
 |.one c=>(.one c,[])
 |.agg ts=>(.agg (iJ b ts).1,(iJ b ts).2)
def eG:Nat->List VT->List AV×List (Int×Nat)
 |_,[]=>([],[])
 |b,v::r=>((sQ b v).1::(eG (b+(sQ b v).2.length) r).1,(sQ b v).2++(eG (b+(sQ b v).2.length) r).2)
def Dz (b:Nat):RV->AT×List (Int×Nat)
 |.val v=>(.val (sQ b v).1,(sQ b v).2)
 |.tup a=>(.tup (eG b a).1,(eG b a).2)
section
variable {C:fG} {φ:LI} {w:World}{a:LV}{x:Value}
theorem Ow {c:AC}(h:fO c=true){φ I:LI}(r:relC C φ ν w c x):relC C I a w c x:=by
 cases c<;>first|exact r|(simp[fO]at h)
theorem aJZ {ν u:LV}(b:∀(i:Nat) (x:Int×Nat),ν[i]?=some x->u[i]?=some x):∀(cs:List AC) (ts:List Tok) (g:LB),toks ν cs=some ts->All2 (relC C φ u w) cs g->RT C w ts g
 | [],ts,[],h,_=>by simp[toks]at h;subst h;trivial
 | [],_,_::_,_,h=>h.elim
 |_::_,_,[],_,h=>h.elim
 | [c],ts,[x],h,⟨l,_⟩=>by
  cases c<;>simp[toks,fO]at h<;>subst h<;>exact⟨rfl,Ow rfl l,trivial⟩
 | [c],_,_::_::_,_,h=>h.2.elim
 |_::_::_,_,[_],_,h=>h.2.elim
 |c::d::r,ts,x::y::g,h,⟨l,s,q⟩=>by
  by_cases hc:fO c=true
  ·have e:toks ν (c::d::r)=(toks ν (d::r)).map (.c c::·):=by
    cases c<;>first|(simp[fO]at hc;done)|rfl
   rw[e]at h;obtain⟨f,o,rfl⟩:=cA h;exact⟨hc,Ow hc l,aJZ b (d::r) f (y::g) o ⟨s,q⟩⟩
  ·cases c<;>simp[fO]at hc
   case sg i=>
    cases d<;>try (simp[toks,fO]at h;done)
    case dg k j=>
     simp only[toks]at h
     cases a:i==j with
     |false=>rw[a]at h;cases h
     |true=>
      rw[a]at h;simp only[cond_true]at h
      have:i=j:=by simpa using a
      subst this;obtain⟨⟨z,n⟩,o,A⟩:=aT h;obtain⟨f,B,rfl⟩:=cA A;obtain⟨F,D,p,v⟩:=l;obtain⟨H,E,f1,f2,f3⟩:=s;have:=b _ _ o;rw[this]at p f1;cases p;cases f1;exact⟨v,f2,f3,aJZ b r f g B q⟩
   all_goals simp[toks,fO]at h
theorem aO8 {d:LV}(a:∀(i:Nat) (x:Int×Nat),ν[i]?=some x->d[i]?=some x){v:AV}{t:VT}(h:vJ ν v=some t)(r:dW C φ d w v x):lJ C w t x:=by
 cases v with
 |one c=>
  simp only[vJ]at h
  cases hc:fO c with
  |false=>rw[hc]at h;cases h
  |true=>rw[hc]at h;cases h;exact⟨hc,Ow hc r⟩
 |agg cs=>
  simp only[vJ]at h;obtain⟨ts,f,rfl⟩:=cA h;obtain⟨b,e,g⟩:=r;exact⟨b,e,aJZ a cs ts b f g⟩
theorem aHL {ν e:LV}(a:∀(i:Nat) (x:Int×Nat),ν[i]?=some x->e[i]?=some x):∀{b:List AV} {ts:List VT} {d:LB},fB (vJ ν) b=some ts->All2 (dW C φ e w) b d->All2 (lJ C w) ts d
 | [],ts,[],h,_=>by simp[fB]at h;subst h;trivial
 |v::b,ts,x::d,h,⟨k,l⟩=>by
  unfold fB at h;obtain⟨t,f,g⟩:=aT h;obtain⟨n,j,rfl⟩:=cA g;exact⟨aO8 a f k,aHL a j l⟩
 | [],_,_::_,_,h=>h.elim
 |_::_,_,[],_,h=>h.elim
def At (a:LV)(b:Nat)(ns:LV):Prop:=∀(i:Nat) (y:Int×Nat),ns[i]?=some y->a[b+i]?=some y
variable {l ns:LV}
theorem At.tail {y:Int×Nat}(h:At l b (y::ns)):At l (b+1) ns:=fun i z a=>by rw[show b+1+i=b+(i+1) by omega];exact h (i+1) z (by simpa using a)
theorem At.left (h:At l b (a++ns)):At l b a:=fun i z d=>h i z (sK _ _ i z d)
theorem At.right (h:At l b (a++ns)):At l (b+a.length) ns:=fun i z d=>by
 rw[show b+a.length+i=b+(a.length+i) by omega];exact h (a.length+i) z (by rw[List.getElem?_append_right (by omega)];simpa using d)
theorem aFt {l:LV}:∀(ts:List Tok) (b:Nat) (d:LB),At l b (iJ b ts).2->RT C w ts d->All2 (relC C φ l w) (iJ b ts).1 d
 | [],b,[],_,_=>trivial
 |.num k z n::r,b,x::y::d,a,⟨e,f,g,j⟩=>by
  simp only[iJ]at a ⊢;have i:=a 0 (z,n) rfl;exact⟨⟨z,n,i,e⟩,⟨z,n,i,f,g⟩,aFt r (b+1) d a.tail j⟩
 |.c c::r,b,x::d,a,⟨e,f,g⟩=>by
  simp only[iJ]at a ⊢;exact⟨Ow e f,aFt r b d a g⟩
 | [],_,_::_,_,h=>h.elim
 |.num ..::_,_,[],_,h=>h.elim
 |.num ..::_,_,[_],_,h=>h.elim
 |.c _::_,_,[],_,h=>h.elim
theorem aMD {v:VT}(d:At l b (sQ b v).2)(h:lJ C w v x):dW C φ l w (sQ b v).1 x:=by
 cases v with
 |one c=>exact Ow h.1 h.2
 |agg ts=>obtain⟨a,e,f⟩:=h;exact⟨a,e,aFt ts b a d f⟩
theorem Ij {l:LV}:∀(vs:List VT) (b:Nat) (a:LB),At l b (eG b vs).2->All2 (lJ C w) vs a->All2 (dW C φ l w) (eG b vs).1 a
 | [],_,[],_,_=>trivial
 |v::vs,b,x::a,d,⟨e,f⟩=>by
  simp only[eG]at d ⊢;exact⟨aMD d.left e,Ij vs _ a d.right f⟩
 | [],_,_::_,_,h=>h.elim
 |_::_,_,[],_,h=>h.elim
theorem aSe {r:RV}(a:At l b (Dz b r).2)(h:RRV C w r x):relT C φ l w (Dz b r).1 x:=by
 cases r with
 |val v=>exact aMD a h
 |tup g=>obtain⟨d,e,f⟩:=h;exact⟨d,e,Ij g b d a f⟩
end
abbrev TE:=List VT->Option (RV×List Prop)
def bI (C:fG)(f:FuncId)(d:TE):Prop:=Enters C.P f/\∀ts r p,d ts=some (r,p)->Holds p->∀w (b:LB),All2 (lJ C w) ts b->Calls C.P f b.toArray w fun e a=>∃v,e=.returned v/\RRV C a r v/\Below w.heap.size w a
def adapt (a:TE):List (Int×Nat)->List AV->Option (List (Int×Nat)×AT×List Prop×Option bQ):=fun ν b=>
 (fB (vJ ν) b).bind fun ts=>(a ts).map fun(r,p)=>((Dz ν.length r).2,(Dz ν.length r).1,p,none)
def oL:List (FuncId×TE)->FuncId->Option TE
 | [],_=>none
 |(g,a)::l,f=>bif g==f then some a else oL l f
def aD (l:List (FuncId×TE)):Spec:=fun f _ ν _ _ b=>(oL l f).bind fun a=>adapt a ν b
def cG (C:fG):List (FuncId×TE)->Prop
 | []=>True
 |(f,a)::l=>bI C f a/\cG C l
theorem aIn {C:fG}{M:FuncId}{b:TE}:∀{l:List (FuncId×TE)},cG C l->oL l M=some b->bI C M b
 | [],_,h=>by simp[oL]at h
 |(g,t)::l,a,h=>by
  unfold oL at h
  cases e:g==M with
  |true=>
   rw[e]at h;cases h
   have:g=M:=by simpa using e
   subst this;exact a.1
  |false=>rw[e]at h;exact aIn a.2 h
variable {C:fG}
theorem cZ {w0:World}{ψ:LI}{l:List (FuncId×TE)}(A:cG C l):SpecOk C w0 ψ (aD l):=by
 intro f d ν id M vs L r p F h;unfold aD at h;obtain⟨N,o,k⟩:=aT h;obtain⟨b,g⟩:=aIn A o;refine⟨b,fun B P a φ w J _ _ _ _ j=>?_⟩;unfold adapt at k;obtain⟨ts,q,s⟩:=aT k;obtain⟨⟨I,H⟩,u,n⟩:=cA s;simp only[Prod.mk.injEq]at n;obtain⟨rfl,rfl,rfl,rfl⟩:=n;refine(g ts I H u B w J (aHL (fun i x D=>a i x (sK _ _ i x D)) q j)).mono ?_;rintro e O⟨v,rfl,hv,z⟩;refine⟨v,rfl,z,aSe ?_ hv⟩;intro i y E;exact a _ _ (by rw[List.getElem?_append_right (by omega)];simpa using E)
inductive Out where
 |ret (r:RV)
 |br (t:Bool) (a b:Out)
 |need (p:List Prop) (o:Out)
def Out.ok (G:RV->Prop):Out->Prop
 |.ret r=>G r
 |.br t a b=>(t=true->a.ok G)/\(t=false->b.ok G)
 |.need p o=>Holds p/\o.ok G
def rvOf (ν:LV):AT->Option RV
 |.val v=>(vJ ν v).map .val
 |.tup a=>(fB (vJ ν) a).map .tup
 |_=>none
def outcome:Tr->Option Out
 |.ret r s=>bif clean s then(rvOf s.nums r).map .ret else none
 |.br t a b=>(outcome a).bind fun x=>(outcome b).map fun y=>.br t x y
 |.need p t=>(outcome t).map (.need p)
 |.stop _ _=>none
def start (fn:Func)(ts:List VT):AS:=⟨(eG 0 ts).1.map .val++List.replicate (fn.ntmps-(eG 0 ts).1.length) .fX,[],0,(eG 0 ts).2,[]⟩
theorem yU {G:RV->Prop}:∀{i:Tr} {o:Out},outcome i=some o->o.ok G->i.ok (fun r s=>clean s=true/\∃g,rvOf s.nums r=some g/\G g) (fun _ _=>False)
 |.ret r s,o,h,d=>by
  simp only[outcome]at h
  cases hc:clean s with
  |false=>rw[hc]at h;cases h
  |true=>rw[hc]at h;obtain⟨g,f,rfl⟩:=cA h;exact⟨hc,g,f,d⟩
 |.br t a b,o,h,d=>by
  simp only[outcome]at h;obtain⟨x,f,j⟩:=aT h;obtain⟨y,k,rfl⟩:=cA j;exact⟨fun e=>yU f (d.1 e),fun e=>yU k (d.2 e)⟩
 |.need p t,o,h,d=>by
  simp only[outcome]at h;obtain⟨x,f,rfl⟩:=cA h;exact⟨d.1,yU f d.2⟩
 |.stop _ _,o,h,_=>by cases h
theorem Ct {φ:LI}{w:World}{r:AT}{d:RV}{v:Value}(h:rvOf ν r=some d)(b:relT C φ ν w r v):RRV C w d v:=by
 cases r with
 |val x=>simp only[rvOf]at h;obtain⟨t,a,rfl⟩:=cA h;exact aO8 (fun _ _ h=>h) a b
 |tup i=>simp only[rvOf]at h;obtain⟨ts,a,rfl⟩:=cA h;obtain⟨g,e,f⟩:=b;exact⟨g,e,aHL (fun _ _ h=>h) a f⟩
 |_=>simp[rvOf]at h
theorem Ox (fn:Func)(ts:List VT)(w:World):RepW C w (fun _=>none) (fun _=>none) (start fn ts) w:=
 ⟨fun b B a=>(by simp[start,look]at a),fun b B k o a=>(by simp[start,look]at a),fun b f B d k o g a=>(by simp[start,look]at a),fun b B a=>(by simp[start,look]at a),fun b _=>rfl,fun b k o e=>(by cases e),fun k _ _=>rfl,On.refl _ _,fun b x e=>e,fun b B k o a=>(by simp[start,look]at a)⟩
end Ab
namespace Rd
def cO (n:Int):Bool:=decide (48<=n/\n<=57)
def isLet (n:Int):Bool:=decide (97<=n/\n<=122)
def kindOf (n:Int):Int:=bif cO n then 1 else bif isLet n then 2 else 3
def aQ (s:ByteArray)(k:Nat):Int:=((s.data.toList.getD k 0).toNat:Int)
theorem Io (s:ByteArray)(k:Nat)(h:k<s.size):aQ s k=(s[k].toNat:Int):=by
 unfold aQ;have a:k<s.data.size:=h
 have e:s.data[k]?=some (s[k]):=by rw[Array.getElem?_eq_getElem a];rfl
 simp[List.getD,e]
def cJ (s:ByteArray)(a:Nat):Nat->Nat->Nat
 |0,e=>e
 |f+1,e=>bif decide (e<s.size/\e-a<9)&&cO (aQ s e)then cJ s a f (e+1)else e
def bS (s:ByteArray):Nat->Nat->Nat
 |0,e=>e
 |f+1,e=>bif decide (e<s.size)&&(isLet (aQ s e)||cO (aQ s e))then bS s f (e+1)else e
theorem aNY (s:ByteArray)(a:Nat):∀f e,e<=cJ s a f e:=by
 intro f
 induction f with
 |zero=>intro e;exact Nat.le_refl _
 |succ f b=>
  intro e;unfold cJ
  cases decide (e<s.size/\e-a<9)&&cO (aQ s e)with
  |false=>exact Nat.le_refl _
  |true=>exact Nat.le_trans (by omega) (b (e+1))
theorem aNX (s:ByteArray)(a:Nat):∀f e,e<=s.size->cJ s a f e<=s.size:=by
 intro f
 induction f with
 |zero=>intro e h;exact h
 |succ f b=>
  intro e h;unfold cJ
  cases hc:decide (e<s.size/\e-a<9)&&cO (aQ s e)with
  |false=>exact h
  |true=>
   simp only[and_eq_true,decide_eq_true_eq]at hc;exact b (e+1) (by omega)
theorem aLO (s:ByteArray):∀f e,e<=bS s f e:=by
 intro f
 induction f with
 |zero=>intro e;exact Nat.le_refl _
 |succ f a=>
  intro e;unfold bS
  cases decide (e<s.size)&&(isLet (aQ s e)||cO (aQ s e))with
  |false=>exact Nat.le_refl _
  |true=>exact Nat.le_trans (by omega) (a (e+1))
theorem aLN (s:ByteArray):∀f e,e<=s.size->bS s f e<=s.size:=by
 intro f
 induction f with
 |zero=>intro e h;exact h
 |succ f a=>
  intro e h;unfold bS
  cases hc:decide (e<s.size)&&(isLet (aQ s e)||cO (aQ s e))with
  |false=>exact h
  |true=>
   simp only[and_eq_true,decide_eq_true_eq]at hc;exact a (e+1) (by omega)
structure Wd where
 kind:Int
 text:ByteArray
 pos:Nat
def wordEnd (s:ByteArray)(a:Nat):Nat:=
 bif Rd.cO (aQ s a)then cJ s a 9 (a+1)else bif Rd.isLet (aQ s a)then bS s s.size (a+1)else a+1
def split (s:ByteArray):Nat->Nat->List Wd
 |0,_=>[]
 |f+1,a=>
  bif decide (a<s.size)then
   bif aQ s a != 32 then⟨kindOf (aQ s a),s.extract a (wordEnd s a),a⟩::split s f (wordEnd s a)
   else split s f (wordEnd s a)
  else [⟨0,⟨#[]⟩,s.size⟩]
theorem Ic (s:ByteArray)(a:Nat):a+1<=wordEnd s a:=by grind [wordEnd,aNY,aLO]
theorem Lq (s:ByteArray)(a:Nat)(h:a<s.size):wordEnd s a<=s.size:=by grind [wordEnd,aNX,aLN]
def eC:List Wd->List Value
 | []=>[]
 |w::r=>.int .i64 w.kind::.string w.text::.int .i64 w.pos::eC r
theorem aEl (a b:List Wd):eC (a++b)=eC a++eC b:=by
 induction a with
 |nil=>rfl
 |cons x r d=>simp[eC,d]
def valTo (t:ByteArray):Nat->Int
 |0=>0
 |k+1=>bif cO (aQ t k)then valTo t k*10+(aQ t k-48)else valTo t k
theorem aHK (t:ByteArray):∀k,0<=valTo t k:=by
 intro k
 induction k with
 |zero=>exact Int.le_refl _
 |succ k a=>
  unfold valTo
  cases h:cO (aQ t k)with
  |false=>exact a
  |true=>
   simp[cO]at h;simp;omega
theorem aQX (t:ByteArray):∀k,valTo t k<(10:Int)^k:=by
 intro k
 induction k with
 |zero=>simp[valTo]
 |succ k b=>
  unfold valTo;rw[Int.pow_succ];have a:=aHK t k
  cases h:cO (aQ t k)with
  |false=>simp;omega
  |true=>
   simp[cO]at h;simp;omega
theorem aLj (t:ByteArray)(k:Nat)(h:k<=9):valTo t k<1000000000:=by
 have a:=aQX t k
 have b:(10:Int)^k<=10^9:=by
  have:=Nat.pow_le_pow_right (n:=10) (by omega) h;exact_mod_cast this
 omega
def isT (t:ByteArray)(c:EW):Bool:=t.data.toList==c
theorem aRp (t:ByteArray)(c:EW):(t.toList==c)=isT t c:=by unfold isT;rw[ByteArray.toList_eq]
def named (t:ByteArray):Int:=
 bif isT t [112,105]then 2 else bif isT t [101]then 3 else bif isT t [99,102]then 4 else bif isT t [115,113,114,116]then 10
 else bif isT t [101,120,112]then 11 else bif isT t [108,110,49,112]then 12 else bif isT t [97,116,97,110]then 13 else 0
structure St where
 next:Nat
 around:Nat
 deepest:Nat
 nodes:Nat
def aB (ws:List Wd)(n:Nat):Wd:=ws.getD n ⟨0,⟨#[]⟩,0⟩
theorem aO9:∀(a:List Wd) (n:Nat),n<a.length->(eC a)[n*3]?=some (.int .i64 (aB a n).kind)/\(eC a)[n*3+1]?=some (.string (aB a n).text)/\(eC a)[n*3+2]?=some (.int .i64 (aB a n).pos):=by
 intro a
 induction a with
 |nil=>intro n h;simp at h
 |cons x r b=>
  intro n h
  cases n with
  |zero=>simp[eC,aB]
  |succ n=>
   have:=b n (by simpa using h)
   simpa[eC,aB,Nat.add_mul]using this
end Rd
theorem zB {k:IntKind}{a b:Int}(h:a=b):Ending.returned (.int k a)=.returned (.int k b):=by rw[h]
theorem Ft (n:Int)(w:World):
  Calls prog 135 #[.int .u8 n] w fun e a=>e=.returned (.bool (Rd.cO n))/\w=a:=by
 by_cases b:48<=n
 all_goals by_cases d:n<=57
 all_goals
  go_enter func135,ntmps135
  go_wp2
  go_ret
  exact⟨by simp[Rd.cO];omega,rfl⟩
theorem Tv (n:Int)(w:World):
  Calls prog 136 #[.int .u8 n] w fun e a=>e=.returned (.bool (Rd.isLet n))/\w=a:=by
 by_cases b:97<=n
 all_goals by_cases d:n<=122
 all_goals
  go_enter func136,ntmps136
  go_wp2
  go_ret
  exact⟨by simp[Rd.isLet];omega,rfl⟩
theorem Uc (n:Int)(w:World):
  Calls prog 119 #[.int .u8 n] w fun e a=>e=.returned (.int .i64 (Rd.kindOf n))/\w=a:=by
 cases b:Rd.cO n
 all_goals cases d:Rd.isLet n
 all_goals
  go_enter func119,ntmps119
  go_wp2_with (first|(go_at_call 135;refine(Ft _ _).mono ?_;rintro e a⟨rfl,rfl⟩)|(go_at_call 136;refine(Tv _ _).mono ?_;rintro e a⟨rfl,rfl⟩))
  go_ret
  exact⟨by simp[Rd.kindOf,b,d],rfl⟩
theorem aHj (s:ByteArray)(a:Nat)(w:World)(p:s.size<=120)(o:a<s.size):
  Calls prog 120 #[.string s,.int .i64 a] w fun e g=>e=.returned (.int .i64 (Rd.cJ s a 9 (a+1)))/\w=g:=by
 go_enter func120,ntmps120
 go_wp2_with fail
 go_loop [5] (fun e=>∃k:Nat,a+1<=k/\k<=a+9/\k<=s.size/\e=.int .i64 k/\Hid (Rd.cJ s a (a+10-k) k=Rd.cJ s a 9 (a+1))) (fun e=>s.size-(intOf e).toNat)
 case atStart=>exact⟨a+1,by omega,by omega,by omega,by go_num,by rw[show a+10-(a+1)=9 by omega];rfl⟩
 case round=>
  obtain⟨k,j,l,n,rfl,d⟩:=hrel
  obtain⟨f,h⟩:∃f,a+10-k=f+1:=⟨a+9-k,by omega⟩
  have b:Hid (a+10-k=f+1):=h;clear h
  by_cases c1:k<s.size
  ·by_cases c2:(k:Int)-a<9
   ·cases c3:Rd.cO (s[k].toNat:Int)
    ·go_wp2_with (go_at_call 135;refine(Ft _ _).mono ?_;rintro e g⟨rfl,rfl⟩)
     go_ret
     refine⟨zB ?_,rfl⟩;rw[<-d.out,b.out,Rd.cJ,Rd.Io s k c1,c3];simp
    ·go_wp2_with (go_at_call 135;refine(Ft _ _).mono ?_;rintro e g⟨rfl,rfl⟩)
     go_round
     case rel=>
      refine⟨k+1,by omega,by omega,by omega,by go_num,?_⟩;show Rd.cJ s a (a+10-(k+1)) (k+1)=_
      have i:a+10-(k+1)=f:=by have:=b.out;omega
      rw[i,<-d.out,b.out]
      conv=>rhs;rw[Rd.cJ,Rd.Io s k c1,c3]
      simp[c1,show k-a<9 by omega]
     case measure=>simp[intOf];omega
   ·go_wp2_with fail
    go_ret
    refine⟨zB ?_,rfl⟩;rw[<-d.out,b.out,Rd.cJ,decide_eq_false (by omega)];simp
  ·go_wp2_with fail
   go_ret
   refine⟨zB ?_,rfl⟩;rw[<-d.out,b.out,Rd.cJ,decide_eq_false (by omega)];simp
theorem aJE (s:ByteArray)(a:Nat)(w:World)(o:s.size<=120)(n:a<s.size):
  Calls prog 121 #[.string s,.int .i64 a] w fun e b=>e=.returned (.int .i64 (Rd.bS s s.size (a+1)))/\w=b:=by
 go_enter func121,ntmps121
 go_wp2_with fail
 go_loop [5] (fun e=>∃k:Nat,a+1<=k/\k<=s.size/\e=.int .i64 k/\Hid (Rd.bS s (s.size+a+1-k) k=Rd.bS s s.size (a+1))) (fun e=>s.size-(intOf e).toNat)
 case atStart=>exact⟨a+1,by omega,by omega,by go_num,by rw[show s.size+a+1-(a+1)=s.size by omega];rfl⟩
 case round=>
  obtain⟨k,j,l,rfl,g⟩:=hrel
  obtain⟨f,i⟩:∃f,s.size+a+1-k=f+1:=⟨s.size+a-k,by omega⟩
  have d:Hid (s.size+a+1-k=f+1):=i;clear i
  by_cases c1:k<s.size
  ·cases c2:Rd.isLet (s[k].toNat:Int)
   ·cases c3:Rd.cO (s[k].toNat:Int)
    ·go_wp2_with (first|(go_at_call 135;refine(Ft _ _).mono ?_;rintro e b⟨rfl,rfl⟩)|(go_at_call 136;refine(Tv _ _).mono ?_;rintro e b⟨rfl,rfl⟩))
     go_ret
     refine⟨zB ?_,rfl⟩;rw[<-g.out,d.out,Rd.bS,Rd.Io s k c1,c2,c3];simp
    ·go_wp2_with (first|(go_at_call 135;refine(Ft _ _).mono ?_;rintro e b⟨rfl,rfl⟩)|(go_at_call 136;refine(Tv _ _).mono ?_;rintro e b⟨rfl,rfl⟩))
     go_round
     case rel=>
      refine⟨k+1,by omega,by omega,by go_num,?_⟩;show Rd.bS s (s.size+a+1-(k+1)) (k+1)=_
      have h:s.size+a+1-(k+1)=f:=by have:=d.out;omega
      rw[h,<-g.out,d.out]
      conv=>rhs;rw[Rd.bS,Rd.Io s k c1,c2,c3]
      simp[c1]
     case measure=>simp[intOf];omega
   ·go_wp2_with (first|(go_at_call 135;refine(Ft _ _).mono ?_;rintro e b⟨rfl,rfl⟩)|(go_at_call 136;refine(Tv _ _).mono ?_;rintro e b⟨rfl,rfl⟩))
    go_round
    case rel=>
     refine⟨k+1,by omega,by omega,by go_num,?_⟩;show Rd.bS s (s.size+a+1-(k+1)) (k+1)=_
     have h:s.size+a+1-(k+1)=f:=by have:=d.out;omega
     rw[h,<-g.out,d.out]
     conv=>rhs;rw[Rd.bS,Rd.Io s k c1,c2]
     simp[c1]
    case measure=>simp[intOf];omega
  ·go_wp2_with fail
   go_ret
   refine⟨zB ?_,rfl⟩;rw[<-g.out,d.out,Rd.bS,decide_eq_false (by omega)];simp
theorem Az:(prog.info? 121).map (fun i=>(i.zero,i.size,i.bytes))=some (some (.agg #[.int .i64 0,.string ⟨#[]⟩,.int .i64 0]),3,32):=by kernel_rfl
theorem Tt (w:World)(x y z:Value)(t:TypeId):∀j u,[x,y,z][j]?=some u->(w.alloc (.cells #[x,y,z] t)).cell? ((⟨w.heap.size,0,none⟩:Addr).add j)=some u:=by
 intro j u a
 match j,a with
 |0,a=>simp at a;subst a;simp[Addr.add]
 |1,a=>simp at a;subst a;simp[Addr.add]
 |2,a=>simp at a;subst a;simp[Addr.add]
theorem Below.pS (w:World)(o:Obj):(w.alloc o).heap[w.heap.size]?=some o:=by
 show(w.heap.push o)[w.heap.size]?=some o;simp
def pA (s:ByteArray)(w:World)(l i:Value)(wr:World):Prop:=
 ∃(k f:Nat) (done:List Rd.Wd),k<=s.size/\i=.int .i64 k/\done.length<=k/\s.size<f+k/\wr.ownsRow w.heap.size 121 3 l done.length (Rd.eC done)/\Below w.heap.size w wr/\done++Rd.split s f k=Rd.split s (s.size+1) 0
theorem Va {x g e:Value}(b:x.oneCell'=true)(d:g.oneCell'=true)(f:e.oneCell'=true):∀u∈[x,g,e],u.oneCell'=true:=by
 intro u a;simp at a
 rcases a with rfl|rfl|rfl<;>assumption
theorem Fm {n wr J:World}{w e size o:Nat}{x:Value}{i:LB}(d:wr.ownsRow w e size x o i)(b:Below w n wr)(r:w<=wr.heap.size)(a:Obj)(s:(wr.alloc a).grownBy J x.ownBlock):Below w n J:=by
 refine Below.grown (b.alloc r a) s (by simp;omega) ?_;intro k f
 rcases d.2 with⟨h,_⟩|⟨g,p,q,h,j,_⟩
 ·rw[h]at f;cases f
 ·rw[h]at f;cases f;exact j
theorem aMb (s:ByteArray)(f k:Nat)(h:k<s.size)(a:(Rd.aQ s k != 32)=true)(done:List Rd.Wd):
  done++[⟨Rd.kindOf (Rd.aQ s k),s.extract k (Rd.wordEnd s k),k⟩]++Rd.split s f (Rd.wordEnd s k)=done++Rd.split s (f+1) k:=by
 conv=>rhs;rw[Rd.split,decide_eq_true h,a]
 simp
theorem aJR (s:ByteArray)(f k:Nat)(h:k<s.size)(a:(Rd.aQ s k != 32)=false):Rd.split s f (Rd.wordEnd s k)=Rd.split s (f+1) k:=by
 conv=>rhs;rw[Rd.split,decide_eq_true h,a]
 simp
theorem aOD (s:ByteArray)(f k:Nat)(h:¬k<s.size):Rd.split s (f+1) k=[⟨0,⟨#[]⟩,s.size⟩]:=by
 rw[Rd.split,decide_eq_false h];rfl
theorem aHy (s:ByteArray)(w i:World)(k f:Nat)(done:List Rd.Wd)(j:Value)(x:Rd.Wd)(e:Nat)(p:x=⟨Rd.kindOf (Rd.aQ s k),s.extract k (Rd.wordEnd s k),k⟩)(o:e=Rd.wordEnd s k)
  (h:k<s.size) (n:(Rd.aQ s k != 32)=true) (r:done.length<=k) (u:s.size<f+k) (b:i.ownsRow w.heap.size 121 3 j (done.length+1) (Rd.eC done++[.int .i64 x.kind,.string x.text,.int .i64 x.pos]))
  (a:Below w.heap.size w i) (g:done++Rd.split s f k=Rd.split s (s.size+1) 0):pA s w j (.int .i64 e) i:=by
 obtain⟨d,rfl⟩:∃d,f=d+1:=⟨f-1,by omega⟩
 have q:=Rd.Ic s k;have l:=Rd.Lq s k h;subst o;refine⟨_,d,done++[x],l,rfl,by simp;omega,by omega,?_,a,?_⟩
 ·rw[Rd.aEl]
  simpa[Rd.eC]using b
 ·rw[<-g,p];exact aMb s d k h n done
theorem aOo (s:ByteArray)(w i:World)(k f:Nat)(done:List Rd.Wd)(l:Value)(e:Nat)(o:e=Rd.wordEnd s k)
  (h:k<s.size) (n:(Rd.aQ s k != 32)=false) (q:done.length<=k) (r:s.size<f+k) (b:i.ownsRow w.heap.size 121 3 l done.length (Rd.eC done))
  (a:Below w.heap.size w i) (g:done++Rd.split s f k=Rd.split s (s.size+1) 0):pA s w l (.int .i64 e) i:=by
 obtain⟨d,rfl⟩:∃d,f=d+1:=⟨f-1,by omega⟩
 have p:=Rd.Ic s k;have j:=Rd.Lq s k h;subst o;exact⟨_,d,done,j,rfl,by omega,by omega,b,a,by rw[<-g,aJR s d k h n]⟩
theorem aOC (s:ByteArray)(w:World)(M:s.size<=120):
  Calls prog 92 #[.string s] w fun e z=>∃v,e=.returned v/\z.ownsRow w.heap.size 121 3 v (Rd.split s (s.size+1) 0).length (Rd.eC (Rd.split s (s.size+1) 0))/\Below w.heap.size w z:=by
 obtain⟨i,hi,H,n,x⟩:=info_parts Az
 go_enter func92,ntmps92
 go_wp2_with fail
 go_loopw [3,4] (fun l i wr=>pA s w l i wr) (fun _ i _=>s.size-(intOf i).toNat)
 case atStart=>
  refine⟨0,s.size+1,[],zero_le _,rfl,Nat.le_refl _,by omega,?_,(Below.refl _ _).alloc (Nat.le_refl _) _,rfl⟩;refine⟨rfl,Or.inr ⟨w.heap.size,0,#[],rfl,Nat.le_refl _,Below.pS _ _,Nat.le_refl _,zero_le _,rfl,rfl⟩⟩
 case round=>
  obtain⟨k,f,done,O,rfl,E,F,g,j,C⟩:=hrel;have q:Hid (done++Rd.split s f k=Rd.split s (s.size+1) 0):=C;clear C;have y:=j.size
  by_cases c1:k<s.size
  ·have h:=Rd.Io s k c1;cases c2:Rd.cO (s[k].toNat:Int)
   ·cases c3:Rd.isLet (s[k].toNat:Int)
    ·cases c4:((s[k].toNat:Int) != 32)
     ·have p:Rd.kindOf (s[k].toNat:Int)=3:=by simp[Rd.kindOf,c2,c3]
      have b:Hid (Rd.wordEnd s k=k+1):=by show Rd.wordEnd s k=k+1;simp[Rd.wordEnd,h,c2,c3]
      have u:Hid (Rd.aQ s k=(s[k].toNat:Int)):=h;clear h
      go_wp2_with (go_at_call 119;refine(Uc _ _).mono ?_;rintro e z⟨rfl,rfl⟩)
      go_roundw
      case rel=>exact aOo s w _ k f done _ (k+1) b.out.symm c1 (by rw[u.out];exact c4) E F g j q.out
      case measure=>simp[intOf];omega
     ·have p:Rd.kindOf (s[k].toNat:Int)=3:=by simp[Rd.kindOf,c2,c3]
      have b:Hid (Rd.wordEnd s k=(k+1)):=by show Rd.wordEnd s k=(k+1);simp[Rd.wordEnd,h,c2,c3]
      have A:k<(k+1):=by have r:=Rd.Ic s k;rw[b.out]at r;omega
      have B:(k+1)<=s.size:=by have r:=Rd.Lq s k c1;rw[b.out]at r;omega
      have u:Hid (Rd.aQ s k=(s[k].toNat:Int)):=h;clear h
      go_wp2_with (first|(go_at_call 119;refine(Uc _ _).mono ?_;rintro e z⟨rfl,rfl⟩)|(at_builtin;(refine wpList_append_own _ rfl _ _ 123 rfl w.heap.size 121 i (.agg #[.int .i64 0,.string ⟨#[]⟩,.int .i64 0]) 3 32 underlying123 hi H n x rfl (by decide) _ _ _ rfl (g.alloc _) ⟨wr.heap.size,0,none⟩ 1 1 [.int .i64 3,.string (s.extract k (k+1)),.int .i64 k] rfl rfl (Tt _ _ _ _ _) (Va rfl rfl rfl) (by unfold maxLen;omega) (by omega) (by simp;omega) ?_);intro J L d a o))
      go_roundw
      case rel=>exact aHy s w _ k f done _ ⟨3,s.extract k (k+1),k⟩ (k+1) (by rw[u.out,p,b.out]) b.out.symm c1 (by rw[u.out];exact c4) E F d (Fm g j y _ a) q.out
      case measure=>simp[intOf];omega
    ·have c4:((s[k].toNat:Int) != 32)=true:=by simp[Rd.isLet]at c3;rw[bne_iff_ne];omega
     have p:Rd.kindOf (s[k].toNat:Int)=2:=by simp[Rd.kindOf,c2,c3]
     have b:Hid (Rd.wordEnd s k=(Rd.bS s s.size (k+1))):=by show Rd.wordEnd s k=(Rd.bS s s.size (k+1));simp[Rd.wordEnd,h,c2,c3]
     have A:k<(Rd.bS s s.size (k+1)):=by have r:=Rd.Ic s k;rw[b.out]at r;omega
     have B:(Rd.bS s s.size (k+1))<=s.size:=by have r:=Rd.Lq s k c1;rw[b.out]at r;omega
     have u:Hid (Rd.aQ s k=(s[k].toNat:Int)):=h;clear h
     go_wp2_with (first|(go_at_call 119;refine(Uc _ _).mono ?_;rintro e z⟨rfl,rfl⟩)|(go_at_call 121;refine(aJE _ _ _ M c1).mono ?_;rintro e z⟨rfl,rfl⟩)|(at_builtin;(refine wpList_append_own _ rfl _ _ 123 rfl w.heap.size 121 i (.agg #[.int .i64 0,.string ⟨#[]⟩,.int .i64 0]) 3 32 underlying123 hi H n x rfl (by decide) _ _ _ rfl (g.alloc _) ⟨wr.heap.size,0,none⟩ 1 1 [.int .i64 2,.string (s.extract k (Rd.bS s s.size (k+1))),.int .i64 k] rfl rfl (Tt _ _ _ _ _) (Va rfl rfl rfl) (by unfold maxLen;omega) (by omega) (by simp;omega) ?_);intro J L d a o))
     go_roundw
     case rel=>exact aHy s w _ k f done _ ⟨2,s.extract k (Rd.bS s s.size (k+1)),k⟩ (Rd.bS s s.size (k+1)) (by rw[u.out,p,b.out]) b.out.symm c1 (by rw[u.out];exact c4) E F d (Fm g j y _ a) q.out
     case measure=>simp[intOf];omega
   ·have c4:((s[k].toNat:Int) != 32)=true:=by simp[Rd.cO]at c2;rw[bne_iff_ne];omega
    have p:Rd.kindOf (s[k].toNat:Int)=1:=by simp[Rd.kindOf,c2]
    have b:Hid (Rd.wordEnd s k=(Rd.cJ s k 9 (k+1))):=by show Rd.wordEnd s k=(Rd.cJ s k 9 (k+1));simp[Rd.wordEnd,h,c2]
    have A:k<(Rd.cJ s k 9 (k+1)):=by have r:=Rd.Ic s k;rw[b.out]at r;omega
    have B:(Rd.cJ s k 9 (k+1))<=s.size:=by have r:=Rd.Lq s k c1;rw[b.out]at r;omega
    have u:Hid (Rd.aQ s k=(s[k].toNat:Int)):=h;clear h
    go_wp2_with (first|(go_at_call 119;refine(Uc _ _).mono ?_;rintro e z⟨rfl,rfl⟩)|(go_at_call 120;refine(aHj _ _ _ M c1).mono ?_;rintro e z⟨rfl,rfl⟩)|(at_builtin;(refine wpList_append_own _ rfl _ _ 123 rfl w.heap.size 121 i (.agg #[.int .i64 0,.string ⟨#[]⟩,.int .i64 0]) 3 32 underlying123 hi H n x rfl (by decide) _ _ _ rfl (g.alloc _) ⟨wr.heap.size,0,none⟩ 1 1 [.int .i64 1,.string (s.extract k (Rd.cJ s k 9 (k+1))),.int .i64 k] rfl rfl (Tt _ _ _ _ _) (Va rfl rfl rfl) (by unfold maxLen;omega) (by omega) (by simp;omega) ?_);intro J L d a o))
    go_roundw
    case rel=>exact aHy s w _ k f done _ ⟨1,s.extract k (Rd.cJ s k 9 (k+1)),k⟩ (Rd.cJ s k 9 (k+1)) (by rw[u.out,p,b.out]) b.out.symm c1 (by rw[u.out];exact c4) E F d (Fm g j y _ a) q.out
    case measure=>simp[intOf];omega
  ·obtain⟨I,D⟩:∃I,f=I+1:=⟨f-1,by omega⟩
   have N:Hid (Rd.split s (s.size+1) 0=done++[⟨0,⟨#[]⟩,s.size⟩]):=by
    show _=_;rw[<-q.out,D,aOD s I k c1]
   clear D
   go_wp2_with (at_builtin;refine wpList_append_own _ rfl _ _ 123 rfl w.heap.size 121 i (.agg #[.int .i64 0,.string ⟨#[]⟩,.int .i64 0]) 3 32 underlying123 hi H n x rfl (by decide) _ _ _ rfl (g.alloc _) ⟨wr.heap.size,0,none⟩ 1 1 [.int .i64 0,.string ⟨#[]⟩,.int .i64 s.size] rfl rfl (Tt _ _ _ _ _) (Va rfl rfl rfl) (by unfold maxLen;omega) (by omega) (by simp;omega) ?_;intro J L d a o)
   go_ret
   refine⟨_,rfl,?_,Fm g j y _ a⟩;rw[N.out,Rd.aEl]
   simpa[Rd.eC]using d
theorem Zv (d p:Int)(t:ByteArray)(w:World)(g:t.size<=9):
  Calls prog 155 #[.agg #[.int .i64 d,.string t,.int .i64 p]] w fun e a=>e=.returned (.int .i64 (Rd.valTo t t.size))/\w.alloc (.cells #[.int .i64 d,.string t,.int .i64 p] 121)=a:=by
 go_enter func155,ntmps155
 go_wp2_with fail
 go_loop [3,4] (fun v i=>∃k:Nat,k<=t.size/\i=.int .i64 k/\v=.int .i64 (Rd.valTo t k)) (fun _ i=>t.size-(intOf i).toNat)
 case atStart=>exact⟨0,zero_le _,rfl,rfl⟩
 case round=>
  obtain⟨k,f,rfl,rfl⟩:=hrel;have h:=Rd.aHK t k;have j:=Rd.aLj t k (by omega)
  by_cases c1:k<t.size
  ·have b:Hid (Rd.aQ t k=(t[k].toNat:Int)):=Rd.Io t k c1;cases c2:Rd.cO (t[k].toNat:Int)
   ·go_wp2_with (go_at_call 135;refine(Ft _ _).mono ?_;rintro e a⟨rfl,rfl⟩)
    go_round
    case rel=>exact⟨k+1,by omega,by go_num,by rw[Rd.valTo,b.out,c2];rfl⟩
    case measure=>simp[intOf];omega
   ·have b0:48<=(t[k].toNat:Int):=by simp[Rd.cO]at c2;omega
    have b1:(t[k].toNat:Int)<=57:=by simp[Rd.cO]at c2;omega
    go_wp2_with (go_at_call 135;refine(Ft _ _).mono ?_;rintro e a⟨rfl,rfl⟩)
    go_round
    case rel=>exact⟨k+1,by omega,by go_num,by rw[Rd.valTo,b.out,c2];simp⟩
    case measure=>simp[intOf];omega
  ·go_wp2_with fail
   go_ret
   exact⟨zB (by rw[show k=t.size by omega]),rfl⟩
theorem aNN (t:ByteArray)(w:World):
  Calls prog 157 #[.string t] w fun e a=>e=.returned (.int .i64 (Rd.named t))/\w=a:=by
 go_enter func157,ntmps157
 go_wp2
 all_goals
  go_ret
  exact⟨zB (by simp[Rd.named,<-Rd.aRp, *]),rfl⟩
end Go.Proofs.YthhffdeihoofiaaGreatDoor
