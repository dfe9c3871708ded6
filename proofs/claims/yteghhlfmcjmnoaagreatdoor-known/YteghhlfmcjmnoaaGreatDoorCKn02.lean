import Derived.Test.YteghhlfmcjmnoaaGreatDoorCKn01
set_option linter.unusedSimpArgs false
set_option linter.unusedVariables false
set_option maxRecDepth 100000
set_option maxHeartbeats 2000000
namespace Go.Proofs.YteghhlfmcjmnoaaGreatDoor
open Go.RowKit
namespace Ab
def Enters (P:Program)(f:FuncId):Prop:=∀ xs w,(callFunc f xs).run P w=.ok (.enter f xs) w
abbrev Spec:=FuncId->Bool->List (Int×Nat)->Nat->(Nat->Option Box)->List AV->Option (List (Int×Nat)×AT×List Prop×Option Box)
def SpecOk (C:Cfg)(w0:World)(ψ:Nat->Option (Nat×Nat))(sp:Spec):Prop:=∀ f d ν id bx vs ν' r p nbx,sp f d ν id bx vs=some (ν',r,p,nbx)->Enters C.P f/\(Holds p->∀ μ,(∀ (i:Nat) (x:Int×Nat),(ν++ν')[i]?=some x->μ[i]?=some x)->∀ φ w (xs:List Value),
 (∀ b x,ψ b=some x->φ b=some x)->(d=true->Below w0.heap.size w0 w)->On C.bt w0 w->BxOk C φ μ w bx->All2 (relV C φ μ w) vs xs->Calls C.P f xs.toArray w fun e w'=>∃ v,e=.returned v/\Below w.heap.size w w'/\
  match nbx with
  | none=>relT C φ μ w' r v
  | some B=>B.own=true/\(B.tip=true->B.ro=true)/\∃ k o,∃ pre ys post:List Value,w.heap.size<=k/\w'.heap[k]?=some (.cells (pre++ys++post).toArray B.ty (0,0))/\pre.length=o/\All2 (relC C φ μ w') B.cs ys/\relT C (upd φ id (k,o)) μ w' r v/\(B.ro=false->pre=[]/\post=[]))
def clean (s:AS):Bool:=s.dirty.all fun b=>match look s.boxes b with | some B=>B.own | none=>false
theorem RepF.below {C:Cfg}{w0 w:World}{ψ φ:Nat->Option (Nat×Nat)}{s:AS}(h:RepW C w0 ψ φ s w)(c:clean s=true):Below w0.heap.size w0 w:=by
 refine ⟨h.on.os,h.on.tape,h.on.output,h.on.size,fun k hk=>h.low k hk fun b hb o e=>?_⟩;unfold clean at c;rw [List.all_eq_true] at c;have:=c b hb
 cases a:look s.boxes b with
 | none=>rw [a] at this;cases this
 | some B=>
  rw [a] at this;have:=h.own b B k o a this e;omega
inductive Gd where
 | yes | no | bad
 | cond (c:Bool)
def gd (all:Array Oper)(tm:List AT)(o:Oper):Gd:=
 match o.guard with
 | none=>.yes
 | some (g,want)=>match (all[g]?).bind (·.dst) with
  | none=>.no
  | some d=>match tm[d]? with
   | none=>.no
   | some (.val (.one (.bool b)))=>bif b==want then .yes else .no
   | some (.val (.one (.sbool t)))=>.cond (t==want)
   | some .und=>.no
   | some (.cnd c (.one (.sbool t)))=>.cond (c&&(t==want))
   | some (.cnd c (.one (.bool t)))=>.cond (c&&(t==want))
   | _=>.bad
section
variable {C:Cfg} {w0:World} {ψ:Nat->Option (Nat×Nat)} {sp:Spec}
theorem aL0 {φ:Nat->Option (Nat×Nat)}{ν:List (Int×Nat)}{w:World}{all:Array Oper}{i:List AT}{a:Act}{o:Oper}(h:All2 (relT C φ ν w) i a.tmps.toList):
  match gd all i o with
  | .yes=>Region.wanted o (yielded all a.tmps)=true
  | .no=>Region.wanted o (yielded all a.tmps)=false
  | .cond c=>Region.wanted o (yielded all a.tmps)=c
  | .bad=>True:=by
 unfold gd Region.wanted
 cases m:o.guard with
 | none=>simp
 | some p=>
  obtain ⟨g,e⟩:=p;simp only [yielded]
  cases n:(all[g]?).bind (·.dst) with
  | none=>simp
  | some d=>
   simp only [Option.bind_some]
   cases l:i[d]? with
   | none=>
    have j:=h.len;simp at j
    have:a.tmps[d]?=none:=by
     rw [Array.getElem?_eq_none_iff,<-j];exact List.getElem?_eq_none_iff.1 l
    simp [this]
   | some t=>
    obtain ⟨v,k,f⟩:=h.at l;rw [Array.getElem?_toList] at k;simp only [k]
    cases t with
    | top=>simp
    | und=>have:v=undef:=f;subst this;simp [undef]
    | tup vs=>simp
    | val x=>
     cases x with
     | agg cs=>simp
     | one c=>
      cases c<;>try trivial
      case bool b=>
       have:v=.bool b:=f;subst this
       cases b<;>cases e<;>simp
      case sbool b=>
       have:v=.bool b:=f;subst this
       cases b<;>cases e<;>simp
    | cnd c x=>
     cases x with
     | agg cs=>simp
     | one cc=>
      cases cc<;>try trivial
      case bool b=>
       simp only [relT,relV,relC] at f
       cases c with
       | true=>simp only [if_true] at f;subst f;cases b<;>cases e<;>simp
       | false=>simp only [Bool.false_eq_true,if_false] at f;subst f;simp [undef]
      case sbool b=>
       simp only [relT,relV,relC] at f
       cases c with
       | true=>simp only [if_true] at f;subst f;cases b<;>cases e<;>simp
       | false=>simp only [Bool.false_eq_true,if_false] at f;subst f;simp [undef]
variable (C sp)
def condP (c:Bool):List Prop->List Prop
 | []=>[]
 | p::ps=>[c=true->Holds (p::ps)]
theorem aDH {c:Bool}{a:List Prop}(h:Holds (condP c a))(b:c=true):Holds a:=by
 cases a with
 | nil=>exact aAc
 | cons p a=>exact h.one b
def doEff (s:AS)(o:Oper):Eff->Option (AS×List Prop)
 | .val r p=>some ({s with tmps:=putT s.tmps o.dst r},p)
 | .new cs ty sl=>some ({s with boxes:=(s.next,⟨cs,ty,true,sl.isSome,sl.isSome⟩)::s.boxes,next:=s.next+1,tmps:=putT s.tmps o.dst (.val (.one (newC s.next sl)))},[])
 | .app old cs ty len size=>bif C.bt.contains ty then some ({s with boxes:=(match old with | none=>(s.next,⟨cs,ty,true,true,true⟩)::s.boxes | some b=>putTip ((s.next,⟨cs,ty,true,true,true⟩)::s.boxes) b),next:=s.next+1,tmps:=putT s.tmps o.dst (.val (.one (.slc s.next 0 len size)))},[]) else none
 | .sto b cs=>(look s.boxes b).bind fun B=>bif C.bt.contains B.ty then some ({s with boxes:=putBox s.boxes b cs,dirty:=bif B.own then s.dirty else b::s.dirty,tmps:=putT s.tmps o.dst .und},[]) else none
 | .call f vs=>(sp f (clean s) s.nums s.next (look s.boxes) vs).map fun (ν',r,p,nbx)=>(match nbx with
   | none=>{s with nums:=s.nums++ν',tmps:=putT s.tmps o.dst r}
   | some B=>{s with nums:=s.nums++ν',boxes:=(s.next,B)::s.boxes,next:=s.next+1,tmps:=putT s.tmps o.dst r},p)
def doCond (c:Bool)(s:AS)(o:Oper):Eff->Option (AS×List Prop)
 | .val (.val v) p=>some ({s with tmps:=putT s.tmps o.dst (.cnd c v)},condP c p)
 | .call f vs=>(sp f (clean s) s.nums s.next (look s.boxes) vs).bind fun
   | (ν',.val v,p,none)=>some ({s with nums:=s.nums++ν',tmps:=putT s.tmps o.dst (.cnd c v)},condP c p)
   | _=>none
 | _=>none
def stepA (all:Array Oper)(s:AS)(o:Oper):Option (AS×List Prop):=
 match gd all s.tmps o with
 | .yes=>(evalOp C.P (evO s.tmps) (look s.boxes) o.op).bind (doEff C sp s o)
 | .no=>some ({s with tmps:=putT s.tmps o.dst .und},[])
 | .cond c=>(evalOp C.P (evO s.tmps) (look s.boxes) o.op).bind (doCond sp c s o)
 | .bad=>none
variable {C sp}
theorem aBb (ν ν':List (Int×Nat))(i:Nat)(x:Int×Nat)(h:ν[i]?=some x):(ν++ν')[i]?=some x:=by
 rw [List.getElem?_append_left (List.getElem?_eq_some_iff.1 h).1];exact h
theorem aAw (a:Act)(d:Option Tmp)(v:Value):(a.put d v).defers=a.defers:=by cases d<;>rfl
theorem aMu {φ:Nat->Option (Nat×Nat)}{ν:List (Int×Nat)}{w:World}{xs:List Value}{ty:TypeId}{n:Nat}{a:Option (Nat×Nat)}(h:∀ m size,a=some (m,size)->xs.length=m*size):
  relT C (upd φ n (w.heap.size,0)) ν {w with heap:=w.heap.push (.cells xs.toArray ty)} (.val (.one (newC n a))) (newV w.heap.size a):=by
 cases a with
 | none=>exact ⟨w.heap.size,0,aAF _ _ _,rfl⟩
 | some p=>
  obtain ⟨m,size⟩:=p;refine ⟨w.heap.size,0,m,ty,xs.length,aAF _ _ _,rfl,Nat.le_refl _,by simp [World.shape?],?_⟩;rw [h m size rfl];omega
def appB (bx:Nat->Option Box)(n:Nat)(D:Box):Option Nat->Nat->Option Box
 | none=>setB bx n D
 | some b=>match bx b with
  | some B=>setB (setB bx n D) b {B with tip:=false}
  | none=>setB bx n D
theorem aNq {bx:Nat->Option Box}{b:Nat}(h:okTip bx (some b)=true):∃ B,bx b=some B/\B.tip=true:=by
 unfold okTip at h;simp only at h
 cases a:bx b with
 | none=>rw [a] at h;cases h
 | some B=>rw [a] at h;exact ⟨B,rfl,h⟩
theorem aLb {φ:Nat->Option (Nat×Nat)}{bx:Nat->Option Box}{nb:Nat->Prop}{ν:List (Int×Nat)}{dirty:List Nat}{w w':World}{n cap a size:Nat}{v:Value}{c:Option Nat}{cs:List AC}{ty:TypeId}(h:RepF C w0 ψ φ bx nb ν dirty w)(t:nb n)(i:a<=cap)(A:okTip bx c=true)(u:C.bt.contains ty=true)
  (M:(∃ zs post:List Value,w'={w with heap:=w.heap.push (.cells (zs++post).toArray ty),drawn:=w.drawn+1}/\v=.slice (some ⟨w.heap.size,0,none⟩) a cap/\All2 (relC C φ ν w) cs zs/\cap*size<=zs.length+post.length)\/
    (∃ b B k o,∃ pre ys post new post':List Value,c=some b/\bx b=some B/\B.ty=ty/\φ b=some (k,o)/\v=.slice (some ⟨k,o,none⟩) a cap/\w.heap[k]?=some (.cells (pre++ys++post).toArray ty (0,0))/\pre.length=o/\All2 (relC C φ ν w) B.cs ys/\
     Stored w w' k (pre++(ys++new)++post') ty/\new.length+post'.length=post.length/\All2 (relC C φ ν w) cs (ys++new)/\o+cap*size<=(pre++(ys++new)++post').length)):
  ∃ φ',RepF C w0 ψ φ' (appB bx n ⟨cs,ty,true,true,true⟩ c) (fun x=>nb x/\x≠n) ν dirty w'/\Ext C φ φ' ν ν w w'/\relT C φ' ν w' (.val (.one (.slc n 0 a size))) v:=by
 rcases M with ⟨zs,post,rfl,rfl,E,N⟩ | ⟨b,B,k,o,pre,ys,post,new,post',rfl,m,rfl,F,rfl,H,I,J,y,L,p,q⟩
 ·obtain ⟨j,r⟩:=h.new t (B:=⟨cs,ty,true,true,true⟩) (post:=post) (d:=w.drawn+1) E rfl (fun h=>h) (fun e=>by cases e);refine ⟨_,?_,r,w.heap.size,0,cap,ty,(zs++post).length,aAF _ _ _,rfl,i,by simp [World.shape?],by simp;omega⟩
  cases c with
  | none=>exact j
  | some b=>
   obtain ⟨B,s,_⟩:=aNq A
   have l:b≠n:=by
    rintro rfl;obtain ⟨k,o,_,_,_,z,_⟩:=h.box _ _ s;rw [h.fresh _ t] at z;cases z
   unfold appB;simp only [s];exact j.untip (by rw [aAJ l];exact s)
 ·obtain ⟨O,f,g⟩:=aNq A;rw [m] at f;cases f;obtain ⟨j,r⟩:=h.place t (D:=⟨cs,B.ty,true,true,true⟩) m g F H I J y L p ⟨rfl,rfl,rfl⟩ u;refine ⟨_,?_,r,k,o,cap,B.ty,(pre++(ys++new)++post').length,aAF _ _ _,rfl,i,?_,by simpa using q⟩
  ·unfold appB;simp only [m];exact j
  ·unfold World.shape?;rw [y.blk];simp
theorem aLD (S:SpecOk C w0 ψ sp){φ:Nat->Option (Nat×Nat)}{s s':AS}{a:Act}{w:World}{o:Oper}{p:List Prop}{Q:Exit->Act->World->Prop}{K:Act->World->Prop}{e:Eff}
  (h:Rep C w0 ψ φ s a w) (A:evalOp C.P (evO s.tmps) (look s.boxes) o.op=some e) (i:doEff C sp s o e=some (s',p)) (Y:Holds p)
  (x:∀ φ' a' w',Ext C φ φ' s.nums s'.nums w w'->Rep C w0 ψ φ' s' a' w'->K a' w'):o.wp C.P a w K Q:=by
 unfold Oper.wp
 cases e with
 | val r q=>
  simp only [doEff,Option.some.injEq,Prod.mk.injEq] at i;obtain ⟨rfl,rfl⟩:=i;have:=aAZ (o:=o) (aB2 h.tmps) h.wd.box (fun _=>rfl) (fun f vs e=>by cases e) A;obtain ⟨v,m,t⟩:=this Y;rw [m];exact x φ _ w (Ext.refl _ _ _) ⟨h.wd,by rw [aAw];exact h.defers,aA9 h.tmps o.dst t⟩
 | new cs ty sl=>
  simp only [doEff,Option.some.injEq,Prod.mk.injEq] at i;obtain ⟨rfl,rfl⟩:=i;obtain ⟨U,m,t,D⟩:=aAZ (o:=o) (aB2 h.tmps) h.wd.box (fun _=>rfl) (fun f vs e=>by cases e) A;rw [m];obtain ⟨g,j⟩:=h.wd.new (n:=s.next) (Nat.le_refl _) (B:=⟨cs,ty,true,sl.isSome,sl.isSome⟩) (post:=[]) (d:=w.drawn) t rfl (fun h=>h) (fun _=>rfl);rw [<-aBI,List.append_nil] at g;rw [List.append_nil] at j;refine x _ _ _ j ⟨g.fewer fun b c=>⟨Nat.le_of_succ_le c,by simp only at c;omega⟩,by rw [aAw];exact h.defers,aA9 (h.tmps.mono (aBm j)) o.dst (aMu D)⟩
 | app old cs ty len size=>
  simp only [doEff] at i
  cases c:C.bt.contains ty with
  | false=>rw [c] at i;cases i
  | true=>
   rw [c] at i;simp only [cond_true,Option.some.injEq,Prod.mk.injEq] at i;obtain ⟨rfl,rfl⟩:=i;obtain ⟨v,w',ab,m,t,D,r4⟩:=aAZ (o:=o) (aB2 h.tmps) h.wd.box (fun _=>rfl) (fun f vs e=>by cases e) A;rw [m];obtain ⟨φ',g,j,k3⟩:=aLb h.wd (n:=s.next) (Nat.le_refl _) t D c r4;refine x φ' _ _ j ⟨?_,by rw [aAw];exact h.defers,aA9 (h.tmps.mono (aBm j)) o.dst k3⟩
   refine RepF.fewer (nb:=fun b=>s.next<=b/\b≠s.next) ?_ fun b c=>⟨Nat.le_of_succ_le c,by simp only at c;omega⟩
   cases old with
   | none=>simp only [appB] at g ⊢;rw [<-aBI] at g;exact g
   | some b=>
    simp only [appB] at g ⊢;obtain ⟨B,H,_⟩:=aNq D;rw [H] at g
    have F:b≠s.next:=by
     rintro rfl;obtain ⟨k,o,_,_,_,W,_⟩:=h.wd.box _ _ H;rw [h.wd.fresh _ (Nat.le_refl _)] at W;cases W
    rw [<-aBI] at g;rw [aGo (B:=B) (by rw [aBI,aAJ F];exact H)];exact g
 | sto b cs=>
  simp only [doEff] at i;obtain ⟨B,y,l⟩:=bnd i
  cases c:C.bt.contains B.ty with
  | false=>rw [c] at l;cases l
  | true=>
   rw [c] at l;simp only [cond_true,Option.some.injEq,Prod.mk.injEq] at l;obtain ⟨rfl,rfl⟩:=l;obtain ⟨B',k,oo,w',I,ys,post,zs,E,gr,J,L,M,N,g6,g7,g8,g9⟩:=aAZ (o:=o) (aB2 h.tmps) h.wd.box (fun _=>rfl) (fun f vs e=>by cases e) A;rw [y] at E;cases E;rw [L];obtain ⟨g,j⟩:=h.wd.sto (dirty':=bif B.own then s.dirty else b::s.dirty) y gr J M N g6 g7 g8 g9 c (by cases B.own<;>simp_all) (by cases B.own<;>simp);rw [<-aFb y] at g;exact x _ _ _ j ⟨g,by rw [aAw];exact h.defers,aA9 (h.tmps.mono (aBm j)) o.dst rfl⟩
 | call f vs=>
  simp only [doEff] at i;obtain ⟨⟨u,r,q,z⟩,y,l⟩:=mpd i;simp only [Prod.mk.injEq] at l;obtain ⟨rfl,rfl⟩:=l;obtain ⟨O,hc⟩:=S f (clean s) s.nums s.next (look s.boxes) vs u r q z y;obtain ⟨U,m,t⟩:=aAZ (o:=o) (aB2 h.tmps) h.wd.box (fun _=>rfl) (fun f' vs' e=>by cases e;exact O) A;rw [m]
  have h0:Ext C φ φ s.nums (s.nums++u) w w:=⟨fun _ _ h=>h,aBb _ _,On.refl _ _⟩
  refine (hc Y _ (fun _ _ h=>h) φ w U h.wd.base (fun hcl=>RepF.below h.wd hcl) h.wd.on (h.wd.later (Below.refl _ _) _ (aBb _ u)).box (t.mono (aEK h0))).mono ?_;rintro e w' ⟨v,rfl,c,X⟩
  have T:Ext C φ φ s.nums (s.nums++u) w w':=⟨fun _ _ h=>h,aBb _ _,On.below c⟩
  cases z with
  | none=>
   have g:=h.wd.later c (s.nums++u) (aBb _ _);exact x φ _ w' T ⟨g,by rw [aAw];exact h.defers,aA9 (h.tmps.mono (aBm T)) o.dst X⟩
  | some B=>
   obtain ⟨b1,b2,k,o',I,ys,post,E,J,R,L,M,N⟩:=X;obtain ⟨g,j⟩:=h.wd.got (n:=s.next) (Nat.le_refl _) c (aBb _ u) E J R L b1 b2 N;rw [<-aBI] at g;exact x _ _ w' j ⟨g.fewer fun b c=>⟨Nat.le_of_succ_le c,by simp only at c;omega⟩,by rw [aAw];exact h.defers,aA9 (h.tmps.mono (aBm j)) o.dst M⟩
theorem aQq (n:SpecOk C w0 ψ sp){φ:Nat->Option (Nat×Nat)}{s s':AS}{a:Act}{w:World}{o:Oper}{p:List Prop}{Q:Exit->Act->World->Prop}{K:Act->World->Prop}{e:Eff}{c:Bool}
  (h:Rep C w0 ψ φ s a w) (y:evalOp C.P (evO s.tmps) (look s.boxes) o.op=some e) (l:doCond sp c s o e=some (s',p)) (z:Holds p)
  (u:∀ φ' a' w',Ext C φ φ' s.nums s'.nums w w'->Rep C w0 ψ φ' s' a' w'->K a' w'):if c=true then o.wp C.P a w K Q else K (a.put o.dst undef) w:=by
 have b:∀ v i,s'={s with nums:=s.nums++i,tmps:=putT s.tmps o.dst (.cnd c v)}->c=false->K (a.put o.dst undef) w:=by
  rintro v i rfl rfl
  have k:Ext C φ φ s.nums (s.nums++i) w w:=⟨fun _ _ h=>h,aBb _ _,On.refl _ _⟩
  have A:=h.wd.later (Below.refl _ _) (s.nums++i) (aBb _ _);exact u φ _ w k ⟨A,by rw [aAw];exact h.defers,aA9 (h.tmps.mono (aBm k)) o.dst (by simp [relT])⟩
 cases e with
 | val r q=>
  cases r with
  | val v=>
   simp only [doCond,Option.some.injEq,Prod.mk.injEq] at l;obtain ⟨rfl,rfl⟩:=l
   cases c with
   | false=>simp only [Bool.false_eq_true,if_false];exact b v [] (by simp) rfl
   | true=>
    simp only [if_true];refine aLD n h y (p:=q) (s':={s with tmps:=putT s.tmps o.dst (.val v)}) rfl (aDH z rfl) ?_;intro φ' a' w' k j;refine u φ' a' w' k ⟨j.wd,j.defers,?_⟩;have:=j.tmps;simp only at this ⊢;exact swap this
  | _=>simp [doCond] at l
 | call f vs=>
  simp only [doCond] at l;obtain ⟨⟨i,r,q,t⟩,m,g⟩:=bnd l
  cases r with
  | val v=>
   cases t with
   | some B=>simp at g
   | none=>
   simp only [Option.some.injEq,Prod.mk.injEq] at g;obtain ⟨rfl,rfl⟩:=g
   cases c with
   | false=>simp only [Bool.false_eq_true,if_false];exact b v i rfl rfl
   | true=>
    simp only [if_true];refine aLD n h y (p:=q) (s':={s with nums:=s.nums++i,tmps:=putT s.tmps o.dst (.val v)}) (by simp [doEff,m]) (aDH z rfl) ?_;intro φ' a' w' k j;refine u φ' a' w' k ⟨j.wd,j.defers,?_⟩;exact swap j.tmps
  | _=>simp at g
 | _=>simp [doCond] at l
where
 swap {φ:Nat->Option (Nat×Nat)} {ν:List (Int×Nat)} {w:World} {tm:List AT} {d:Option Tmp} {v:AV} {xs:List Value} (h:All2 (relT C φ ν w) (putT tm d (.val v)) xs):All2 (relT C φ ν w) (putT tm d (.cnd true v)) xs:=by
  cases d with
  | none=>exact h
  | some d=>
   simp only [putT] at h ⊢;exact sw d tm xs h
 sw {φ:Nat->Option (Nat×Nat)} {ν:List (Int×Nat)} {w:World} {v:AV}:∀ (d:Nat) (tm:List AT) (xs:List Value),All2 (relT C φ ν w) (tm.set d (.val v)) xs->All2 (relT C φ ν w) (tm.set d (.cnd true v)) xs
  | _,[],xs,h=>h
  | 0,_::_,x::xs,⟨m,g⟩=>⟨by simpa [relT] using m,g⟩
  | d+1,_::tm,x::xs,⟨m,g⟩=>⟨m,sw d tm xs g⟩
  | 0,_::_,[],h=>h.elim
  | d+1,_::_,[],h=>h.elim
theorem aRD (g:SpecOk C w0 ψ sp){φ:Nat->Option (Nat×Nat)}{s s':AS}{a:Act}{w:World}{all:Array Oper}{i:Nat}{o:Oper}{p:List Prop}{Q:Exit->Act->World->Prop}{K:Act->World->Prop}
  (n:all[i]?=some o) (h:Rep C w0 ψ φ s a w) (b:stepA C sp all s o=some (s',p)) (m:Holds p)
  (l:∀ φ' a' w',Ext C φ φ' s.nums s'.nums w w'->Rep C w0 ψ φ' s' a' w'->K a' w'):wpOp C.P all Q i K a w:=by
 unfold wpOp;simp only [n];have d:=aL0 (all:=all) (o:=o) h.tmps;unfold stepA at b
 cases f:gd all s.tmps o with
 | yes=>
  rw [f] at d b;simp only at d b;obtain ⟨e,j,k⟩:=bnd b;rw [if_pos d];exact Or.inl (aLD g h j k m l)
 | no=>
  rw [f] at d b;simp only [Option.some.injEq,Prod.mk.injEq] at d b;obtain ⟨rfl,rfl⟩:=b;rw [if_neg (by simp [d])];exact l φ _ w (Ext.refl _ _ _) ⟨h.wd,by rw [aAw];exact h.defers,aA9 h.tmps o.dst rfl⟩
 | cond c=>
  rw [f] at d b;simp only at d b;obtain ⟨e,j,k⟩:=bnd b;have:=aQq (Q:=Q) g h j k m l;rw [d]
  cases c with
  | true=>simp only [if_true] at this ⊢;exact Or.inl this
  | false=>simpa using this
 | bad=>rw [f] at b;cases b
end
end Ab
open Go.RowKit
namespace Ab
inductive K (F:Type) where
 | code (c:Code)
 | blk (id:Nat)
 | lp (b:Code) (n:Nat)
 | ops (all:Array Oper) (rest:List Nat)
 | fr (fn:Func) (dst:Option Tmp) (f:F)
 | top (fn:Func)
inductive Tr where
 | ret (r:AT) (s:AS)
 | br (t:Bool) (a b:Tr)
 | need (p:List Prop) (t:Tr)
 | stop (ks:List (K (List AT))) (s:AS)
def Tr.ok (G:AT->AS->Prop)(H:List (K (List AT))->AS->Prop):Tr->Prop
 | .ret r s=>G r s
 | .br t a b=>(t=true->a.ok G H)/\(t=false->b.ok G H)
 | .need p t=>Holds p/\t.ok G H
 | .stop ks s=>H ks s
def wrap:List Prop->Tr->Tr
 | [],t=>t
 | p::ps,t=>.need (p::ps) t
theorem aGW {G:AT->AS->Prop}{H:List (K (List AT))->AS->Prop}{a:List Prop}{t:Tr}(h:(wrap a t).ok G H):Holds a/\t.ok G H:=by
 cases a with
 | nil=>exact ⟨aAc,h⟩
 | cons p a=>exact h
def dropRet {F:Type}:List (K F)->List (K F)
 | .fr fn d f::ks=>.fr fn d f::ks
 | .top fn::ks=>.top fn::ks
 | _::ks=>dropRet ks
 | []=>[]
def dropExit {F:Type}(id:Nat):List (K F)->Option (List (K F))
 | .blk i::ks=>bif i==id then some ks else dropExit id ks
 | .fr ..::_=>none
 | .top _::_=>none
 | _::ks=>dropExit id ks
 | []=>none
def resOne (P:Program)(s:AS):ResultVar->Option AV
 | .tmp t=>asV (s.tmps.getD t .und)
 | .cell a t=>(asOne (s.tmps.getD a .und)).bind fun
   | .ptr b off=>(look s.boxes b).bind fun B=>loadA P t B.cs off
   | _=>none
def resA (P:Program)(fn:Func)(s:AS):Option AT:=
 (mapO (resOne P s) fn.results.toList).map fun
  | [v]=>.val v
  | vs=>.tup vs
section
variable (C:Cfg) (sp:Spec) (bodies:FuncId->Option Func) (draw:Array Oper->AS->Option (AS×List Prop)) (stp:List (K (List AT))->Bool)
def splitOn (all:Array Oper)(tm:List AT)(o:Oper):Option (Nat×Bool):=
 o.guard.bind fun (g,_)=>((all[g]?).bind (·.dst)).bind fun d=>match tm[d]? with
  | some (.val (.one (.sbool t)))=>some (d,t)
  | _=>none
def inl (all:Array Oper)(s:AS)(o:Oper):Option (Func×Code×List AV):=
 match gd all s.tmps o with
 | .yes=>(evalOp C.P (evO s.tmps) (look s.boxes) o.op).bind fun
   | .call f vs=>(bodies f).bind fun fn=>fn.body.map fun c=>(fn,c,vs)
   | _=>none
 | _=>none
def run:Nat->List (K (List AT))->AS->Option Tr
 | 0,_,_=>none
 | f+1,ks,s=>bif stp ks then some (.stop ks s) else match ks with
  | []=>none
  | .top fn::_=>(resA C.P fn s).map fun r=>.ret r s
  | .fr fn dst tm::ks=>(resA C.P fn s).bind fun r=>run f ks {s with tmps:=putT tm dst r}
  | .blk _::ks=>run f ks s
  | .lp b 0::ks=>none
  | .lp b (n+1)::ks=>run f (.code b::.lp b n::ks) s
  | .ops _ []::ks=>run f ks s
  | .ops all (i::rest)::ks=>(all[i]?).bind fun o=>
   match splitOn all s.tmps o with
   | some (d,t)=>(run f (.ops all (i::rest)::ks) {s with tmps:=s.tmps.set d (.val (.one (.bool true)))}).bind fun x=>(run f (.ops all (i::rest)::ks) {s with tmps:=s.tmps.set d (.val (.one (.bool false)))}).map fun y=>.br t x y
   | none=>
   match stepA C sp all s o with
   | some (s',p)=>(run f (.ops all rest::ks) s').map (wrap p)
   | none=>match inl C bodies all s o with
    | some (fn,c,vs)=>run f (.code c::.fr fn o.dst s.tmps::.ops all rest::ks) {s with tmps:=vs.map .val++List.replicate (fn.ntmps-vs.length) .und}
    | none=>none
  | .code c::ks=>match c with
   | .skip=>run f ks s
   | .seq a b=>run f (.code a::.code b::ks) s
   | .block id b=>run f (.code b::.blk id::ks) s
   | .loop b=>run f (.lp b f::ks) s
   | .exit id=>(dropExit id ks).bind fun ks=>run f ks s
   | .ret=>run f (dropRet ks) s
   | .cond x a b=>(asOne (evO s.tmps x)).bind fun
    | .bool t=>run f (.code (bif t then a else b)::ks) s
    | .sbool t=>(run f (.code a::ks) s).bind fun x=>(run f (.code b::ks) s).map fun y=>.br t x y
    | _=>none
   | .region _ ops false=>run f (.ops ops (List.range ops.size)::ks) s
   | .region _ ops true=>(draw ops s).bind fun (s',p)=>(run f ks s').map (wrap p)
   | _=>none
end
def sem (P:Program)(R:Ending->World->Prop):List (K Act)->Exit->Act->World->Prop
 | []=>fun _ _ _=>False
 | .code c::ks=>Exit.then (c.wp P (sem P R ks)) (sem P R ks)
 | .blk id::ks=>Exit.inBlock id (sem P R ks)
 | .lp b n::ks=>Exit.then (Code.rounds P b (sem P R ks) n) (sem P R ks)
 | .ops all rest::ks=>Exit.then (wpOps P all (sem P R ks) rest) (sem P R ks)
 | .fr fn dst a::ks=>bodyPost P fn fun e w=>match e with | .returned v=>sem P R ks .normal (a.put dst v) w | _=>False
 | .top fn::_=>bodyPost P fn R
def SR (C:Cfg)(φ:Nat->Option (Nat×Nat))(ν:List (Int×Nat))(w:World):List (K (List AT))->List (K Act)->Prop
 | [],[]=>True
 | .code c::ks,.code c'::kcs=>c'=c/\SR C φ ν w ks kcs
 | .blk i::ks,.blk i'::kcs=>i'=i/\SR C φ ν w ks kcs
 | .lp b n::ks,.lp b' n'::kcs=>b'=b/\n'=n/\SR C φ ν w ks kcs
 | .ops a r::ks,.ops a' r'::kcs=>a'=a/\r'=r/\SR C φ ν w ks kcs
 | .fr fn d tm::ks,.fr fn' d' a::kcs=>fn'=fn/\d'=d/\a.defers=[]/\All2 (relT C φ ν w) tm a.tmps.toList/\SR C φ ν w ks kcs
 | .top fn::ks,.top fn'::kcs=>fn'=fn/\SR C φ ν w ks kcs
 | _,_=>False
section
variable {C:Cfg} {w0:World} {ψ:Nat->Option (Nat×Nat)} {sp:Spec} {bodies:FuncId->Option Func} {draw:Array Oper->AS->Option (AS×List Prop)} {R:Ending->World->Prop}
theorem SR.ext {φ φ':Nat->Option (Nat×Nat)}{ν ν':List (Int×Nat)}{w w':World}(hx:Ext C φ φ' ν ν' w w'):∀ {ks:List (K (List AT))} {kcs:List (K Act)},SR C φ ν w ks kcs->SR C φ' ν' w' ks kcs
 | [],[],_=>trivial
 | .code c::ks,.code c'::kcs,h=>⟨h.1,SR.ext hx h.2⟩
 | .blk i::ks,.blk i'::kcs,h=>⟨h.1,SR.ext hx h.2⟩
 | .lp b n::ks,.lp b' n'::kcs,h=>⟨h.1,h.2.1,SR.ext hx h.2.2⟩
 | .ops a r::ks,.ops a' r'::kcs,h=>⟨h.1,h.2.1,SR.ext hx h.2.2⟩
 | .fr fn d tm::ks,.fr fn' d' a::kcs,h=>⟨h.1,h.2.1,h.2.2.1,h.2.2.2.1.mono (aBm hx),SR.ext hx h.2.2.2.2⟩
 | .top fn::ks,.top fn'::kcs,h=>⟨h.1,SR.ext hx h.2⟩
theorem SR.dropRet {φ:Nat->Option (Nat×Nat)}{ν:List (Int×Nat)}{w w':World}{a:Act}:∀ {ks:List (K (List AT))} {kcs:List (K Act)},SR C φ ν w ks kcs->SR C φ ν w (dropRet ks) (dropRet kcs)/\(sem C.P R (Ab.dropRet kcs) .ret a w'->sem C.P R kcs .ret a w')
 | [],[],_=>⟨trivial,fun h=>h⟩
 | .code c::ks,.code c'::kcs,h=>⟨(SR.dropRet (w':=w') (a:=a) h.2).1,(SR.dropRet h.2).2⟩
 | .blk i::ks,.blk i'::kcs,h=>⟨(SR.dropRet (w':=w') (a:=a) h.2).1,(SR.dropRet h.2).2⟩
 | .lp b n::ks,.lp b' n'::kcs,h=>⟨(SR.dropRet (w':=w') (a:=a) h.2.2).1,(SR.dropRet h.2.2).2⟩
 | .ops x r::ks,.ops x' r'::kcs,h=>⟨(SR.dropRet (w':=w') (a:=a) h.2.2).1,(SR.dropRet h.2.2).2⟩
 | .fr fn d tm::ks,.fr fn' d' x::kcs,h=>⟨h,fun h=>h⟩
 | .top fn::ks,.top fn'::kcs,h=>⟨h,fun h=>h⟩
theorem SR.dropExit {φ:Nat->Option (Nat×Nat)}{ν:List (Int×Nat)}{w w':World}{a:Act}{id:Nat}:∀ {ks ks':List (K (List AT))} {kcs:List (K Act)},SR C φ ν w ks kcs->Ab.dropExit id ks=some ks'->∃ kcs',SR C φ ν w ks' kcs'/\(sem C.P R kcs' .normal a w'->sem C.P R kcs (.exit id) a w')
 | .code c::ks,ks',.code c'::kcs,h,e=>let ⟨k,g1,g2⟩:=SR.dropExit (kcs:=kcs) h.2 (show Ab.dropExit id ks=some ks' by simpa [Ab.dropExit] using e);⟨k,g1,g2⟩
 | .lp b n::ks,ks',.lp b' n'::kcs,h,e=>let ⟨k,g1,g2⟩:=SR.dropExit (kcs:=kcs) h.2.2 (show Ab.dropExit id ks=some ks' by simpa [Ab.dropExit] using e);⟨k,g1,g2⟩
 | .ops x r::ks,ks',.ops x' r'::kcs,h,e=>let ⟨k,g1,g2⟩:=SR.dropExit (kcs:=kcs) h.2.2 (show Ab.dropExit id ks=some ks' by simpa [Ab.dropExit] using e);⟨k,g1,g2⟩
 | .blk i::ks,ks',.blk i'::kcs,h,e=>by
  obtain ⟨rfl,h⟩:=h;unfold Ab.dropExit at e
  cases hi:i'==id with
  | true=>
   rw [hi] at e;cases e
   have:i'=id:=by simpa using hi
   subst this;exact ⟨kcs,h,fun g=>by simp only [sem,Exit.inBlock,if_true];exact g⟩
  | false=>
   rw [hi] at e;simp only [cond_false] at e
   have hne:¬id=i':=by intro e;subst e;simp at hi
   obtain ⟨kcs',g1,g2⟩:=SR.dropExit h e;exact ⟨kcs',g1,fun g=>by simp only [sem,Exit.inBlock];rw [if_neg hne];exact g2 g⟩
 | [],_,[],_,e=>by simp [Ab.dropExit] at e
 | .fr ..::_,_,_,_,e=>by simp [Ab.dropExit] at e
 | .top _::_,_,_,_,e=>by simp [Ab.dropExit] at e
def resSem (tmps:Array Value):ResultVar->Sem Value
 | .tmp t=>pure (tmps.getD t undef)
 | .cell a t=>do loadVar t (<-asAddr (tmps.getD a undef))
theorem aKP (fn:Func)(a:Array Value):results fn a=(fn.results.mapM (resSem a)) >>= fun vs=>pure (if h:vs.size=1 then vs[0] else .tuple vs):=by
 unfold results;congr
theorem aMX {φ:Nat->Option (Nat×Nat)}{s:AS}{a:Act}{w:World}(h:Rep C w0 ψ φ s a w){rv:ResultVar}{v:AV}(j:resOne C.P s rv=some v):
  ∃ x,(resSem a.tmps rv).run C.P w=.ok x w/\relV C φ s.nums w v x:=by
 cases rv with
 | tmp t=>
  simp only [resOne] at j;have:=aB2 h.tmps (.tmp t);simp only [evO,Act.eval] at this;rw [v_of j] at this;exact ⟨_,rfl,this⟩
 | cell c t=>
  simp only [resOne] at j;obtain ⟨D,E,m⟩:=bnd j;have l:=aB2 h.tmps (.tmp c);simp only [evO,Act.eval] at l;rw [aBD E] at l
  cases D<;>simp only at m<;>try cases m
  case ptr b off=>
   obtain ⟨B,F,u⟩:=bnd m;obtain ⟨k,o,pre,H,post,I,y,J,p⟩:=h.wd.box b B F;obtain ⟨M,N,e,z⟩:=l;rw [I] at e;cases e;subst J;unfold loadA at u;obtain ⟨g,A,f⟩:=bnd u
   cases g with
   | true=>
    simp only [cond_true] at f;obtain ⟨n,q,d⟩:=bnd f
    cases i:Nat.ble (off+n) B.cs.length with
    | false=>rw [i] at d;cases d
    | true=>
     rw [i] at d;simp only [cond_true,Option.some.injEq] at d;subst d;rw [Nat.ble_eq,p.len] at i;refine ⟨.agg ((H.drop off).take n).toArray,?_,_,rfl,(p.drop off).take n⟩;simp only [resSem];rw [z];simp only [asAddr,loadVar,loadCells,Sem.run_bind,Sem.run_pure,Result.andThen_ok,aCB A,aAE q,if_true,aB5 y (pre.length+off) n 0 #[] (by simp;omega),Nat.add_zero,aGL i];simp
   | false=>
    simp only [cond_false] at f;obtain ⟨c,q,rfl⟩:=mpd f;obtain ⟨x,d,L⟩:=p.at q;refine ⟨x,?_,L⟩;simp only [resSem];rw [z];have r:=aM3 (pre:=pre) (post:=post) d;rw [List.append_assoc] at r;simp [asAddr,loadVar,aCB A,aD4 y,r]
theorem aMW {φ:Nat->Option (Nat×Nat)}{s:AS}{a:Act}{w:World}(h:Rep C w0 ψ φ s a w){fn:Func}{r:AT}(j:resA C.P fn s=some r):∃ x,(results fn a.tmps).run C.P w=.ok x w/\relT C φ s.nums w r x:=by
 unfold resA at j;obtain ⟨c,k,d⟩:=mpd j
 have f:∀ (l:List ResultVar) (c:List AV),mapO (resOne C.P s) l=some c->∃ xs:List Value,(l.mapM (resSem a.tmps)).run C.P w=.ok xs w/\All2 (relV C φ s.nums w) c xs:=by
  intro l
  induction l with
  | nil=>intro c h;simp [mapO] at h;subst h;exact ⟨[],by simp,trivial⟩
  | cons rv l ih=>
   intro c i;unfold mapO at i;obtain ⟨v,m,n⟩:=bnd i;obtain ⟨g,o,rfl⟩:=mpd n;obtain ⟨x,p,q⟩:=aMX h m;obtain ⟨xs,t,u⟩:=ih g o;refine ⟨x::xs,?_,q,u⟩;rw [List.mapM_cons,Sem.run_bind,p];simp only [Result.andThen_ok,Sem.run_bind,t,Sem.run_pure]
 obtain ⟨xs,y,e⟩:=f _ _ k
 have b:(results fn a.tmps).run C.P w=.ok (if h:xs.toArray.size=1 then xs.toArray[0] else .tuple xs.toArray) w:=by
  rw [aKP,<-Array.toArray_toList (xs:=fn.results),List.mapM_toArray];simp only [Sem.run_bind,Sem.run_map];rw [y];rfl
 match c,xs,e,d,b with
 | [],[],_,d,b=>subst d;exact ⟨_,b,[],by simp,trivial⟩
 | [v],[x],⟨e,_⟩,d,b=>subst d;exact ⟨x,by rw [b];simp,e⟩
 | v::v'::c,x::x'::xs,e,d,b=>subst d;exact ⟨_,b,x::x'::xs,by simp,e⟩
end
end Ab
open Go.RowKit
namespace Ab
section
variable {C:Cfg} {w0:World} {ψ:Nat->Option (Nat×Nat)} {sp:Spec} {bodies:FuncId->Option Func} {draw:Array Oper->AS->Option (AS×List Prop)} {R:Ending->World->Prop}
def BodiesOk (C:Cfg)(bodies:FuncId->Option Func):Prop:=∀ f fn,bodies f=some fn->C.P.funcs[f]?=some fn/\Enters C.P f
def DrawOk (C:Cfg)(w0:World)(ψ:Nat->Option (Nat×Nat))(draw:Array Oper->AS->Option (AS×List Prop)):Prop:=∀ ops s s' p,draw ops s=some (s',p)->Holds p->∀ φ a w (id:Nat) (Q:Exit->Act->World->Prop),Rep C w0 ψ φ s a w->
 (∀ φ' a' w',Ext C φ φ' s.nums s'.nums w w'->Rep C w0 ψ φ' s' a' w'->Q .normal a' w')->(Code.region id ops true).wp C.P Q a w
theorem aTB {φ:Nat->Option (Nat×Nat)}{s:AS}{a:Act}{w:World}{all:Array Oper}{o:Oper}{fn:Func}{c:Code}{vs:List AV}(k:BodiesOk C bodies)(h:Rep C w0 ψ φ s a w)(b:inl C bodies all s o=some (fn,c,vs)):
  Region.wanted o (yielded all a.tmps)=true/\∃ f xs,C.P.funcs[f]?=some fn/\fn.body=some c/\(execOp a.eval o).run C.P w=.ok (.enter f xs.toArray) w/\All2 (relV C φ s.nums w) vs xs:=by
 have d:=aL0 (all:=all) (o:=o) h.tmps;unfold inl at b
 cases j:gd all s.tmps o<;>rw [j] at b d<;>simp only at b d<;>try cases b
 obtain ⟨e,l,g⟩:=bnd b
 cases e<;>simp only at g<;>try cases g
 rename_i f i;obtain ⟨m,n,p⟩:=bnd g;obtain ⟨y,q,r⟩:=mpd p;cases r;obtain ⟨t,u⟩:=k f fn n;obtain ⟨xs,v,x⟩:=aAZ (o:=o) (aB2 h.tmps) h.wd.box (fun _=>rfl) (fun f' i e=>by cases e;exact u) l;exact ⟨d,f,xs,t,q,v,x⟩
theorem aJM {α:Type}:∀ {l:List α} {i:Nat} {a:α},l[i]?=some a->l.set i a=l
 | [],_,_,h=>by simp at h
 | x::l,0,a,h=>by simp at h;simp [h]
 | x::l,i+1,a,h=>by simp only [List.set_cons_succ];rw [aJM (by simpa using h)]
theorem aFZ {φ:Nat->Option (Nat×Nat)}{ν:List (Int×Nat)}{w:World}:∀ {vs:List AV} {xs:List Value},All2 (relV C φ ν w) vs xs->All2 (relT C φ ν w) (vs.map .val) xs
 | [],[],_=>trivial
 | _::_,_::_,⟨h1,h2⟩=>⟨h1,aFZ h2⟩
 | [],_::_,h=>h.elim
 | _::_,[],h=>h.elim
theorem aFY {φ:Nat->Option (Nat×Nat)}{ν:List (Int×Nat)}{w:World}:∀ (n:Nat),All2 (relT C φ ν w) (List.replicate n .und) (List.replicate n undef)
 | 0=>trivial
 | n+1=>⟨rfl,aFY n⟩
theorem aBY {stp:List (K (List AT))->Bool}(F:SpecOk C w0 ψ sp)(I:BodiesOk C bodies)(J:DrawOk C w0 ψ draw)(G:AT->AS->Prop)(H:List (K (List AT))->AS->Prop)(Y:∀ ks s,H ks s->∀ (kcs:List (K Act)) (φ:Nat->Option (Nat×Nat)) (a:Act) (w:World),SR C φ s.nums w ks kcs->Rep C w0 ψ φ s a w->sem C.P R kcs .normal a w)(hG:∀ r s φ v w,G r s->relT C φ s.nums w r v->RepW C w0 ψ φ s w->R (.returned v) w):
  ∀ (f:Nat) (ks:List (K (List AT))) (s:AS) (tr:Tr),run C sp bodies draw stp f ks s=some tr->tr.ok G H->∀ (kcs:List (K Act)) (φ:Nat->Option (Nat×Nat)) (a:Act) (w:World),SR C φ s.nums w ks kcs->Rep C w0 ψ φ s a w->sem C.P R kcs .normal a w
 | 0,ks,s,tr,h,hok,kcs,φ,a,w,hs,hr=>by simp [run] at h
 | f+1,ks,s,tr,h,hok,kcs,φ,a,w,hs,hr=>by
  have ih:=aBY (stp:=stp) F I J G H Y hG f;unfold run at h
  cases hst:stp ks with
  | true=>
   rw [hst] at h;simp only [cond_true,Option.some.injEq] at h;subst h;exact Y ks s hok kcs φ a w hs hr
  | false=>
  rw [hst] at h;simp only [cond_false] at h;clear hst
  match ks,kcs,hs with
  | [],[],_=>cases h
  | .top fn::ks,.top fn'::kcs,hs=>
   obtain ⟨rfl,hs⟩:=hs;simp only at h;obtain ⟨r,h1,rfl⟩:=mpd h;obtain ⟨x,x1,x2⟩:=aMW hr h1;exact ⟨hr.defers,x,x1,hG r s φ x w hok x2 hr.wd⟩
  | .fr fn dst tm::ks,.fr fn' dst' b::kcs,hs=>
   obtain ⟨rfl,rfl,hd,htm,hs⟩:=hs;simp only at h;obtain ⟨r,h1,h2⟩:=bnd h;obtain ⟨x,x1,x2⟩:=aMW hr h1;refine ⟨hr.defers,x,x1,?_⟩;exact ih ks _ tr h2 hok kcs φ _ w hs ⟨hr.wd,by rw [aAw];exact hd,aA9 htm dst' x2⟩
  | .blk i::ks,.blk i'::kcs,hs=>
   obtain ⟨rfl,hs⟩:=hs;simp only at h;exact ih ks s tr h hok kcs φ a w hs hr
  | .lp b 0::ks,_,_=>cases h
  | .lp b (n+1)::ks,.lp b' n'::kcs,hs=>
   obtain ⟨rfl,rfl,hs⟩:=hs;simp only at h;have:=ih _ s tr h hok (.code b'::.lp b' n::kcs) φ a w ⟨rfl,rfl,rfl,hs⟩ hr;exact this
  | .ops all []::ks,.ops all' r'::kcs,hs=>
   obtain ⟨rfl,rfl,hs⟩:=hs;simp only at h;exact ih ks s tr h hok kcs φ a w hs hr
  | .ops all (i::rest)::ks,.ops all' r'::kcs,hs=>
   obtain ⟨rfl,rfl,hs⟩:=hs;simp only at h;obtain ⟨o,h1,h2⟩:=bnd h
   cases hsp':splitOn all' s.tmps o with
   | some dt=>
    obtain ⟨d,t⟩:=dt;rw [hsp'] at h2;simp only at h2;obtain ⟨t1,h3,h4⟩:=bnd h2;obtain ⟨t2,h5,rfl⟩:=mpd h4
    have htm:s.tmps[d]?=some (.val (.one (.sbool t))):=by
     unfold splitOn at hsp';obtain ⟨⟨g,W⟩,_,q2⟩:=bnd hsp';obtain ⟨d',_,M⟩:=bnd q2;split at M
     ·rename_i t' e;cases M;exact e
     ·cases M
    have k:∀ b,t=b->All2 (relT C φ s.nums w) (s.tmps.set d (.val (.one (.bool b)))) a.tmps.toList:=by
     rintro b rfl;obtain ⟨v,v1,v2⟩:=hr.tmps.at htm;have:=hr.tmps.set d (a:=.val (.one (.bool t))) (b:=v) v2
     rwa [aJM v1] at this
    cases t with
    | true=>exact ih _ _ t1 h3 (hok.1 rfl) (.ops all' (i::rest)::kcs) φ a w ⟨rfl,rfl,hs⟩ ⟨hr.wd,hr.defers,k true rfl⟩
    | false=>exact ih _ _ t2 h5 (hok.2 rfl) (.ops all' (i::rest)::kcs) φ a w ⟨rfl,rfl,hs⟩ ⟨hr.wd,hr.defers,k false rfl⟩
   | none=>
   rw [hsp'] at h2;simp only at h2;show wpOps C.P all' (sem C.P R kcs) (i::rest) a w;rw [wpOps_cons]
   cases hst:stepA C sp all' s o with
   | some sp'=>
    obtain ⟨L,p⟩:=sp';rw [hst] at h2;simp only at h2;obtain ⟨q,h3,rfl⟩:=mpd h2;refine aRD F h1 hr hst (aGW hok).1 ?_;intro S T w' j u;exact ih _ L q h3 (aGW hok).2 (.ops all' rest::kcs) S T w' ⟨rfl,rfl,hs.ext j⟩ u
   | none=>
    rw [hst] at h2;simp only at h2
    cases A:inl C bodies all' s o with
    | none=>rw [A] at h2;cases h2
    | some x=>
     obtain ⟨fn,c,vs⟩:=x;rw [A] at h2;simp only at h2;obtain ⟨hw,g,N,B,D,g3,X⟩:=aTB I hr A;unfold wpOp;simp only [h1];rw [if_pos hw];refine Or.inl ?_;unfold Oper.wp;rw [g3];show Calls C.P g N.toArray w _
     have m:=ih _ _ tr h2 hok (.code c::.fr fn o.dst a::.ops all' rest::kcs) φ { tmps:=N.toArray++Array.replicate (fn.ntmps-N.toArray.size) undef,defers:=[]} w ⟨rfl,rfl,rfl,hr.defers,hr.tmps,rfl,rfl,hs⟩
      ⟨hr.wd,rfl,by
       have hl:=X.len;simp only [Array.toList_append,Array.toList_replicate,List.size_toArray];rw [<-hl]
       exact (aFZ X).append (aFY _)⟩
     refine (calls_of_wp B D m).mono ?_;intro e w' U
     cases e with
     | returned v=>exact U
     | panicked ch=>exact U.elim
     | outgrown=>exact U.elim
  | .code c::ks,.code c'::kcs,hs=>
   obtain ⟨rfl,hs⟩:=hs;show c'.wp C.P (sem C.P R kcs) a w
   cases c' with
   | skip=>simp only at h;exact wp_skip (ih ks s tr h hok kcs φ a w hs hr)
   | seq x y=>simp only at h;exact wp_seq (ih _ s tr h hok (.code x::.code y::kcs) φ a w ⟨rfl,rfl,hs⟩ hr)
   | block id b=>simp only at h;exact wp_block (ih _ s tr h hok (.code b::.blk id::kcs) φ a w ⟨rfl,rfl,hs⟩ hr)
   | loop b=>simp only at h;exact wp_loop_rounds f (ih _ s tr h hok (.lp b f::kcs) φ a w ⟨rfl,rfl,hs⟩ hr)
   | exit id=>
    simp only at h;obtain ⟨O,h1,h2⟩:=bnd h;obtain ⟨E,B,D⟩:=SR.dropExit (R:=R) (a:=a) (w':=w) hs h1;exact wp_exit (D (ih O s tr h2 hok E φ a w B hr))
   | ret=>
    simp only at h;obtain ⟨B,D⟩:=SR.dropRet (R:=R) (a:=a) (w':=w) hs;have:=ih _ s tr h hok _ φ a w B hr;refine wp_ret (D ?_)
    have m:∀ l:List (K Act),sem C.P R (dropRet l) .normal a w->sem C.P R (dropRet l) .ret a w:=by
     intro l
     induction l with
     | nil=>exact fun h=>h
     | cons x l ih=>cases x<;>first | exact ih | exact fun h=>h
    exact m kcs this
   | cond x y z=>
    simp only at h;obtain ⟨cc,h1,h2⟩:=bnd h;have j:=aB2 hr.tmps x;rw [aBD h1] at j
    cases cc<;>simp only at h2<;>try cases h2
    case bool t=>
     have j:a.eval x=.bool t:=j;have:=ih _ s tr h2 hok (.code (bif t then y else z)::kcs) φ a w ⟨rfl,hs⟩ hr;refine wp_cond j ?_
     cases t<;>exact this
    case sbool t=>
     have j:a.eval x=.bool t:=j;obtain ⟨t1,h3,h4⟩:=bnd h2;obtain ⟨t2,h5,rfl⟩:=mpd h4;exact wp_cond_split j (fun e=>ih _ s t1 h3 (hok.1 e) (.code y::kcs) φ a w ⟨rfl,hs⟩ hr) (fun e=>ih _ s t2 h5 (hok.2 e) (.code z::kcs) φ a w ⟨rfl,hs⟩ hr)
   | region id ops dr=>
    cases dr with
    | false=>simp only at h;exact wp_region (ih _ s tr h hok (.ops ops (List.range ops.size)::kcs) φ a w ⟨rfl,rfl,hs⟩ hr)
    | true=>
     simp only at h;obtain ⟨⟨L,p⟩,h1,h2⟩:=bnd h;obtain ⟨q,h3,rfl⟩:=mpd h2;refine J ops s L p h1 (aGW hok).1 φ a w id _ hr ?_;intro S T w' j u;exact ih ks L q h3 (aGW hok).2 kcs S T w' (hs.ext j) u
   | _=>cases h
theorem engine (b:SpecOk C w0 ψ sp)(d:BodiesOk C bodies)(e:DrawOk C w0 ψ draw){f:FuncId}{fn:Func}{c:Code}(k:C.P.funcs[f]?=some fn)(l:fn.body=some c){args:List Value}{vs:List AV}{φ:Nat->Option (Nat×Nat)}{s:AS}
  (hs:s.tmps=vs.map .val++List.replicate (fn.ntmps-vs.length) .und) (i:All2 (relV C φ s.nums w0) vs args) (m:RepW C w0 ψ φ s w0)
  (n:Nat) {stp:List (K (List AT))->Bool} {g:Tr} (o:run C sp bodies draw stp n [.code c,.top fn] s=some g) (G:AT->AS->Prop) (H:List (K (List AT))->AS->Prop) (p:∀ ks s,H ks s->∀ (kcs:List (K Act)) (φ:Nat->Option (Nat×Nat)) (a:Act) (w:World),SR C φ s.nums w ks kcs->Rep C w0 ψ φ s a w->sem C.P R kcs .normal a w) (h:g.ok G H) (q:∀ r s φ v w,G r s->relT C φ s.nums w r v->RepW C w0 ψ φ s w->R (.returned v) w):Calls C.P f args.toArray w0 R:=by
 refine calls_of_wp k l ?_;have j:=i.len
 exact aBY b d e G H p q n _ s g o h [.code c,.top fn] φ _ w0 ⟨rfl,rfl,trivial⟩ ⟨m,rfl,by
  rw [hs];simp only [Array.toList_append,Array.toList_replicate,List.size_toArray];rw [<-j]
  exact (aFZ i).append (aFY _)⟩
end
end Ab
open Go.RowKit
namespace Ab
structure Ent where
 res:AT
 new:Option Box
 sto:Option (Nat×List AC)
 app:Option Nat
def entEff (bt:List TypeId)(sp:Spec)(xb bx:Nat->Option Box)(ν:List (Int×Nat))(id:Nat):Eff->Option (Ent×List (Int×Nat)×List Prop)
 | .val r p=>some (⟨r,none,none,none⟩,[],p)
 | .new cs ty sl=>some (⟨.val (.one (newC id sl)),some ⟨cs,ty,true,sl.isSome,sl.isSome⟩,none,none⟩,[],[])
 | .app old cs ty len size=>bif bt.contains ty then some (⟨.val (.one (.slc id 0 len size)),some ⟨cs,ty,true,true,true⟩,none,old⟩,[],[]) else none
 | .sto b cs=>(bx b).bind fun B=>bif bt.contains B.ty then some (⟨.und,none,some (b,cs),none⟩,[],[]) else none
 | .call f vs=>(sp f false ν id xb vs).bind fun
   | (ν',r,p,none)=>some (⟨r,none,none,none⟩,ν',p)
   | (ν',r,p,some B)=>some (⟨r,some B,none,none⟩,ν',p)
def entCond (c:Bool)(sp:Spec)(xb:Nat->Option Box)(ν:List (Int×Nat))(id:Nat):Eff->Option (Ent×List (Int×Nat)×List Prop)
 | .val (.val v) p=>some (⟨.cnd c v,none,none,none⟩,[],condP c p)
 | .call f vs=>(sp f false ν id xb vs).bind fun
   | (ν',.val v,p,none)=>some (⟨.cnd c v,none,none,none⟩,ν',condP c p)
   | _=>none
 | _=>none
def uncs:List AT->Option (List AV×List Bool)
 | []=>some ([],[])
 | .val v::r=>(uncs r).map fun p=>(v::p.1,p.2)
 | .cnd c v::r=>(uncs r).map fun p=>(v::p.1,c::p.2)
 | _::_=>none
def entCall (c:Bool)(sp:Spec)(xb:Nat->Option Box)(ν:List (Int×Nat))(id:Nat)(ev:Operand->AT):Op->Option (Ent×List (Int×Nat)×List Prop)
 | .call { callee:=.value (.func f),args:=args,..}=>(uncs (args.toList.map ev)).bind fun p=>(sp f false ν id xb p.1).bind fun
   | (ν',.val v,q,none)=>some (⟨.cnd c v,none,none,none⟩,ν',condP c (q++p.2.map fun d=>d=true))
   | _=>none
 | _=>none
def orElse {α:Type}(x y:Option α):Option α:=match x with | some a=>some a | none=>y
def entA (C:Cfg)(sp:Spec)(xb:Nat->Option Box)(all:Array Oper)(tm:List AT)(bx:Nat->Option Box)(ν:List (Int×Nat))(id:Nat)(o:Oper):Option (Ent×List (Int×Nat)×List Prop):=
 match gd all tm o with
 | .yes=>(evalOp C.P (evO tm) bx o.op).bind (entEff C.bt sp xb bx ν id)
 | .no=>some (⟨.und,none,none,none⟩,[],[])
 | .cond c=>orElse ((evalOp C.P (evO tm) bx o.op).bind (entCond c sp xb ν id)) (entCall c sp xb ν id (evO tm) o.op)
 | .bad=>none
def effB (id:Nat)(e:Ent)(bx:Nat->Option Box):Nat->Option Box:=
 match e.new with
 | some B=>appB bx id B e.app
 | none=>match e.sto with
  | some (b,cs)=>match bx b with
   | some B=>setB bx b {B with cs:=cs}
   | none=>bx
  | none=>bx
def effL (id:Nat)(e:Ent)(l:List (Nat×Box)):List (Nat×Box):=
 match e.new with
 | some B=>(match e.app with
  | none=>(id,B)::l
  | some b=>match look l b with
   | some _=>putTip ((id,B)::l) b
   | none=>(id,B)::l)
 | none=>match e.sto with
  | some (b,cs)=>putBox l b cs
  | none=>l
section
variable {C:Cfg} {w0:World} {ψ:Nat->Option (Nat×Nat)} {sp:Spec}
def unc:AT->AT
 | .cnd c v=>bif c then .val v else .cnd c v
 | t=>t
theorem aRQ {φ:Nat->Option (Nat×Nat)}{ν:List (Int×Nat)}{w:World}{t:AT}{x:Value}(h:relT C φ ν w t x):relT C φ ν w (unc t) x:=by
 cases t with
 | cnd c v=>
  cases c with
  | true=>simpa [unc,relT] using h
  | false=>exact h
 | _=>exact h
theorem aIQ:∀ {ts:List AT} {vs:List AV} {cs:List Bool},uncs ts=some (vs,cs)->(∀ d∈cs,d=true)->asVs (ts.map unc)=some vs
 | [],vs,cs,h,_=>by simp [uncs] at h;rw [h.1];rfl
 | .val v::r,vs,cs,h,hc=>by
  simp only [uncs] at h;obtain ⟨p,h1,h2⟩:=mpd h;cases h2;simp only [List.map_cons,unc,asVs,aIQ h1 hc,Option.map_some]
 | .cnd c v::r,vs,cs,h,hc=>by
  simp only [uncs] at h;obtain ⟨p,h1,h2⟩:=mpd h;cases h2;have e:c=true:=hc c (by simp);subst e;simp only [List.map_cons,unc,cond_true,asVs,aIQ h1 (fun d hd=>hc d (by simp [hd])),Option.map_some]
 | .top::_,_,_,h,_=>by simp [uncs] at h
 | .und::_,_,_,h,_=>by simp [uncs] at h
 | .tup _::_,_,_,h,_=>by simp [uncs] at h
theorem aEr {id:Nat}{c:Bool}{xb:Nat->Option Box}{ν ν':List (Int×Nat)}{ev:Operand->AT}{g:Op}{e:Ent}{p:List Prop}(h:entCall c sp xb ν id ev g=some (e,ν',p)):∃ f args ts vs cs ν1 v q,g=.call { callee:=.value (.func f),args:=args,argTypes:=ts}/\uncs (args.toList.map ev)=some (vs,cs)/\sp f false ν id xb vs=some (ν1,.val v,q,none)/\e=⟨.cnd c v,none,none,none⟩/\ν'=ν1/\p=condP c (q++cs.map fun d=>d=true):=by
 unfold entCall at h;split at h
 ·rename_i f args ts;obtain ⟨⟨vs,cs⟩,i,j⟩:=bnd h;obtain ⟨⟨ν1,r,q,a⟩,k,b⟩:=bnd j
  cases r<;>cases a<;>simp only at b<;>try cases b
  exact ⟨f,args,ts,vs,cs,_,_,_,rfl,i,k,rfl,rfl,rfl⟩
 ·cases h
theorem aTq (ag:SpecOk C w0 ψ sp){φ:Nat->Option (Nat×Nat)}{X:List AT}{xb bx:Nat->Option Box}{nb:Nat->Prop}{id i:Nat}{ν μ ν':List (Int×Nat)}{dirty:List Nat}{a:Act}{w:World}{all:Array Oper}{o:Oper}{e:Ent}{p:List Prop}{Q:Exit->Act->World->Prop}{K:Act->World->Prop}
  (ho:all[i]?=some o) (h:RepF C w0 ψ φ bx nb μ dirty w) (S:a.defers=[]) (D:All2 (relT C φ μ w) X a.tmps.toList) (l:entA C sp xb all X bx ν id o=some (e,ν',p)) (W:Holds p) (ah:∀ b B,xb b=some B->bx b=some B) (hμ:∀ (i:Nat) (x:Int×Nat),(ν++ν')[i]?=some x->μ[i]?=some x)
  (af:nb id) (T:∀ b cs,e.sto=some (b,cs)->b∈dirty)
  (Y:∀ φ' a' w',RepF C w0 ψ φ' (effB id e bx) (fun b=>nb b/\b≠id) μ dirty w'->a'.defers=[]->All2 (relT C φ' μ w') (putT X o.dst e.res) a'.tmps.toList->Ext C φ φ' μ μ w w'->K a' w'):wpOp C.P all Q i K a w:=by
 unfold wpOp;simp only [ho];have J:=aL0 (all:=all) (o:=o) D
 have E:RepF C w0 ψ φ bx (fun b=>nb b/\b≠id) μ dirty w:=h.fewer fun _ m=>m.1
 have U:∀ r,e=⟨r,none,none,none⟩->relT C φ μ w r undef->K (a.put o.dst undef) w:=by
  rintro r rfl hr;exact Y φ _ w E (by rw [aAw];exact S) (aA9 D o.dst hr) (Ext.refl _ _ _)
 have go:∀ (ev:Operand->AT),(∀ x,relT C φ μ w (ev x) (a.eval x))->∀ (f:Eff) (e':Ent) (p:List Prop),Holds p->evalOp C.P ev bx o.op=some f->entEff C.bt sp xb bx ν id f=some (e',ν',p)->(e'.new=e.new/\e'.sto=e.sto/\e'.app=e.app/\∀ φ w v,relT C φ μ w e'.res v->relT C φ μ w e.res v)->o.wp C.P a w K Q:=by
  intro ev z f e' p W F g j
  have hB:effB id e bx=effB id e' bx:=by unfold effB;rw [j.1,j.2.1,j.2.2.1]
  rw [hB] at Y;unfold Oper.wp
  cases f with
  | val r q=>
   simp only [entEff,Option.some.injEq,Prod.mk.injEq] at g;obtain ⟨rfl,rfl,rfl⟩:=g;obtain ⟨v,L,M⟩:=aAZ (o:=o) z h.box (fun _=>rfl) (fun f I e=>by cases e) F W;rw [L];exact Y φ _ w E (by rw [aAw];exact S) (aA9 D o.dst (j.2.2.2 _ _ _ M)) (Ext.refl _ _ _)
  | new cs ty sl=>
   simp only [entEff,Option.some.injEq,Prod.mk.injEq] at g;obtain ⟨rfl,rfl,rfl⟩:=g;obtain ⟨xs,L,M,r3⟩:=aAZ (o:=o) z h.box (fun _=>rfl) (fun f I e=>by cases e) F;rw [L];obtain ⟨N,A⟩:=h.new (n:=id) af (B:=⟨cs,ty,true,sl.isSome,sl.isSome⟩) (post:=[]) (d:=w.drawn) M rfl (fun h=>h) (fun _=>rfl);rw [List.append_nil] at N A;exact Y _ _ _ N (by rw [aAw];exact S) (aA9 (D.mono (aBm A)) o.dst (j.2.2.2 _ _ _ (aMu r3))) A
  | app old cs ty len size=>
   simp only [entEff] at g
   cases m:C.bt.contains ty with
   | false=>rw [m] at g;cases g
   | true=>
    rw [m] at g;simp only [cond_true,Option.some.injEq,Prod.mk.injEq] at g;obtain ⟨rfl,rfl,rfl⟩:=g;obtain ⟨v,w',a4,L,M,r3,r4⟩:=aAZ (o:=o) z h.box (fun _=>rfl) (fun f I e=>by cases e) F;rw [L];obtain ⟨φ',N,A,k3⟩:=aLb h (n:=id) af M r3 m r4;exact Y φ' _ _ N (by rw [aAw];exact S) (aA9 (D.mono (aBm A)) o.dst (j.2.2.2 _ _ _ k3)) A
  | sto b cs=>
   simp only [entEff] at g;obtain ⟨B,H,s⟩:=bnd g
   cases m:C.bt.contains B.ty with
   | false=>rw [m] at s;cases s
   | true=>
    rw [m] at s;simp only [cond_true,Option.some.injEq,Prod.mk.injEq] at s;obtain ⟨rfl,rfl,rfl⟩:=s;obtain ⟨B',k,oo,w',ao,ys,post,zs,m1,mr,m2,m3,m4,m5,m6,m7,m8,m9⟩:=aAZ (o:=o) z h.box (fun _=>rfl) (fun f I e=>by cases e) F;rw [H] at m1;cases m1;rw [m3];obtain ⟨N,A⟩:=h.sto (dirty':=dirty) H mr m2 m4 m5 m6 m7 m8 m9 m (fun _ t=>t) (Or.inr (T b cs (by rw [<-j.2.1])))
    have e2:effB id ⟨.und,none,some (b,cs),none⟩ bx=setB bx b {B with cs:=cs}:=by simp only [effB,H]
    rw [<-e2] at N;exact Y _ _ _ (N.fewer fun _ m=>m.1) (by rw [aAw];exact S) (aA9 (D.mono (aBm A)) o.dst (j.2.2.2 _ _ _ rfl)) A
  | call f I=>
   simp only [entEff] at g;obtain ⟨⟨ν1,r,q,ab⟩,H,s⟩:=bnd g
   cases ab with
   | some B=>
    simp only [Option.some.injEq,Prod.mk.injEq] at s;obtain ⟨rfl,rfl,rfl⟩:=s;obtain ⟨ad,O⟩:=ag f false ν id xb I ν1 r q (some B) H;obtain ⟨xs,L,M⟩:=aAZ (o:=o) z h.box (fun _=>rfl) (fun f' vs' e=>by cases e;exact ad) F;rw [L];refine (O W μ hμ φ w xs h.base (fun e=>by cases e) h.on (fun b B e=>h.box b B (ah b B e)) M).mono ?_;rintro e w' ⟨v,rfl,m,b1,b2,k,o',ao,ys,post,m1,m2,m3,m4,m5,m6⟩;obtain ⟨N,A⟩:=h.got (n:=id) af m (fun _ _ h=>h) m1 m2 m3 m4 b1 b2 m6;exact Y _ _ w' N (by rw [aAw];exact S) (aA9 (D.mono (aBm A)) o.dst (j.2.2.2 _ _ _ m5)) A
   | none=>
   simp only [Option.some.injEq,Prod.mk.injEq] at s;obtain ⟨rfl,rfl,rfl⟩:=s;obtain ⟨ad,O⟩:=ag f false ν id xb I ν1 r q none H;obtain ⟨xs,L,M⟩:=aAZ (o:=o) z h.box (fun _=>rfl) (fun f' vs' e=>by cases e;exact ad) F;rw [L];refine (O W μ hμ φ w xs h.base (fun e=>by cases e) h.on (fun b B e=>h.box b B (ah b B e)) M).mono ?_;rintro e w' ⟨v,rfl,m,hv⟩
   have t:Ext C φ φ μ μ w w':=⟨fun _ _ h=>h,fun _ _ h=>h,On.below m⟩
   exact Y φ _ w' (E.later m μ (fun _ _ h=>h)) (by rw [aAw];exact S) (aA9 (D.mono (aBm t)) o.dst (j.2.2.2 _ _ _ hv)) t
 unfold entA at l
 cases R:gd all X o with
 | yes=>
  rw [R] at J l;simp only at J l;obtain ⟨f,F,g⟩:=bnd l;rw [if_pos J];exact Or.inl (go _ (aB2 D) f e p W F g ⟨rfl,rfl,rfl,fun _ _ _ h=>h⟩)
 | no=>
  rw [R] at J l;simp only [Option.some.injEq,Prod.mk.injEq] at J l;obtain ⟨rfl,rfl,rfl⟩:=l;rw [if_neg (by simp [J])];exact U _ rfl rfl
 | cond c=>
  rw [R] at J l;simp only at J l;rw [J]
  have aa:∀ v,e=⟨.cnd c v,none,none,none⟩->(c=true->o.wp C.P a w K Q)->if c=true then o.wp C.P a w K Q\/(o.asks C.P a w/\LetsOut Q) else K (a.put o.dst undef) w:=by
   intro v hv hw
   cases c with
   | true=>simp only [if_true];exact Or.inl (hw rfl)
   | false=>simp only [Bool.false_eq_true,if_false];exact U _ hv (by simp [relT])
  cases t:(evalOp C.P (evO X) bx o.op).bind (entCond c sp xb ν id) with
  | none=>
   rw [t] at l;simp only [orElse] at l;obtain ⟨f,a0,ts,I,cs,ν1,v,q,ax,hu,H,rfl,rfl,rfl⟩:=aEr l
   refine aa v rfl fun O=>?_
   subst O;have u:=aDH W rfl
   have am:∀ d∈cs,d=true:=fun d S=>u (d=true) (List.mem_append_right _ (List.mem_map.2 ⟨d,S,rfl⟩))
   refine go (fun x=>unc (evO X x)) (fun x=>aRQ (aB2 D x)) (.call f I) ⟨.val v,none,none,none⟩ q (fun y hy=>u y (List.mem_append_left _ hy)) ?_ (by simp [entEff,H]) ⟨rfl,rfl,rfl,fun φ w x t=>by simpa [relT] using t⟩;rw [ax];simp only [evalOp];have:=aIQ hu am;rw [List.map_map] at this;rw [show (fun x=>unc (evO X x))=(unc∘evO X) from rfl,this];rfl
  | some y=>
  rw [t] at l;simp only [orElse,Option.some.injEq] at l;subst l;obtain ⟨f,F,g⟩:=bnd t
  cases f with
  | val r q=>
   cases r with
   | val v=>
    simp only [entCond,Option.some.injEq,Prod.mk.injEq] at g;obtain ⟨rfl,rfl,rfl⟩:=g
    refine aa v rfl fun O=>?_
    subst O;have u:=aDH W rfl;exact go _ (aB2 D) (.val (.val v) q) ⟨.val v,none,none,none⟩ q u F rfl ⟨rfl,rfl,rfl,fun φ w x t=>by simpa [relT] using t⟩
   | _=>simp [entCond] at g
  | call f I=>
   simp only [entCond] at g;obtain ⟨⟨ν1,r,q,ab⟩,H,s⟩:=bnd g
   cases r with
   | val v=>
    cases ab with
    | some B=>simp at s
    | none=>
    simp only [Option.some.injEq,Prod.mk.injEq] at s;obtain ⟨rfl,rfl,rfl⟩:=s
    refine aa v rfl fun O=>?_
    subst O;have u:=aDH W rfl;exact go _ (aB2 D) (.call f I) ⟨.val v,none,none,none⟩ q u F (by simp [entEff,H]) ⟨rfl,rfl,rfl,fun φ w x t=>by simpa [relT] using t⟩
   | _=>simp at s
  | _=>simp [entCond] at g
 | bad=>rw [R] at l;cases l
end
end Ab
end Go.Proofs.YteghhlfmcjmnoaaGreatDoor
