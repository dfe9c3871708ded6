import Derived.Test.YteghhlfmcjmnoaaGreatDoorCDe01
set_option linter.unusedSimpArgs false
set_option linter.unusedVariables false
set_option maxRecDepth 100000
set_option maxHeartbeats 2000000
namespace Go.Proofs.YteghhlfmcjmnoaaGreatDoor
open Go.RowKit
namespace Ab
def Enters (P:Program)(f:FuncId):Prop:=∀ xs w,(callFunc f xs).run P w=.ok (.enter f xs) w
abbrev Spec:=FuncId->Bool->List (Int×Nat)->Nat->(Nat->Option Box)->List AV->Option (List (Int×Nat)×AT×List Prop×Option Box)
def SpecOk (C:Cfg)(w0:World)(ψ:Nat->Option (Nat×Nat))(sp:Spec):Prop:=∀ f d ν id bx vs ν' r p nbx,sp f d ν id bx vs=some (ν',r,p,nbx)->Enters C.P f/\(Holds p->∀ μ,(∀ (i:Nat) (x:Int×Nat),(ν++ν')[i]?=some x->μ[i]?=some x)->∀ φ w (xs:List Value),
 (∀ b x,ψ b=some x->φ b=some x)->(d=true->Below w0.heap.size w0 w)->On C.bt w0 w->BxOk C φ μ w bx->All2 (relV C φ μ w) vs xs->Calls C.P f xs.toArray w fun e w'=>∃ v,e=.returned v/\Below w.heap.size w w'/\
  match nbx with
  | none=>relT C φ μ w' r v
  | some B=>B.own=true/\(B.tip=true->B.ro=true)/\∃ k o,∃ pre ys post:List Value,w.heap.size<=k/\w'.heap[k]?=some (.cells (pre++ys++post).toArray B.ty (0,0))/\pre.length=o/\All2 (relC C φ μ w') B.cs ys/\relT C (upd φ id (k,o)) μ w' r v/\(B.ro=false->pre=[]/\post=[]))
def clean (s:AS):Bool:=s.dirty.all fun b=>match look s.boxes b with | some B=>B.own | none=>false
theorem RepF.below {C:Cfg}{w0 w:World}{ψ φ:Nat->Option (Nat×Nat)}{s:AS}(h:RepW C w0 ψ φ s w)(hc:clean s=true):Below w0.heap.size w0 w:=by
 refine ⟨h.on.os,h.on.tape,h.on.output,h.on.size,fun k hk=>h.low k hk fun b hb o e=>?_⟩
 unfold clean at hc
 rw [List.all_eq_true] at hc
 have:=hc b hb
 cases hl:look s.boxes b with
 | none=>rw [hl] at this;cases this
 | some B=>
  rw [hl] at this
  have:=h.own b B k o hl this e
  omega
inductive Gd where
 | yes | no | bad
 | cond (c:Bool)
def gd (all:Array Oper)(tm:List AT)(o:Oper):Gd:=
 match o.guard with
 | none=>.yes
 | some (g,want)=>match (all[g]?).bind (·.dst) with
  | none=>.no
  | some d=>match tm[d]? with
   | none=>.no
   | some (.val (.one (.bool b)))=>bif b==want then .yes else .no
   | some (.val (.one (.sbool t)))=>.cond (t==want)
   | some .und=>.no
   | some (.cnd c (.one (.sbool t)))=>.cond (c&&(t==want))
   | some (.cnd c (.one (.bool t)))=>.cond (c&&(t==want))
   | _=>.bad
section
variable {C:Cfg} {w0:World} {ψ:Nat->Option (Nat×Nat)} {sp:Spec}
theorem gd_ok {φ:Nat->Option (Nat×Nat)}{ν:List (Int×Nat)}{w:World}{all:Array Oper}{tm:List AT}{a:Act}{o:Oper}(h:All2 (relT C φ ν w) tm a.tmps.toList):
  match gd all tm o with
  | .yes=>Region.wanted o (yielded all a.tmps)=true
  | .no=>Region.wanted o (yielded all a.tmps)=false
  | .cond c=>Region.wanted o (yielded all a.tmps)=c
  | .bad=>True:=by
 unfold gd Region.wanted
 cases hg:o.guard with
 | none=>simp
 | some p=>
  obtain ⟨g,want⟩:=p
  simp only [yielded]
  cases hd:(all[g]?).bind (·.dst) with
  | none=>simp
  | some d=>
   simp only [Option.bind_some]
   cases ht:tm[d]? with
   | none=>
    have hl:=h.len
    simp at hl
    have:a.tmps[d]?=none:=by
     rw [Array.getElem?_eq_none_iff,<-hl]
     exact List.getElem?_eq_none_iff.1 ht
    simp [this]
   | some t=>
    obtain ⟨v,h1,h2⟩:=h.at ht
    rw [Array.getElem?_toList] at h1
    simp only [h1]
    cases t with
    | top=>simp
    | und=>have:v=undef:=h2;subst this;simp [undef]
    | tup vs=>simp
    | val x=>
     cases x with
     | agg cs=>simp
     | one c=>
      cases c<;>try trivial
      case bool b=>
       have:v=.bool b:=h2
       subst this
       cases b<;>cases want<;>simp
      case sbool b=>
       have:v=.bool b:=h2
       subst this
       cases b<;>cases want<;>simp
    | cnd c x=>
     cases x with
     | agg cs=>simp
     | one cc=>
      cases cc<;>try trivial
      case bool b=>
       simp only [relT,relV,relC] at h2
       cases c with
       | true=>simp only [if_true] at h2;subst h2;cases b<;>cases want<;>simp
       | false=>simp only [Bool.false_eq_true,if_false] at h2;subst h2;simp [undef]
      case sbool b=>
       simp only [relT,relV,relC] at h2
       cases c with
       | true=>simp only [if_true] at h2;subst h2;cases b<;>cases want<;>simp
       | false=>simp only [Bool.false_eq_true,if_false] at h2;subst h2;simp [undef]
variable (C sp)
def condP (c:Bool):List Prop->List Prop
 | []=>[]
 | p::ps=>[c=true->Holds (p::ps)]
theorem condP_ok {c:Bool}{ps:List Prop}(h:Holds (condP c ps))(hc:c=true):Holds ps:=by
 cases ps with
 | nil=>exact holds_nil
 | cons p ps=>exact h.one hc
def doEff (s:AS)(o:Oper):Eff->Option (AS×List Prop)
 | .val r p=>some ({s with tmps:=putT s.tmps o.dst r},p)
 | .new cs ty sl=>some ({s with boxes:=(s.next,⟨cs,ty,true,sl.isSome,sl.isSome⟩)::s.boxes,next:=s.next+1,tmps:=putT s.tmps o.dst (.val (.one (newC s.next sl)))},[])
 | .app old cs ty len size=>bif C.bt.contains ty then some ({s with boxes:=(match old with | none=>(s.next,⟨cs,ty,true,true,true⟩)::s.boxes | some b=>putTip ((s.next,⟨cs,ty,true,true,true⟩)::s.boxes) b),next:=s.next+1,tmps:=putT s.tmps o.dst (.val (.one (.slc s.next 0 len size)))},[]) else none
 | .sto b cs=>(look s.boxes b).bind fun B=>bif C.bt.contains B.ty then some ({s with boxes:=putBox s.boxes b cs,dirty:=bif B.own then s.dirty else b::s.dirty,tmps:=putT s.tmps o.dst .und},[]) else none
 | .call f vs=>(sp f (clean s) s.nums s.next (look s.boxes) vs).map fun (ν',r,p,nbx)=>(match nbx with
   | none=>{s with nums:=s.nums++ν',tmps:=putT s.tmps o.dst r}
   | some B=>{s with nums:=s.nums++ν',boxes:=(s.next,B)::s.boxes,next:=s.next+1,tmps:=putT s.tmps o.dst r},p)
def doCond (c:Bool)(s:AS)(o:Oper):Eff->Option (AS×List Prop)
 | .val (.val v) p=>some ({s with tmps:=putT s.tmps o.dst (.cnd c v)},condP c p)
 | .call f vs=>(sp f (clean s) s.nums s.next (look s.boxes) vs).bind fun
   | (ν',.val v,p,none)=>some ({s with nums:=s.nums++ν',tmps:=putT s.tmps o.dst (.cnd c v)},condP c p)
   | _=>none
 | _=>none
def stepA (all:Array Oper)(s:AS)(o:Oper):Option (AS×List Prop):=
 match gd all s.tmps o with
 | .yes=>(evalOp C.P (evO s.tmps) (look s.boxes) o.op).bind (doEff C sp s o)
 | .no=>some ({s with tmps:=putT s.tmps o.dst .und},[])
 | .cond c=>(evalOp C.P (evO s.tmps) (look s.boxes) o.op).bind (doCond sp c s o)
 | .bad=>none
variable {C sp}
theorem app_ext (ν ν':List (Int×Nat))(i:Nat)(x:Int×Nat)(h:ν[i]?=some x):(ν++ν')[i]?=some x:=by
 rw [List.getElem?_append_left (List.getElem?_eq_some_iff.1 h).1];exact h
theorem put_defers (a:Act)(d:Option Tmp)(v:Value):(a.put d v).defers=a.defers:=by cases d<;>rfl
theorem new_rel {φ:Nat->Option (Nat×Nat)}{ν:List (Int×Nat)}{w:World}{xs:List Value}{ty:TypeId}{n:Nat}{sl:Option (Nat×Nat)}(h:∀ m size,sl=some (m,size)->xs.length=m*size):
  relT C (upd φ n (w.heap.size,0)) ν {w with heap:=w.heap.push (.cells xs.toArray ty)} (.val (.one (newC n sl))) (newV w.heap.size sl):=by
 cases sl with
 | none=>exact ⟨w.heap.size,0,upd_same _ _ _,rfl⟩
 | some p=>
  obtain ⟨m,size⟩:=p
  refine ⟨w.heap.size,0,m,ty,xs.length,upd_same _ _ _,rfl,Nat.le_refl _,by simp [World.shape?],?_⟩
  rw [h m size rfl]
  omega
def appB (bx:Nat->Option Box)(n:Nat)(D:Box):Option Nat->Nat->Option Box
 | none=>setB bx n D
 | some b=>match bx b with
  | some B=>setB (setB bx n D) b {B with tip:=false}
  | none=>setB bx n D
theorem tip_of {bx:Nat->Option Box}{b:Nat}(h:okTip bx (some b)=true):∃ B,bx b=some B/\B.tip=true:=by
 unfold okTip at h
 simp only at h
 cases hb:bx b with
 | none=>rw [hb] at h;cases h
 | some B=>rw [hb] at h;exact ⟨B,rfl,h⟩
theorem app_rep {φ:Nat->Option (Nat×Nat)}{bx:Nat->Option Box}{nb:Nat->Prop}{ν:List (Int×Nat)}{dirty:List Nat}{w w':World}{n cap len size:Nat}{v:Value}{old:Option Nat}{cs:List AC}{ty:TypeId}(h:RepF C w0 ψ φ bx nb ν dirty w)(hn:nb n)(hlc:len<=cap)(ht:okTip bx old=true)(hbt:C.bt.contains ty=true)
  (hw:(∃ zs post:List Value,w'={w with heap:=w.heap.push (.cells (zs++post).toArray ty),drawn:=w.drawn+1}/\v=.slice (some ⟨w.heap.size,0,none⟩) len cap/\All2 (relC C φ ν w) cs zs/\cap*size<=zs.length+post.length)\/
    (∃ b B k o,∃ pre ys post new post':List Value,old=some b/\bx b=some B/\B.ty=ty/\φ b=some (k,o)/\v=.slice (some ⟨k,o,none⟩) len cap/\w.heap[k]?=some (.cells (pre++ys++post).toArray ty (0,0))/\pre.length=o/\All2 (relC C φ ν w) B.cs ys/\
     Stored w w' k (pre++(ys++new)++post') ty/\new.length+post'.length=post.length/\All2 (relC C φ ν w) cs (ys++new)/\o+cap*size<=(pre++(ys++new)++post').length)):
  ∃ φ',RepF C w0 ψ φ' (appB bx n ⟨cs,ty,true,true,true⟩ old) (fun x=>nb x/\x≠n) ν dirty w'/\Ext C φ φ' ν ν w w'/\relT C φ' ν w' (.val (.one (.slc n 0 len size))) v:=by
 rcases hw with ⟨zs,post,rfl,rfl,h1,h2⟩ | ⟨b,B,k,o,pre,ys,post,new,post',rfl,g1,rfl,g3,rfl,g5,g6,g7,g8,g9,g10,g11⟩
 ·obtain ⟨k1,k2⟩:=h.new hn (B:=⟨cs,ty,true,true,true⟩) (post:=post) (d:=w.drawn+1) h1 rfl (fun h=>h) (fun e=>by cases e)
  refine ⟨_,?_,k2,w.heap.size,0,cap,ty,(zs++post).length,upd_same _ _ _,rfl,hlc,by simp [World.shape?],by simp;omega⟩
  cases old with
  | none=>exact k1
  | some b=>
   obtain ⟨B,hB,_⟩:=tip_of ht
   have hne:b≠n:=by
    rintro rfl
    obtain ⟨k,o,_,_,_,f1,_⟩:=h.box _ _ hB
    rw [h.fresh _ hn] at f1
    cases f1
   unfold appB
   simp only [hB]
   exact k1.untip (by rw [setB_ne hne];exact hB)
 ·obtain ⟨B',hB',htip⟩:=tip_of ht
  rw [g1] at hB'
  cases hB'
  obtain ⟨k1,k2⟩:=h.place hn (D:=⟨cs,B.ty,true,true,true⟩) g1 htip g3 g5 g6 g7 g8 g9 g10 ⟨rfl,rfl,rfl⟩ hbt
  refine ⟨_,?_,k2,k,o,cap,B.ty,(pre++(ys++new)++post').length,upd_same _ _ _,rfl,hlc,?_,by simpa using g11⟩
  ·unfold appB
   simp only [g1]
   exact k1
  ·unfold World.shape?
   rw [g8.blk]
   simp
theorem eff_ok (hsp:SpecOk C w0 ψ sp){φ:Nat->Option (Nat×Nat)}{s s':AS}{a:Act}{w:World}{o:Oper}{p:List Prop}{Q:Exit->Act->World->Prop}{K:Act->World->Prop}{e:Eff}
  (h:Rep C w0 ψ φ s a w) (he:evalOp C.P (evO s.tmps) (look s.boxes) o.op=some e) (hd:doEff C sp s o e=some (s',p)) (hp:Holds p)
  (hK:∀ φ' a' w',Ext C φ φ' s.nums s'.nums w w'->Rep C w0 ψ φ' s' a' w'->K a' w'):o.wp C.P a w K Q:=by
 unfold Oper.wp
 cases e with
 | val r q=>
  simp only [doEff,Option.some.injEq,Prod.mk.injEq] at hd
  obtain ⟨rfl,rfl⟩:=hd
  have:=evalOp_ok (o:=o) (evO_ok h.tmps) h.wd.box (fun _=>rfl) (fun f vs e=>by cases e) he
  obtain ⟨v,r1,r2⟩:=this hp
  rw [r1]
  exact hK φ _ w (Ext.refl _ _ _) ⟨h.wd,by rw [put_defers];exact h.defers,putT_ok h.tmps o.dst r2⟩
 | new cs ty sl=>
  simp only [doEff,Option.some.injEq,Prod.mk.injEq] at hd
  obtain ⟨rfl,rfl⟩:=hd
  obtain ⟨xs,r1,r2,r3⟩:=evalOp_ok (o:=o) (evO_ok h.tmps) h.wd.box (fun _=>rfl) (fun f vs e=>by cases e) he
  rw [r1]
  obtain ⟨k1,k2⟩:=h.wd.new (n:=s.next) (Nat.le_refl _) (B:=⟨cs,ty,true,sl.isSome,sl.isSome⟩) (post:=[]) (d:=w.drawn) r2 rfl (fun h=>h) (fun _=>rfl)
  rw [<-look_cons,List.append_nil] at k1
  rw [List.append_nil] at k2
  refine hK _ _ _ k2 ⟨k1.fewer fun b hb=>⟨Nat.le_of_succ_le hb,by simp only at hb;omega⟩,by rw [put_defers];exact h.defers,putT_ok (h.tmps.mono (relT_ext k2)) o.dst (new_rel r3)⟩
 | app old cs ty len size=>
  simp only [doEff] at hd
  cases hb:C.bt.contains ty with
  | false=>rw [hb] at hd;cases hd
  | true=>
   rw [hb] at hd
   simp only [cond_true,Option.some.injEq,Prod.mk.injEq] at hd
   obtain ⟨rfl,rfl⟩:=hd
   obtain ⟨v,w',cap,r1,r2,r3,r4⟩:=evalOp_ok (o:=o) (evO_ok h.tmps) h.wd.box (fun _=>rfl) (fun f vs e=>by cases e) he
   rw [r1]
   obtain ⟨φ',k1,k2,k3⟩:=app_rep h.wd (n:=s.next) (Nat.le_refl _) r2 r3 hb r4
   refine hK φ' _ _ k2 ⟨?_,by rw [put_defers];exact h.defers,putT_ok (h.tmps.mono (relT_ext k2)) o.dst k3⟩
   refine RepF.fewer (nb:=fun b=>s.next<=b/\b≠s.next) ?_ fun b hb=>⟨Nat.le_of_succ_le hb,by simp only at hb;omega⟩
   cases old with
   | none=>simp only [appB] at k1 ⊢;rw [<-look_cons] at k1;exact k1
   | some b=>
    simp only [appB] at k1 ⊢
    obtain ⟨B,hB,_⟩:=tip_of r3
    rw [hB] at k1
    have hne:b≠s.next:=by
     rintro rfl
     obtain ⟨k,o,_,_,_,f1,_⟩:=h.wd.box _ _ hB
     rw [h.wd.fresh _ (Nat.le_refl _)] at f1
     cases f1
    rw [<-look_cons] at k1
    rw [look_tip (B:=B) (by rw [look_cons,setB_ne hne];exact hB)]
    exact k1
 | sto b cs=>
  simp only [doEff] at hd
  obtain ⟨B,h1,h2⟩:=bnd hd
  cases hb:C.bt.contains B.ty with
  | false=>rw [hb] at h2;cases h2
  | true=>
   rw [hb] at h2
   simp only [cond_true,Option.some.injEq,Prod.mk.injEq] at h2
   obtain ⟨rfl,rfl⟩:=h2
   obtain ⟨B',k,oo,w',pre,ys,post,zs,g1,gr,g2,g3,g4,g5,g6,g7,g8,g9⟩:=evalOp_ok (o:=o) (evO_ok h.tmps) h.wd.box (fun _=>rfl) (fun f vs e=>by cases e) he
   rw [h1] at g1
   cases g1
   rw [g3]
   obtain ⟨k1,k2⟩:=h.wd.sto (dirty':=bif B.own then s.dirty else b::s.dirty) h1 gr g2 g4 g5 g6 g7 g8 g9 hb (by cases B.own<;>simp_all) (by cases B.own<;>simp)
   rw [<-look_putBox h1] at k1
   exact hK _ _ _ k2 ⟨k1,by rw [put_defers];exact h.defers,putT_ok (h.tmps.mono (relT_ext k2)) o.dst rfl⟩
 | call f vs=>
  simp only [doEff] at hd
  obtain ⟨⟨ν',r,q,nbx⟩,h1,h2⟩:=mpd hd
  simp only [Prod.mk.injEq] at h2
  obtain ⟨rfl,rfl⟩:=h2
  obtain ⟨hen,hc⟩:=hsp f (clean s) s.nums s.next (look s.boxes) vs ν' r q nbx h1
  obtain ⟨xs,r1,r2⟩:=evalOp_ok (o:=o) (evO_ok h.tmps) h.wd.box (fun _=>rfl) (fun f' vs' e=>by cases e;exact hen) he
  rw [r1]
  have h0:Ext C φ φ s.nums (s.nums++ν') w w:=⟨fun _ _ h=>h,app_ext _ _,On.refl _ _⟩
  refine (hc hp _ (fun _ _ h=>h) φ w xs h.wd.base (fun hcl=>RepF.below h.wd hcl) h.wd.on (h.wd.later (Below.refl _ _) _ (app_ext _ ν')).box (r2.mono (relV_ext h0))).mono ?_
  rintro e w' ⟨v,rfl,hb,hv⟩
  have hx:Ext C φ φ s.nums (s.nums++ν') w w':=⟨fun _ _ h=>h,app_ext _ _,On.below hb⟩
  cases nbx with
  | none=>
   have k1:=h.wd.later hb (s.nums++ν') (app_ext _ _)
   exact hK φ _ w' hx ⟨k1,by rw [put_defers];exact h.defers,putT_ok (h.tmps.mono (relT_ext hx)) o.dst hv⟩
  | some B=>
   obtain ⟨b1,b2,k,o',pre,ys,post,g1,g2,g2',g3,g4,g5⟩:=hv
   obtain ⟨k1,k2⟩:=h.wd.got (n:=s.next) (Nat.le_refl _) hb (app_ext _ ν') g1 g2 g2' g3 b1 b2 g5
   rw [<-look_cons] at k1
   exact hK _ _ w' k2 ⟨k1.fewer fun b hb=>⟨Nat.le_of_succ_le hb,by simp only at hb;omega⟩,by rw [put_defers];exact h.defers,putT_ok (h.tmps.mono (relT_ext k2)) o.dst g4⟩
theorem cond_ok (hsp:SpecOk C w0 ψ sp){φ:Nat->Option (Nat×Nat)}{s s':AS}{a:Act}{w:World}{o:Oper}{p:List Prop}{Q:Exit->Act->World->Prop}{K:Act->World->Prop}{e:Eff}{c:Bool}
  (h:Rep C w0 ψ φ s a w) (he:evalOp C.P (evO s.tmps) (look s.boxes) o.op=some e) (hd:doCond sp c s o e=some (s',p)) (hp:Holds p)
  (hK:∀ φ' a' w',Ext C φ φ' s.nums s'.nums w w'->Rep C w0 ψ φ' s' a' w'->K a' w'):if c=true then o.wp C.P a w K Q else K (a.put o.dst undef) w:=by
 have skip:∀ v ν',s'={s with nums:=s.nums++ν',tmps:=putT s.tmps o.dst (.cnd c v)}->c=false->K (a.put o.dst undef) w:=by
  rintro v ν' rfl rfl
  have hx:Ext C φ φ s.nums (s.nums++ν') w w:=⟨fun _ _ h=>h,app_ext _ _,On.refl _ _⟩
  have k1:=h.wd.later (Below.refl _ _) (s.nums++ν') (app_ext _ _)
  exact hK φ _ w hx ⟨k1,by rw [put_defers];exact h.defers,putT_ok (h.tmps.mono (relT_ext hx)) o.dst (by simp [relT])⟩
 cases e with
 | val r q=>
  cases r with
  | val v=>
   simp only [doCond,Option.some.injEq,Prod.mk.injEq] at hd
   obtain ⟨rfl,rfl⟩:=hd
   cases c with
   | false=>simp only [Bool.false_eq_true,if_false];exact skip v [] (by simp) rfl
   | true=>
    simp only [if_true]
    refine eff_ok hsp h he (p:=q) (s':={s with tmps:=putT s.tmps o.dst (.val v)}) rfl (condP_ok hp rfl) ?_
    intro φ' a' w' hx hr
    refine hK φ' a' w' hx ⟨hr.wd,hr.defers,?_⟩
    have:=hr.tmps
    simp only at this ⊢
    exact swap this
  | _=>simp [doCond] at hd
 | call f vs=>
  simp only [doCond] at hd
  obtain ⟨⟨ν',r,q,nbx⟩,h1,h2⟩:=bnd hd
  cases r with
  | val v=>
   cases nbx with
   | some B=>simp at h2
   | none=>
   simp only [Option.some.injEq,Prod.mk.injEq] at h2
   obtain ⟨rfl,rfl⟩:=h2
   cases c with
   | false=>simp only [Bool.false_eq_true,if_false];exact skip v ν' rfl rfl
   | true=>
    simp only [if_true]
    refine eff_ok hsp h he (p:=q) (s':={s with nums:=s.nums++ν',tmps:=putT s.tmps o.dst (.val v)}) (by simp [doEff,h1]) (condP_ok hp rfl) ?_
    intro φ' a' w' hx hr
    refine hK φ' a' w' hx ⟨hr.wd,hr.defers,?_⟩
    exact swap hr.tmps
  | _=>simp at h2
 | _=>simp [doCond] at hd
where
 swap {φ:Nat->Option (Nat×Nat)} {ν:List (Int×Nat)} {w:World} {tm:List AT} {d:Option Tmp} {v:AV} {xs:List Value} (h:All2 (relT C φ ν w) (putT tm d (.val v)) xs):All2 (relT C φ ν w) (putT tm d (.cnd true v)) xs:=by
  cases d with
  | none=>exact h
  | some d=>
   simp only [putT] at h ⊢
   exact sw d tm xs h
 sw {φ:Nat->Option (Nat×Nat)} {ν:List (Int×Nat)} {w:World} {v:AV}:∀ (d:Nat) (tm:List AT) (xs:List Value),All2 (relT C φ ν w) (tm.set d (.val v)) xs->All2 (relT C φ ν w) (tm.set d (.cnd true v)) xs
  | _,[],xs,h=>h
  | 0,_::_,x::xs,⟨h1,h2⟩=>⟨by simpa [relT] using h1,h2⟩
  | d+1,_::tm,x::xs,⟨h1,h2⟩=>⟨h1,sw d tm xs h2⟩
  | 0,_::_,[],h=>h.elim
  | d+1,_::_,[],h=>h.elim
theorem step_ok (hsp:SpecOk C w0 ψ sp){φ:Nat->Option (Nat×Nat)}{s s':AS}{a:Act}{w:World}{all:Array Oper}{i:Nat}{o:Oper}{p:List Prop}{Q:Exit->Act->World->Prop}{K:Act->World->Prop}
  (ho:all[i]?=some o) (h:Rep C w0 ψ φ s a w) (hd:stepA C sp all s o=some (s',p)) (hp:Holds p)
  (hK:∀ φ' a' w',Ext C φ φ' s.nums s'.nums w w'->Rep C w0 ψ φ' s' a' w'->K a' w'):wpOp C.P all Q i K a w:=by
 unfold wpOp
 simp only [ho]
 have hg:=gd_ok (all:=all) (o:=o) h.tmps
 unfold stepA at hd
 cases hgd:gd all s.tmps o with
 | yes=>
  rw [hgd] at hg hd
  simp only at hg hd
  obtain ⟨e,h1,h2⟩:=bnd hd
  rw [if_pos hg]
  exact Or.inl (eff_ok hsp h h1 h2 hp hK)
 | no=>
  rw [hgd] at hg hd
  simp only [Option.some.injEq,Prod.mk.injEq] at hg hd
  obtain ⟨rfl,rfl⟩:=hd
  rw [if_neg (by simp [hg])]
  exact hK φ _ w (Ext.refl _ _ _) ⟨h.wd,by rw [put_defers];exact h.defers,putT_ok h.tmps o.dst rfl⟩
 | cond c=>
  rw [hgd] at hg hd
  simp only at hg hd
  obtain ⟨e,h1,h2⟩:=bnd hd
  have:=cond_ok (Q:=Q) hsp h h1 h2 hp hK
  rw [hg]
  cases c with
  | true=>simp only [if_true] at this ⊢;exact Or.inl this
  | false=>simpa using this
 | bad=>rw [hgd] at hd;cases hd
end
end Ab
open Go.RowKit
namespace Ab
inductive K (F:Type) where
 | code (c:Code)
 | blk (id:Nat)
 | lp (b:Code) (n:Nat)
 | ops (all:Array Oper) (rest:List Nat)
 | fr (fn:Func) (dst:Option Tmp) (f:F)
 | top (fn:Func)
inductive Tr where
 | ret (r:AT) (s:AS)
 | br (t:Bool) (a b:Tr)
 | need (p:List Prop) (t:Tr)
 | stop (ks:List (K (List AT))) (s:AS)
def Tr.ok (G:AT->AS->Prop)(H:List (K (List AT))->AS->Prop):Tr->Prop
 | .ret r s=>G r s
 | .br t a b=>(t=true->a.ok G H)/\(t=false->b.ok G H)
 | .need p t=>Holds p/\t.ok G H
 | .stop ks s=>H ks s
def wrap:List Prop->Tr->Tr
 | [],t=>t
 | p::ps,t=>.need (p::ps) t
theorem wrap_ok {G:AT->AS->Prop}{H:List (K (List AT))->AS->Prop}{ps:List Prop}{t:Tr}(h:(wrap ps t).ok G H):Holds ps/\t.ok G H:=by
 cases ps with
 | nil=>exact ⟨holds_nil,h⟩
 | cons p ps=>exact h
def dropRet {F:Type}:List (K F)->List (K F)
 | .fr fn d f::ks=>.fr fn d f::ks
 | .top fn::ks=>.top fn::ks
 | _::ks=>dropRet ks
 | []=>[]
def dropExit {F:Type}(id:Nat):List (K F)->Option (List (K F))
 | .blk i::ks=>bif i==id then some ks else dropExit id ks
 | .fr ..::_=>none
 | .top _::_=>none
 | _::ks=>dropExit id ks
 | []=>none
def resOne (P:Program)(s:AS):ResultVar->Option AV
 | .tmp t=>asV (s.tmps.getD t .und)
 | .cell a t=>(asOne (s.tmps.getD a .und)).bind fun
   | .ptr b off=>(look s.boxes b).bind fun B=>loadA P t B.cs off
   | _=>none
def resA (P:Program)(fn:Func)(s:AS):Option AT:=
 (mapO (resOne P s) fn.results.toList).map fun
  | [v]=>.val v
  | vs=>.tup vs
section
variable (C:Cfg) (sp:Spec) (bodies:FuncId->Option Func) (draw:Array Oper->AS->Option (AS×List Prop)) (stp:List (K (List AT))->Bool)
def splitOn (all:Array Oper)(tm:List AT)(o:Oper):Option (Nat×Bool):=
 o.guard.bind fun (g,_)=>((all[g]?).bind (·.dst)).bind fun d=>match tm[d]? with
  | some (.val (.one (.sbool t)))=>some (d,t)
  | _=>none
def inl (all:Array Oper)(s:AS)(o:Oper):Option (Func×Code×List AV):=
 match gd all s.tmps o with
 | .yes=>(evalOp C.P (evO s.tmps) (look s.boxes) o.op).bind fun
   | .call f vs=>(bodies f).bind fun fn=>fn.body.map fun c=>(fn,c,vs)
   | _=>none
 | _=>none
def run:Nat->List (K (List AT))->AS->Option Tr
 | 0,_,_=>none
 | f+1,ks,s=>bif stp ks then some (.stop ks s) else match ks with
  | []=>none
  | .top fn::_=>(resA C.P fn s).map fun r=>.ret r s
  | .fr fn dst tm::ks=>(resA C.P fn s).bind fun r=>run f ks {s with tmps:=putT tm dst r}
  | .blk _::ks=>run f ks s
  | .lp b 0::ks=>none
  | .lp b (n+1)::ks=>run f (.code b::.lp b n::ks) s
  | .ops _ []::ks=>run f ks s
  | .ops all (i::rest)::ks=>(all[i]?).bind fun o=>
   match splitOn all s.tmps o with
   | some (d,t)=>(run f (.ops all (i::rest)::ks) {s with tmps:=s.tmps.set d (.val (.one (.bool true)))}).bind fun x=>(run f (.ops all (i::rest)::ks) {s with tmps:=s.tmps.set d (.val (.one (.bool false)))}).map fun y=>.br t x y
   | none=>
   match stepA C sp all s o with
   | some (s',p)=>(run f (.ops all rest::ks) s').map (wrap p)
   | none=>match inl C bodies all s o with
    | some (fn,c,vs)=>run f (.code c::.fr fn o.dst s.tmps::.ops all rest::ks) {s with tmps:=vs.map .val++List.replicate (fn.ntmps-vs.length) .und}
    | none=>none
  | .code c::ks=>match c with
   | .skip=>run f ks s
   | .seq a b=>run f (.code a::.code b::ks) s
   | .block id b=>run f (.code b::.blk id::ks) s
   | .loop b=>run f (.lp b f::ks) s
   | .exit id=>(dropExit id ks).bind fun ks=>run f ks s
   | .ret=>run f (dropRet ks) s
   | .cond x a b=>(asOne (evO s.tmps x)).bind fun
    | .bool t=>run f (.code (bif t then a else b)::ks) s
    | .sbool t=>(run f (.code a::ks) s).bind fun x=>(run f (.code b::ks) s).map fun y=>.br t x y
    | _=>none
   | .region _ ops false=>run f (.ops ops (List.range ops.size)::ks) s
   | .region _ ops true=>(draw ops s).bind fun (s',p)=>(run f ks s').map (wrap p)
   | _=>none
end
def sem (P:Program)(R:Ending->World->Prop):List (K Act)->Exit->Act->World->Prop
 | []=>fun _ _ _=>False
 | .code c::ks=>Exit.then (c.wp P (sem P R ks)) (sem P R ks)
 | .blk id::ks=>Exit.inBlock id (sem P R ks)
 | .lp b n::ks=>Exit.then (Code.rounds P b (sem P R ks) n) (sem P R ks)
 | .ops all rest::ks=>Exit.then (wpOps P all (sem P R ks) rest) (sem P R ks)
 | .fr fn dst a::ks=>bodyPost P fn fun e w=>match e with | .returned v=>sem P R ks .normal (a.put dst v) w | _=>False
 | .top fn::_=>bodyPost P fn R
def SR (C:Cfg)(φ:Nat->Option (Nat×Nat))(ν:List (Int×Nat))(w:World):List (K (List AT))->List (K Act)->Prop
 | [],[]=>True
 | .code c::ks,.code c'::kcs=>c'=c/\SR C φ ν w ks kcs
 | .blk i::ks,.blk i'::kcs=>i'=i/\SR C φ ν w ks kcs
 | .lp b n::ks,.lp b' n'::kcs=>b'=b/\n'=n/\SR C φ ν w ks kcs
 | .ops a r::ks,.ops a' r'::kcs=>a'=a/\r'=r/\SR C φ ν w ks kcs
 | .fr fn d tm::ks,.fr fn' d' a::kcs=>fn'=fn/\d'=d/\a.defers=[]/\All2 (relT C φ ν w) tm a.tmps.toList/\SR C φ ν w ks kcs
 | .top fn::ks,.top fn'::kcs=>fn'=fn/\SR C φ ν w ks kcs
 | _,_=>False
section
variable {C:Cfg} {w0:World} {ψ:Nat->Option (Nat×Nat)} {sp:Spec} {bodies:FuncId->Option Func} {draw:Array Oper->AS->Option (AS×List Prop)} {R:Ending->World->Prop}
theorem SR.ext {φ φ':Nat->Option (Nat×Nat)}{ν ν':List (Int×Nat)}{w w':World}(hx:Ext C φ φ' ν ν' w w'):∀ {ks:List (K (List AT))} {kcs:List (K Act)},SR C φ ν w ks kcs->SR C φ' ν' w' ks kcs
 | [],[],_=>trivial
 | .code c::ks,.code c'::kcs,h=>⟨h.1,SR.ext hx h.2⟩
 | .blk i::ks,.blk i'::kcs,h=>⟨h.1,SR.ext hx h.2⟩
 | .lp b n::ks,.lp b' n'::kcs,h=>⟨h.1,h.2.1,SR.ext hx h.2.2⟩
 | .ops a r::ks,.ops a' r'::kcs,h=>⟨h.1,h.2.1,SR.ext hx h.2.2⟩
 | .fr fn d tm::ks,.fr fn' d' a::kcs,h=>⟨h.1,h.2.1,h.2.2.1,h.2.2.2.1.mono (relT_ext hx),SR.ext hx h.2.2.2.2⟩
 | .top fn::ks,.top fn'::kcs,h=>⟨h.1,SR.ext hx h.2⟩
theorem SR.dropRet {φ:Nat->Option (Nat×Nat)}{ν:List (Int×Nat)}{w w':World}{a:Act}:∀ {ks:List (K (List AT))} {kcs:List (K Act)},SR C φ ν w ks kcs->SR C φ ν w (dropRet ks) (dropRet kcs)/\(sem C.P R (Ab.dropRet kcs) .ret a w'->sem C.P R kcs .ret a w')
 | [],[],_=>⟨trivial,fun h=>h⟩
 | .code c::ks,.code c'::kcs,h=>⟨(SR.dropRet (w':=w') (a:=a) h.2).1,(SR.dropRet h.2).2⟩
 | .blk i::ks,.blk i'::kcs,h=>⟨(SR.dropRet (w':=w') (a:=a) h.2).1,(SR.dropRet h.2).2⟩
 | .lp b n::ks,.lp b' n'::kcs,h=>⟨(SR.dropRet (w':=w') (a:=a) h.2.2).1,(SR.dropRet h.2.2).2⟩
 | .ops x r::ks,.ops x' r'::kcs,h=>⟨(SR.dropRet (w':=w') (a:=a) h.2.2).1,(SR.dropRet h.2.2).2⟩
 | .fr fn d tm::ks,.fr fn' d' x::kcs,h=>⟨h,fun h=>h⟩
 | .top fn::ks,.top fn'::kcs,h=>⟨h,fun h=>h⟩
theorem SR.dropExit {φ:Nat->Option (Nat×Nat)}{ν:List (Int×Nat)}{w w':World}{a:Act}{id:Nat}:∀ {ks ks':List (K (List AT))} {kcs:List (K Act)},SR C φ ν w ks kcs->Ab.dropExit id ks=some ks'->∃ kcs',SR C φ ν w ks' kcs'/\(sem C.P R kcs' .normal a w'->sem C.P R kcs (.exit id) a w')
 | .code c::ks,ks',.code c'::kcs,h,e=>let ⟨k,g1,g2⟩:=SR.dropExit (kcs:=kcs) h.2 (show Ab.dropExit id ks=some ks' by simpa [Ab.dropExit] using e);⟨k,g1,g2⟩
 | .lp b n::ks,ks',.lp b' n'::kcs,h,e=>let ⟨k,g1,g2⟩:=SR.dropExit (kcs:=kcs) h.2.2 (show Ab.dropExit id ks=some ks' by simpa [Ab.dropExit] using e);⟨k,g1,g2⟩
 | .ops x r::ks,ks',.ops x' r'::kcs,h,e=>let ⟨k,g1,g2⟩:=SR.dropExit (kcs:=kcs) h.2.2 (show Ab.dropExit id ks=some ks' by simpa [Ab.dropExit] using e);⟨k,g1,g2⟩
 | .blk i::ks,ks',.blk i'::kcs,h,e=>by
  obtain ⟨rfl,h⟩:=h
  unfold Ab.dropExit at e
  cases hi:i'==id with
  | true=>
   rw [hi] at e
   cases e
   have:i'=id:=by simpa using hi
   subst this
   exact ⟨kcs,h,fun g=>by simp only [sem,Exit.inBlock,if_true];exact g⟩
  | false=>
   rw [hi] at e
   simp only [cond_false] at e
   have hne:¬id=i':=by intro e;subst e;simp at hi
   obtain ⟨kcs',g1,g2⟩:=SR.dropExit h e
   exact ⟨kcs',g1,fun g=>by simp only [sem,Exit.inBlock];rw [if_neg hne];exact g2 g⟩
 | [],_,[],_,e=>by simp [Ab.dropExit] at e
 | .fr ..::_,_,_,_,e=>by simp [Ab.dropExit] at e
 | .top _::_,_,_,_,e=>by simp [Ab.dropExit] at e
def resSem (tmps:Array Value):ResultVar->Sem Value
 | .tmp t=>pure (tmps.getD t undef)
 | .cell a t=>do loadVar t (<-asAddr (tmps.getD a undef))
theorem results_eq (fn:Func)(tmps:Array Value):results fn tmps=(fn.results.mapM (resSem tmps)) >>= fun vs=>pure (if h:vs.size=1 then vs[0] else .tuple vs):=by
 unfold results
 congr
theorem resOne_ok {φ:Nat->Option (Nat×Nat)}{s:AS}{a:Act}{w:World}(h:Rep C w0 ψ φ s a w){rv:ResultVar}{v:AV}(hr:resOne C.P s rv=some v):
  ∃ x,(resSem a.tmps rv).run C.P w=.ok x w/\relV C φ s.nums w v x:=by
 cases rv with
 | tmp t=>
  simp only [resOne] at hr
  have:=evO_ok h.tmps (.tmp t)
  simp only [evO,Act.eval] at this
  rw [v_of hr] at this
  exact ⟨_,rfl,this⟩
 | cell c t=>
  simp only [resOne] at hr
  obtain ⟨cc,h1,h2⟩:=bnd hr
  have ha:=evO_ok h.tmps (.tmp c)
  simp only [evO,Act.eval] at ha
  rw [one_of h1] at ha
  cases cc<;>simp only at h2<;>try cases h2
  case ptr b off=>
   obtain ⟨B,h3,h5⟩:=bnd h2
   obtain ⟨k,o,pre,xs,post,k1,k2,k0,k3⟩:=h.wd.box b B h3
   obtain ⟨k',o',k1',hq⟩:=ha
   rw [k1] at k1'
   cases k1'
   subst k0
   unfold loadA at h5
   obtain ⟨g,g1,g2⟩:=bnd h5
   cases g with
   | true=>
    simp only [cond_true] at g2
    obtain ⟨n,g3,g4⟩:=bnd g2
    cases hb:Nat.ble (off+n) B.cs.length with
    | false=>rw [hb] at g4;cases g4
    | true=>
     rw [hb] at g4
     simp only [cond_true,Option.some.injEq] at g4
     subst g4
     rw [Nat.ble_eq,k3.len] at hb
     refine ⟨.agg ((xs.drop off).take n).toArray,?_,_,rfl,(k3.drop off).take n⟩
     simp only [resSem]
     rw [hq]
     simp only [asAddr,loadVar,loadCells,Sem.run_bind,Sem.run_pure,Result.andThen_ok,run_isAgg g1,run_sizeOf g3,if_true,run_loadCells k2 (pre.length+off) n 0 #[] (by simp;omega),Nat.add_zero,seg_take hb]
     simp
   | false=>
    simp only [cond_false] at g2
    obtain ⟨c,g3,rfl⟩:=mpd g2
    obtain ⟨x,g4,g5⟩:=k3.at g3
    refine ⟨x,?_,g5⟩
    simp only [resSem]
    rw [hq]
    have sg:=seg_at (pre:=pre) (post:=post) g4
    rw [List.append_assoc] at sg
    simp [asAddr,loadVar,run_isAgg g1,cell_at k2,sg]
theorem resA_ok {φ:Nat->Option (Nat×Nat)}{s:AS}{a:Act}{w:World}(h:Rep C w0 ψ φ s a w){fn:Func}{r:AT}(hr:resA C.P fn s=some r):∃ x,(results fn a.tmps).run C.P w=.ok x w/\relT C φ s.nums w r x:=by
 unfold resA at hr
 obtain ⟨vs,h1,h2⟩:=mpd hr
 have key:∀ (l:List ResultVar) (vs:List AV),mapO (resOne C.P s) l=some vs->∃ xs:List Value,(l.mapM (resSem a.tmps)).run C.P w=.ok xs w/\All2 (relV C φ s.nums w) vs xs:=by
  intro l
  induction l with
  | nil=>intro vs h;simp [mapO] at h;subst h;exact ⟨[],by simp,trivial⟩
  | cons rv l ih=>
   intro vs hv
   unfold mapO at hv
   obtain ⟨v,g1,g2⟩:=bnd hv
   obtain ⟨vs',g3,rfl⟩:=mpd g2
   obtain ⟨x,x1,x2⟩:=resOne_ok h g1
   obtain ⟨xs,y1,y2⟩:=ih vs' g3
   refine ⟨x::xs,?_,x2,y2⟩
   rw [List.mapM_cons,Sem.run_bind,x1]
   simp only [Result.andThen_ok,Sem.run_bind,y1,Sem.run_pure]
 obtain ⟨xs,k1,k2⟩:=key _ _ h1
 have e1:(results fn a.tmps).run C.P w=.ok (if h:xs.toArray.size=1 then xs.toArray[0] else .tuple xs.toArray) w:=by
  rw [results_eq,<-Array.toArray_toList (xs:=fn.results),List.mapM_toArray]
  simp only [Sem.run_bind,Sem.run_map]
  rw [k1]
  rfl
 match vs,xs,k2,h2,e1 with
 | [],[],_,h2,e1=>subst h2;exact ⟨_,e1,[],by simp,trivial⟩
 | [v],[x],⟨k2,_⟩,h2,e1=>subst h2;exact ⟨x,by rw [e1];simp,k2⟩
 | v::v'::vs,x::x'::xs,k2,h2,e1=>subst h2;exact ⟨_,e1,x::x'::xs,by simp,k2⟩
end
end Ab
open Go.RowKit
namespace Ab
section
variable {C:Cfg} {w0:World} {ψ:Nat->Option (Nat×Nat)} {sp:Spec} {bodies:FuncId->Option Func} {draw:Array Oper->AS->Option (AS×List Prop)} {R:Ending->World->Prop}
def BodiesOk (C:Cfg)(bodies:FuncId->Option Func):Prop:=∀ f fn,bodies f=some fn->C.P.funcs[f]?=some fn/\Enters C.P f
def DrawOk (C:Cfg)(w0:World)(ψ:Nat->Option (Nat×Nat))(draw:Array Oper->AS->Option (AS×List Prop)):Prop:=∀ ops s s' p,draw ops s=some (s',p)->Holds p->∀ φ a w (id:Nat) (Q:Exit->Act->World->Prop),Rep C w0 ψ φ s a w->
 (∀ φ' a' w',Ext C φ φ' s.nums s'.nums w w'->Rep C w0 ψ φ' s' a' w'->Q .normal a' w')->(Code.region id ops true).wp C.P Q a w
theorem inl_ok {φ:Nat->Option (Nat×Nat)}{s:AS}{a:Act}{w:World}{all:Array Oper}{o:Oper}{fn:Func}{c:Code}{vs:List AV}(hbo:BodiesOk C bodies)(h:Rep C w0 ψ φ s a w)(hi:inl C bodies all s o=some (fn,c,vs)):
  Region.wanted o (yielded all a.tmps)=true/\∃ f xs,C.P.funcs[f]?=some fn/\fn.body=some c/\(execOp a.eval o).run C.P w=.ok (.enter f xs.toArray) w/\All2 (relV C φ s.nums w) vs xs:=by
 have hg:=gd_ok (all:=all) (o:=o) h.tmps
 unfold inl at hi
 cases hgd:gd all s.tmps o<;>rw [hgd] at hi hg<;>simp only at hi hg<;>try cases hi
 obtain ⟨e,h1,h2⟩:=bnd hi
 cases e<;>simp only at h2<;>try cases h2
 rename_i f vs'
 obtain ⟨fn',h3,h4⟩:=bnd h2
 obtain ⟨c',h5,h6⟩:=mpd h4
 cases h6
 obtain ⟨h7,h8⟩:=hbo f fn h3
 obtain ⟨xs,r1,r2⟩:=evalOp_ok (o:=o) (evO_ok h.tmps) h.wd.box (fun _=>rfl) (fun f' vs' e=>by cases e;exact h8) h1
 exact ⟨hg,f,xs,h7,h5,r1,r2⟩
theorem set_self {α:Type}:∀ {l:List α} {i:Nat} {a:α},l[i]?=some a->l.set i a=l
 | [],_,_,h=>by simp at h
 | x::l,0,a,h=>by simp at h;simp [h]
 | x::l,i+1,a,h=>by simp only [List.set_cons_succ];rw [set_self (by simpa using h)]
theorem all_val {φ:Nat->Option (Nat×Nat)}{ν:List (Int×Nat)}{w:World}:∀ {vs:List AV} {xs:List Value},All2 (relV C φ ν w) vs xs->All2 (relT C φ ν w) (vs.map .val) xs
 | [],[],_=>trivial
 | _::_,_::_,⟨h1,h2⟩=>⟨h1,all_val h2⟩
 | [],_::_,h=>h.elim
 | _::_,[],h=>h.elim
theorem all_und {φ:Nat->Option (Nat×Nat)}{ν:List (Int×Nat)}{w:World}:∀ (n:Nat),All2 (relT C φ ν w) (List.replicate n .und) (List.replicate n undef)
 | 0=>trivial
 | n+1=>⟨rfl,all_und n⟩
theorem run_ok {stp:List (K (List AT))->Bool}(hsp:SpecOk C w0 ψ sp)(hbo:BodiesOk C bodies)(hdr:DrawOk C w0 ψ draw)(G:AT->AS->Prop)(H:List (K (List AT))->AS->Prop)(hH:∀ ks s,H ks s->∀ (kcs:List (K Act)) (φ:Nat->Option (Nat×Nat)) (a:Act) (w:World),SR C φ s.nums w ks kcs->Rep C w0 ψ φ s a w->sem C.P R kcs .normal a w)(hG:∀ r s φ v w,G r s->relT C φ s.nums w r v->RepW C w0 ψ φ s w->R (.returned v) w):
  ∀ (f:Nat) (ks:List (K (List AT))) (s:AS) (tr:Tr),run C sp bodies draw stp f ks s=some tr->tr.ok G H->∀ (kcs:List (K Act)) (φ:Nat->Option (Nat×Nat)) (a:Act) (w:World),SR C φ s.nums w ks kcs->Rep C w0 ψ φ s a w->sem C.P R kcs .normal a w
 | 0,ks,s,tr,h,hok,kcs,φ,a,w,hs,hr=>by simp [run] at h
 | f+1,ks,s,tr,h,hok,kcs,φ,a,w,hs,hr=>by
  have ih:=run_ok (stp:=stp) hsp hbo hdr G H hH hG f
  unfold run at h
  cases hst:stp ks with
  | true=>
   rw [hst] at h
   simp only [cond_true,Option.some.injEq] at h
   subst h
   exact hH ks s hok kcs φ a w hs hr
  | false=>
  rw [hst] at h
  simp only [cond_false] at h
  clear hst
  match ks,kcs,hs with
  | [],[],_=>cases h
  | .top fn::ks,.top fn'::kcs,hs=>
   obtain ⟨rfl,hs⟩:=hs
   simp only at h
   obtain ⟨r,h1,rfl⟩:=mpd h
   obtain ⟨x,x1,x2⟩:=resA_ok hr h1
   exact ⟨hr.defers,x,x1,hG r s φ x w hok x2 hr.wd⟩
  | .fr fn dst tm::ks,.fr fn' dst' b::kcs,hs=>
   obtain ⟨rfl,rfl,hd,htm,hs⟩:=hs
   simp only at h
   obtain ⟨r,h1,h2⟩:=bnd h
   obtain ⟨x,x1,x2⟩:=resA_ok hr h1
   refine ⟨hr.defers,x,x1,?_⟩
   exact ih ks _ tr h2 hok kcs φ _ w hs ⟨hr.wd,by rw [put_defers];exact hd,putT_ok htm dst' x2⟩
  | .blk i::ks,.blk i'::kcs,hs=>
   obtain ⟨rfl,hs⟩:=hs
   simp only at h
   exact ih ks s tr h hok kcs φ a w hs hr
  | .lp b 0::ks,_,_=>cases h
  | .lp b (n+1)::ks,.lp b' n'::kcs,hs=>
   obtain ⟨rfl,rfl,hs⟩:=hs
   simp only at h
   have:=ih _ s tr h hok (.code b'::.lp b' n::kcs) φ a w ⟨rfl,rfl,rfl,hs⟩ hr
   exact this
  | .ops all []::ks,.ops all' r'::kcs,hs=>
   obtain ⟨rfl,rfl,hs⟩:=hs
   simp only at h
   exact ih ks s tr h hok kcs φ a w hs hr
  | .ops all (i::rest)::ks,.ops all' r'::kcs,hs=>
   obtain ⟨rfl,rfl,hs⟩:=hs
   simp only at h
   obtain ⟨o,h1,h2⟩:=bnd h
   cases hsp':splitOn all' s.tmps o with
   | some dt=>
    obtain ⟨d,t⟩:=dt
    rw [hsp'] at h2
    simp only at h2
    obtain ⟨t1,h3,h4⟩:=bnd h2
    obtain ⟨t2,h5,rfl⟩:=mpd h4
    have htm:s.tmps[d]?=some (.val (.one (.sbool t))):=by
     unfold splitOn at hsp'
     obtain ⟨⟨g,want⟩,_,q2⟩:=bnd hsp'
     obtain ⟨d',_,q4⟩:=bnd q2
     split at q4
     ·rename_i t' e;cases q4;exact e
     ·cases q4
    have hset:∀ b,t=b->All2 (relT C φ s.nums w) (s.tmps.set d (.val (.one (.bool b)))) a.tmps.toList:=by
     rintro b rfl
     obtain ⟨v,v1,v2⟩:=hr.tmps.at htm
     have:=hr.tmps.set d (a:=.val (.one (.bool t))) (b:=v) v2
     rwa [set_self v1] at this
    cases t with
    | true=>exact ih _ _ t1 h3 (hok.1 rfl) (.ops all' (i::rest)::kcs) φ a w ⟨rfl,rfl,hs⟩ ⟨hr.wd,hr.defers,hset true rfl⟩
    | false=>exact ih _ _ t2 h5 (hok.2 rfl) (.ops all' (i::rest)::kcs) φ a w ⟨rfl,rfl,hs⟩ ⟨hr.wd,hr.defers,hset false rfl⟩
   | none=>
   rw [hsp'] at h2
   simp only at h2
   show wpOps C.P all' (sem C.P R kcs) (i::rest) a w
   rw [wpOps_cons]
   cases hst:stepA C sp all' s o with
   | some sp'=>
    obtain ⟨s',p⟩:=sp'
    rw [hst] at h2
    simp only at h2
    obtain ⟨tr',h3,rfl⟩:=mpd h2
    refine step_ok hsp h1 hr hst (wrap_ok hok).1 ?_
    intro φ' a' w' hx hr'
    exact ih _ s' tr' h3 (wrap_ok hok).2 (.ops all' rest::kcs) φ' a' w' ⟨rfl,rfl,hs.ext hx⟩ hr'
   | none=>
    rw [hst] at h2
    simp only at h2
    cases hin:inl C bodies all' s o with
    | none=>rw [hin] at h2;cases h2
    | some x=>
     obtain ⟨fn,c,vs⟩:=x
     rw [hin] at h2
     simp only at h2
     obtain ⟨hw,g,xs,g1,g2,g3,g4⟩:=inl_ok hbo hr hin
     unfold wpOp
     simp only [h1]
     rw [if_pos hw]
     refine Or.inl ?_
     unfold Oper.wp
     rw [g3]
     show Calls C.P g xs.toArray w _
     have key:=ih _ _ tr h2 hok (.code c::.fr fn o.dst a::.ops all' rest::kcs) φ { tmps:=xs.toArray++Array.replicate (fn.ntmps-xs.toArray.size) undef,defers:=[]} w ⟨rfl,rfl,rfl,hr.defers,hr.tmps,rfl,rfl,hs⟩
      ⟨hr.wd,rfl,by
       have hl:=g4.len
       simp only [Array.toList_append,Array.toList_replicate,List.size_toArray]
       rw [<-hl]
       exact (all_val g4).append (all_und _)⟩
     refine (calls_of_wp g1 g2 key).mono ?_
     intro e w' he
     cases e with
     | returned v=>exact he
     | panicked ch=>exact he.elim
     | outgrown=>exact he.elim
  | .code c::ks,.code c'::kcs,hs=>
   obtain ⟨rfl,hs⟩:=hs
   show c'.wp C.P (sem C.P R kcs) a w
   cases c' with
   | skip=>simp only at h;exact wp_skip (ih ks s tr h hok kcs φ a w hs hr)
   | seq x y=>simp only at h;exact wp_seq (ih _ s tr h hok (.code x::.code y::kcs) φ a w ⟨rfl,rfl,hs⟩ hr)
   | block id b=>simp only at h;exact wp_block (ih _ s tr h hok (.code b::.blk id::kcs) φ a w ⟨rfl,rfl,hs⟩ hr)
   | loop b=>simp only at h;exact wp_loop_rounds f (ih _ s tr h hok (.lp b f::kcs) φ a w ⟨rfl,rfl,hs⟩ hr)
   | exit id=>
    simp only at h
    obtain ⟨ks',h1,h2⟩:=bnd h
    obtain ⟨kcs',g1,g2⟩:=SR.dropExit (R:=R) (a:=a) (w':=w) hs h1
    exact wp_exit (g2 (ih ks' s tr h2 hok kcs' φ a w g1 hr))
   | ret=>
    simp only at h
    obtain ⟨g1,g2⟩:=SR.dropRet (R:=R) (a:=a) (w':=w) hs
    have:=ih _ s tr h hok _ φ a w g1 hr
    refine wp_ret (g2 ?_)
    have key:∀ l:List (K Act),sem C.P R (dropRet l) .normal a w->sem C.P R (dropRet l) .ret a w:=by
     intro l
     induction l with
     | nil=>exact fun h=>h
     | cons x l ih=>cases x<;>first | exact ih | exact fun h=>h
    exact key kcs this
   | cond x y z=>
    simp only at h
    obtain ⟨cc,h1,h2⟩:=bnd h
    have hx:=evO_ok hr.tmps x
    rw [one_of h1] at hx
    cases cc<;>simp only at h2<;>try cases h2
    case bool t=>
     have hx:a.eval x=.bool t:=hx
     have:=ih _ s tr h2 hok (.code (bif t then y else z)::kcs) φ a w ⟨rfl,hs⟩ hr
     refine wp_cond hx ?_
     cases t<;>exact this
    case sbool t=>
     have hx:a.eval x=.bool t:=hx
     obtain ⟨t1,h3,h4⟩:=bnd h2
     obtain ⟨t2,h5,rfl⟩:=mpd h4
     exact wp_cond_split hx (fun e=>ih _ s t1 h3 (hok.1 e) (.code y::kcs) φ a w ⟨rfl,hs⟩ hr) (fun e=>ih _ s t2 h5 (hok.2 e) (.code z::kcs) φ a w ⟨rfl,hs⟩ hr)
   | region id ops dr=>
    cases dr with
    | false=>simp only at h;exact wp_region (ih _ s tr h hok (.ops ops (List.range ops.size)::kcs) φ a w ⟨rfl,rfl,hs⟩ hr)
    | true=>
     simp only at h
     obtain ⟨⟨s',p⟩,h1,h2⟩:=bnd h
     obtain ⟨tr',h3,rfl⟩:=mpd h2
     refine hdr ops s s' p h1 (wrap_ok hok).1 φ a w id _ hr ?_
     intro φ' a' w' hx hr'
     exact ih ks s' tr' h3 (wrap_ok hok).2 kcs φ' a' w' (hs.ext hx) hr'
   | _=>cases h
theorem engine (hsp:SpecOk C w0 ψ sp)(hbo:BodiesOk C bodies)(hdr:DrawOk C w0 ψ draw){f:FuncId}{fn:Func}{c:Code}(hf:C.P.funcs[f]?=some fn)(hb:fn.body=some c){args:List Value}{vs:List AV}{φ:Nat->Option (Nat×Nat)}{s:AS}
  (hs:s.tmps=vs.map .val++List.replicate (fn.ntmps-vs.length) .und) (hv:All2 (relV C φ s.nums w0) vs args) (hw:RepW C w0 ψ φ s w0)
  (n:Nat) {stp:List (K (List AT))->Bool} {tr:Tr} (ht:run C sp bodies draw stp n [.code c,.top fn] s=some tr) (G:AT->AS->Prop) (H:List (K (List AT))->AS->Prop) (hH:∀ ks s,H ks s->∀ (kcs:List (K Act)) (φ:Nat->Option (Nat×Nat)) (a:Act) (w:World),SR C φ s.nums w ks kcs->Rep C w0 ψ φ s a w->sem C.P R kcs .normal a w) (hok:tr.ok G H) (hG:∀ r s φ v w,G r s->relT C φ s.nums w r v->RepW C w0 ψ φ s w->R (.returned v) w):Calls C.P f args.toArray w0 R:=by
 refine calls_of_wp hf hb ?_
 have hl:=hv.len
 exact run_ok hsp hbo hdr G H hH hG n _ s tr ht hok [.code c,.top fn] φ _ w0 ⟨rfl,rfl,trivial⟩ ⟨hw,rfl,by
  rw [hs]
  simp only [Array.toList_append,Array.toList_replicate,List.size_toArray]
  rw [<-hl]
  exact (all_val hv).append (all_und _)⟩
end
end Ab
open Go.RowKit
namespace Ab
structure Ent where
 res:AT
 new:Option Box
 sto:Option (Nat×List AC)
 app:Option Nat
def entEff (bt:List TypeId)(sp:Spec)(xb bx:Nat->Option Box)(ν:List (Int×Nat))(id:Nat):Eff->Option (Ent×List (Int×Nat)×List Prop)
 | .val r p=>some (⟨r,none,none,none⟩,[],p)
 | .new cs ty sl=>some (⟨.val (.one (newC id sl)),some ⟨cs,ty,true,sl.isSome,sl.isSome⟩,none,none⟩,[],[])
 | .app old cs ty len size=>bif bt.contains ty then some (⟨.val (.one (.slc id 0 len size)),some ⟨cs,ty,true,true,true⟩,none,old⟩,[],[]) else none
 | .sto b cs=>(bx b).bind fun B=>bif bt.contains B.ty then some (⟨.und,none,some (b,cs),none⟩,[],[]) else none
 | .call f vs=>(sp f false ν id xb vs).bind fun
   | (ν',r,p,none)=>some (⟨r,none,none,none⟩,ν',p)
   | (ν',r,p,some B)=>some (⟨r,some B,none,none⟩,ν',p)
def entCond (c:Bool)(sp:Spec)(xb:Nat->Option Box)(ν:List (Int×Nat))(id:Nat):Eff->Option (Ent×List (Int×Nat)×List Prop)
 | .val (.val v) p=>some (⟨.cnd c v,none,none,none⟩,[],condP c p)
 | .call f vs=>(sp f false ν id xb vs).bind fun
   | (ν',.val v,p,none)=>some (⟨.cnd c v,none,none,none⟩,ν',condP c p)
   | _=>none
 | _=>none
def uncs:List AT->Option (List AV×List Bool)
 | []=>some ([],[])
 | .val v::r=>(uncs r).map fun p=>(v::p.1,p.2)
 | .cnd c v::r=>(uncs r).map fun p=>(v::p.1,c::p.2)
 | _::_=>none
def entCall (c:Bool)(sp:Spec)(xb:Nat->Option Box)(ν:List (Int×Nat))(id:Nat)(ev:Operand->AT):Op->Option (Ent×List (Int×Nat)×List Prop)
 | .call { callee:=.value (.func f),args:=args,..}=>(uncs (args.toList.map ev)).bind fun p=>(sp f false ν id xb p.1).bind fun
   | (ν',.val v,q,none)=>some (⟨.cnd c v,none,none,none⟩,ν',condP c (q++p.2.map fun d=>d=true))
   | _=>none
 | _=>none
def orElse {α:Type}(x y:Option α):Option α:=match x with | some a=>some a | none=>y
def entA (C:Cfg)(sp:Spec)(xb:Nat->Option Box)(all:Array Oper)(tm:List AT)(bx:Nat->Option Box)(ν:List (Int×Nat))(id:Nat)(o:Oper):Option (Ent×List (Int×Nat)×List Prop):=
 match gd all tm o with
 | .yes=>(evalOp C.P (evO tm) bx o.op).bind (entEff C.bt sp xb bx ν id)
 | .no=>some (⟨.und,none,none,none⟩,[],[])
 | .cond c=>orElse ((evalOp C.P (evO tm) bx o.op).bind (entCond c sp xb ν id)) (entCall c sp xb ν id (evO tm) o.op)
 | .bad=>none
def effB (id:Nat)(e:Ent)(bx:Nat->Option Box):Nat->Option Box:=
 match e.new with
 | some B=>appB bx id B e.app
 | none=>match e.sto with
  | some (b,cs)=>match bx b with
   | some B=>setB bx b {B with cs:=cs}
   | none=>bx
  | none=>bx
def effL (id:Nat)(e:Ent)(l:List (Nat×Box)):List (Nat×Box):=
 match e.new with
 | some B=>(match e.app with
  | none=>(id,B)::l
  | some b=>match look l b with
   | some _=>putTip ((id,B)::l) b
   | none=>(id,B)::l)
 | none=>match e.sto with
  | some (b,cs)=>putBox l b cs
  | none=>l
section
variable {C:Cfg} {w0:World} {ψ:Nat->Option (Nat×Nat)} {sp:Spec}
def unc:AT->AT
 | .cnd c v=>bif c then .val v else .cnd c v
 | t=>t
theorem unc_rel {φ:Nat->Option (Nat×Nat)}{ν:List (Int×Nat)}{w:World}{t:AT}{x:Value}(h:relT C φ ν w t x):relT C φ ν w (unc t) x:=by
 cases t with
 | cnd c v=>
  cases c with
  | true=>simpa [unc,relT] using h
  | false=>exact h
 | _=>exact h
theorem uncs_ok:∀ {ts:List AT} {vs:List AV} {cs:List Bool},uncs ts=some (vs,cs)->(∀ d∈cs,d=true)->asVs (ts.map unc)=some vs
 | [],vs,cs,h,_=>by simp [uncs] at h;rw [h.1];rfl
 | .val v::r,vs,cs,h,hc=>by
  simp only [uncs] at h
  obtain ⟨p,h1,h2⟩:=mpd h
  cases h2
  simp only [List.map_cons,unc,asVs,uncs_ok h1 hc,Option.map_some]
 | .cnd c v::r,vs,cs,h,hc=>by
  simp only [uncs] at h
  obtain ⟨p,h1,h2⟩:=mpd h
  cases h2
  have e:c=true:=hc c (by simp)
  subst e
  simp only [List.map_cons,unc,cond_true,asVs,uncs_ok h1 (fun d hd=>hc d (by simp [hd])),Option.map_some]
 | .top::_,_,_,h,_=>by simp [uncs] at h
 | .und::_,_,_,h,_=>by simp [uncs] at h
 | .tup _::_,_,_,h,_=>by simp [uncs] at h
theorem entCall_open {id:Nat}{c:Bool}{xb:Nat->Option Box}{ν ν':List (Int×Nat)}{ev:Operand->AT}{op:Op}{e:Ent}{p:List Prop}(h:entCall c sp xb ν id ev op=some (e,ν',p)):∃ f args ts vs cs ν1 v q,op=.call { callee:=.value (.func f),args:=args,argTypes:=ts}/\uncs (args.toList.map ev)=some (vs,cs)/\sp f false ν id xb vs=some (ν1,.val v,q,none)/\e=⟨.cnd c v,none,none,none⟩/\ν'=ν1/\p=condP c (q++cs.map fun d=>d=true):=by
 unfold entCall at h
 split at h
 ·rename_i f args ts
  obtain ⟨⟨vs,cs⟩,h1,h2⟩:=bnd h
  obtain ⟨⟨ν1,r,q,nbx⟩,h3,h4⟩:=bnd h2
  cases r<;>cases nbx<;>simp only at h4<;>try cases h4
  exact ⟨f,args,ts,vs,cs,_,_,_,rfl,h1,h3,rfl,rfl,rfl⟩
 ·cases h
theorem ent_ok (hsp:SpecOk C w0 ψ sp){φ:Nat->Option (Nat×Nat)}{tm:List AT}{xb bx:Nat->Option Box}{nb:Nat->Prop}{id i:Nat}{ν μ ν':List (Int×Nat)}{dirty:List Nat}{a:Act}{w:World}{all:Array Oper}{o:Oper}{e:Ent}{p:List Prop}{Q:Exit->Act->World->Prop}{K:Act->World->Prop}
  (ho:all[i]?=some o) (h:RepF C w0 ψ φ bx nb μ dirty w) (hd:a.defers=[]) (ht:All2 (relT C φ μ w) tm a.tmps.toList) (he:entA C sp xb all tm bx ν id o=some (e,ν',p)) (hp:Holds p) (hxb:∀ b B,xb b=some B->bx b=some B) (hμ:∀ (i:Nat) (x:Int×Nat),(ν++ν')[i]?=some x->μ[i]?=some x)
  (hnb:nb id) (hdirty:∀ b cs,e.sto=some (b,cs)->b∈dirty)
  (hK:∀ φ' a' w',RepF C w0 ψ φ' (effB id e bx) (fun b=>nb b/\b≠id) μ dirty w'->a'.defers=[]->All2 (relT C φ' μ w') (putT tm o.dst e.res) a'.tmps.toList->Ext C φ φ' μ μ w w'->K a' w'):wpOp C.P all Q i K a w:=by
 unfold wpOp
 simp only [ho]
 have hg:=gd_ok (all:=all) (o:=o) ht
 have hfew:RepF C w0 ψ φ bx (fun b=>nb b/\b≠id) μ dirty w:=h.fewer fun _ hb=>hb.1
 have skip:∀ r,e=⟨r,none,none,none⟩->relT C φ μ w r undef->K (a.put o.dst undef) w:=by
  rintro r rfl hr
  exact hK φ _ w hfew (by rw [put_defers];exact hd) (putT_ok ht o.dst hr) (Ext.refl _ _ _)
 have go:∀ (ev:Operand->AT),(∀ x,relT C φ μ w (ev x) (a.eval x))->∀ (f:Eff) (e':Ent) (p:List Prop),Holds p->evalOp C.P ev bx o.op=some f->entEff C.bt sp xb bx ν id f=some (e',ν',p)->(e'.new=e.new/\e'.sto=e.sto/\e'.app=e.app/\∀ φ w v,relT C φ μ w e'.res v->relT C φ μ w e.res v)->o.wp C.P a w K Q:=by
  intro ev hev f e' p hp h1 h2 he'
  have hB:effB id e bx=effB id e' bx:=by unfold effB;rw [he'.1,he'.2.1,he'.2.2.1]
  rw [hB] at hK
  unfold Oper.wp
  cases f with
  | val r q=>
   simp only [entEff,Option.some.injEq,Prod.mk.injEq] at h2
   obtain ⟨rfl,rfl,rfl⟩:=h2
   obtain ⟨v,r1,r2⟩:=evalOp_ok (o:=o) hev h.box (fun _=>rfl) (fun f vs e=>by cases e) h1 hp
   rw [r1]
   exact hK φ _ w hfew (by rw [put_defers];exact hd) (putT_ok ht o.dst (he'.2.2.2 _ _ _ r2)) (Ext.refl _ _ _)
  | new cs ty sl=>
   simp only [entEff,Option.some.injEq,Prod.mk.injEq] at h2
   obtain ⟨rfl,rfl,rfl⟩:=h2
   obtain ⟨xs,r1,r2,r3⟩:=evalOp_ok (o:=o) hev h.box (fun _=>rfl) (fun f vs e=>by cases e) h1
   rw [r1]
   obtain ⟨k1,k2⟩:=h.new (n:=id) hnb (B:=⟨cs,ty,true,sl.isSome,sl.isSome⟩) (post:=[]) (d:=w.drawn) r2 rfl (fun h=>h) (fun _=>rfl)
   rw [List.append_nil] at k1 k2
   exact hK _ _ _ k1 (by rw [put_defers];exact hd) (putT_ok (ht.mono (relT_ext k2)) o.dst (he'.2.2.2 _ _ _ (new_rel r3))) k2
  | app old cs ty len size=>
   simp only [entEff] at h2
   cases hb:C.bt.contains ty with
   | false=>rw [hb] at h2;cases h2
   | true=>
    rw [hb] at h2
    simp only [cond_true,Option.some.injEq,Prod.mk.injEq] at h2
    obtain ⟨rfl,rfl,rfl⟩:=h2
    obtain ⟨v,w',cap,r1,r2,r3,r4⟩:=evalOp_ok (o:=o) hev h.box (fun _=>rfl) (fun f vs e=>by cases e) h1
    rw [r1]
    obtain ⟨φ',k1,k2,k3⟩:=app_rep h (n:=id) hnb r2 r3 hb r4
    exact hK φ' _ _ k1 (by rw [put_defers];exact hd) (putT_ok (ht.mono (relT_ext k2)) o.dst (he'.2.2.2 _ _ _ k3)) k2
  | sto b cs=>
   simp only [entEff] at h2
   obtain ⟨B,g1,g2⟩:=bnd h2
   cases hb:C.bt.contains B.ty with
   | false=>rw [hb] at g2;cases g2
   | true=>
    rw [hb] at g2
    simp only [cond_true,Option.some.injEq,Prod.mk.injEq] at g2
    obtain ⟨rfl,rfl,rfl⟩:=g2
    obtain ⟨B',k,oo,w',pre,ys,post,zs,m1,mr,m2,m3,m4,m5,m6,m7,m8,m9⟩:=evalOp_ok (o:=o) hev h.box (fun _=>rfl) (fun f vs e=>by cases e) h1
    rw [g1] at m1
    cases m1
    rw [m3]
    obtain ⟨k1,k2⟩:=h.sto (dirty':=dirty) g1 mr m2 m4 m5 m6 m7 m8 m9 hb (fun _ hx=>hx) (Or.inr (hdirty b cs (by rw [<-he'.2.1])))
    have e2:effB id ⟨.und,none,some (b,cs),none⟩ bx=setB bx b {B with cs:=cs}:=by simp only [effB,g1]
    rw [<-e2] at k1
    exact hK _ _ _ (k1.fewer fun _ hb=>hb.1) (by rw [put_defers];exact hd) (putT_ok (ht.mono (relT_ext k2)) o.dst (he'.2.2.2 _ _ _ rfl)) k2
  | call f vs=>
   simp only [entEff] at h2
   obtain ⟨⟨ν1,r,q,nbx⟩,g1,g2⟩:=bnd h2
   cases nbx with
   | some B=>
    simp only [Option.some.injEq,Prod.mk.injEq] at g2
    obtain ⟨rfl,rfl,rfl⟩:=g2
    obtain ⟨hen,hc⟩:=hsp f false ν id xb vs ν1 r q (some B) g1
    obtain ⟨xs,r1,r2⟩:=evalOp_ok (o:=o) hev h.box (fun _=>rfl) (fun f' vs' e=>by cases e;exact hen) h1
    rw [r1]
    refine (hc hp μ hμ φ w xs h.base (fun e=>by cases e) h.on (fun b B e=>h.box b B (hxb b B e)) r2).mono ?_
    rintro e w' ⟨v,rfl,hb,b1,b2,k,o',pre,ys,post,m1,m2,m3,m4,m5,m6⟩
    obtain ⟨k1,k2⟩:=h.got (n:=id) hnb hb (fun _ _ h=>h) m1 m2 m3 m4 b1 b2 m6
    exact hK _ _ w' k1 (by rw [put_defers];exact hd) (putT_ok (ht.mono (relT_ext k2)) o.dst (he'.2.2.2 _ _ _ m5)) k2
   | none=>
   simp only [Option.some.injEq,Prod.mk.injEq] at g2
   obtain ⟨rfl,rfl,rfl⟩:=g2
   obtain ⟨hen,hc⟩:=hsp f false ν id xb vs ν1 r q none g1
   obtain ⟨xs,r1,r2⟩:=evalOp_ok (o:=o) hev h.box (fun _=>rfl) (fun f' vs' e=>by cases e;exact hen) h1
   rw [r1]
   refine (hc hp μ hμ φ w xs h.base (fun e=>by cases e) h.on (fun b B e=>h.box b B (hxb b B e)) r2).mono ?_
   rintro e w' ⟨v,rfl,hb,hv⟩
   have hx:Ext C φ φ μ μ w w':=⟨fun _ _ h=>h,fun _ _ h=>h,On.below hb⟩
   exact hK φ _ w' (hfew.later hb μ (fun _ _ h=>h)) (by rw [put_defers];exact hd) (putT_ok (ht.mono (relT_ext hx)) o.dst (he'.2.2.2 _ _ _ hv)) hx
 unfold entA at he
 cases hgd:gd all tm o with
 | yes=>
  rw [hgd] at hg he
  simp only at hg he
  obtain ⟨f,h1,h2⟩:=bnd he
  rw [if_pos hg]
  exact Or.inl (go _ (evO_ok ht) f e p hp h1 h2 ⟨rfl,rfl,rfl,fun _ _ _ h=>h⟩)
 | no=>
  rw [hgd] at hg he
  simp only [Option.some.injEq,Prod.mk.injEq] at hg he
  obtain ⟨rfl,rfl,rfl⟩:=he
  rw [if_neg (by simp [hg])]
  exact skip _ rfl rfl
 | cond c=>
  rw [hgd] at hg he
  simp only at hg he
  rw [hg]
  have two:∀ v,e=⟨.cnd c v,none,none,none⟩->(c=true->o.wp C.P a w K Q)->if c=true then o.wp C.P a w K Q\/(o.asks C.P a w/\LetsOut Q) else K (a.put o.dst undef) w:=by
   intro v hv hw
   cases c with
   | true=>simp only [if_true];exact Or.inl (hw rfl)
   | false=>simp only [Bool.false_eq_true,if_false];exact skip _ hv (by simp [relT])
  cases hx:(evalOp C.P (evO tm) bx o.op).bind (entCond c sp xb ν id) with
  | none=>
   rw [hx] at he
   simp only [orElse] at he
   obtain ⟨f,args,ts,vs,cs,ν1,v,q,ho',hu,g1,rfl,rfl,rfl⟩:=entCall_open he
   refine two v rfl fun hc=>?_
   subst hc
   have hp':=condP_ok hp rfl
   have hcs:∀ d∈cs,d=true:=fun d hd=>hp' (d=true) (List.mem_append_right _ (List.mem_map.2 ⟨d,hd,rfl⟩))
   refine go (fun x=>unc (evO tm x)) (fun x=>unc_rel (evO_ok ht x)) (.call f vs) ⟨.val v,none,none,none⟩ q (fun y hy=>hp' y (List.mem_append_left _ hy)) ?_ (by simp [entEff,g1]) ⟨rfl,rfl,rfl,fun φ w x hx=>by simpa [relT] using hx⟩
   rw [ho']
   simp only [evalOp]
   have:=uncs_ok hu hcs
   rw [List.map_map] at this
   rw [show (fun x=>unc (evO tm x))=(unc∘evO tm) from rfl,this]
   rfl
  | some y=>
  rw [hx] at he
  simp only [orElse,Option.some.injEq] at he
  subst he
  obtain ⟨f,h1,h2⟩:=bnd hx
  cases f with
  | val r q=>
   cases r with
   | val v=>
    simp only [entCond,Option.some.injEq,Prod.mk.injEq] at h2
    obtain ⟨rfl,rfl,rfl⟩:=h2
    refine two v rfl fun hc=>?_
    subst hc
    have hp':=condP_ok hp rfl
    exact go _ (evO_ok ht) (.val (.val v) q) ⟨.val v,none,none,none⟩ q hp' h1 rfl ⟨rfl,rfl,rfl,fun φ w x hx=>by simpa [relT] using hx⟩
   | _=>simp [entCond] at h2
  | call f vs=>
   simp only [entCond] at h2
   obtain ⟨⟨ν1,r,q,nbx⟩,g1,g2⟩:=bnd h2
   cases r with
   | val v=>
    cases nbx with
    | some B=>simp at g2
    | none=>
    simp only [Option.some.injEq,Prod.mk.injEq] at g2
    obtain ⟨rfl,rfl,rfl⟩:=g2
    refine two v rfl fun hc=>?_
    subst hc
    have hp':=condP_ok hp rfl
    exact go _ (evO_ok ht) (.call f vs) ⟨.val v,none,none,none⟩ q hp' h1 (by simp [entEff,g1]) ⟨rfl,rfl,rfl,fun φ w x hx=>by simpa [relT] using hx⟩
   | _=>simp at g2
  | _=>simp [entCond] at h2
 | bad=>rw [hgd] at he;cases he
end
end Ab
end Go.Proofs.YteghhlfmcjmnoaaGreatDoor
