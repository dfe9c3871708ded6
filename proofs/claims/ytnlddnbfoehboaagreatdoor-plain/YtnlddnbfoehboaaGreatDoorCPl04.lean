import Derived.Test.YtnlddnbfoehboaaGreatDoorCPl03
import Derived.Test.YtnlddnbfoehboaaGreatDoorCPl01
import Derived.Deep.RegionWith
import Derived.Deep.RegionHeld3
set_option linter.all false
set_option maxRecDepth 100000
set_option maxHeartbeats 2000000
namespace Go.Proofs.YtnlddnbfoehboaaGreatDoor
open Option renaming some->Y,none->X
open Bool renaming true->I,false->J
open List renaming map_cons->j8,mem_map->j9,mem_cons->o9,mem_singleton->p5,map_congr_left->p6,mem_flatMap->p8,mem_append->q8,mem_filterMap->q9,all_eq_true->r5,range->r7,getElem?_eq_getElem->r8,replicate->r9
open _root_.Array renaming getElem?_eq_some_iff->s7,getElem?_eq_getElem->s8,replicate->u5,getD_eq_getD_getElem?->u6,getElem?_eq_none->u7,getElem?_toList->u9
open Go.Op renaming operands->x8
open Nat renaming add_zero->y8,ble->z8,strongRecOn->A0,zero_add->A4,le_refl->A5,lt_of_lt_of_le->A6
open Option.some renaming injEq->A7,inj->A8
open Go.Region renaming binds->A9
open Option renaming map_some->B7,toList_some->B8
open Bool renaming false_or->B9,and_eq_true->C0
open Or renaming inr->C3
open Go.Call renaming operands->C4
open Go.Proofs.Tryz
open Go.RowKit
namespace Ab
structure nD where
 res:AT
 new:Option bH
 mU:Option (Nat×List AC)
 app:Option Nat
def fS (bt:List TypeId)(sp:Spec)(e c:Nat->Option bH)(ν:LV)(id:Nat):fK->Option (nD×List (Int×Nat)×List Prop)
 |.val r p=>Y (⟨r,X,X,X⟩,[],p)
 |.new cs ty sl=>Y (⟨.val (.one (Mj id sl)),Y ⟨cs,ty,I,sl.isSome,sl.isSome⟩,X,X⟩,[],[])
 |.app old cs ty len size=>bif bt.contains ty then Y (⟨.val (.one (.slc id 0 len size)),Y ⟨cs,ty,I,I,I⟩,X,old⟩,[],[])else X
 |.mU b cs=>(c b).bind λB=>bif bt.contains B.ty then Y (⟨.fB,X,Y (b,cs),X⟩,[],[])else X
 |.call f d=>(sp f J ν id e d).bind fun
   |(a,r,p,X)=>Y (⟨r,X,X,X⟩,a,p)
   |(a,r,p,Y B)=>Y (⟨r,Y B,X,X⟩,a,p)
def jT (c:Bool)(sp:Spec)(d:Nat->Option bH)(ν:LV)(id:Nat):fK->Option (nD×List (Int×Nat)×List Prop)
 |.val (.val v) p=>Y (⟨.lU c v,X,X,X⟩,[],nV c p)
 |.call f b=>(sp f J ν id d b).bind fun
   |(a,.val v,p,X)=>Y (⟨.lU c v,X,X,X⟩,a,nV c p)
   |_=>X
 |_=>X
def rZ:List AT->Option (List AV×List Bool)
 | []=>Y ([],[])
 |.val v::r=>(rZ r).map λp=>(v::p.1,p.2)
 |.lU c v::r=>(rZ r).map λp=>(v::p.1,c::p.2)
 |_::_=>X
def jS (c:Bool)(sp:Spec)(e:Nat->Option bH)(ν:LV)(id:Nat)(b:Operand->AT):Op->Option (nD×List (Int×Nat)×List Prop)
 |.call { callee:=.value (.func f),args:=args,..}=>(rZ (args.toList.map b)).bind λp=>(sp f J ν id e p.1).bind fun
   |(a,.val v,q,X)=>Y (⟨.lU c v,X,X,X⟩,a,nV c (q++p.2.map λd=>d=I))
   |_=>X
 |_=>X
def orElse {b:Type}(x y:Option b):Option b:=match x with|some a=>Y a|none=>y
def rE (C:eQ)(sp:Spec)(d:Nat->Option bH)(all:Array Oper)(a:List AT)(b:Nat->Option bH)(ν:LV)(id:Nat)(o:Oper):Option (nD×List (Int×Nat)×List Prop):=
 match gd all a o with
 |.yes=>(evalOp C.P (iZ a) b o.op).bind (fS C.bt sp d b ν id)
 |.no=>Y (⟨.fB,X,X,X⟩,[],[])
 |.cond c=>orElse ((evalOp C.P (iZ a) b o.op).bind (jT c sp d ν id)) (jS c sp d ν id (iZ a) o.op)
 |.bad=>X
def iK (id:Nat)(e:nD)(a:Nat->Option bH):Nat->Option bH:=
 match e.new with
 |some B=>lZ a id B e.app
 |none=>match e.mU with
  |some (b,cs)=>match a b with
   |some B=>setB a b {B with cs:=cs}
   |none=>a
  |none=>a
def zF (id:Nat)(e:nD)(l:List (Nat×bH)):List (Nat×bH):=
 match e.new with
 | some B=>(match e.app with
  |none=>(id,B)::l
  |some b=>match look l b with
   |some _=>oF ((id,B)::l) b
   |none=>(id,B)::l)
 |none=>match e.mU with
  |some (b,cs)=>kS l b cs
  |none=>l
section
variable {C:eQ} {w0:World} {ψ:LI} {sp:Spec}
def Jr:AT->AT
 |.lU c v=>bif c then .val v else .lU c v
 |t=>t
variable {φ:LI}{ν:LV}
theorem aVK {v:World}{t:AT}{x:Value}(h:relT C φ ν v t x):relT C φ ν v (Jr t) x:=by
 cases t with
 |lU c a=>
  cases c with
  |true=>simpa[Jr,relT]using h
  |false=>exact h
 |_=>exact h
theorem aKv:∀{f:List AT} {a:List AV} {cs:List Bool},rZ f=Y (a,cs)->(∀d∈cs,d=I)->sZ (f.map Jr)=Y a
 | [],a,cs,h,_=>by simp[rZ]at h;rw[h.1];rfl
 |.val v::r,a,cs,h,hc=>by
  have⟨p,h1,b⟩:=bI h;cases b;simp only[j8,Jr,sZ,aKv h1 hc,B7]
 |.lU c v::r,a,cs,h,hc=>by
  have⟨p,h1,b⟩:=bI h;cases b;have e:=hc c E4;subst e;simp only[j8,Jr,cond_true,sZ,aKv h1 (λd hd=>hc d (by simp[hd])),B7]
 |.top::_,_,_,h,_=>by simp[rZ]at h
 |.fB::_,_,_,h,_=>by simp[rZ]at h
 |.tup _::_,_,_,h,_=>by simp[rZ]at h
variable {F:LV}{p:List Prop}
theorem aEX {id:Nat}{c:Bool}{j:Nat->Option bH}{g:Operand->AT}{op:Op}{e:nD}(h:jS c sp j ν id g op=Y (e,F,p)):∃f args i b cs a v q,op=.call { callee:=.value (.func f),args:=args,argTypes:=i}/\rZ (args.toList.map g)=Y (b,cs)/\sp f J ν id j b=Y (a,.val v,q,X)/\e=⟨.lU c v,X,X,X⟩/\F=a/\p=nV c (q++cs.map λd=>d=I):=by
 unfold jS at h;split at h
 .rename_i f args i;have⟨⟨b,cs⟩,h1,h2⟩:=aK h;have⟨⟨a,r,q,nbx⟩,h3,h4⟩:=aK h2;grind
 .cases h
theorem aWy (al:SpecOk C w0 ψ sp){tm:List AT}{xb A:Nat->Option bH}{nb:Nat->Prop}{id i:Nat}{ai:LV}{dirty:NU}{a:Act}{v:World}{all:Array Oper}{o:Oper}{e:nD}{Q:LL}{K:Act->World->Prop}
  (ho:all[i]?=Y o) (h:RepF C w0 ψ φ A nb F dirty v) (hd:a.defers=[]) (D:aD (relT C φ F v) tm a.tmps.toList) (m:rE C sp xb all tm A ν id o=Y (e,ai,p)) (hp:Holds p) (am:∀b B,xb b=Y B->A b=Y B) (an:∀(i:Nat) (x:Int×Nat),(ν++ai)[i]?=Y x->F[i]?=Y x)
  (ah:nb id) (U:∀b cs,e.mU=Y (b,cs)->b∈dirty)
  (hK:∀R a' N,RepF C w0 ψ R (iK id e A) (λb=>nb b/\b≠id) F dirty N->a'.defers=[]->aD (relT C R F N) (putT tm o.dst e.res) a'.tmps.toList->Ext C φ R F F v N->K a' N):wpOp C.P all Q i K a v:=by
 unfold wpOp;simp only[ho];have W:=Sn (all:=all) (o:=o) D
 have M:RepF C w0 ψ φ A (λb=>nb b/\b≠id) F dirty v:=h.cR λ_ s=>s.1
 have skip:∀r,e=⟨r,X,X,X⟩->relT C φ F v r undef->K (a.put o.dst undef) v:=by
  rintro r rfl hr;exact hK φ _ v M (by rw[sF];exact hd) (sG D o.dst hr) (Ext.refl _ _ _)
 have go:∀(ev:Operand->AT),(∀x,relT C φ F v (ev x) (a.eval x))->∀(f:fK) (e':nD) (p:List Prop),Holds p->evalOp C.P ev A o.op=Y f->fS C.bt sp xb A ν id f=Y (e',ai,p)->(e'.new=e.new/\e'.mU=e.mU/\e'.app=e.app/\∀φ v g,relT C φ F v e'.res g->relT C φ F v e.res g)->o.wp C.P a v K Q:=by
  intro ev z f e' p hp L j l
  have hB:iK id e A=iK id e' A:=by unfold iK;rw[l.1,l.2.1,l.2.2.1]
  rw[hB]at hK;unfold Oper.wp
  cases f with
  |val r q=>
   simp only[fS,A7]at j;obtain⟨rfl,rfl,rfl⟩:=j;have⟨g,r1,r2⟩:=yL z h.box (λ_=>rfl) (λf T e=>by cases e) L hp;rw[r1];exact hK φ _ v M (by rw[sF];exact hd) (sG D o.dst (l.2.2.2 _ _ _ r2)) (Ext.refl _ _ _)
  |new cs ty sl=>
   simp only[fS,A7]at j;obtain⟨rfl,rfl,rfl⟩:=j;have⟨xs,r1,r2,r3⟩:=yL z h.box (λ_=>rfl) (λf T e=>by cases e) L;rw[r1];obtain⟨k1,k2⟩:=h.new ah (B:=⟨cs,ty,I,sl.isSome,sl.isSome⟩) r2 rfl (λh=>h) (λ_=>rfl);rw[List.append_nil]at k1 k2;exact hK _ _ _ k1 (by rw[sF];exact hd) (sG (D.mono (yP k2)) o.dst (l.2.2.2 _ _ _ (aPf r3))) k2
  |app old cs ty len size=>
   simp only[fS]at j
   cases s:C.bt.contains ty with
   |false=>rw[s]at j;cases j
   |true=>
    rw[s]at j;simp at j;obtain⟨rfl,rfl,rfl⟩:=j;have⟨g,N,cap,r1,r2,r3,r4⟩:=yL z h.box (λ_=>rfl) (λf T e=>by cases e) L;rw[r1];have⟨R,k1,k2,k3⟩:=aNL h (n:=id) ah r2 r3 s r4;exact hK R _ _ k1 (by rw[sF];exact hd) (sG (D.mono (yP k2)) o.dst (l.2.2.2 _ _ _ k3)) k2
  |mU b cs=>
   simp only[fS]at j;have⟨B,S,t⟩:=aK j
   cases s:C.bt.contains B.ty with
   |false=>rw[s]at t;cases t
   |true=>
    rw[s]at t;simp at t;obtain⟨rfl,rfl,rfl⟩:=t;have⟨B',k,oo,N,a3,ys,ao,zs,m1,mr,m2,m3,m4,m5,m6,m7,m8,m9⟩:=yL (o:=o) z h.box (λ_=>rfl) (λf T e=>by cases e) L;rw[S]at m1;cases m1;rw[m3];have⟨k1,k2⟩:=h.mU (dirty':=dirty) S mr m2 m4 m5 m6 m7 m8 m9 s (λ_ u=>u) (C3 (U b cs (by rw[<-l.2.1])))
    have e2:iK id ⟨.fB,X,Y (b,cs),X⟩ A=setB A b {B with cs:=cs}:=by simp only[iK,S]
    rw[<-e2]at k1;exact hK _ _ _ (k1.cR λ_ s=>s.1) (by rw[sF];exact hd) (sG (D.mono (yP k2)) o.dst (l.2.2.2 _ _ _ rfl)) k2
  |call f T=>
   simp only[fS]at j;have⟨⟨ab,r,q,nbx⟩,S,t⟩:=aK j
   cases nbx with
   |some B=>
    simp at t;obtain⟨rfl,rfl,rfl⟩:=t;have⟨hen,hc⟩:=al f J ν id xb T ab r q (Y B) S;have⟨xs,r1,r2⟩:=yL (o:=o) z h.box (λ_=>rfl) (λf' a4 e=>by cases e;exact hen) L;rw[r1];refine(hc hp F an φ v xs h.base (λe=>by cases e) h.on (λb B e=>h.box b B (am b B e)) r2).mono ?_;rintro e N⟨g,rfl,s,b1,b2,k,o',a3,ys,ao,m1,m2,m3,m4,m5,m6⟩;have⟨k1,k2⟩:=h.got (n:=id) ah s (λ_ _ h=>h) m1 m2 m3 m4 b1 b2 m6;exact hK _ _ N k1 (by rw[sF];exact hd) (sG (D.mono (yP k2)) o.dst (l.2.2.2 _ _ _ m5)) k2
   |none=>
   simp at t;obtain⟨rfl,rfl,rfl⟩:=t;have⟨hen,hc⟩:=al f J ν id xb T ab r q X S;have⟨xs,r1,r2⟩:=yL (o:=o) z h.box (λ_=>rfl) (λf' a4 e=>by cases e;exact hen) L;rw[r1];refine(hc hp F an φ v xs h.base (λe=>by cases e) h.on (λb B e=>h.box b B (am b B e)) r2).mono ?_;rintro e N⟨g,rfl,s,hv⟩
   have u:Ext C φ φ F F v N:=⟨λ_ _ h=>h,λ_ _ h=>h,On.below s⟩
   exact hK φ _ N (M.later s F (λ_ _ h=>h)) (by rw[sF];exact hd) (sG (D.mono (yP u)) o.dst (l.2.2.2 _ _ _ hv)) u
 unfold rE at m
 cases aa:gd all tm o with
 |yes=>
  rw[aa]at W m;simp only at W m;have⟨f,L,j⟩:=aK m;rw[if_pos W];exact Or.inl (go _ (uK D) f e p hp L j ⟨rfl,rfl,rfl,λ_ _ _ h=>h⟩)
 |no=>
  rw[aa]at W m;simp at W m;obtain⟨rfl,rfl,rfl⟩:=m;rw[if_neg (by simp[W])];exact skip _ rfl rfl
 |cond c=>
  rw[aa]at W m;simp only at W m;rw[W]
  have two:∀g,e=⟨.lU c g,X,X,X⟩->(c=I->o.wp C.P a v K Q)->if c=I then o.wp C.P a v K Q\/(o.asks C.P a v/\LetsOut Q)else K (a.put o.dst undef) v:=by
   intro g hv hw
   cases c with
   |true=>simp;exact Or.inl (hw rfl)
   |false=>simp;exact skip _ hv (by simp[relT])
  cases u:(evalOp C.P (iZ tm) A o.op).bind (jT c sp xb ν id)with
  |none=>
   rw[u]at m;simp only[orElse]at m;obtain⟨f,args,ts,T,cs,ab,g,q,ax,hu,S,rfl,rfl,rfl⟩:=aEX m
   refine two g rfl λhc=>?_
   subst hc;have ak:=Rh hp rfl
   have av:∀d∈cs,d=I:=λd hd=>ak (d=I) (List.mem_append_right _ (j9.2 ⟨d,hd,rfl⟩))
   refine go (λx=>Jr (iZ tm x)) (λx=>aVK (uK D x)) (.call f T) ⟨.val g,X,X,X⟩ q (λy hy=>ak y (List.mem_append_left _ hy)) ?_ (by simp[fS,S]) ⟨rfl,rfl,rfl,λφ v x u=>by simpa[relT]using u⟩;rw[ax];simp only[evalOp];have:=aKv hu av;rw[List.map_map]at this;rw[show(λx=>Jr (iZ tm x))=(Jr∘iZ tm)from rfl,this];rfl
  |some y=>
  rw[u]at m;simp only[orElse,A7]at m;subst m;have⟨f,L,j⟩:=aK u
  cases f with
  |val r q=>
   cases r with
   |val g=>
    obtain⟨rfl,rfl,rfl⟩:=j
    refine two g rfl λhc=>?_
    subst hc;exact go _ (uK D) (.val (.val g) q) ⟨.val g,X,X,X⟩ q (Rh hp rfl) L rfl ⟨rfl,rfl,rfl,λφ v x u=>by simpa[relT]using u⟩
   |_=>simp[jT]at j
  |call f T=>
   have⟨⟨ab,r,q,nbx⟩,S,t⟩:=aK j
   cases r with
   |val g=>
    cases nbx with
    |some B=>simp at t
    |none=>
    obtain⟨rfl,rfl,rfl⟩:=t
    refine two g rfl λhc=>?_
    subst hc;exact go _ (uK D) (.call f T) ⟨.val g,X,X,X⟩ q (Rh hp rfl) L (by simp[fS,S]) ⟨rfl,rfl,rfl,λφ v x u=>by simpa[relT]using u⟩
   |_=>simp at t
  |_=>simp[jT]at j
 |bad=>rw[aa]at m;cases m
end
def fL:AT->List Nat
 |.val (.one (.ptr b _))=>[b]
 |.val (.one (.slc b _ _ _))=>[b]
 |_=>[]
def eS (b:Operand->AT):Op->List Nat
 |.load _ a=>fL (b a)
 |.store _ a _=>fL (b a)
 |.call { callee:=.builtin .append,args:=args,..}=>args.toList.flatMap λx=>fL (b x)
 |_=>[]
def reads (all:Array Oper)(o:Oper):List Tmp:=
 (o.op.operands.toList.filterMap λ|.tmp t=>Y t|_=>X)++(match o.guard with|some (g,_)=>((all[g]?).bind (·.dst)).toList|none=>[])
abbrev Tb:=List (Oper×nD×List Nat)
def mE (L:Nat->Bool):Nat->Tb->List AT->List AT
 |_,[],a=>a
 |k,(o,e,_)::r,a=>mE L (k+1) r (bif L k then putT a o.dst e.res else a)
def pB (L:Nat->Bool)(b:Nat):Nat->Tb->(Nat->Option bH)->(Nat->Option bH)
 |_,[],a=>a
 |k,(_,e,_)::r,a=>pB L b (k+1) r (bif L k then iK (b+k) e a else a)
def qZ (a:Nat):Nat->Tb->List (Nat×bH)->List (Nat×bH)
 |_,[],l=>l
 |k,(_,e,_)::r,l=>qZ a (k+1) r (zF (a+k) e l)
def Nk (C:eQ)(f:Spec)(g:Nat->Option bH)(all:Array Oper)(a:Nat):Nat->List Oper->List AT->List (Nat×bH)->List (Int×Nat)->Option (Tb×List (Int×Nat)×List Prop)
 |_,[],_,_,ν=>Y ([],ν,[])
 |k,o::r,b,l,ν=>(rE C f g all b (look l) ν (a+k) o).bind λ(e,c,p)=>
  (Nk C f g all a (k+1) r (putT b o.dst e.res) (zF (a+k) e l) (ν++c)).map λ(T,d,q)=>((o,e,eS (iZ b) o.op)::T,d,p++q)
def eI (id:Nat)(e:nD):NU:=
 match e.new with
 |some _=>id::e.app.toList
 |none=>(e.mU.map (·.1)).toList
theorem aFU (id:Nat)(e:nD)(l:List (Nat×bH))(hid:look l id=X):look (zF id e l)=iK id e (look l):=by
 unfold zF iK
 cases e.new with
 |some B=>
  cases e.app with
  |none=>exact Fo _ _ _
  |some b=>
   simp only[lZ]
   cases c:look l b with
   |none=>simp only;exact Fo _ _ _
   |some a=>
    have hne:b≠id:=by rintro rfl;rw[hid]at c;cases c
    rw[aHk (by rw[Fo,mJ hne];exact c),Fo]
 |none=>
  cases e.mU with
  |none=>rfl
  |some p=>
   have⟨b,cs⟩:=p;simp only
   cases h:look l b with
   |some B=>exact aFV h cs
   |none=>
    funext x;rw[aHj];grind
variable {c:Nat->Option bH}{w b:Nat}
theorem aMi {D:bH}{old:XW}(d:b≠w)(f:old≠Y b):lZ c w D old b=c b:=by
 unfold lZ
 cases old with
 |none=>exact mJ d
 |some o=>
  have g:b≠o:=λe=>f (by rw[e])
  simp only
  cases c o with
  |none=>exact mJ d
  |some a=>simp only;rw[mJ g];exact mJ d
theorem aNK {d:Nat->Option bH}{D:bH}{old:XW}(h:b=w\/old=Y b)(f:c b=d b):lZ c w D old b=lZ d w D old b:=by
 unfold lZ
 cases old with
 |none=>
  rcases h with rfl|h
  .simp only[sR]
  .cases h
 |some o=>
  simp only
  by_cases g:b=o
  .subst g;rw[f]
   cases d b with
   |none=>simp only[setB];split;rfl;exact f
   |some a=>simp only;rw[sR,sR]
  .have i:b=w:=by
    grind
   subst i
   have e:∀c:Nat->Option bH,(match c o with|some B=>setB (setB c b D) o {B with tip:=J} |none=>setB c b D) b=Y D:=by
    intro c
    cases c o with
    |none=>exact sR _ _ _
    |some a=>simp only;rw[mJ g];exact sR _ _ _
   exact(e c).trans (e d).symm
variable {id:Nat}{e:nD}{a:Nat->Option bH}
theorem Qg (h:b∉eI id e):iK id e a b=a b:=by
 unfold eI at h;unfold iK
 cases d:e.new with
 |some B=>
  simp only[d,o9,not_or]at h ⊢;exact aMi h.1 (λe2=>h.2 (by rw[e2];simp))
 |none=>
  simp only[d]at h ⊢
  cases f:e.mU with
  |none=>rfl
  |some p=>
   have⟨c,cs⟩:=p;simp only[f,B7,B8,p5]at h ⊢
   cases a c with
   |none=>rfl
   |some B=>simp only;exact mJ h
theorem aIt {f:Nat->Option bH}(h:b∈eI id e)(d:f b=a b):iK id e f b=iK id e a b:=by
 unfold eI at h;unfold iK
 cases i:e.new with
 |some B=>
  simp at h ⊢;refine aNK ?_ d;grind
 |none=>
  simp only[i]at h ⊢
  cases g:e.mU with
  |none=>simp[g]at h
  |some p=>
   have⟨c,cs⟩:=p;simp only[g,B7,B8,p5]at h ⊢;subst h;rw[d]
   cases a b with
   |none=>simp only;exact d
   |some B=>simp only;rw[sR,sR]
theorem aHH (a:List AT)(d:Option Tmp)(v:AT):(putT a d v).length=a.length:=by cases d<;>simp[putT]
variable {a:List AT}{t:Nat}
theorem aEM {d:Option Tmp}{v:AT}(h:d≠Y t):(putT a d v)[t]?=a[t]?:=by
 cases d with
 |none=>rfl
 |some d=>simp only[putT];rw[List.getElem?_set_ne (λe=>h (by rw[e]))]
theorem aF8 {b:List AT}{v:AT}(h:b.length=a.length):(putT b (Y t) v)[t]?=(putT a (Y t) v)[t]?:=by
 simp[putT,List.getElem?_set,h]
theorem aQz {L:Nat->Bool}:∀(T:Tb) (k:Nat) (a:List AT),(mE L k T a).length=a.length
 | [],_,_=>rfl
 |(o,e,_)::r,k,a=>by
  unfold mE;rw[aQz r];cases L k
  .rfl
  .exact aHH _ _ _
theorem Ya {L L':Nat->Bool}{t:Nat}:∀(T:Tb) (k:Nat) (b a:List AT),b.length=a.length->b[t]?=a[t]?->(∀(i:Nat) x,T[i]?=Y x->x.1.dst=Y t->L (k+i)=L' (k+i))->(mE L k T b)[t]?=(mE L' k T a)[t]?
 | [],_,_,_,_,h,_=>h
 |(o,e,c)::r,k,b,a,f,h,d=>by
  refine Ya r (k+1) _ _ ?_ ?_ (λi x g hd=>by have:=d (i+1) x (by simpa using g) hd;rw[show k+1+i=k+(i+1) by omega];exact this)
  .cases L k<;>cases L' k<;>simp[aHH,f]
  .by_cases hd:o.dst=Y t
   .have:=d 0 (o,e,c) rfl hd;rw[y8]at this;rw[this,hd];cases L' k
    .exact h
    .exact aF8 f
   .have j:(bif L k then putT b o.dst e.res else b)[t]?=b[t]?:=by cases L k;rfl;exact aEM hd
    have l:(bif L' k then putT a o.dst e.res else a)[t]?=a[t]?:=by cases L' k;rfl;exact aEM hd
    simp_all
variable {L:Nat->Bool}
theorem aVE:∀(T:Tb) (k:Nat) (a:List AT),(∀(i:Nat) x,T[i]?=Y x->x.1.dst=Y t->L (k+i)=J)->(mE L k T a)[t]?=a[t]?:=by
 intro T k a h;have:=Ya (L':=λ_=>J) T k a a rfl rfl h;rw[this];clear this h
 induction T generalizing k with
 |nil=>rfl
 |cons x r b=>have⟨o,e,c⟩:=x;exact b (k+1)
theorem aKt {L:Nat->Bool}:∀(T:Tb) (k:Nat) (a:List AT),(∀i,k<=i->L i=J)->mE L k T a=a
 | [],_,_,_=>rfl
 |(o,e,c)::r,k,a,h=>by
  unfold mE;rw[h k O]
  exact aKt r (k+1) a λi hi=>h i O
theorem aTC {L:Nat->Bool}{t:Nat}:∀(T:Tb) (j k:Nat) (b:List AT) (x:Oper×nD×List Nat),T[j]?=Y x->x.1.dst=Y t->L (k+j)=I->(∀(i:Nat) y,i≠j->T[i]?=Y y->y.1.dst≠Y t)->(mE L k T b)[t]?=(putT b (Y t) x.2.1.res)[t]?
 |(o,e,c)::r,0,k,b,x,a,hd,d,f=>by
  simp at a;subst a;unfold mE;rw[y8]at d;rw[d];simp;rw[aVE r (k+1) _ (λi y g h=>absurd h (f (i+1) y O (by simpa using g))),hd]
 |(o,e,c)::r,j+1,k,b,x,a,hd,d,f=>by
  unfold mE;rw[aTC r j (k+1) _ x (by simpa using a) hd (by rw[show k+1+j=k+(j+1) by omega];exact d) (λi y hi g=>f (i+1) y O (by simpa using g))];refine aF8 ?_;cases L k
  .rfl
  .exact aHH _ _ _
 | [],j,k,b,x,a,_,_,_=>by simp at a
variable {T:Tb}
theorem aXr {x:Oper×nD×List Nat}(d:T[w]?=Y x)(f:L w=J)(e:∀(i:Nat) y t,i≠w->T[i]?=Y y->x.1.dst=Y t->y.1.dst≠Y t):mE (λi=>L i||i==w) 0 T a=putT (mE L 0 T a) x.1.dst x.2.1.res:=by
 apply List.ext_getElem?;intro t
 by_cases hd:x.1.dst=Y t
 .rw[aTC T w 0 a x d hd E4 (λi y hi b=>e i y t hi b hd),hd];exact aF8 (aQz _ _ _).symm
 .rw[aEM hd]
  refine Ya T 0 a a rfl rfl λi y b c=>?_
  have:i≠w:=by rintro rfl;rw[d]at b;cases b;exact hd c
  simp[this]
theorem Qr {L L':Nat->Bool}{w b:Nat}:∀(T:Tb) (k:Nat) (d a:Nat->Option bH),d b=a b->(∀(i:Nat) x,T[i]?=Y x->b∈eI (w+(k+i)) x.2.1->L (k+i)=L' (k+i))->pB L w k T d b=pB L' w k T a b
 | [],_,_,_,h,_=>h
 |(o,e,c)::r,k,d,a,h,f=>by
  refine Qr r (k+1) _ _ ?_ (λi x g hd=>by have:=f (i+1) x (by simpa using g) (by rw[show k+(i+1)=k+1+i by omega];exact hd);rw[show k+1+i=k+(i+1) by omega];exact this)
  by_cases hd:b∈eI (w+k) e
  .have:=f 0 (o,e,c) rfl hd;rw[y8]at this;rw[this];cases L' k
   .exact h
   .exact aIt hd h
  .have j:(bif L k then iK (w+k) e d else d) b=d b:=by cases L k;rfl;exact Qg hd
   have l:(bif L' k then iK (w+k) e a else a) b=a b:=by cases L' k;rfl;exact Qg hd
   simp_all
theorem Yd {L:Nat->Bool}{w:Nat}:∀(T:Tb) (k:Nat) (a:Nat->Option bH),(∀i,k<=i->L i=J)->pB L w k T a=a
 | [],_,_,_=>rfl
 |(o,e,c)::r,k,a,h=>by
  unfold pB;rw[h k O]
  exact Yd r (k+1) a λi hi=>h i O
theorem aN2 (T:Tb)(k:Nat)(a:Nat->Option bH)(h:∀(i:Nat) x,T[i]?=Y x->b∈eI (w+(k+i)) x.2.1->L (k+i)=J):pB L w k T a b=a b:=by
 rw[Qr (L':=λ_=>J) T k a a rfl h,Yd T k a λ_ _=>rfl]
theorem aSQ {L:Nat->Bool}{n0 j:Nat}:∀(T:Tb) (k:Nat) (a:Nat->Option bH) (i:Nat) (x:Oper×nD×List Nat),T[i]?=Y x->j=k+i->L j=J->(∀(m:Nat) y b,i<m->T[m]?=Y y->b∈eI (n0+j) x.2.1->b∈eI (n0+(k+m)) y.2.1->L (k+m)=J)->pB (λi=>L i||i==j) n0 k T a=iK (n0+j) x.2.1 (pB L n0 k T a)
 |(o,e,c)::r,k,a,0,x,f,p,g,l=>by
  simp at f;subst f p;unfold pB;simp only[g,B9,beq_self_eq_true,cond_true]
  have d:pB (λi=>L i||i==j) n0 (j+1) r (iK (n0+j) e a)=pB L n0 (j+1) r (iK (n0+j) e a):=by
   funext b
   refine Qr r (j+1) _ _ rfl λm y _ _=>?_
   grind
  rw[d];funext b
  by_cases hd:b∈eI (n0+j) e
  .have h:=λa=>aN2 r (j+1) a λm y n u=>by
    have:=l (m+1) y b O (by simpa using n) hd (by rw[show j+(m+1)=j+1+m by omega];exact u);rw[show j+1+m=j+(m+1) by omega];exact this
   rw[h];exact aIt hd (h a).symm
  .rw[Qg hd]
   exact Qr r (j+1) _ _ (Qg hd) λ_ _ _ _=>rfl
 |(o,e,c)::r,k,a,i+1,x,f,p,g,l=>by
  unfold pB
  have t:¬k=j:=O
  have:(L k||k==j)=L k:=by simp[t]
  rw[this]
  exact aSQ r (k+1) _ i x (by simpa using f) O g λm y b h n q s=>by
   have:=l (m+1) y b O (by simpa using n) q (by rw[show k+(m+1)=k+1+m by omega];exact s);rw[show k+1+m=k+(m+1) by omega];exact this
 | [],k,a,i,x,f,_,_,_=>by simp at f
theorem aTB {L:Nat->Bool}:∀(T:Tb) (k:Nat) (a:List AT),(∀i,i<T.length->L (k+i)=I)->mE L k T a=mE (λ_=>I) k T a
 | [],_,_,_=>rfl
 |(o,e,c)::r,k,a,h=>by
  unfold mE;rw[show L k=I from h 0 E4]
  exact aTB r (k+1) _ λi hi=>by have:=h (i+1) (by simpa using hi);rw[show k+1+i=k+(i+1) by omega];exact this
def Ax (l:List (Nat×bH))(n:Nat):Prop:=∀b,n<=b->look l b=X
theorem aLy {l:List (Nat×bH)}{k:Nat}(h:Ax l (w+k)):Ax (zF (w+k) e l) (w+(k+1)):=by
 intro b g;rw[aFU _ _ _ (h _ O)]
 by_cases ht:b∈eI (w+k) e
 .-- an old box: there is X
  unfold eI at ht;unfold iK
  cases a:e.new with
  |some B=>
   rw[a]at ht;simp at ht
   rcases ht with ht|ht
   .omega
   .have f:e.app=Y b:=by simpa using ht
    simp only[f,lZ,h b O];rw[mJ O];exact h b O
  |none=>
   rw[a]at ht
   cases d:e.mU with
   |none=>rw[d]at ht;simp at ht
   |some p=>
    have⟨c,cs⟩:=p;rw[d]at ht;simp at ht;subst ht;simp only[h b O]
 .rw[Qg ht];exact h b O
theorem aSR {L:Nat->Bool}{w:Nat}:∀(T:Tb) (k:Nat) (l:List (Nat×bH)),Ax l (w+k)->(∀i,i<T.length->L (k+i)=I)->pB L w k T (look l)=look (qZ w k T l)
 | [],_,_,_,_=>rfl
 |(o,e,c)::r,k,l,a,h=>by
  unfold pB qZ;rw[show L k=I from h 0 E4,<-aFU _ _ _ (a _ O)]
  exact aSR r (k+1) _ (aLy a) λi hi=>by have:=h (i+1) (by simpa using hi);rw[show k+1+i=k+(i+1) by omega];exact this
theorem aTz {R:eQ}{n:Spec}{r:Nat->Option bH}{all:Array Oper}{w:Nat}{g:LV}:∀(os:List Oper) (k:Nat) (a:List AT) (l:List (Nat×bH)) (ν:LV) (T:Tb) (p:List Prop),Nk R n r all w k os a l ν=Y (T,g,p)->Ax l (w+k)->Holds p->
  T.length=os.length/\(∀(i:Nat) (x:Int×Nat),ν[i]?=Y x->g[i]?=Y x)/\∀(j:Nat) (x:Oper×nD×List Nat),T[j]?=Y x->os[j]?=Y x.1/\∃c d q,Holds q/\(∀(i:Nat) (y:Int×Nat),(c++d)[i]?=Y y->g[i]?=Y y)/\
   rE R n r all (mE (λi=>decide (i<k+j)) k T a) (pB (λi=>decide (i<k+j)) w k T (look l)) c (w+(k+j)) x.1=Y (x.2.1,d,q)/\x.2.2=eS (iZ (mE (λi=>decide (i<k+j)) k T a)) x.1.op
 | [],k,a,l,ν,T,p,h,f,m=>by
  obtain⟨rfl,rfl,rfl⟩:=h;grind
 |o::os,k,a,l,ν,T,p,h,f,m=>by
  have⟨⟨e,ν',q⟩,h1,h2⟩:=aK h;have⟨⟨T',νf',q'⟩,h3,h4⟩:=bI h2;obtain⟨rfl,rfl,rfl⟩:=h4;have⟨g1,g2,g3⟩:=aTz os (k+1) _ _ _ T' q' h3 (aLy f) (λx b=>m x (by simp[b]));refine⟨by simp[g1],λi x b=>g2 i x (pV _ _ i x b),λj x b=>?_⟩
  cases j with
  |zero=>
   simp at b;subst b
   have e1:mE (λi=>decide (i<k+0)) k ((o,e,eS (iZ a) o.op)::T') a=a:=aKt _ _ _ λi hi=>by simp;omega
   have e2:pB (λi=>decide (i<k+0)) w k ((o,e,eS (iZ a) o.op)::T') (look l)=look l:=Yd _ _ _ λi hi=>by simp;omega
   rw[e1,e2];exact⟨rfl,ν,ν',q,(λx b=>m x (by simp[b])),g2,h1,rfl⟩
  |succ j=>
   have⟨k1,c,d,q2,k2,k3,k4,k5⟩:=g3 j x (by simpa using b)
   have e1:mE (λi=>decide (i<k+(j+1))) k ((o,e,eS (iZ a) o.op)::T') a=mE (λi=>decide (i<k+1+j)) (k+1) T' (putT a o.dst e.res):=by
    conv=>lhs;unfold mE
    rw[show decide (k<k+(j+1))=I by simp];rw[show k+(j+1)=k+1+j by omega];rfl
   have e2:pB (λi=>decide (i<k+(j+1))) w k ((o,e,eS (iZ a) o.op)::T') (look l)=pB (λi=>decide (i<k+1+j)) w (k+1) T' (look (zF (w+k) e l)):=by
    rw[aFU _ _ _ (f _ O)]
    conv=>lhs;unfold pB
    rw[show decide (k<k+(j+1))=I by simp];rw[show k+(j+1)=k+1+j by omega];rfl
   rw[e1,e2,show w+(k+(j+1))=w+(k+1+j) by omega];exact⟨by simpa using k1,c,d,q2,k2,k3,k4,k5⟩
theorem aF9 {a:Nat->Option bH}{e:TypeId}{size:Nat}{t:AT}(h:∀b∈fL t,c b=a b):rowOf c e size t=rowOf a e size t:=by
 unfold rowOf;split
 .rfl
 .rename_i b d len f;rw[h b (by simp[fL])]
 .rfl
theorem aIU {g:Nat->Option bH}{e:TypeId}{size:Nat}{t:AT}{cs:List AC}{len:Nat}(h:rowOf g e size t=Y (Y b,cs,len)):b∈fL t:=by
 unfold rowOf at h;split at h
 .cases h
 .rename_i j d a i;have⟨B,h1,c⟩:=aK h
  cases f:(d==0&&i==size&&B.ty==e&&B.cs.length==a*size)with
  |false=>rw[f]at c;cases c
  |true=>rw[f]at c;cases c;simp[fL]
 .cases h
variable {n:Nat->Option bH}{op:Op}
theorem aIu {P:Program}{j k:Operand->AT}{l:Nat->Option bH}(h:∀x∈op.operands.toList,j x=k x)(q:∀b∈eS j op,n b=l b):evalOp P j n op=evalOp P k l op:=by
 cases op with
 |load t a=>
  simp only[evalOp,<-(h a (by simp[x8]))]
  cases hc:eL (j a)with
  |none=>rfl
  |some c=>
   cases c<;>try rfl
   case ptr b off=>
    simp;rw[q b (by simp[eS,pY hc,fL])]
 |store t a x=>
  have v:=h x (by simp[x8]);simp only[evalOp,<-(h a (by simp[x8])),<-v]
  cases hc:eL (j a)with
  |none=>rfl
  |some c=>
   cases c<;>try rfl
   case ptr b off=>
    simp;rw[q b (by simp[eS,pY hc,fL])]
 |build t g=>
  have:(g.toList.map λ(i,x)=>(i,j x))=(g.toList.map λ(i,x)=>(i,k x)):=p6 λp w=>by
   have⟨i,x⟩:=p;simp only;rw[h x (by simp only[x8,j9];exact⟨(i,x),w,rfl⟩)]
  simp only[evalOp,this]
 |buildSlice t len g=>
  have:(g.toList.map λ(i,x)=>(i,j x))=(g.toList.map λ(i,x)=>(i,k x)):=p6 λp w=>by
   have⟨i,x⟩:=p;simp only;rw[h x (by simp only[x8,j9];exact⟨(i,x),w,rfl⟩)]
  simp only[evalOp,this]
 |convert s d x=>simp only[evalOp,h x (by simp[x8])]
 |call c=>
  have⟨callee,args,argTypes⟩:=c
  cases callee with
  |builtin b=>
   cases b<;>try rfl
   case append=>
    simp only[evalOp];split
    .rename_i t D s x e1 e2;have A:j s=k s:=h s (by simp[x8,C4,e2]);have v:j x=k x:=h x (by simp[x8,C4,e2])
     have B:∀e size,rowOf n e size (j s)=rowOf l e size (j s):=λe size=>aF9 λb m=>q b (by simp only[eS,p8];exact⟨s,by simp[e2],m⟩)
     have C:∀e size,rowOf n e size (j x)=rowOf l e size (j x):=λe size=>aF9 λb m=>q b (by simp only[eS,p8];exact⟨x,by simp[e2],m⟩)
     simp only[<-A,<-v,<-B,<-C];congr;funext e;congr;funext _;congr;funext size;congr;funext i;congr;funext zero
     cases z:rowOf n e size (j s)with
     |none=>rfl
     |some p=>
      have⟨old,cs,len⟩:=p;simp
      have:kG n old=kG l old:=by
       cases old with
       |none=>rfl
       |some b=>
        unfold kG;simp only;rw[q b (by simp only[eS,p8];exact⟨s,by simp[e2],aIU z⟩)]
      rw[this]
    .rfl
   case len=>
    simp only[evalOp]
    cases e1:argTypes.toList with
    |nil=>rfl
    |cons t r=>
     cases r with
     |cons _ _=>rfl
     |nil=>
      cases e2:args.toList with
      |nil=>rfl
      |cons x r=>
       cases r with
       |cons _ _=>rfl
       |nil=>
        simp only;rw[h x (by simp[x8,C4,e2])]
  |value f=>
   cases f with
   |func f=>
    have:args.toList.map j=args.toList.map k:=p6 λx v=>h x (by simp[x8,C4];right;simpa using v)
    simp only[evalOp,this]
   |_=>rfl
  |_=>rfl
 |move x=>simp only[evalOp,h x (by simp[x8])]
 |assign x=>simp only[evalOp,h x (by simp[x8])]
 |pick c a b=>simp only[evalOp,h c (by simp[x8]),h a (by simp[x8]),h b (by simp[x8])]
 |box t x=>simp only[evalOp,h x (by simp[x8])]
 |nilCheck x=>simp only[evalOp,h x (by simp[x8])]
 |binOp o t x y u=>simp only[evalOp,h x (by simp[x8]),h y (by simp[x8])]
 |unOp o t x=>cases o<;>simp only[evalOp,h x (by simp[x8])]
 |fieldAddr t x f=>simp only[evalOp,h x (by simp[x8])]
 |field t x f=>simp only[evalOp,h x (by simp[x8])]
 |indexAddr t x i=>simp only[evalOp,h x (by simp[x8]),h i (by simp[x8])]
 |index t x i=>simp only[evalOp,h x (by simp[x8]),h i (by simp[x8])]
 |extract x i=>simp only[evalOp,h x (by simp[x8])]
 |_=>rfl
def fK.old:fK->Option Nat
 |.mU b _=>Y b
 |.app old _ _ _ _=>old
 |_=>X
def NoSto (e:Option fK):Prop:=∀f b,e=Y f->f.old≠Y b
theorem jW {c:Type}{x:Option c}{f:c->Option fK}(h:∀a,NoSto (f a)):NoSto (x.bind f):=by
 intro d b e;have⟨a,_,h2⟩:=aK e;exact h a d b h2
theorem yT {c:Type}{x:Option c}{f:c->fK}(h:∀a,NoSto (Y (f a))):NoSto (x.map f):=by
 intro d b e;have⟨a,_,h2⟩:=bI e;exact h a d b (by rw[h2])
theorem sB (r:AT)(p:List Prop):NoSto (Y (.val r p)):=λ_ _ e=>by cases e;intro h;cases h
theorem Qh (c:Bool){x y:Option fK}(a:NoSto x)(b:NoSto y):NoSto (bif c then x else y):=by cases c;exact b;exact a
theorem aFZ (cs:List AC)(ty:TypeId)(sl:Option (Nat×Nat)):NoSto (Y (.new cs ty sl)):=λ_ _ e=>by cases e;intro h;cases h
theorem aMV (f:FuncId)(a:List AV):NoSto (Y (.call f a)):=λ_ _ e=>by cases e;intro h;cases h
theorem pK:NoSto X:=λ_ _ e=>by cases e
variable {k:Nat->Option bH}
theorem aEG {P:Program}{g:Operand->AT}{f:fK}(h:evalOp P g k op=Y f)(j:f.old=Y b):b∈eS g op:=by
 have no:NoSto (evalOp P g k op)->b∈eS g op:=λr=>absurd j (r f b h)
 cases op with
 |store t a x=>
  simp only[evalOp]at h;have⟨c,h1,l⟩:=aK h
  cases c<;>try cases l
  case ptr b' off=>
   have⟨v,h3,h4⟩:=aK l;have⟨B,h5,e⟩:=aK h4
   cases m:B.ro with
   |true=>rw[m]at e;cases e
   |false=>
    rw[m]at e;simp only[cond_false]at e;have⟨cs',h7,h8⟩:=bI e;subst h8;cases j;simp[eS,pY h1,fL]
 |call c=>
  have⟨callee,args,argTypes⟩:=c
  cases callee with
  |builtin p=>
   cases p<;>try (cases h)
   case len=>
    refine no ?_;simp only[evalOp];split
    .refine jW (λc=>?_)
     cases c<;>first|exact pK|exact yT λ_=>sB _ _|exact Qh _ (yT λ_=>sB _ _) pK
    .exact pK
   case append=>
    simp only[evalOp]at h;split at h
    .rename_i t z s x e1 e2;have⟨el,h1,h⟩:=aK h;have⟨el',l,h⟩:=aK h;have⟨size,h3,h⟩:=aK h;have⟨i,h4,h⟩:=aK h;have⟨zero,h5,h⟩:=aK h;have⟨⟨old,cs,len⟩,e,h⟩:=aK h;have⟨⟨old2,ds,n⟩,h7,h⟩:=aK h;simp only at h;generalize (z8 (len+n) 100&&z8 i.bytes 1000000&&!(n==0)&&!(size==0)&&zero.length==size&&kG k old)=q at h
     cases q with
     |false=>cases h
     |true=>
      cases h;simp only[fK.old]at j;subst j;simp only[eS,p8];exact⟨s,by simp[e2],aIU e⟩
    .cases h
  |value f=>
   cases f with
   |func f=>exact no (yT λ_=>aMV _ _)
   |_=>cases h
  |_=>cases h
 |unOp o t x=>
  refine no ?_
  cases o<;>first
   |exact pK
   |exact jW λc=>yT λ_=>sB _ _
   |exact jW λc=>by cases c<;>first|exact pK|exact sB _ _
 |move x=>exact no (sB _ _)
 |assign x=>exact no (sB _ _)
 |pick c x y=>
  refine no (jW λc=>?_)
  cases c<;>(try exact pK)<;>(try exact sB _ _)
  simp only
  split<;>first|exact pK|exact sB _ _
 |alloc t=>exact no (yT λ_=>aFZ _ _ _)
 |box t x=>exact no (yT λ_=>aFZ _ _ _)
 |build t w=>exact no (jW λ_=>jW λ_=>yT λ_=>sB _ _)
 |buildSlice t len w=>exact no (jW λ_=>jW λ_=>jW λ_=>Qh _ (jW λ_=>yT λ_=>aFZ _ _ _) pK)
 |convert s d x=>
  refine no (jW λ_=>jW λ_=>jW λ_=>?_)
  split<;>first|exact pK|exact sB _ _
 |load t a=>
  refine no (jW λc=>?_)
  cases c<;>(try exact pK)
  exact jW λ_=>yT λ_=>sB _ _
 |nilCheck x=>
  refine no (jW λc=>?_)
  cases c<;>first|exact pK|exact sB _ _
 |binOp o t x y u=>exact no (jW λ_=>jW λ_=>yT λ_=>sB _ _)
 |fieldAddr t x f=>
  refine no (jW λc=>?_)
  cases c<;>(try exact pK)
  exact jW λ_=>jW λ_=>jW λn=>Qh _ pK (sB _ _)
 |field t x f=>
  refine no (jW λc=>?_)
  cases c<;>(try exact pK)
  exact jW λ_=>jW λ_=>yT λ_=>sB _ _
 |indexAddr t x i=>
  refine no (jW λc=>?_)
  cases c<;>(try exact pK)
  all_goals
   refine jW λc=>?_
   cases c<;>(try exact pK)
   all_goals exact jW λ_=>jW λ_=>Qh _ (sB _ _) pK
 |index t x i=>
  refine no (jW λc=>?_)
  cases c<;>(try exact pK)
  refine jW λc=>?_
  cases c<;>(try exact pK)
  exact jW λ_=>jW λ_=>Qh _ (yT λ_=>sB _ _) pK
 |extract x i=>
  refine no ?_;simp only[evalOp]
  cases g x<;>first|exact pK|exact yT λ_=>sB _ _
 |_=>cases h
variable {all:Array Oper}{ν F:LV}{o:Oper}{p:List Prop}
theorem entTouch {R:eQ}{l:Spec}{g:List AT}(h:rE R l n all g k ν id o=Y (e,F,p))(hs:b∈eI id e):(b=id/\e.new≠X)\/b∈eS (iZ g) o.op:=by
 have plain:∀r,e=⟨r,X,X,X⟩->(b=id/\e.new≠X)\/b∈eS (iZ g) o.op:=by
  rintro r rfl;simp[eI]at hs
 unfold rE at h
 cases t:gd all g o<;>rw[t]at h<;>simp only at h
 .have⟨f,h1,a⟩:=aK h
  cases f with
  |val r q=>simp only[fS,A7,Prod.mk.injEq]at a;exact plain r a.1.symm
  |new cs ty sl=>
   obtain⟨rfl,_⟩:=a;simp[eI]at hs;grind
  |app old cs ty len size=>
   simp only[fS]at a
   cases i:R.bt.contains ty<;>rw[i]at a
   .cases a
   .simp at a;obtain⟨rfl,_⟩:=a;simp only[eI,o9]at hs
    rcases hs with hs|hs
    .grind
    .exact C3 (aEG h1 (by simpa[fK.old]using hs))
  |mU u s=>
   have⟨B,g1,d⟩:=aK a
   cases i:R.bt.contains B.ty<;>rw[i]at d
   .cases d
   .simp at d;obtain⟨rfl,_⟩:=d;simp[eI]at hs;exact C3 (aEG h1 (by simp[fK.old,hs]))
  |call f m=>
   have⟨⟨ν1,r,q,nbx⟩,_,h4⟩:=aK a
   cases nbx with
   |some B=>
    obtain⟨rfl,_⟩:=h4;simp[eI]at hs;exact Or.inl ⟨hs,E4⟩
   |none=>
    simp at h4;exact plain _ h4.1.symm
 .simp at h;exact plain _ h.1.symm
 .cases h
 .rename_i c
  cases j:(evalOp R.P (iZ g) k o.op).bind (jT c l n ν id)with
  |none=>
   rw[j]at h;have⟨f,args,ts,m,cs,ν1,v,q,_,_,_,e1,_,_⟩:=aEX h;exact plain _ e1
  |some y=>
  rw[j]at h;simp only[orElse,A7]at h;subst h;have⟨f,h1,a⟩:=aK j
  cases f with
  |val r q=>
   cases r<;>cases a
   exact plain _ rfl
  |call f m=>
   have⟨⟨ν1,r,q,nbx⟩,g1,d⟩:=aK a
   cases r<;>cases nbx<;>cases d
   exact plain _ rfl
  |_=>simp[jT]at a
theorem aOm {b:List AT}{x:Operand}(h:∀t,x=.tmp t->b[t]?=a[t]?):iZ b x=iZ a x:=by
 cases x with
 |tmp t=>simp only[iZ,List.getD];rw[h t rfl]
 |_=>rfl
theorem aHe {c:Bool}{d:Spec}{e:Nat->Option bH}{b a:Operand->AT}(h:∀x∈op.operands.toList,b x=a x):jS c d e ν id b op=jS c d e ν id a op:=by
 unfold jS;split
 .rename_i f args i
  have:args.toList.map b=args.toList.map a:=p6 λx g=>h x (by simp[x8,C4];exact C3 (by simpa using g))
  rw[this]
 .rfl
theorem aMt {R:eQ}{n:Spec}{q:Nat->Option bH}{i:List AT}{h:Nat->Option bH}(m:∀t∈reads all o,i[t]?=a[t]?)(l:∀b∈eS (iZ i) o.op,k b=h b):rE R n q all i k ν id o=rE R n q all a h ν id o:=by
 have r:gd all i o=gd all a o:=by
  unfold gd
  cases v:o.guard with
  |none=>rfl
  |some p=>
   have⟨g,want⟩:=p;simp only
   cases hd:(all[g]?).bind (·.dst)with
   |none=>rfl
   |some d=>
    simp only;rw[m d (by simp[reads,v,hd])]
 have j:∀ x∈o.op.operands.toList,iZ i x=iZ a x:=λx w=>aOm λt e=>m t (by
  subst e;simp only[reads,q8,q9]
  exact Or.inl ⟨.tmp t,w,rfl⟩)
 have s:evalOp R.P (iZ i) k o.op=evalOp R.P (iZ a) h o.op:=aIu j l;unfold rE;rw[r,<-s]
 cases gd all a o with
 |yes=>
  cases u:evalOp R.P (iZ i) k o.op with
  |none=>rfl
  |some f=>
   simp
   cases f with
   |mU b cs=>simp only[fS];rw[l b (aEG u rfl)]
   |_=>rfl
 |cond c=>
  simp only;rw[aHe j]
 |_=>rfl
def maskOf (acc:NU)(o:Oper):Nat:=o.after.toList.foldl (λm e=>bif A9 .any e then m |||2^e.on |||acc.getD e.on 0 else m) 0
def masks:List Nat->List Oper->List Nat
 |acc,[]=>acc
 |acc,o::r=>masks (acc++[maskOf acc o]) r
theorem aIJ:∀(os:List Oper) (a:NU),∃r,masks a os=a++r/\r.length=os.length
 | [],a=>⟨[],by simp[masks],rfl⟩
 |o::os,a=>by
  have⟨r,h1,h2⟩:=aIJ os (a++[maskOf a o]);exact⟨maskOf a o::r,by unfold masks;rw[h1];simp,by simp[h2]⟩
theorem aLh:∀(os:List Oper) (a:NU) (j:Nat) (o:Oper),os[j]?=Y o->(masks a os)[a.length+j]?=Y (maskOf ((masks a os).take (a.length+j)) o)
 |o'::os,a,0,o,h=>by
  simp at h;subst h;have⟨r,h1,_⟩:=aIJ os (a++[maskOf a o']);unfold masks;rw[h1];simp
 |o'::os,a,j+1,o,h=>by
  have:=aLh os (a++[maskOf a o']) j o (by simpa using h);rw[show a.length+(j+1)=(a++[maskOf a o']).length+j by simp;omega];exact this
 | [],a,j,o,h=>by simp at h
variable {i:Nat}
theorem aMM {acc:NU}(h:(maskOf acc o).testBit i=I):∃e∈o.after.toList,A9 .any e=I/\(e.on=i\/(acc.getD e.on 0).testBit i=I):=by
 have a:∀(l:List Edge) (m:Nat),(l.foldl (λm e=>bif A9 .any e then m |||2^e.on |||acc.getD e.on 0 else m) m).testBit i=I->m.testBit i=I\/∃e∈l,A9 .any e=I/\(e.on=i\/(acc.getD e.on 0).testBit i=I):=by
  intro l
  induction l with
  |nil=>exact λm h=>Or.inl h
  |cons e l c=>
   intro m h;simp at h
   rcases c _ h with h|⟨d,f,g⟩
   .cases b:A9 .any e with
    |false=>rw[b]at h;exact Or.inl h
    |true=>
     grind
   .grind
 rcases a _ _ h with h|h
 .simp at h
 .exact h
def qP (ops:Array Oper)(L:Nat->Bool):Prop:=∀(i:Nat) (o:Oper),L i=I->ops[i]?=Y o->∀e∈o.after,A9 .any e=I->L e.on=I
variable {ops:Array Oper}
theorem Qd (hc:qP ops L):∀(j:Nat) (o:Oper),ops[j]?=Y o->(∀e∈o.after,A9 .any e=I->L e.on=I)->∀i,((masks [] ops.toList).getD j 0).testBit i=I->L i=I:=by
 intro j
 induction j using A0 with
 |ind j k=>
  intro o g hd i hi;have l:=(s7.1 g).1;have f:=aLh ops.toList [] j o (by simpa using g);simp at f
  have e1:(masks [] ops.toList).getD j 0=maskOf ((masks [] ops.toList).take j) o:=by simp[f]
  rw[e1]at hi;have⟨e,h1,h2,h3⟩:=aMM hi
  rcases h3 with h3|h3
  .grind
  .have a:e.on<j:=by
    grind
   have e2:((masks [] ops.toList).take j).getD e.on 0=(masks [] ops.toList).getD e.on 0:=by simp[List.getElem?_take_of_lt a]
   rw[e2]at h3;have b:ops[e.on]?=Y ops[e.on]:=s8 O;exact k e.on a _ b (λh d c=>hc e.on _ (hd e (by simpa using h1) h2) b h d c) i h3
def Hh (M:NU)(i j:Nat):Bool:=(decide (i<j)&&(M.getD j 0).testBit i)||(decide (j<i)&&(M.getD i 0).testBit j)
def nW (all:Array Oper)(a i:Nat)(x y:Oper×nD×List Nat):Bool:=
 (match x.1.dst with|some t=>(reads all y.1).contains t|none=>J)||(eI (a+i) x.2.1).any λb=>y.2.2.contains b
def kR (all:Array Oper)(M:NU)(a i j:Nat)(x y:Oper×nD×List Nat):Bool:=
 (x.1.dst.isNone||x.1.dst != y.1.dst)&&(!nW all a i x y||Hh M i j)&&(!(y.2.2.contains (a+i))||(decide (i<j)&&(M.getD j 0).testBit i))
def chk (all:Array Oper)(a:Nat)(T:Tb)(M:NU):Bool:=
 T.zipIdx.all λ(y,j)=>!(y.2.2.contains (a+j))&&y.1.after.toList.all (λe=>!Region.binds .any e||decide (e.on<j))&&T.zipIdx.all λ(x,i)=>i==j||kR all M a i j x y
theorem Wb {a:Type}{l:List a}{x:a}(h:l[i]?=Y x):(x,i)∈l.zipIdx:=by
 grind
def Gk (l:List (Nat×bH)):Nat->Option bH:=λb=>(look l b).bind λB=>bif !B.own&&B.ro then Y B else X
theorem aOn {l:List (Nat×bH)}{B:bH}(h:Gk l b=Y B):look l b=Y B:=by
 have⟨D,h1,h2⟩:=aK h;grind
def Gf (c:Nat->Option bH)(a:Nat)(T:Tb):Bool:=T.zipIdx.all λ(y,j)=>(eI (a+j) y.2.1).all λb=>(c b).isNone
theorem aTX {a:Nat->Option bH}(h:Gf a w T=I){x:Oper×nD×List Nat}(c:T[i]?=Y x)(d:b∈eI (w+i) x.2.1):a b=X:=by
 unfold Gf at h;rw[r5]at h;have:=h (x,i) (Wb c)
 simp_all
def aL (C:eQ)(sp:Spec)(ops:Array Oper)(s:AS):Option (AS×List Prop):=
 (Nk C sp (Gk s.boxes) ops s.next 0 ops.toList s.tmps s.boxes s.nums).bind λ(T,a,p)=>
  bif chk ops s.next T (masks [] ops.toList)&&Gf (Gk s.boxes) s.next T then
   Y (⟨mE (λ_=>I) 0 T s.tmps,qZ s.next 0 T s.boxes,s.next+ops.size,a,s.dirty++T.filterMap (λx=>x.2.1.mU.map (·.1))⟩,p)
  else X
theorem aN7 {y:NU}(h:chk all w T y=I){k:Nat}{a:Oper×nD×List Nat}(c:T[k]?=Y a):
  (w+k)∉a.2.2/\(∀e∈a.1.after,A9 .any e=I->e.on<k)/\∀(i:Nat) x,T[i]?=Y x->i≠k->kR all y w i k x a=I:=by
 unfold chk at h;rw[r5]at h;have:=h (a,k) (Wb c);simp only[C0,r5]at this;have⟨⟨h1,h2⟩,h3⟩:=this;refine⟨by simpa using h1,λe f d=>?_,λi x b hne=>?_⟩
 .grind
 .have:=h3 (x,i) (Wb b)
  simp_all
theorem aEH (L:Nat->Bool)(j:Nat)(b:L j=J):∀(l:NU),l.Nodup->j∈l->(l.filter λi=>!(L i||i==j)).length+1=(l.filter λi=>!L i).length
 | [],_,h=>by simp at h
 |x::l,a,h=>by
  rw[List.nodup_cons]at a
  by_cases e:x=j
  .subst e
   have:(l.filter λi=>!(L i||i==x))=l.filter λi=>!L i:=by
    apply List.filter_congr;grind
   grind
  .have c:j∈l:=by simpa[Ne.symm e]using h
   have d:=aEH L j b l a.2 c;grind
section
variable {C:eQ} {sp:Spec}{ψ:LI}
theorem aIs {v:World}(bq:SpecOk C v ψ sp){s s':AS}(a6:aL C sp ops s=Y (s',p))(hp:Holds p){o:LI}{a0:Act}{w1:World}{Q:LL}(hr:Rep C v ψ o s a0 w1)
  (hQ:∀al a' w',Ext C o al s.nums s'.nums w1 w'->Rep C v ψ al s' a' w'->Q .normal a' w'):wpAny C.P .any ops Q ops.size (u5 ops.size J) a0 {w1 with drawn:=w1.drawn+1}:=by
 unfold aL at a6;have⟨⟨T,νf,q⟩,ht,S⟩:=aK a6;simp only at S
 cases M:(chk ops s.next T (masks [] ops.toList)&&Gf (Gk s.boxes) s.next T)with
 |false=>rw[M]at S;cases S
 |true=>
  rw[M]at S;rw[C0]at M;have⟨hch,hchX⟩:=M;simp at S;obtain⟨rfl,rfl⟩:=S
  have af:Ax s.boxes s.next:=by
   intro b f
   cases hl:look s.boxes b with
   |none=>rfl
   |some B=>
    have⟨k,c,_,_,_,hk,_⟩:=hr.wd.box _ _ hl;rw[hr.wd.fresh b f]at hk;cases hk
  have⟨hlen,hν,htab⟩:=aTz ops.toList 0 s.tmps s.boxes s.nums T q ht af hp;simp at hlen;simp only[A4]at htab;generalize an:s.dirty++T.filterMap (λx=>x.2.1.mU.map (·.1))=dirty at*
  have bu:∀(fuel:Nat) (d:Array Bool) (φ:LI) (a:Act) (w:World),
    d.size=ops.size->((r7 ops.size).filter λi=>!d.getD i J).length=fuel->qP ops (λi=>d.getD i J)->
    RepF C v ψ φ (pB (λi=>d.getD i J) s.next 0 T (look s.boxes)) (λb=>s.next<=b/\∀j,b=s.next+j->d.getD j J=J) νf dirty w->a.defers=[]->
    aD (relT C φ νf w) (mE (λi=>d.getD i J) 0 T s.tmps) a.tmps.toList->Ext C o φ s.nums νf w1 w->wpAny C.P .any ops Q fuel d a w:=by
   intro fuel
   induction fuel with
   |zero=>
    intro d φ a w U hf ad N hd ak hx
    have ab:∀i,i<ops.size->d.getD i J=I:=by
     intro i hi
     cases hv:d.getD i J with
     |true=>rfl
     |false=>
      have:i∈(r7 ops.size).filter λi=>!d.getD i J:=by simp[hi,<-u6,hv]
      rw[List.length_eq_zero_iff.1 hf]at this;cases this
    refine⟨?_,?_⟩
    .apply List.eq_nil_iff_forall_not_mem.2;intro j hj;have⟨W,c,h3,_⟩:=mem_ready.1 hj;have:=ab j (s7.1 h3).1
     have ae:j<d.size:=by rw[U];exact(s7.1 h3).1
     simp[ae]at this W;rw[this]at W;cases W
    .have e1:=aTB (L:=λi=>d.getD i J) T 0 s.tmps λi hi=>by rw[A4];exact ab i O
     have e2:=aSR (L:=λi=>d.getD i J) T 0 s.boxes af λi hi=>by rw[A4];exact ab i O
     rw[e1]at ak;rw[e2]at N;refine hQ φ a w hx ⟨N.cR λb f=>⟨by simp only at f;omega,λj hj=>?_⟩,hd,ak⟩;rw[u6,u7 (by simp only at f;omega)];rfl
   |succ fuel ih=>
    intro d φ a w U hf ad N hd ak hx;refine⟨λa9=>?_,λj hj=>?_⟩
    .-- someone can always come
     exfalso
     have hne:((r7 ops.size).filter λi=>!d.getD i J)≠[]:=by intro e;rw[e]at hf;simp at hf
     -- the ai that is not d
     have:∃i,i<ops.size/\d.getD i J=J:=by
      have⟨i,r,e⟩:=List.exists_cons_of_ne_nil hne
      have hi:i∈(r7 ops.size).filter λi=>!d.getD i J:=by rw[e];simp
      rw[List.mem_filter,List.mem_range]at hi;exact⟨i,hi.1,by simpa using hi.2⟩
     have⟨i,hi1,hi2⟩:=this
     have ai:∀n,n<ops.size->d.getD n J=J->False:=by
      intro n
      induction n using A0 with
      |ind n bt=>
       intro a7 a8;have ho:ops[n]?=Y ops[n]:=s8 a7
       have ao:n∈Region.ready .any ops d:=by
        refine mem_ready.2 ⟨?_,ops[n],ho,λe he f=>?_⟩
        .have bp:n<d.size:=by rw[U];exact a7
         simp[bp]at a8 ⊢;exact a8
        .obtain⟨x,u⟩:∃x,T[n]?=Y x:=⟨T[n]' O,r8 O⟩
         have ag:=(htab n x u).1
         have R:x.1=ops[n]:=by
          rw[u9,ho]at ag;exact(A8 ag).symm
         have⟨_,c2,_⟩:=aN7 hch u;have bo:=c2 e (by rw[R];exact he) f
         cases hv:d.getD e.on J with
         |true=>rfl
         |false=>exact(bt e.on bo O hv).elim
       rw[a9]at ao;cases ao
     exact ai i hi1 hi2
    .have⟨hj0,c,ho,hafter⟩:=mem_ready.1 hj;have au:j<ops.size:=(s7.1 ho).1
     have A:d.getD j J=J:=by
      have ae:j<d.size:=by rw[U];exact au
      simp[ae]at hj0 ⊢;exact hj0
     obtain⟨x,u⟩:∃x,T[j]?=Y x:=⟨T[j]' O,r8 O⟩
     have⟨ag,ν1,ν2,q2,hq2,hνf,hent,hacc⟩:=htab j x u
     have R:x.1=c:=by
      rw[u9,ho]at ag;exact(A8 ag).symm
     have⟨c1,c2,c3⟩:=aN7 hch u
     -- who is ordered against j is d if,and only if,it comes earlier
     have a4:∀i,((masks [] ops.toList).getD j 0).testBit i=I->d.getD i J=I:=λi hi=>Qd ad j c ho hafter i hi
     have am:∀i y,T[i]?=Y y->((masks [] ops.toList).getD i 0).testBit j=I->d.getD i J=J:=by
      intro i y z hi
      cases hv:d.getD i J with
      |false=>rfl
      |true=>
       have a1:=(htab i y z).1;rw[u9]at a1;have:=Qd ad i y.1 a1 (λe he f=>ad i y.1 hv a1 e he f) j hi;rw[A]at this;cases this
     have aq:∀i y,T[i]?=Y y->Hh (masks [] ops.toList) i j=I->d.getD i J=decide (i<j):=by
      intro i y z h;unfold Hh at h;simp at h
      rcases h with⟨W,S⟩|⟨W,S⟩
      .rw[a4 i S];simp[W]
      .rw[am i y z S];simp;omega
     have F:=c3
     -- what j looks at
     have ax:∀t∈reads ops x.1,(mE (λi=>decide (i<j)) 0 T s.tmps)[t]?=(mE (λi=>d.getD i J) 0 T s.tmps)[t]?:=by
      intro t br
      refine Ya T 0 _ _ rfl rfl λi y z az=>?_
      rw[A4]
      by_cases g:i=j
      .subst g;rw[A];simp
      .have:=F i y z g;unfold kR at this;simp at this;have⟨⟨_,hc⟩,_⟩:=this
       have l:nW ops s.next i y x=I:=by
        unfold nW;rw[az];simp;exact Or.inl (by simpa using br)
       rw[l]at hc;simp at hc;exact(aq i y z hc).symm
     have a5:∀b,b∈eS (iZ (mE (λi=>decide (i<j)) 0 T s.tmps)) x.1.op->pB (λi=>decide (i<j)) s.next 0 T (look s.boxes) b=pB (λi=>d.getD i J) s.next 0 T (look s.boxes) b:=by
      intro b f;rw[<-hacc]at f
      refine Qr T 0 _ _ rfl λi y z ah=>?_
      rw[A4]at ah ⊢
      by_cases g:i=j
      .subst g;rw[A];simp
      .have:=F i y z g;unfold kR at this;simp at this;have⟨⟨_,hc⟩,_⟩:=this
       have l:nW ops s.next i y x=I:=by
        unfold nW;simp;exact C3 ⟨b,ah,by simpa using f⟩
       rw[l]at hc;simp at hc;exact(aq i y z hc).symm
     rw[aMt ax a5,R]at hent;refine aWy bq (nb:=λb=>s.next<=b/\∀i,b=s.next+i->d.getD i J=J) (id:=s.next+j) ho N hd ak hent hq2 (λb B f=>(aN2 T 0 _ λi y z ah=>by rw[A4]at ah;rw[aTX hchX z ah]at f;cases f).trans (aOn f)) hνf ⟨O,λi hi=>?_⟩ ?_ ?_
     .have:i=j:=O
      subst this;exact A
     .intro b cs hs;rw[<-an];simp only[q8,q9];exact C3 ⟨x,List.mem_of_getElem? u,by rw[hs];rfl⟩
     .intro al a' w' ay bm bb bs
      have D:(λi=>(d.setIfInBounds j I).getD i J)=λi=>d.getD i J||i==j:=by
       funext i
       by_cases g:i=j
       .subst g
        have ae:i<d.size:=by rw[U];exact au
        simp[ae,Array.getElem?_setIfInBounds]
       .rw[getD_set_ne J (Ne.symm g)];simp[g]
      refine ih (d.setIfInBounds j I) al a' w' (by simp[U]) ?_ ?_ ?_ bm ?_ (hx.trans bs)
      .have:=aEH (λi=>d.getD i J) j A (r7 ops.size) List.nodup_range (by simp[au])
       have e:(λi=>!(d.setIfInBounds j I).getD i J)=λi=>!(d.getD i J||i==j):=by
        funext i;exact congrArg Bool.not (congrFun D i)
       rw[e];omega
      .rw[D];intro i o' hi av e he f;simp only[Bool.or_eq_true,beq_iff_eq]at hi ⊢
       rcases hi with hi|hi
       .exact Or.inl (ad i o' hi av e he f)
       .subst hi;rw[ho]at av;cases av;exact Or.inl (hafter e he f)
      .rw[D]
       have:=aSQ (L:=λi=>d.getD i J) (n0:=s.next) (j:=j) T 0 (look s.boxes) j x u O A (by
        intro m y b hm z W S;rw[A4]at S ⊢
        -- both eI b: ordered
        have hne:j≠m:=O
        have⟨_,ym1,ym2,ymq,_,_,yent,yacc⟩:=htab m y z;have⟨_,xm1,xm2,xmq,_,_,xent,xacc⟩:=htab j x u
        rcases entTouch yent S with⟨bk,b1⟩|hya
        .-- y makes the box that x touches
         rcases entTouch xent W with⟨b2,_⟩|hxa
         .omega
         .have:=c3 m y z O;unfold kR at this;rw[<-xacc,bk]at hxa
          have ar:x.2.2.contains (s.next+m)=I:=by simpa using hxa
          simp only[C0,ar,Bool.not_true,B9,decide_eq_true_eq]at this;omega
        .have:=(aN7 hch z).2.2 j x u hne;unfold kR at this;simp only[C0]at this;have⟨⟨_,hc⟩,_⟩:=this
         have l:nW ops s.next j x y=I:=by
          unfold nW;simp;exact C3 ⟨b,W,by rw[yacc];simpa using hya⟩
         rw[l]at hc;simp at hc;unfold Hh at hc;simp at hc
         rcases hc with⟨h3,h4⟩|⟨h3,h4⟩
         .exact am m y z h4
         .omega)
       rw[this]
       refine ay.cR λb f=>⟨⟨f.1,λi hi=>?_⟩,λe=>?_⟩
       .have:=f.2 i hi
        by_cases g:i=j
        .rw[g];exact A
        .rw[getD_set_ne J (Ne.symm g)]at this;exact this
       .have:=f.2 j e;have e2:=congrFun D j;simp only[beq_self_eq_true,Bool.or_true]at e2;rw[e2]at this;cases this
      .rw[D]
       rw [aXr u A (λi y t hi z hd az=>by
        have:=F i y z hi;unfold kR at this;simp at this;have W:=this.1.1;rw[az,hd]at W
        simp at W)]
       rw[R];exact bb
  have f:Below w1.heap.size w1 {w1 with drawn:=w1.drawn+1}:=⟨rfl,rfl,rfl,A5 _,λ_ _=>rfl⟩
  have hx:Ext C o o s.nums νf w1 {w1 with drawn:=w1.drawn+1}:=⟨λ_ _ h=>h,hν,On.below f⟩
  have aj:∀i,(u5 ops.size J).getD i J=J:=by
   intro i;rw[u6]
   by_cases hi:i<ops.size
   .simp[hi]
   .rw[u7 (by simp;omega)];rfl
  refine bu ops.size (u5 ops.size J) o a0 _ E4 ?_ ?_ ?_ hr.defers ?_ hx
  .have:((r7 ops.size).filter λi=>!(u5 ops.size J).getD i J)=r7 ops.size:=by
    apply List.filter_eq_self.2;intro i _;rw[aj i];rfl
   rw[this];simp
  .intro i c hi;have hi:(u5 ops.size J).getD i J=I:=hi;rw[aj i]at hi;cases hi
  .rw[Yd T 0 (look s.boxes) λi _=>aj i];have:=hr.wd.later f νf hν;refine⟨this.box,this.own,this.inj,this.tip,λb f=>this.fresh b f.1,this.lt,λk hk bn=>this.low k hk λb bj=>bn b ?_,this.on,this.base,this.rF⟩;rw[<-an];simp[bj]
  .rw[aKt T 0 s.tmps λi _=>aj i];exact hr.tmps.mono (yP hx)
theorem uH {v:World}(d:C.P.follows .mixedOrders=I)(b:SpecOk C v ψ sp):uS C v ψ (aL C sp):=by
 intro ops s h p a e g a0 i id Q f c;exact wp_region_any d (aIs b a e f c)
end
inductive Tok where
 |num (k:Bool) (z:Int) (n:Nat)
 |c (x:AC)
inductive VT where
 |one (c:AC)
 |agg (ts:List Tok)
inductive RV where
 |val (v:VT)
 |tup (vs:List VT)
def fH:AC->Bool
 |.sg _=>J
 |.dg _ _=>J
 |.ptr _ _=>J
 |.slc _ _ _ _=>J
 |.dsl _ _ _ _=>J
 |_=>I
def jZ (ν:LV):List AC->Option (List Tok)
 | []=>Y []
 |.sg i::.dg k j::r=>bif i==j then(ν[i]?).bind λ(z,n)=>(jZ ν r).map (.num k z n::·)else X
 |c::r=>bif fH c then(jZ ν r).map (.c c::·)else X
def zR (ν:LV):AV->Option VT
 |.one c=>bif fH c then Y (.one c)else X
 |.agg cs=>(jZ ν cs).map .agg
section
variable (C:eQ)
def RT (w:World):List Tok->List Value->Prop
 | [],[]=>True
 |.num k z n::a,x::y::b=>x=.bool (decide (z<0))/\C.cP k w z y/\C.bits n z/\RT w a b
 |.c c::a,x::b=>fH c=I/\relC C (λ_=>X) [] w c x/\RT w a b
 |_,_=>False
def iH (w:World):VT->Value->Prop
 |.one c,x=>fH c=I/\relC C (λ_=>X) [] w c x
 |.agg b,x=>∃a:PH,x=.agg a.toArray/\RT C w b a
def RRV (w:World):RV->Value->Prop
 |.val v,x=>iH C w v x
 |.tup b,x=>∃a:PH,x=.tuple a.toArray/\aD (iH C w) b a
end
def jK:Nat->List Tok->List AC×List (Int×Nat)
 |_,[]=>([],[])
 |b,.num k z n::r=>(.sg b::.dg k b::(jK (b+1) r).1,(z,n)::(jK (b+1) r).2)
 |b,.c x::r=>(x::(jK b r).1,(jK b r).2)
def tA (b:Nat):VT->AV×List (Int×Nat)
 |.one c=>(.one c,[])
 |.agg a=>(.agg (jK b a).1,(jK b a).2)
def eB:Nat->List VT->List AV×List (Int×Nat)
 |_,[]=>([],[])
 |b,v::r=>((tA b v).1::(eB (b+(tA b v).2.length) r).1,(tA b v).2++(eB (b+(tA b v).2.length) r).2)
def Gc (b:Nat):RV->AT×List (Int×Nat)
 |.val v=>(.val (tA b v).1,(tA b v).2)
 |.tup a=>(.tup (eB b a).1,(eB b a).2)
section
variable {C:eQ} {φ:LI} {w:World}{x:Value}
theorem Rb {c:AC}(h:fH c=I){φ o:LI}(r:relC C φ ν w c x):relC C o F w c x:=by
 cases c<;>first|exact r|(simp[fH]at h)
theorem Ou {ν F:LV}(b:∀(i:Nat) (x:Int×Nat),ν[i]?=Y x->F[i]?=Y x):∀(cs:List AC) (g:List Tok) (l:PH),jZ ν cs=Y g->aD (relC C φ F w) cs l->RT C w g l
 | [],g,[],h,_=>by simp[jZ]at h;subst h;trivial
 | [],_,_::_,_,h=>h.elim
 |_::_,_,[],_,h=>h.elim
 | [c],g,[x],h,⟨m,_⟩=>by
  cases c<;>simp[jZ,fH]at h<;>subst h<;>exact⟨rfl,Rb rfl m,trivial⟩
 | [c],_,_::_::_,_,h=>h.2.elim
 |_::_::_,_,[_],_,h=>h.2.elim
 |c::d::r,g,x::y::l,h,⟨m,q,p⟩=>by
  by_cases hc:fH c=I
  .have e:jZ ν (c::d::r)=(jZ ν (d::r)).map (.c c::·):=by
    cases c<;>first|(simp[fH]at hc;done)|rfl
   rw[e]at h;obtain⟨f,o,rfl⟩:=bI h;exact⟨hc,Rb hc m,Ou b (d::r) f (y::l) o ⟨q,p⟩⟩
  .cases c<;>simp[fH]at hc
   case sg i=>
    cases d<;>try (simp[jZ,fH]at h;done)
    case dg k j=>
     simp only[jZ]at h
     cases a:i==j with
     |false=>rw[a]at h;cases h
     |true=>
      rw[a]at h
      have:i=j:=by simpa using a
      subst this;have⟨⟨z,n⟩,o,h2⟩:=aK h;obtain⟨f,s,rfl⟩:=bI h2;have⟨z1,n1,e1,e2⟩:=m;have⟨z2,n2,f1,f2,f3⟩:=q;have:=b _ _ o;rw[this]at e1 f1;cases e1;cases f1;exact⟨e2,f2,f3,Ou b r f l s p⟩
   all_goals simp[jZ,fH]at h
theorem aQO (a:∀(i:Nat) (x:Int×Nat),ν[i]?=Y x->F[i]?=Y x){v:AV}{t:VT}(h:zR ν v=Y t)(r:dJ C φ F w v x):iH C w t x:=by
 cases v with
 |one c=>
  simp only[zR]at h
  cases hc:fH c with
  |false=>rw[hc]at h;cases h
  |true=>rw[hc]at h;cases h;exact⟨hc,Rb hc r⟩
 |agg cs=>
  obtain⟨d,b,rfl⟩:=bI h;have⟨xs,e,hr⟩:=r;exact⟨xs,e,Ou a cs d xs b hr⟩
theorem Yc {ν F:LV}(a:∀(i:Nat) (x:Int×Nat),ν[i]?=Y x->F[i]?=Y x):∀{c:List AV} {b:List VT} {d:PH},gB (zR ν) c=Y b->aD (dJ C φ F w) c d->aD (iH C w) b d
 | [],b,[],h,_=>by simp[gB]at h;subst h;trivial
 |v::c,b,x::d,h,⟨f,g⟩=>by
  have⟨t,g1,g2⟩:=aK h;obtain⟨j,e,rfl⟩:=bI g2;exact⟨aQO a g1 f,Yc a e g⟩
 | [],_,_::_,_,h=>h.elim
 |_::_,_,[],_,h=>h.elim
def At (a:LV)(b:Nat)(ns:LV):Prop:=∀(i:Nat) (y:Int×Nat),ns[i]?=Y y->a[b+i]?=Y y
variable {a ns:LV}
theorem At.tail {y:Int×Nat}(h:At a b (y::ns)):At a (b+1) ns:=λi z c=>by rw[show b+1+i=b+(i+1) by omega];exact h (i+1) z (by simpa using c)
theorem At.left (h:At a b (F++ns)):At a b F:=λi z c=>h i z (pV _ _ i z c)
theorem At.right (h:At a b (F++ns)):At a (b+F.length) ns:=λi z c=>by
 rw[show b+F.length+i=b+(F.length+i) by omega];exact h (F.length+i) z (by rw[List.getElem?_append_right O];simpa using c)
theorem aFE {i:LV}:∀(j:List Tok) (b:Nat) (a:PH),At i b (jK b j).2->RT C w j a->aD (relC C φ i w) (jK b j).1 a
 | [],b,[],_,_=>trivial
 |.num k z n::r,b,x::y::a,d,⟨e,f,g,m⟩=>by
  have l:=d 0 (z,n) rfl;exact⟨⟨z,n,l,e⟩,⟨z,n,l,f,g⟩,aFE r (b+1) a d.tail m⟩
 |.c c::r,b,x::a,d,⟨e,f,g⟩=>by
  exact⟨Rb e f,aFE r b a d g⟩
 | [],_,_::_,_,h=>h.elim
 |.num ..::_,_,[],_,h=>h.elim
 |.num ..::_,_,[_],_,h=>h.elim
 |.c _::_,_,[],_,h=>h.elim
variable {i:LV}
theorem aNW {v:VT}(a:At i b (tA b v).2)(h:iH C w v x):dJ C φ i w (tA b v).1 x:=by
 cases v with
 |one c=>exact Rb h.1 h.2
 |agg d=>have⟨xs,e,hr⟩:=h;exact⟨xs,e,aFE d b xs a hr⟩
theorem Fv {i:LV}:∀(a:List VT) (b:Nat) (c:PH),At i b (eB b a).2->aD (iH C w) a c->aD (dJ C φ i w) (eB b a).1 c
 | [],_,[],_,_=>trivial
 |v::a,b,x::c,d,⟨e,f⟩=>by
  exact⟨aNW d.left e,Fv a _ c d.right f⟩
 | [],_,_::_,_,h=>h.elim
 |_::_,_,[],_,h=>h.elim
theorem aNT {r:RV}(a:At i b (Gc b r).2)(h:RRV C w r x):relT C φ i w (Gc b r).1 x:=by
 cases r with
 |val v=>exact aNW a h
 |tup c=>have⟨xs,e,hr⟩:=h;exact⟨xs,e,Fv c b xs a hr⟩
end
abbrev TE:=List VT->Option (RV×List Prop)
def bD (C:eQ)(f:FuncId)(d:TE):Prop:=dV C.P f/\∀a r p,d a=Y (r,p)->Holds p->∀w (c:PH),aD (iH C w) a c->Calls C.P f c.toArray w λe b=>∃v,e=.returned v/\RRV C b r v/\Below w.heap.size w b
def adapt (a:TE):List (Int×Nat)->List AV->Option (List (Int×Nat)×AT×List Prop×Option bH):=λν c=>
 (gB (zR ν) c).bind λb=>(a b).map λ(r,p)=>((Gc ν.length r).2,(Gc ν.length r).1,p,X)
def lookTE:List (FuncId×TE)->FuncId->Option TE
 | [],_=>X
 |(g,a)::l,f=>bif g==f then Y a else lookTE l f
def aE (l:List (FuncId×TE)):Spec:=λf _ ν _ _ vs=>(lookTE l f).bind λa=>adapt a ν vs
def cK (C:eQ):List (FuncId×TE)->Prop
 | []=>True
 |(f,a)::l=>bD C f a/\cK C l
theorem aII {C:eQ}{W:FuncId}{b:TE}:∀{l:List (FuncId×TE)},cK C l->lookTE l W=Y b->bD C W b
 | [],_,h=>by simp[lookTE]at h
 |(g,t)::l,a,h=>by
  unfold lookTE at h
  cases e:g==W with
  |true=>
   rw[e]at h;cases h
   have:g=W:=by simpa using e
   subst this;exact a.1
  |false=>rw[e]at h;exact aII a.2 h
variable {C:eQ}
theorem dX {v:World}{ψ:LI}{l:List (FuncId×TE)}(j:cK C l):SpecOk C v ψ (aE l):=by
 intro f d ν id q vs o r p n h;have⟨te,h1,h2⟩:=aK h;have⟨hen,hok⟩:=aII j h1;refine⟨hen,λk u c φ w xs _ _ _ _ b=>?_⟩;have⟨ts,h3,h4⟩:=aK h2;have⟨⟨r',p'⟩,h5,h6⟩:=bI h4;simp at h6;obtain⟨rfl,rfl,rfl,rfl⟩:=h6;refine(hok ts r' p' h5 k w xs (Yc (λi x m=>c i x (pV _ _ i x m)) h3 b)).mono ?_;rintro e t⟨a,rfl,hv,g⟩;refine⟨a,rfl,g,aNT ?_ hv⟩;intro i y s;grind
inductive Out where
 |ret (r:RV)
 |br (t:Bool) (a b:Out)
 |need (p:List Prop) (o:Out)
def Out.ok (G:RV->Prop):Out->Prop
 |.ret r=>G r
 |.br t a b=>(t=I->a.ok G)/\(t=J->b.ok G)
 |.need p o=>Holds p/\o.ok G
def rvOf (ν:LV):AT->Option RV
 |.val v=>(zR ν v).map .val
 |.tup a=>(gB (zR ν) a).map .tup
 |_=>X
def outcome:Tr->Option Out
 |.ret r s=>bif clean s then(rvOf s.nums r).map .ret else X
 |.br t a b=>(outcome a).bind λx=>(outcome b).map λy=>.br t x y
 |.need p t=>(outcome t).map (.need p)
 |.stop _ _=>X
def start (b:Func)(a:List VT):AS:=⟨(eB 0 a).1.map .val++r9 (b.ntmps-(eB 0 a).1.length) .fB,[],0,(eB 0 a).2,[]⟩
theorem yM {G:RV->Prop}:∀{g:Tr} {o:Out},outcome g=Y o->o.ok G->g.ok (λr s=>clean s=I/\∃f,rvOf s.nums r=Y f/\G f) (λ_ _=>False)
 |.ret r s,o,h,c=>by
  simp only[outcome]at h
  cases hc:clean s with
  |false=>rw[hc]at h;cases h
  |true=>rw[hc]at h;obtain⟨f,d,rfl⟩:=bI h;exact⟨hc,f,d,c⟩
 |.br t a b,o,h,c=>by
  have⟨x,d,h2⟩:=aK h;obtain⟨y,i,rfl⟩:=bI h2;exact⟨λe=>yM d (c.1 e),λe=>yM i (c.2 e)⟩
 |.need p t,o,h,c=>by
  obtain⟨x,d,rfl⟩:=bI h;exact⟨c.1,yM d c.2⟩
 |.stop _ _,o,h,_=>by cases h
theorem Bh {φ:LI}{w:World}{r:AT}{c:RV}{z:Value}(h:rvOf ν r=Y c)(b:relT C φ ν w r z):RRV C w c z:=by
 cases r with
 |val x=>simp only[rvOf]at h;obtain⟨t,a,rfl⟩:=bI h;exact aQO (λ_ _ h=>h) a b
 |tup f=>simp only[rvOf]at h;obtain⟨d,a,rfl⟩:=bI h;have⟨xs,e,hx⟩:=b;exact⟨xs,e,Yc (λ_ _ h=>h) a hx⟩
 |_=>simp[rvOf]at h
theorem Kq (c:Func)(d:List VT)(w:World):RepW C w (λ_=>X) (λ_=>X) (start c d) w:=
 ⟨λb B a=>(by simp[start,look]at a),λb B k o a=>(by simp[start,look]at a),λb g B f k o h a=>(by simp[start,look]at a),λb B a=>(by simp[start,look]at a),λb _=>rfl,λb k o e=>(by cases e),λk _ _=>rfl,On.refl _ _,λb x e=>e,λb B k o a=>(by simp[start,look]at a)⟩
end Ab
theorem kE:(prog.info? 192).map (λi=>(i.zero,i.size,i.bytes))=Y (Y (.int .u32 0),1,4):=E0
def cG (B:Nat)(w:World)(a:LB)(v:Value):Prop:=w.ownsRow B 192 1 v a.length (a.map (Value.int .u32))
abbrev Lims (w:World)(a:LB)(v:Value):Prop:=cG 0 w a v
variable {s:World}{x:LB}
theorem cG.below {B:Nat}{w:World}{v:Value}(h:cG B w x v)(a:Below w.heap.size w s):cG B s x v:=Wv h a
theorem cG.alloc {B:Nat}{w:World}{xs:LB}{v:Value}(h:cG B w xs v)(o:Obj):cG B (w.alloc o) xs v:=h.below ((Below.refl _ _).alloc O o)
theorem cG.nil (B:Nat)(w:World):cG B w [] (.slice X 0 0):=⟨rfl,Or.inl ⟨rfl,rfl⟩⟩
variable {w k:Nat}{v:World}{z:Value}
theorem cG.cJ {xs:LB}(h:cG w v xs z)(a:k<=w):cG k v xs z:=aHB h a
theorem cG.shape (h:cG w v x z):∃b a,z=.slice b x.length a/\x.length<=a:=by
 rcases h.2 with⟨h,d⟩|⟨g,a,c,h,_,_,hc,_⟩
 .grind
 .grind
variable {p:Nat}
theorem cG.place {a:Option Addr}(h:cG w v x (.slice a k p))(i:0<x.length):∃g,a=Y ⟨g,0,X⟩/\∀j,j<x.length->v.cell? ⟨g,j,X⟩=Y (.int .u32 (Nm.at' x j)):=by
 rcases h.2 with⟨_,f⟩|⟨g,b,c,h,_,d,hc,_,_,l⟩
 .omega
 .cases h;refine⟨g,rfl,λj e=>aB d ?_⟩
  have:(x.map (Value.int .u32))[j]?=Y (.int .u32 (Nm.at' x j)):=by
   simp[Nm.at',r8 e]
  grind
theorem cG.other {b:Nat}(h:cG b v x z){o:Nat}{l:Array Value}{d:TypeId}{m:Nat×Nat}(n:v.heap[k]?=Y (.cells l d m))(p:d≠192)(u:Value):cG b (v.setCell ⟨k,o,X⟩ u) x z:=by
 obtain⟨f,e⟩:=h;refine⟨f,?_⟩
 rcases e with e|⟨g,a,c,hv,i,j,r⟩
 .simp_all
 .refine C3 ⟨g,a,c,hv,i,?_,r⟩;rw[Below.heap_setCell _ _ _ _ ?_]
  .exact j
  .grind
def dI (w:World)(G:Nat)(b:LB):Prop:=∃a,w.heap[G]?=Y (.cells a 192 (0,0))/\a.toList=b.map (Value.int .u32)
theorem dI.cell {v:World}{G:Nat}{x:LB}(h:dI v G x)(j:Nat)(c:j<x.length):v.cell? ⟨G,j,X⟩=Y (.int .u32 (Nm.at' x j)):=by
 obtain⟨a,b,d⟩:=h;refine aB b ?_
 have:(x.map (Value.int .u32))[j]?=Y (.int .u32 (Nm.at' x j)):=by
  simp[Nm.at',r8 c]
 grind
theorem dI.frozen {v:World}{G:Nat}{x:LB}(h:dI v G x)(j:Nat):v.frozen? ⟨G,j,X⟩=J:=by
 obtain⟨a,b,c⟩:=h;exact dP b
theorem dI.set {v:World}{G:Nat}{a:LB}(h:dI v G a)(j:Nat)(x:Int):dI (v.setCell ⟨G,j,X⟩ (.int .u32 x)) G (a.set j x):=by
 obtain⟨b,c,d⟩:=h;refine⟨_,nQ c _,?_⟩
 simp_all
theorem dI.lt {w:World}{G:Nat}(h:dI w G x):G<w.heap.size:=by
 obtain⟨a,b,c⟩:=h;exact cZ b
theorem dI.drew {w:World}{G:Nat}{x:LB}(h:dI w G x):dI w.drew G x:=h
theorem dI.rR {G:Nat}(h:dI v G x)(d:x.length<=100000000000):Lims v x (.slice (Y ⟨G,0,X⟩) x.length x.length):=by
 obtain⟨a,c,b⟩:=h;refine⟨E4,C3 ⟨G,x.length,a,rfl,Nat.zero_le _,c,A5 _,by unfold maxLen;omega,?_,?_⟩⟩
 .rw[<-Array.length_toList,b];simp
 .rw[b];exact List.take_of_length_le E4
theorem cG.jJ {r:Nat}(h:cG w v x (.slice (Y ⟨k,0,X⟩) p r))(j:Nat)(c:j<x.length):v.cell? ⟨k,j,X⟩=Y (.int .u32 (Nm.at' x j)):=by
 obtain⟨a,b,hc⟩:=h.place O
 simp_all
theorem dI.made (w:World)(n:Nat):dI (w.alloc (.cells (madeCells #[.int .u32 0] n) 192)) w.heap.size (r9 n 0):=⟨madeCells #[.int .u32 0] n,by show(w.heap.push _)[w.heap.size]?=_;simp,by rw[toList_madeCells_one];simp⟩
theorem cG.rS (h:cG w v x z){G:Nat}(i:G<w)(u:Value):cG w (v.setCell ⟨G,p,X⟩ u) x z:=by
 obtain⟨d,c⟩:=h;refine⟨d,?_⟩
 rcases c with c|⟨g,a,b,hv,e,f,r⟩
 .simp_all
 .exact C3 ⟨g,a,b,hv,e,by rw[Below.heap_setCell _ _ _ _ (by simp only;omega)];exact f,r⟩
theorem dI.below {w:World}{G:Nat}(h:dI w G x)(d:Below w.heap.size w s):dI s G x:=by
 obtain⟨a,b,c⟩:=h;exact⟨a,by rw[d.block _ (cZ b)];exact b,c⟩
def dA (w:World)(p:List Int->Prop):EW:=λe a=>∃v b,e=.returned v/\p b/\cG w.heap.size a b v/\Below w.heap.size w a
def WhoAt (w:World)(z:Int)(v:Value):Prop:=∃a b,v=.agg #[.bool (decide (z<0)),b]/\Lims w a b/\Nm.Good 4294967296 a/\Nm.val 4294967296 a=z.natAbs
theorem WhoAt.below {w s:World}{n:Int}{v:Value}(h:WhoAt w n v)(f:Below w.heap.size w s):WhoAt s n v:=by
 obtain⟨a,b,c,d,e⟩:=h;exact⟨a,b,c,d.below f,e⟩
theorem WhoAt.alloc {w:World}{n:Int}{v:Value}(h:WhoAt w n v)(o:Obj):WhoAt (w.alloc o) n v:=h.below ((Below.refl _ _).alloc O o)
theorem WhoAt.open {n:Int}(h:WhoAt v n z):∃b c a,z=.agg #[.bool (decide (n<0)),.slice c b.length a]/\Lims v b (.slice c b.length a)/\Nm.Good 4294967296 b/\Nm.val 4294967296 b=n.natAbs:=by
 obtain⟨b,e,f,d,g,i⟩:=h;obtain⟨c,a,rfl,_⟩:=d.shape;grind
theorem WhoAt.other {v:World}{n:Int}{z:Value}(h:WhoAt v n z){w o:Nat}{j:Array Value}{d:TypeId}{m:Nat×Nat}(g:v.heap[w]?=Y (.cells j d m))(i:d≠192)(u:Value):WhoAt (v.setCell ⟨w,o,X⟩ u) n z:=by
 obtain⟨a,b,c,e,f⟩:=h;exact⟨a,b,c,e.other g i u,f⟩
def cN (w:World)(z:Int):EW:=λe a=>∃v,e=.returned v/\WhoAt a z v/\Below w.heap.size w a
theorem yV {z:Int}(a:Nm.Good 4294967296 x)(hv:Nm.val 4294967296 x=z.natAbs)(b:z.natAbs<2^w):x.length<=w:=by
 refine Nm.aK6 E3 a ?_;grind
theorem yR (w:World)(o:Obj):(w.alloc o).heap[w.heap.size]?=Y o:=by show(w.heap.push o)[w.heap.size]?=Y o;simp
theorem aU {a:World}(h:Below w a s)(b:w<=s.heap.size)(o:Obj):Below w a (s.alloc o):=h.alloc b o
theorem cY {o:Obj}(b:k<v.heap.size)(h:v.heap[k]?=Y o)(a:Below v.heap.size v s):s.heap[k]?=Y o:=by rw[a.block k b];exact h
theorem Bs (w:World):Below w.heap.size w w.drew:=⟨rfl,rfl,rfl,A5 _,λ_ _=>rfl⟩
theorem xW (h:Below v.drew.heap.size v.drew s):Below v.heap.size v s:=⟨h.os,h.tape,h.output,h.size,h.block⟩
namespace Ab
def Bits (u:Nat)(z:Int):Prop:=z.natAbs<2^(10000000*u)
variable {x:Int}
theorem eJ {n m:Nat}(a:Bits n x)(h:n<=m):Bits m x:=A6 a (Nat.pow_le_pow_right E3 O)
theorem yU (a:Bits w x):Bits w (-x):=by
 unfold Bits at*;omega
theorem Qn {n:Int}(h:Bits w n):Bits w (n.natAbs:Int):=by
 unfold Bits at*
 simpa using h
theorem mY {w:Nat}{x b:Int}(a:Bits w x)(c:Bits w b):Bits (w+1) (x+b):=by
 exact Go.Proofs.YtnlddnbfoehboaaGreatDoor.eJ (Go.Proofs.YtnlddnbfoehboaaGreatDoor.mY a c) O
variable {b:Int}
theorem aFB (a:Bits w x)(c:Bits w b):Bits (w+1) (x-b):=by
 exact mY a (yU c)
theorem gG {w k:Nat}{x b:Int}(a:Bits w x)(c:Bits k b):Bits (w+k) (x*b):=by
 have h:=Go.Proofs.YtnlddnbfoehboaaGreatDoor.gG a c;rw[<-Nat.mul_add]at h;exact h
theorem Bg (c:Bits w b)(h:x.natAbs<=b.natAbs)(a:w<=k):Bits k x:=eJ (Nat.lt_of_le_of_lt h c) a
theorem zZ (a:Bits w x)(c:Bits k b):Bits (max w k) x/\Bits (max w k) b:=⟨eJ a O,eJ c O⟩
theorem aGV (n:Int):Bits (Nat.log2 n.natAbs+1) n:=by
 exact Go.Proofs.YtnlddnbfoehboaaGreatDoor.eJ (Go.Proofs.YtnlddnbfoehboaaGreatDoor.aGV n) O
variable {n:Nat}
theorem wS {z:Int}(h:Go.Proofs.YtnlddnbfoehboaaGreatDoor.Bits n z)(a:n<=10000000*k):Bits k z:=Go.Proofs.YtnlddnbfoehboaaGreatDoor.eJ h a
def Gy:Bool->World->Int->Value->Prop
 |false,w,z,x=>∃a,Ints w a x/\Nm.Good 10000 a/\Nm.val 10000 a=z.natAbs
 |true,w,z,x=>∃a,Lims w a x/\Nm.Good 4294967296 a/\Nm.val 4294967296 a=z.natAbs
variable {a:PH}
theorem aTh {bt:List TypeId}{W:World}(h:On bt v W){e s:Nat}(m:bt.contains e=J)(l:v.ownsRow w e s z n a):W.ownsRow w e s z n a:=by
 obtain⟨i,f⟩:=l;refine⟨i,?_⟩
 rcases f with f|⟨g,b,c,hv,j,k,r⟩
 .simp_all
 .refine C3 ⟨g,b,c,hv,j,?_,r⟩
  rcases h.blk g _ k with d|⟨d,_⟩
  .exact d
  .simp only[Su]at d
   simp_all
theorem aPG {e s r:Nat}(d:v.ownsRow w e s z r a):One z:=by
 rcases d.2 with⟨rfl,_⟩|⟨g,b,c,rfl,_⟩<;>rfl
noncomputable def mkC (bt:List TypeId)(e:bt.contains 3=J)(f:bt.contains 192=J):eQ where
 P:=prog
 bt:=bt
 cP:=Gy
 bits:=Bits
 qD:=by
  intro k w W z x h c
  cases k with
  |false=>obtain⟨b,a,d⟩:=c;exact⟨b,aTh h e a,d⟩
  |true=>obtain⟨b,a,d⟩:=c;exact⟨b,aTh h f a,d⟩
 rB:=by
  intro k w z x c
  cases k with
  |false=>obtain⟨b,a,_⟩:=c;exact aPG a
  |true=>obtain⟨b,a,_⟩:=c;exact aPG a
def bt0:List TypeId:=[46,210,113,142,117,120,190,125,132,127,228,230,234,338,221,226,224,188,250,105]
noncomputable def Z:eQ:=mkC bt0 E3 E3
theorem mixed:Z.P.follows .mixedOrders=I:=E0
theorem Kf (k:Bool)(w:World):Gy k w 0 (.slice X 0 0):=by
 cases k
 .exact⟨[],IntsB.nil 0 w,(Nm.Good.nil _),by simp[Nm.val]⟩
 .exact⟨[],cG.nil 0 w,(Nm.Good.nil _),by simp[Nm.val]⟩
def dL (k:Bool):List Tok->Option (List Int×Nat)
 | []=>Y ([],0)
 |.num b z n::r=>bif k==b then(dL k r).map λ(a,m)=>(z::a,max n m)else X
 |.c (.bool J)::.c (.lit (.slice X 0 0))::r=>(dL k r).map λ(a,m)=>(0::a,m)
 |_=>X
def mR:List Nat->List Nat->Bool
 | [],[]=>I
 |a::r,b::t=>z8 a b&&mR r t
 |_,_=>J
def aP (k:Bool)(w:World):List Int->List Value->Prop
 | [],[]=>True
 |z::b,x::y::a=>x=.bool (decide (z<0))/\Gy k w z y/\aP k w b a
 |_,_=>False
theorem sD {k:Bool}{w:World}:∀(i:List Tok) (g:LB) (n:Nat) (f:PH),dL k i=Y (g,n)->RT Z w i f->aP k w g f/\∀z∈g,Bits n z
 | [],g,n,f,h,r=>by
  obtain⟨rfl,rfl⟩:=h
  cases f with
  |nil=>exact⟨trivial,λz hz=>by cases hz⟩
  |cons=>exact r.elim
 |.num F z m::i,g,n,f,h,r=>by
  simp only[dL]at h
  cases e:k==F with
  |false=>rw[e]at h;cases h
  |true=>
   rw[e]at h
   have:k=F:=by simpa using e
   subst this;obtain⟨⟨j,A⟩,t,u⟩:=bI h;obtain⟨rfl,rfl⟩:=u
   match f,r with
   |x::y::f,⟨B,p,L,C⟩=>
    obtain⟨q,s⟩:=sD i j A f t C;refine⟨⟨B,p,q⟩,λD hz=>?_⟩;simp at hz
    rcases hz with rfl|hz
    .exact eJ L O
    .exact eJ (s D hz) O
 | [.c c],g,n,f,h,r=>by
  cases c<;>((simp[dL]at h))<;>(rename_i b)
 |.c c::.num _ _ _::i,g,n,f,h,r=>by
  cases c<;>((simp[dL]at h))<;>(rename_i b)
 |.c c::.c d::i,g,n,f,h,r=>by
  cases c<;>try (simp[dL]at h)
  case bool b=>
   cases b with
   |true=>simp[dL]at h
   |false=>
    cases d<;>try (simp[dL]at h)
    case lit v=>
     cases v<;>try (simp[dL]at h)
     case slice o l c=>
      cases o with
      |some a=>simp[dL]at h
      |none=>
       cases l with
       |succ l=>simp[dL]at h
       |zero=>
        cases c with
        |succ c=>simp[dL]at h
        |zero=>
         simp only[dL]at h;obtain⟨⟨j,A⟩,t,u⟩:=bI h;obtain⟨rfl,rfl⟩:=u
         match f,r with
         |x::y::f,⟨_,B,_,p,C⟩=>
          obtain⟨q,s⟩:=sD i j A f t C;have p:=p.1;subst B p;refine⟨⟨rfl,Kf k w,q⟩,λD hz=>?_⟩;simp at hz
          rcases hz with rfl|hz
          .unfold Bits;exact Nat.pow_pos E3
          .exact s D hz
theorem Ij {k:Bool}{v:World}{w:Nat}:∀(a:LB) (b:PH),aP k v a b->(∀z∈a,Bits w z)->RT Z v (a.map λz=>.num k z w) b
 | [],[],_,_=>trivial
 |z::a,x::y::b,⟨d,e,f⟩,c=>⟨d,e,c z E4,Ij a b f λi g=>c i (by simp[g])⟩
 | [],_::_,h,_=>h.elim
 |_::_,[],h,_=>h.elim
 |_::_,[_],h,_=>h.elim
theorem aOl {P:Program}{f:FuncId}{fn:Func}(hf:P.funcs[f]?=Y fn)(hn:(fn.name == "runtime.NumGoroutine")=J)(hb:fn.body.isNone=J):dV P f:=by
 intro xs w
 have hn':¬fn.name = "runtime.NumGoroutine":=by simpa using hn
 have hb':¬fn.body=X:=by intro e;rw[e]at hb;cases hb
 simp[callFunc,hf,hn',hb']
def aG (a:Func):Code:=a.body.getD .skip
structure Fn (f:FuncId) (fn:Func):Prop where
 en:dV Z.P f
 at':Z.P.funcs[f]?=Y fn
 body:fn.body=Y (aG fn)
theorem aZ {f:FuncId}{fn:Func}(hf:prog.funcs[f]?=Y fn)(hn:(fn.name == "runtime.NumGoroutine")=J)(hb:fn.body.isNone=J):Fn f fn:=by
 refine⟨aOl hf hn hb,hf,?_⟩;unfold aG
 cases h:fn.body with
 |none=>rw[h]at hb;cases hb
 |some c=>rfl
theorem bO:bS Z (λ_=>X):=λf a h=>by cases h
def jG (x:Int):Int:=Nm.cmp x 0
def iT:VT->Option (Int×List Prop)
 |.one (.int .i64 n)=>bif decide (n.natAbs<1000000000000000000)then Y (n,[])else X
 |.one (.sint .i64 n)=>Y (n,[n.natAbs<1000000000000000000])
 |_=>X
def uQ (k:Bool)(F:List Int->Option (List Int)):TE:=λb=>
 (gB iT b).bind λa=>(F (a.map (·.1))).map λout=>(.val (.agg (out.map λz=>.num k z 1)),(a.map (·.2)).flatten)
def wB (k:Bool):Out->Option (List Int×List Prop)
 |.ret (.val (.agg a))=>(dL k a).map λp=>(p.1,[])
 |.need p o=>(wB k o).map λ(b,q)=>(b,p++q)
 |_=>X
theorem iR {p:Prop}{a:List Prop}(h:p)(b:Holds a):Holds (p::a):=by
 intro q hq;simp only[o9]at hq
 rcases hq with rfl|hq
 .exact h
 .exact b q hq
def tsI (a:List (Int×List Prop)):List VT:=(a.map (·.1)).map λz=>.one (.sint .i64 z)
theorem aOQ {w:World}:∀(d:List VT) (c:List (Int×List Prop)) (b:PH),gB iT d=Y c->Holds (c.map (·.2)).flatten->aD (iH Z w) d b->aD (iH Z w) (tsI c) b/\∀x∈c,x.1.natAbs<1000000000000000000
 | [],c,b,h,_,r=>by
  simp[gB]at h;subst h
  cases b with
  |cons=>exact r.elim
  |nil=>exact⟨trivial,λx p=>by cases p⟩
 |t::d,c,b,h,i,r=>by
  obtain⟨x,a,l⟩:=aK h;obtain⟨g,m,rfl⟩:=bI l
  match b,r with
  |v::b,⟨j,s⟩=>
   obtain⟨k,u⟩:=aOQ d g b m (λq o=>i q (by simp only[j8,List.flatten_cons,q8];exact C3 o)) s
   have f:iH Z w (.one (.sint .i64 x.1)) v/\x.1.natAbs<1000000000000000000:=by
    unfold iT at a;split at a
    .rename_i n
     cases e:decide (n.natAbs<1000000000000000000)with
     |false=>rw[e]at a;cases a
     |true=>rw[e]at a;cases a;exact⟨⟨rfl,j.2⟩,by simpa using e⟩
    .cases a;exact⟨⟨rfl,j.2⟩,i _ E4⟩
    .cases a
   refine⟨⟨f.1,k⟩,λy z=>?_⟩;grind
theorem aPF {k:Bool}{G:RV->Prop}:∀{o:Out} {c:LB} {a:List Prop},wB k o=Y (c,a)->Holds a->(∀b,(dL k b).map (·.1)=Y c->G (.val (.agg b)))->o.ok G
 |.ret (.val (.agg b)),c,a,h,_,f=>by
  obtain⟨p,d,e⟩:=bI h;cases e;exact f b (by rw[d];rfl)
 |.need p o,c,a,h,i,f=>by
  obtain⟨⟨z,q⟩,d,e⟩:=bI h;cases e;exact⟨λx g=>i x (by simp[g]),aPF d (λx g=>i x (by simp[g])) f⟩
 |.ret (.val (.one _)),_,_,h,_,_=>by cases h
 |.ret (.tup _),_,_,h,_,_=>by cases h
 |.br _ _ _,_,_,h,_,_=>by cases h
theorem uB {k:Bool}{l:List (FuncId×TE)}(A:cK Z l){W:FuncId}{g:Func}(b:Fn W g){F:List Int->Option (List Int)}
  (h:∀a out,F a=Y out->∃t,((run Z (aE l) (λ_=>X) (aL Z (aE l)) (λ_=>J) 300 [.code (aG g),.top g] (start g (a.map λz=>.one (.sint .i64 z)))).bind outcome).bind (wB k)=Y (out,t)/\((∀z∈a,z.natAbs<1000000000000000000)->Holds t))
  (S:∀a out,F a=Y out->(∀z∈a,z.natAbs<1000000000000000000)->∀z∈out,Bits 1 z):bD Z W (uQ k F):=by
 refine⟨b.en,λd r p c T w B q=>?_⟩;obtain⟨n,D,L⟩:=aK c;obtain⟨out,x,M⟩:=bI L;cases M;obtain⟨C,g2⟩:=aOQ d n B D T q;obtain⟨t,q1,q2⟩:=h _ out x;obtain⟨o,o1,o2⟩:=aK q1;obtain⟨tr,t1,t2⟩:=aK o1
 have j:∀z∈n.map (·.1),z.natAbs<1000000000000000000:=by
  grind
 have R:At (eB 0 (tsI n)).2 0 (eB 0 (tsI n)).2:=λi y hy=>by rw[A4];exact hy
 refine kQ (ψ:=λ_=>X) (φ:=λ_=>X) (dX A) bO (uH mixed (dX A)) b.at' b.body rfl (Fv _ 0 B R C) (Kq g _ w) 300 t1 _ (λ_ _=>False) (λ_ _ h=>h.elim)
  (yM (G:=λr=>∃d,r=.val (.agg d)/\(dL k d).map (·.1)=Y out) t2 (aPF o2 (q2 j) λd c=>⟨d,rfl,c⟩)) ?_
 rintro r0 s φ v w'⟨hc,r',N,tk,rfl,P⟩ U hw;obtain⟨⟨a,m⟩,e1,e2⟩:=bI P;subst e2;obtain⟨u,e,r1⟩:=Bh N U;obtain⟨k1,_⟩:=sD tk a m u e1 r1;exact⟨v,rfl,⟨u,e,Ij a u k1 (S _ a x j)⟩,RepF.below hw hc⟩
theorem iX {z:Int}(h:z.natAbs<1000000000000000000):Bits 1 z:=wS (n:=60) (A6 h E3) E3
def cF (k:Bool):Nat->Nat->List AC
 |_,0=>[]
 |i,n+1=>.sg i::.dg k i::cF k (i+1) n
def iE (n:Nat):List AC:=r9 n .any
def ext (cs:List AC)(ty:TypeId):bH:=⟨cs,ty,J,I,J⟩
def yJ (C:eQ)(φ:LI)(ν:LV)(w:World)(k o:Nat)(ty:TypeId)(cs:List AC):Prop:=∃b c a:PH,w.heap[k]?=Y (.cells (b++c++a).toArray ty (0,0))/\b.length=o/\aD (relC C φ ν w) cs c
theorem Es {φ:LI}{ν:LV}{w:World}:∀(n:Nat) (a:PH),a.length=n->(∀y∈a,One y)->aD (relC Z φ ν w) (iE n) a
 |0,[],_,_=>trivial
 |n+1,y::a,b,h=>⟨h y E4,Es n a (by simpa using b) λz c=>h z (by simp[c])⟩
 |0,_::_,h,_=>by simp at h
 |_+1,[],h,_=>by simp at h
variable {w:World}{φ:LI}{s:AS}
theorem qW {R:eQ}(hd:s.dirty=[])(f:∀b B,look s.boxes b=Y B->B.own=J/\B.ro=I/\B.tip=J/\∃k o,φ b=Y (k,o)/\yJ R φ s.nums w k o B.ty B.cs)(l:∀b,s.next<=b->φ b=X)(j:∀b k o,φ b=Y (k,o)->k<w.heap.size):RepW R w φ φ s w:=by
 refine⟨λb B d=>?_,λb B k o d q=>?_,λb p B n k o t c a h i=>?_,λb B d r=>?_,l,j,λk _ _=>rfl,On.refl _ _,λb x e=>e,λb B k o c a=>(by rw[(f b B c).1]at a;cases a)⟩
 .obtain⟨_,_,_,k,o,c,m,u,g,a,h,i⟩:=f b B d;grind
 .grind
 .grind
 .grind
theorem pZ {sp:Spec}{bodies:AW}{W:FuncId}{c:Func}(F:Fn W c){vs:List AV}{args:PH}(a:SpecOk Z w φ sp)(d:bS Z bodies)(l:s.tmps=vs.map .val++r9 (c.ntmps-vs.length) .fB)(hv:aD (dJ Z φ s.nums w) vs args)(o:RepW Z w φ φ s w)
   {j:Tr} (m:run Z sp bodies (aL Z sp) (λ_=>J) n [.code (aG c),.top c] s=Y j) (G:AT->AS->Prop) (e:j.ok G λ_ _=>False) {R:EW} (k:∀r g b v i,G r g->relT Z b g.nums i r v->RepW Z w φ b g i->R (.returned v) i):Calls prog W args.toArray w R:=
 kQ a d (uH mixed a) F.at' F.body l hv o n m G (λ_ _=>False) (λ_ _ h=>h.elim) e k
def Br:Tr->Option Bool
 |.ret (.val (.one (.bool b))) s=>bif clean s then Y b else X
 |.ret (.val (.one (.sbool b))) s=>bif clean s then Y b else X
 |.br t x y=>(Br x).bind λa=>(Br y).map λb=>bif t then a else b
 |_=>X
def isB (b:Bool)(r:AT)(s:AS):Prop:=clean s=I/\(r=.val (.one (.bool b))\/r=.val (.one (.sbool b)))
theorem aJK:∀{a:Tr} {b:Bool},Br a=Y b->a.ok (isB b) λ_ _=>False
 |.ret (.val (.one c)) s,b,h=>by
  cases c<;>simp only[Br]at h<;>try cases h
  .cases hc:clean s with
   |false=>rw[hc]at h;cases h
   |true=>rw[hc]at h;cases h;exact⟨hc,Or.inl rfl⟩
  .cases hc:clean s with
   |false=>rw[hc]at h;cases h
   |true=>rw[hc]at h;cases h;exact⟨hc,C3 rfl⟩
 |.br t x y,b,h=>by
  obtain⟨p,d,f⟩:=aK h;obtain⟨q,g,rfl⟩:=bI f;exact⟨λe=>by subst e;exact aJK d,λe=>by subst e;exact aJK g⟩
 |.ret (.val (.agg _)) _,_,h=>by cases h
 |.ret .top _,_,h=>by cases h
 |.ret .fB _,_,h=>by cases h
 |.ret (.tup _) _,_,h=>by cases h
 |.ret (.lU _ _) _,_,h=>by cases h
 |.need _ _,_,h=>by cases h
 |.stop _ _,_,h=>by cases h
theorem aUC {a:World}{o:LI}{b:Bool}{r:AT}(h:isB b r s)(c:relT Z o s.nums a r z)(d:RepW Z w φ o s a):(Ending.returned z=.returned (.bool b))/\Below w.heap.size w a:=by
 obtain⟨hc,rfl|rfl⟩:=h
 .exact⟨by rw[c],RepF.below d hc⟩
 .exact⟨by rw[c],RepF.below d hc⟩
theorem qA {k:Bool}{φ:LI}{v:World}{n:Nat}:∀(a:LB) (b:PH) (i:Nat) (ν:LV),aP k v a b->(∀z∈a,Bits n z)->(∀(j:Nat) (z:Int),a[j]?=Y z->ν[i+j]?=Y (z,n))->aD (relC Z φ ν v) (cF k i a.length) b
 | [],[],_,_,_,_,_=>trivial
 |z::a,x::y::b,i,ν,⟨l,m,o⟩,e,c=>by
  have d:=c 0 z rfl;refine⟨⟨z,n,d,l⟩,⟨z,n,d,m,e z E4⟩,qA a b (i+1) ν o (λg f=>e g (by simp[f])) λj g f=>?_⟩;rw[show i+1+j=i+(j+1) by omega]
  simp_all
 | [],_::_,_,_,h,_,_=>h.elim
 |_::_,[],_,_,h,_,_=>h.elim
 |_::_,[_],_,_,h,_,_=>h.elim
def gI (a b:Spec):Spec:=λf d ν id c e=>match a f d ν id c e with|some x=>Y x|none=>b f d ν id c e
theorem Fp {R:eQ}{q:LI}{a b:Spec}(k:SpecOk R v q a)(l:SpecOk R v q b):SpecOk R v q (gI a b):=by
 intro f d ν id i j g r p c h;unfold gI at h
 cases e:a f d ν id i j with
 |some x=>rw[e]at h;cases h;exact k f d ν id i j g r p c e
 |none=>rw[e]at h;exact l f d ν id i j g r p c h
theorem pW {k:Bool}{v:World}:∀(b:LB) (a:PH),aP k v b a->a.length=2*b.length
 | [],[],_=>rfl
 |_::b,_::_::a,⟨_,_,h⟩=>by
  have:=pW b a h;grind
 | [],_::_,h=>h.elim
 |_::_,[],h=>h.elim
 |_::_,[_],h=>h.elim
theorem aH8 {c d:Type}{R:c->d->Prop}:∀(n:Nat) (a:List c) (b:List d),aD R a b->aD R (a.drop n) (b.drop n)
 |0,_,_,h=>h
 |_+1,[],[],_=>trivial
 |n+1,_::a,_::b,h=>aH8 n a b h.2
 |_+1,[],_::_,h=>h.elim
 |_+1,_::_,[],h=>h.elim
theorem aH9 {c d:Type}{R:c->d->Prop}:∀(n:Nat) (a:List c) (b:List d),aD R a b->aD R (a.take n) (b.take n)
 |0,_,_,_=>trivial
 |_+1,[],[],_=>trivial
 |n+1,_::a,_::b,h=>⟨h.1,aH9 n a b h.2⟩
 |_+1,[],_::_,h=>h.elim
 |_+1,_::_,[],h=>h.elim
theorem Wj {c d:Type}{R:c->d->Prop}:∀(a:List c) (b:List d),aD R a b->a.length=b.length
 | [],[],_=>rfl
 |_::a,_::b,h=>by simp[Wj a b h.2]
 | [],_::_,h=>h.elim
 |_::_,[],h=>h.elim
def Hw (t:Bool):List Int->List Int->Option (List Int)
 | [],[]=>Y []
 |a::x,b::y=>(Hw t x y).map ((bif t then a else b)::·)
 |_,_=>X
theorem aKE {t:Bool}:∀{x y z:LB},Hw t x y=Y z->z=bif t then x else y
 | [],[],z,h=>by cases h;cases t<;>rfl
 |a::x,b::y,z,h=>by
  obtain⟨r,c,rfl⟩:=bI h;have:=aKE c
  cases t<;>simp_all
 | [],_::_,_,h=>by cases h
 |_::_,[],_,h=>by cases h
end Ab
end Go.Proofs.YtnlddnbfoehboaaGreatDoor
