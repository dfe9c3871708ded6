import Derived.Test.YtpdflaaamaokbaaGreatDoorCCh01
import Derived.Test.YtpdflaaamaokbaaGreatDoorRows
import Derived.WalkKit
import Derived.WalkSpells
import Derived.WalkLawsBesides
set_option linter.all false
set_option maxRecDepth 100000
set_option maxHeartbeats 2000000
namespace Go.Proofs.YtpdflaaamaokbaaGreatDoor
open List renaming mem_cons->j8,mem_singleton->j9,map_congr_left->k8,mem_map->k9,mem_flatMap->l4,getD->l5,mem_append->l7,mem_filterMap->l8,all_eq_true->l9,filter_cons->n4,length_cons->n5,range->n6,getElem?_eq_getElem->n7,any_eq_true->n8,getElem?_append_right->n9
open Bool renaming false_or->o8,or_eq_true->o9,and_eq_true->p7,not_true->p8,not_false->p9
open _root_.Array renaming getElem?_eq_some_iff->q7,getElem?_eq_getElem->q8,replicate->q9,getD_eq_getD_getElem?->s4,getElem?_eq_none->s8,getElem?_toList->s9
open Go.Op renaming operands->u7
open Nat renaming add_zero->u9,le_refl->w9,ble->z6,strongRecOn->z7,zero_add->z8,le_trans->A0
open Option.some renaming inj->A5,injEq->A6
open Prod.mk renaming injEq->A7
open Option renaming map_some->A8,toList_some->A9,bind_some->B0
open Go.Region renaming binds->B6
open Go.Call renaming operands->B7
open Or renaming inr->B8
open Go.Proofs.Tryz
open Go.RowKit
namespace Ab
def fT:AT->List Nat
 |.val (.one (.ptr b _))=>[b]
 |.val (.one (.slc b _ _ _))=>[b]
 |_=>[]
def fC (b:Operand->AT):Op->List Nat
 |.load _ a=>fT (b a)
 |.store _ a _=>fT (b a)
 |.call { callee:=.builtin .append,args:=args,..}=>args.toList.flatMap λx=>fT (b x)
 |_=>[]
def reads (all:Array Oper)(o:Oper):List Tmp:=
 (o.op.operands.toList.filterMap λ|.tmp t=>some t|_=>none)++(match o.guard with|some (g,_)=>((all[g]?).bind (·.dst)).toList|none=>[])
abbrev Tb:=List (Oper×gH×List Nat)
def lY (L:Nat->Bool):Nat->Tb->List AT->List AT
 |_,[],a=>a
 |k,(o,e,_)::r,a=>lY L (k+1) r (bif L k then putT a o.dst e.res else a)
def bxL (L:Nat->Bool)(n0:Nat):Nat->Tb->(Nat->Option bL)->(Nat->Option bL)
 |_,[],a=>a
 |k,(_,e,_)::r,a=>bxL L n0 (k+1) r (bif L k then iN (n0+k) e a else a)
def qN (n0:Nat):Nat->Tb->List (Nat×bL)->List (Nat×bL)
 |_,[],l=>l
 |k,(_,e,_)::r,l=>qN n0 (k+1) r (xR (n0+k) e l)
def Bx (C:fE)(sp:Spec)(f:Nat->Option bL)(all:Array Oper)(n0:Nat):Nat->List Oper->List AT->List (Nat×bL)->List (Int×Nat)->Option (Tb×List (Int×Nat)×List Prop)
 |_,[],_,_,ν=>some ([],ν,[])
 |k,o::r,a,l,ν=>(qS C sp f all a (look l) ν (n0+k) o).bind λ(e,b,p)=>
  (Bx C sp f all n0 (k+1) r (putT a o.dst e.res) (xR (n0+k) e l) (ν++b)).map λ(T,d,q)=>((o,e,fC (iW a) o.op)::T,d,p++q)
def eO (id:Nat)(e:gH):NU:=
 match e.new with
 |some _=>id::e.app.toList
 |none=>(e.nB.map (·.1)).toList
theorem aFZ (id:Nat)(e:gH)(l:List (Nat×bL))(hid:look l id=none):look (xR id e l)=iN id e (look l):=by
 unfold xR iN
 cases e.new with
 |some B=>
  simp only
  cases e.app with
  |none=>exact Dm _ _ _
  |some b=>
   simp only[mG]
   cases a:look l b with
   |none=>simp only;exact Dm _ _ _
   |some O=>
    simp only
    have d:b≠id:=by rintro rfl;rw[hid]at a;cases a
    rw[aHi (B:=O) (by rw[Dm,mU d];exact a),Dm]
 |none=>
  simp only
  cases e.nB with
  |none=>rfl
  |some p=>
   obtain⟨b,cs⟩:=p;simp only
   cases h:look l b with
   |some B=>exact aF0 h cs
   |none=>
    funext x;rw[aHh]
    by_cases ex:x=b
    .subst ex;rw[if_pos rfl,h];simp only;exact h.symm
    .rw[if_neg ex]
variable {a:Nat->Option bL}{w b:Nat}
theorem aLI {D:bL}{old:FF}(d:b≠w)(f:old≠some b):mG a w D old b=a b:=by
 unfold mG
 cases old with
 |none=>exact mU d
 |some o=>
  have g:b≠o:=λe=>f (by rw[e])
  simp only
  cases a o with
  |none=>exact mU d
  |some O=>simp only;rw[mU g];exact mU d
theorem aMT {d:Nat->Option bL}{D:bL}{old:FF}(h:b=w\/old=some b)(g:a b=d b):mG a w D old b=mG d w D old b:=by
 unfold mG
 cases old with
 |none=>
  rcases h with rfl|h
  .simp only[sD]
  .cases h
 |some o=>
  simp only
  by_cases f:b=o
  .subst f;rw[g]
   cases d b with
   |none=>simp only[setB];split;rfl;exact g
   |some O=>simp only;rw[sD,sD]
  .have i:b=w:=by
    rcases h with h|h
    .exact h
    .exact absurd (A5 h).symm f
   subst i
   have e:∀a:Nat->Option bL,(match a o with|some B=>setB (setB a b D) o {B with tip:=false} |none=>setB a b D) b=some D:=by
    intro a
    cases a o with
    |none=>exact sD _ _ _
    |some O=>simp only;rw[mU f];exact sD _ _ _
   exact(e a).trans (e d).symm
variable {id:Nat}{e:gH}
theorem Nj (h:b∉eO id e):iN id e a b=a b:=by
 unfold eO at h;unfold iN
 cases d:e.new with
 |some B=>
  simp only[d,j8,not_or]at h ⊢;exact aLI h.1 (λf=>h.2 (by rw[f];simp))
 |none=>
  simp only[d]at h ⊢
  cases g:e.nB with
  |none=>rfl
  |some p=>
   obtain⟨c,cs⟩:=p;simp only[g,A8,A9,j9]at h ⊢
   cases a c with
   |none=>rfl
   |some B=>simp only;exact mU h
theorem aIk {f:Nat->Option bL}(h:b∈eO id e)(d:f b=a b):iN id e f b=iN id e a b:=by
 unfold eO at h;unfold iN
 cases g:e.new with
 |some B=>
  simp only[g,j8]at h ⊢;refine aMT ?_ d
  rcases h with h|h
  .exact Or.inl h
  .exact B8 (by simpa using h)
 |none=>
  simp only[g]at h ⊢
  cases i:e.nB with
  |none=>simp[i]at h
  |some p=>
   obtain⟨c,cs⟩:=p;simp only[i,A8,A9,j9]at h ⊢;subst h;rw[d]
   cases a b with
   |none=>simp only;exact d
   |some B=>simp only;rw[sD,sD]
theorem aHw (a:List AT)(d:Option Tmp)(v:AT):(putT a d v).length=a.length:=by cases d<;>simp[putT]
theorem Zk {a:List AT}{d:Option Tmp}{v:AT}{t:Nat}(h:d≠some t):(putT a d v)[t]?=a[t]?:=by
 cases d with
 |none=>rfl
 |some d=>simp only[putT];rw[List.getElem?_set_ne (λe=>h (by rw[e]))]
theorem aGd {b a:List AT}{v:AT}{t:Nat}(h:b.length=a.length):(putT b (some t) v)[t]?=(putT a (some t) v)[t]?:=by
 simp[putT,List.getElem?_set,h]
theorem aPh {L:Nat->Bool}:∀(T:Tb) (k:Nat) (a:List AT),(lY L k T a).length=a.length
 | [],_,_=>rfl
 |(o,e,_)::r,k,a=>by
  unfold lY;rw[aPh r];cases L k
  .rfl
  .exact aHw _ _ _
theorem Un {L L':Nat->Bool}{t:Nat}:∀(T:Tb) (k:Nat) (b a:List AT),b.length=a.length->b[t]?=a[t]?->(∀(i:Nat) x,T[i]?=some x->x.1.dst=some t->L (k+i)=L' (k+i))->(lY L k T b)[t]?=(lY L' k T a)[t]?
 | [],_,_,_,_,h,_=>h
 |(o,e,c)::r,k,b,a,g,h,f=>by
  unfold lY;refine Un r (k+1) _ _ ?_ ?_ (λi x n d=>by have:=f (i+1) x (by simpa using n) d;rw[show k+1+i=k+(i+1) by omega];exact this)
  .cases L k<;>cases L' k<;>simp[aHw,g]
  .by_cases d:o.dst=some t
   .have:=f 0 (o,e,c) rfl d;rw[u9]at this;rw[this,d];cases L' k
    .exact h
    .exact aGd g
   .have j:(bif L k then putT b o.dst e.res else b)[t]?=b[t]?:=by cases L k;rfl;exact Zk d
    have l:(bif L' k then putT a o.dst e.res else a)[t]?=a[t]?:=by cases L' k;rfl;exact Zk d
    rw[j,l,h]
variable {L:Nat->Bool}
theorem aUd {t:Nat}:∀(T:Tb) (k:Nat) (a:List AT),(∀(i:Nat) x,T[i]?=some x->x.1.dst=some t->L (k+i)=false)->(lY L k T a)[t]?=a[t]?:=by
 intro T k a h;have:=Un (L:=L) (L':=λ_=>false) (t:=t) T k a a rfl rfl h;rw[this];clear this h
 induction T generalizing k with
 |nil=>rfl
 |cons x r b=>obtain⟨o,e,c⟩:=x;unfold lY;exact b (k+1)
theorem aJ9 {L:Nat->Bool}:∀(T:Tb) (k:Nat) (a:List AT),(∀i,k<=i->L i=false)->lY L k T a=a
 | [],_,_,_=>rfl
 |(o,e,c)::r,k,a,h=>by
  unfold lY;rw[h k (w9 _)]
  exact aJ9 r (k+1) a λi hi=>h i (by omega)
theorem aSb {L:Nat->Bool}{t:Nat}:∀(T:Tb) (j k:Nat) (b:List AT) (x:Oper×gH×List Nat),T[j]?=some x->x.1.dst=some t->L (k+j)=true->(∀(i:Nat) y,i≠j->T[i]?=some y->y.1.dst≠some t)->(lY L k T b)[t]?=(putT b (some t) x.2.1.res)[t]?
 |(o,e,c)::r,0,k,b,x,a,f,d,g=>by
  simp at a;subst a;unfold lY;rw[u9]at d;rw[d];simp only[cond_true];rw[aUd r (k+1) _ (λi y h l=>absurd l (g (i+1) y (by omega) (by simpa using h)))];simp only at f;rw[f]
 |(o,e,c)::r,j+1,k,b,x,a,f,d,g=>by
  unfold lY;have n:o.dst≠some t:=g 0 (o,e,c) (by omega) rfl;rw[aSb r j (k+1) _ x (by simpa using a) f (by rw[show k+1+j=k+(j+1) by omega];exact d) (λi y hi h=>g (i+1) y (by omega) (by simpa using h))];refine aGd ?_;cases L k
  .rfl
  .exact aHw _ _ _
 | [],j,k,b,x,a,_,_,_=>by simp at a
variable {T:Tb}
theorem aWH {b:List AT}{x:Oper×gH×List Nat}(f:T[w]?=some x)(h:L w=false)(g:∀(i:Nat) y t,i≠w->T[i]?=some y->x.1.dst=some t->y.1.dst≠some t):lY (λi=>L i||i==w) 0 T b=putT (lY L 0 T b) x.1.dst x.2.1.res:=by
 apply List.ext_getElem?;intro t
 by_cases a:x.1.dst=some t
 .rw[aSb T w 0 b x f a (by simp) (λi y hi d=>g i y t hi d a),a];exact aGd (aPh _ _ _).symm
 .rw[Zk a]
  refine Un T 0 b b rfl rfl λi y d e=>?_
  have:i≠w:=by rintro rfl;rw[f]at d;cases d;exact a e
  simp[this]
theorem Nu {L L':Nat->Bool}{n0 b:Nat}:∀(T:Tb) (k:Nat) (d a:Nat->Option bL),d b=a b->(∀(i:Nat) x,T[i]?=some x->b∈eO (n0+(k+i)) x.2.1->L (k+i)=L' (k+i))->bxL L n0 k T d b=bxL L' n0 k T a b
 | [],_,_,_,h,_=>h
 |(o,e,c)::r,k,d,a,h,g=>by
  unfold bxL;refine Nu r (k+1) _ _ ?_ (λi x n f=>by have:=g (i+1) x (by simpa using n) (by rw[show k+(i+1)=k+1+i by omega];exact f);rw[show k+1+i=k+(i+1) by omega];exact this)
  by_cases f:b∈eO (n0+k) e
  .have:=g 0 (o,e,c) rfl f;rw[u9]at this;rw[this];cases L' k
   .exact h
   .exact aIk f h
  .have j:(bif L k then iN (n0+k) e d else d) b=d b:=by cases L k;rfl;exact Nj f
   have l:(bif L' k then iN (n0+k) e a else a) b=a b:=by cases L' k;rfl;exact Nj f
   rw[j,l,h]
theorem Vm {L:Nat->Bool}{n0:Nat}:∀(T:Tb) (k:Nat) (a:Nat->Option bL),(∀i,k<=i->L i=false)->bxL L n0 k T a=a
 | [],_,_,_=>rfl
 |(o,e,c)::r,k,a,h=>by
  unfold bxL;rw[h k (w9 _)]
  exact Vm r (k+1) a λi hi=>h i (by omega)
variable {n0:Nat}
theorem aM7 (T:Tb)(k:Nat)(a:Nat->Option bL)(h:∀(i:Nat) x,T[i]?=some x->b∈eO (n0+(k+i)) x.2.1->L (k+i)=false):bxL L n0 k T a b=a b:=by
 rw[Nu (L':=λ_=>false) T k a a rfl h,Vm T k a λ_ _=>rfl]
theorem aRs {L:Nat->Bool}{n0 j:Nat}:∀(T:Tb) (k:Nat) (a:Nat->Option bL) (i:Nat) (x:Oper×gH×List Nat),T[i]?=some x->j=k+i->L j=false->(∀(m:Nat) y b,i<m->T[m]?=some y->b∈eO (n0+j) x.2.1->b∈eO (n0+(k+m)) y.2.1->L (k+m)=false)->bxL (λi=>L i||i==j) n0 k T a=iN (n0+j) x.2.1 (bxL L n0 k T a)
 |(o,e,c)::r,k,a,0,x,f,l,h,p=>by
  simp at f;subst f;simp only[u9]at l;subst l;unfold bxL;simp only[h,o8,beq_self_eq_true,cond_true,cond_false]
  have d:bxL (λi=>L i||i==j) n0 (j+1) r (iN (n0+j) e a)=bxL L n0 (j+1) r (iN (n0+j) e a):=by
   funext b
   refine Nu r (j+1) _ _ rfl λm y _ _=>?_
   have:¬j+1+m=j:=by omega
   simp[this]
  rw[d];funext b
  by_cases g:b∈eO (n0+j) e
  .have n:∀a,bxL L n0 (j+1) r a b=a b:=λa=>aM7 r (j+1) a λm y q w=>by
    have:=p (m+1) y b (by omega) (by simpa using q) g (by rw[show j+(m+1)=j+1+m by omega];exact w);rw[show j+1+m=j+(m+1) by omega];exact this
   rw[n];exact aIk g (n a).symm
  .rw[Nj g]
   exact Nu r (j+1) _ _ (Nj g) λ_ _ _ _=>rfl
 |(o,e,c)::r,k,a,i+1,x,f,l,h,p=>by
  unfold bxL
  have v:¬k=j:=by omega
  have:(L k||k==j)=L k:=by simp[v]
  rw[this]
  exact aRs r (k+1) _ i x (by simpa using f) (by omega) h λm y b n q s u=>by
   have:=p (m+1) y b (by omega) (by simpa using q) s (by rw[show k+(m+1)=k+1+m by omega];exact u);rw[show k+1+m=k+(m+1) by omega];exact this
 | [],k,a,i,x,f,_,_,_=>by simp at f
theorem aSa {L:Nat->Bool}:∀(T:Tb) (k:Nat) (a:List AT),(∀i,i<T.length->L (k+i)=true)->lY L k T a=lY (λ_=>true) k T a
 | [],_,_,_=>rfl
 |(o,e,c)::r,k,a,h=>by
  unfold lY;rw[show L k=true from h 0 (by simp)]
  exact aSa r (k+1) _ λi hi=>by have:=h (i+1) (by simpa using hi);rw[show k+1+i=k+(i+1) by omega];exact this
def zH (l:List (Nat×bL))(n:Nat):Prop:=∀b,n<=b->look l b=none
variable {l:List (Nat×bL)}
theorem aK1 {k:Nat}(h:zH l (n0+k)):zH (xR (n0+k) e l) (n0+(k+1)):=by
 intro b g;rw[aFZ _ _ _ (h _ (w9 _))]
 by_cases ht:b∈eO (n0+k) e
 .-- an old box: there is none
  unfold eO at ht;unfold iN
  cases a:e.new with
  |some B=>
   rw[a]at ht;simp only[j8]at ht
   rcases ht with ht|ht
   .omega
   .have f:e.app=some b:=by simpa using ht
    simp only[f,mG,h b (by omega)];rw[mU (by omega)];exact h b (by omega)
  |none=>
   rw[a]at ht;simp only at ht ⊢
   cases d:e.nB with
   |none=>rw[d]at ht;simp at ht
   |some p=>
    obtain⟨c,cs⟩:=p;rw[d]at ht;simp at ht;subst ht;simp only[h b (by omega)]
 .rw[Nj ht];exact h b (by omega)
theorem aRt {L:Nat->Bool}{n0:Nat}:∀(T:Tb) (k:Nat) (l:List (Nat×bL)),zH l (n0+k)->(∀i,i<T.length->L (k+i)=true)->bxL L n0 k T (look l)=look (qN n0 k T l)
 | [],_,_,_,_=>rfl
 |(o,e,c)::r,k,l,a,h=>by
  unfold bxL qN;rw[show L k=true from h 0 (by simp)];simp only[cond_true];rw[<-aFZ _ _ _ (a _ (w9 _))]
  exact aRt r (k+1) _ (aK1 a) λi hi=>by have:=h (i+1) (by simpa using hi);rw[show k+1+i=k+(i+1) by omega];exact this
theorem aR9 {L:fE}{sp:Spec}{B:Nat->Option bL}{all:Array Oper}{n0:Nat}{l:LV}:∀(os:List Oper) (k:Nat) (b:List AT) (a:List (Nat×bL)) (ν:LV) (T:Tb) (p:List Prop),Bx L sp B all n0 k os b a ν=some (T,l,p)->zH a (n0+k)->Holds p->
  T.length=os.length/\(∀(i:Nat) (x:Int×Nat),ν[i]?=some x->l[i]?=some x)/\∀(j:Nat) (x:Oper×gH×List Nat),T[j]?=some x->os[j]?=some x.1/\∃f g q,Holds q/\(∀(i:Nat) (y:Int×Nat),(f++g)[i]?=some y->l[i]?=some y)/\
   qS L sp B all (lY (λi=>decide (i<k+j)) k T b) (bxL (λi=>decide (i<k+j)) n0 k T (look a)) f (n0+(k+j)) x.1=some (x.2.1,g,q)/\x.2.2=fC (iW (lY (λi=>decide (i<k+j)) k T b)) x.1.op
 | [],k,b,a,ν,T,p,h,r,v=>by
  simp only[Bx,A6,A7]at h;obtain⟨rfl,rfl,rfl⟩:=h;exact⟨rfl,λ_ _ h=>h,λj x d=>by simp at d⟩
 |o::os,k,b,a,ν,T,p,h,r,v=>by
  unfold Bx at h;obtain⟨⟨e,w,q⟩,H,I⟩:=aS h;obtain⟨⟨n,D,R⟩,J,A⟩:=bU I;simp only[A7]at A;obtain⟨rfl,rfl,rfl⟩:=A;obtain⟨E,z,F⟩:=aR9 os (k+1) _ _ _ n R J (aK1 r) (λx d=>v x (by simp[d]));refine⟨by simp[E],λi x d=>z i x (sH _ _ i x d),λj x d=>?_⟩
  cases j with
  |zero=>
   simp at d;subst d
   have s:lY (λi=>decide (i<k+0)) k ((o,e,fC (iW b) o.op)::n) b=b:=aJ9 _ _ _ λi hi=>by simp;omega
   have u:bxL (λi=>decide (i<k+0)) n0 k ((o,e,fC (iW b) o.op)::n) (look a)=look a:=Vm _ _ _ λi hi=>by simp;omega
   rw[s,u];exact⟨rfl,ν,w,q,(λx d=>v x (by simp[d])),z,H,rfl⟩
  |succ j=>
   obtain⟨k1,f,g,S,M,N,O,P⟩:=F j x (by simpa using d)
   have s:lY (λi=>decide (i<k+(j+1))) k ((o,e,fC (iW b) o.op)::n) b=lY (λi=>decide (i<k+1+j)) (k+1) n (putT b o.dst e.res):=by
    conv=>lhs;unfold lY
    rw[show decide (k<k+(j+1))=true by simp];rw[show k+(j+1)=k+1+j by omega];rfl
   have u:bxL (λi=>decide (i<k+(j+1))) n0 k ((o,e,fC (iW b) o.op)::n) (look a)=bxL (λi=>decide (i<k+1+j)) n0 (k+1) n (look (xR (n0+k) e a)):=by
    rw[aFZ _ _ _ (r _ (w9 _))]
    conv=>lhs;unfold bxL
    rw[show decide (k<k+(j+1))=true by simp];rw[show k+(j+1)=k+1+j by omega];rfl
   rw[s,u,show n0+(k+(j+1))=n0+(k+1+j) by omega];exact⟨by simpa using k1,f,g,S,M,N,O,P⟩
variable {d:Nat->Option bL}
theorem aGf {e:TypeId}{size:Nat}{t:AT}(h:∀b∈fT t,d b=a b):rowOf d e size t=rowOf a e size t:=by
 unfold rowOf;split
 .rfl
 .rename_i b f len sz;rw[h b (by simp[fT])]
 .rfl
theorem aIP {i:Nat->Option bL}{e:TypeId}{size:Nat}{t:AT}{cs:List AC}{len:Nat}(h:rowOf i e size t=some (some b,cs,len)):b∈fT t:=by
 unfold rowOf at h;split at h
 .cases h
 .rename_i j f a sz;obtain⟨B,k,d⟩:=aS h
  cases g:(f==0&&sz==size&&B.ty==e&&B.cs.length==a*size)with
  |false=>rw[g]at d;cases d
  |true=>rw[g]at d;cases d;simp[fT]
 .cases h
variable {k:Operand->AT}{z:Nat->Option bL}{op:Op}
theorem aIl {P:Program}{j:Operand->AT}{n:Nat->Option bL}(h:∀x∈op.operands.toList,j x=k x)(A:∀b∈fC j op,z b=n b):evalOp P j z op=evalOp P k n op:=by
 cases op with
 |load t a=>
  have C:=h a (by simp[u7]);simp only[evalOp,<-C]
  cases hc:eT (j a)with
  |none=>rfl
  |some c=>
   cases c<;>try rfl
   case ptr b off=>
    simp only[B0];rw[A b (by simp[fC,pY hc,fT])]
 |store t a x=>
  have C:=h a (by simp[u7]);have B:=h x (by simp[u7]);simp only[evalOp,<-C,<-B]
  cases hc:eT (j a)with
  |none=>rfl
  |some c=>
   cases c<;>try rfl
   case ptr b off=>
    simp only[B0];rw[A b (by simp[fC,pY hc,fT])]
 |build t g=>
  have:(g.toList.map λ(i,x)=>(i,j x))=(g.toList.map λ(i,x)=>(i,k x)):=k8 λp D=>by
   obtain⟨i,x⟩:=p;simp only;rw[h x (by simp only[u7,k9];exact⟨(i,x),D,rfl⟩)]
  simp only[evalOp,this]
 |buildSlice t len g=>
  have:(g.toList.map λ(i,x)=>(i,j x))=(g.toList.map λ(i,x)=>(i,k x)):=k8 λp D=>by
   obtain⟨i,x⟩:=p;simp only;rw[h x (by simp only[u7,k9];exact⟨(i,x),D,rfl⟩)]
  simp only[evalOp,this]
 |convert s d x=>simp only[evalOp,h x (by simp[u7])]
 |call c=>
  obtain⟨q,args,l⟩:=c
  cases q with
  |builtin b=>
   cases b<;>try rfl
   case append=>
    simp only[evalOp];split
    .rename_i t L s x E v;have H:j s=k s:=h s (by simp[u7,B7,v]);have B:j x=k x:=h x (by simp[u7,B7,v])
     have I:∀e size,rowOf z e size (j s)=rowOf n e size (j s):=λe size=>aGf λb w=>A b (by simp only[fC,l4];exact⟨s,by simp[v],w⟩)
     have J:∀e size,rowOf z e size (j x)=rowOf n e size (j x):=λe size=>aGf λb w=>A b (by simp only[fC,l4];exact⟨x,by simp[v],w⟩)
     simp only[<-H,<-B,<-I,<-J];congr;funext e;congr;funext _;congr;funext size;congr;funext i;congr;funext zero
     cases F:rowOf z e size (j s)with
     |none=>rfl
     |some p=>
      obtain⟨old,cs,len⟩:=p;simp only[B0]
      have:kQ z old=kQ n old:=by
       cases old with
       |none=>rfl
       |some b=>
        unfold kQ;simp only;rw[A b (by simp only[fC,l4];exact⟨s,by simp[v],aIP F⟩)]
      rw[this]
    .rfl
   case len=>
    simp only[evalOp]
    cases E:l.toList with
    |nil=>rfl
    |cons t r=>
     cases r with
     |cons _ _=>rfl
     |nil=>
      cases v:args.toList with
      |nil=>rfl
      |cons x r=>
       cases r with
       |cons _ _=>rfl
       |nil=>
        simp only;rw[h x (by simp[u7,B7,v])]
  |value f=>
   cases f with
   |func f=>
    have:args.toList.map j=args.toList.map k:=k8 λx B=>h x (by simp[u7,B7];right;simpa using B)
    simp only[evalOp,this]
   |_=>rfl
  |_=>rfl
 |move x=>simp only[evalOp,h x (by simp[u7])]
 |assign x=>simp only[evalOp,h x (by simp[u7])]
 |pick c a b=>simp only[evalOp,h c (by simp[u7]),h a (by simp[u7]),h b (by simp[u7])]
 |box t x=>simp only[evalOp,h x (by simp[u7])]
 |nilCheck x=>simp only[evalOp,h x (by simp[u7])]
 |binOp o t x y u=>simp only[evalOp,h x (by simp[u7]),h y (by simp[u7])]
 |unOp o t x=>cases o<;>simp only[evalOp,h x (by simp[u7])]
 |fieldAddr t x f=>simp only[evalOp,h x (by simp[u7])]
 |field t x f=>simp only[evalOp,h x (by simp[u7])]
 |indexAddr t x i=>simp only[evalOp,h x (by simp[u7]),h i (by simp[u7])]
 |index t x i=>simp only[evalOp,h x (by simp[u7]),h i (by simp[u7])]
 |extract x i=>simp only[evalOp,h x (by simp[u7])]
 |_=>rfl
def nN.old:nN->Option Nat
 |.nB b _=>some b
 |.app old _ _ _ _=>old
 |_=>none
def NoSto (e:Option nN):Prop:=∀f b,e=some f->f.old≠some b
theorem kG {d:Type}{x:Option d}{f:d->Option nN}(h:∀a,NoSto (f a)):NoSto (x.bind f):=by
 intro g b e;obtain⟨a,_,i⟩:=aS e;exact h a g b i
theorem wU {d:Type}{x:Option d}{f:d->nN}(h:∀a,NoSto (some (f a))):NoSto (x.map f):=by
 intro g b e;obtain⟨a,_,i⟩:=bU e;exact h a g b (by rw[i])
theorem rI (r:AT)(p:List Prop):NoSto (some (.val r p)):=λ_ _ e=>by cases e;intro h;cases h
theorem Nk (c:Bool){x y:Option nN}(a:NoSto x)(b:NoSto y):NoSto (bif c then x else y):=by cases c;exact b;exact a
theorem Zt (cs:List AC)(ty:TypeId)(sl:Option (Nat×Nat)):NoSto (some (.new cs ty sl)):=λ_ _ e=>by cases e;intro h;cases h
theorem aMf (f:FuncId)(a:List AV):NoSto (some (.call f a)):=λ_ _ e=>by cases e;intro h;cases h
theorem pN:NoSto none:=λ_ _ e=>by cases e
variable {r:Nat->Option bL}
theorem Zd {P:Program}{f:nN}(h:evalOp P k r op=some f)(p:f.old=some b):b∈fC k op:=by
 have no:NoSto (evalOp P k r op)->b∈fC k op:=λM=>absurd p (M f b h)
 cases op with
 |store t a x=>
  simp only[evalOp]at h;obtain⟨c,w,l⟩:=aS h
  cases c<;>simp only at l<;>try cases l
  case ptr b' off=>
   obtain⟨v,I,z⟩:=aS l;obtain⟨B,J,g⟩:=aS z
   cases A:B.ro with
   |true=>rw[A]at g;cases g
   |false=>
    rw[A]at g;simp only[cond_false]at g;obtain⟨E,L,h8⟩:=bU g;subst h8;cases p;simp[fC,pY w,fT]
 |call c=>
  obtain⟨e,args,j⟩:=c
  cases e with
  |builtin D=>
   cases D<;>try (cases h;done)
   case len=>
    refine no ?_;simp only[evalOp];split
    .refine kG (λc=>?_)
     cases c<;>first|exact pN|exact wU λ_=>rI _ _|exact Nk _ (wU λ_=>rI _ _) pN
    .exact pN
   case append=>
    simp only[evalOp]at h;split at h
    .rename_i t T s x R F;obtain⟨S,w,h⟩:=aS h;obtain⟨H,l,h⟩:=aS h;obtain⟨size,I,h⟩:=aS h;obtain⟨i,z,h⟩:=aS h;obtain⟨zero,J,h⟩:=aS h;obtain⟨⟨old,cs,len⟩,g,h⟩:=aS h;obtain⟨⟨C,O,n⟩,L,h⟩:=aS h;simp only at h;generalize (z6 (len+n) 100&&z6 i.bytes 1000000&&!(n==0)&&!(size==0)&&zero.length==size&&kQ r old)=q at h
     cases q with
     |false=>cases h
     |true=>
      cases h;simp only[nN.old]at p;subst p;simp only[fC,l4];exact⟨s,by simp[F],aIP g⟩
    .cases h
  |value f=>
   cases f with
   |func f=>exact no (wU λ_=>aMf _ _)
   |_=>cases h
  |_=>cases h
 |unOp o t x=>
  refine no ?_
  cases o<;>simp only[evalOp]<;>first
   |exact pN
   |exact kG λc=>wU λ_=>rI _ _
   |exact kG λc=>by cases c<;>first|exact pN|exact rI _ _
 |move x=>exact no (rI _ _)
 |assign x=>exact no (rI _ _)
 |pick c x y=>
  refine no (kG λc=>?_)
  cases c<;>(try exact pN)<;>(try exact rI _ _)
  simp only
  split<;>first|exact pN|exact rI _ _
 |alloc t=>exact no (wU λ_=>Zt _ _ _)
 |box t x=>exact no (wU λ_=>Zt _ _ _)
 |build t N=>exact no (kG λ_=>kG λ_=>wU λ_=>rI _ _)
 |buildSlice t len N=>exact no (kG λ_=>kG λ_=>kG λ_=>Nk _ (kG λ_=>wU λ_=>Zt _ _ _) pN)
 |convert s d x=>
  refine no (kG λ_=>kG λ_=>kG λ_=>?_)
  split<;>first|exact pN|exact rI _ _
 |load t a=>
  refine no (kG λc=>?_)
  cases c<;>(try exact pN)
  exact kG λ_=>wU λ_=>rI _ _
 |nilCheck x=>
  refine no (kG λc=>?_)
  cases c<;>first|exact pN|exact rI _ _
 |binOp o t x y u=>exact no (kG λ_=>kG λ_=>wU λ_=>rI _ _)
 |fieldAddr t x f=>
  refine no (kG λc=>?_)
  cases c<;>(try exact pN)
  exact kG λ_=>kG λ_=>kG λn=>Nk _ pN (rI _ _)
 |field t x f=>
  refine no (kG λc=>?_)
  cases c<;>(try exact pN)
  exact kG λ_=>kG λ_=>wU λ_=>rI _ _
 |indexAddr t x i=>
  refine no (kG λc=>?_)
  cases c<;>(try exact pN)
  all_goals
   refine kG λc=>?_
   cases c<;>(try exact pN)
   all_goals exact kG λ_=>kG λ_=>Nk _ (rI _ _) pN
 |index t x i=>
  refine no (kG λc=>?_)
  cases c<;>(try exact pN)
  refine kG λc=>?_
  cases c<;>(try exact pN)
  exact kG λ_=>kG λ_=>Nk _ (wU λ_=>rI _ _) pN
 |extract x i=>
  refine no ?_;simp only[evalOp]
  cases k x<;>first|exact pN|exact wU λ_=>rI _ _
 |_=>cases h
variable {ν:LV}{o:Oper}{p:List Prop}
theorem entTouch {L:fE}{sp:Spec}{all:Array Oper}{i:List AT}{w:Nat->Option bL}{u:LV}(h:qS L sp z all i w ν id o=some (e,u,p))(hs:b∈eO id e):(b=id/\e.new≠none)\/b∈fC (iW i) o.op:=by
 have plain:∀r,e=⟨r,none,none,none⟩->(b=id/\e.new≠none)\/b∈fC (iW i) o.op:=by
  rintro r rfl;simp[eO]at hs
 unfold qS at h
 cases F:gd all i o<;>rw[F]at h<;>simp only at h
 .obtain⟨f,l,a⟩:=aS h
  cases f with
  |val r q=>simp only[eY,A6,A7]at a;exact plain r a.1.symm
  |new cs ty sl=>
   simp only[eY,A6,A7]at a;obtain⟨rfl,_⟩:=a;simp[eO]at hs;exact Or.inl ⟨hs,by simp⟩
  |app old cs ty len size=>
   simp only[eY]at a
   cases n:L.bt.contains ty<;>rw[n]at a
   .cases a
   .simp only[cond_true,A6,A7]at a;obtain⟨rfl,_⟩:=a;simp only[eO,j8]at hs
    rcases hs with hs|hs
    .exact Or.inl ⟨hs,by simp⟩
    .exact B8 (Zd l (by simpa[nN.old]using hs))
  |nB H A=>
   simp only[eY]at a;obtain⟨B,E,d⟩:=aS a
   cases n:L.bt.contains B.ty<;>rw[n]at d
   .cases d
   .simp only[cond_true,A6,A7]at d;obtain⟨rfl,_⟩:=d;simp[eO]at hs;exact B8 (Zd l (by simp[nN.old,hs]))
  |call f x=>
   simp only[eY]at a;obtain⟨⟨j,r,q,g⟩,_,k⟩:=aS a
   cases g with
   |some B=>
    simp only[A6,A7]at k;obtain⟨rfl,_⟩:=k;simp[eO]at hs;exact Or.inl ⟨hs,by simp⟩
   |none=>
    simp only[A6,A7]at k;exact plain _ k.1.symm
 .simp only[A6,A7]at h;exact plain _ h.1.symm
 .cases h
 .rename_i c
  cases s:(evalOp L.P (iW i) w o.op).bind (fU c sp z ν id)with
  |none=>
   rw[s]at h;simp only[orElse]at h;obtain⟨f,args,ts,x,cs,j,v,q,_,_,_,D,_,_⟩:=aE5 h;exact plain _ D
  |some y=>
  rw[s]at h;simp only[orElse,A6]at h;subst h;obtain⟨f,l,a⟩:=aS s
  cases f with
  |val r q=>
   cases r<;>simp only[fU]at a<;>try cases a
   exact plain _ rfl
  |call f x=>
   simp only[fU]at a;obtain⟨⟨j,r,q,g⟩,E,d⟩:=aS a
   cases r<;>cases g<;>simp only at d<;>try cases d
   exact plain _ rfl
  |_=>simp[fU]at a
theorem aNn {b a:List AT}{x:Operand}(h:∀t,x=.tmp t->b[t]?=a[t]?):iW b x=iW a x:=by
 cases x with
 |tmp t=>simp only[iW,l5];rw[h t rfl]
 |_=>rfl
theorem aHa {c:Bool}{sp:Spec}{b a:Operand->AT}(h:∀x∈op.operands.toList,b x=a x):kC c sp d ν id b op=kC c sp d ν id a op:=by
 unfold kC;split
 .rename_i f args ts
  have:args.toList.map b=args.toList.map a:=k8 λx e=>h x (by simp[u7,B7];exact B8 (by simpa using e))
  rw[this]
 .rfl
theorem aLS {L:fE}{sp:Spec}{all:Array Oper}{i a:List AT}{k h:Nat->Option bL}(n:∀t∈reads all o,i[t]?=a[t]?)(l:∀b∈fC (iW i) o.op,k b=h b):qS L sp r all i k ν id o=qS L sp r all a h ν id o:=by
 have s:gd all i o=gd all a o:=by
  unfold gd
  cases y:o.guard with
  |none=>rfl
  |some p=>
   obtain⟨g,q⟩:=p;simp only
   cases v:(all[g]?).bind (·.dst)with
   |none=>rfl
   |some d=>
    simp only;rw[n d (by simp[reads,y,v])]
 have j:∀ x∈o.op.operands.toList,iW i x=iW a x:=λx z=>aNn λt e=>n t (by
  subst e;simp only[reads,l7,l8]
  exact Or.inl ⟨.tmp t,z,rfl⟩)
 have u:evalOp L.P (iW i) k o.op=evalOp L.P (iW a) h o.op:=aIl j l;unfold qS;rw[s,<-u]
 cases gd all a o with
 |yes=>
  simp only
  cases w:evalOp L.P (iW i) k o.op with
  |none=>rfl
  |some f=>
   simp only[B0]
   cases f with
   |nB b cs=>simp only[eY];rw[l b (Zd w rfl)]
   |_=>rfl
 |cond c=>
  simp only;rw[aHa j]
 |_=>rfl
def maskOf (acc:NU)(o:Oper):Nat:=o.after.toList.foldl (λm e=>bif B6 .any e then m |||2^e.on |||acc.getD e.on 0 else m) 0
def masks:List Nat->List Oper->List Nat
 |acc,[]=>acc
 |acc,o::r=>masks (acc++[maskOf acc o]) r
theorem aIw:∀(os:List Oper) (a:NU),∃r,masks a os=a++r/\r.length=os.length
 | [],a=>⟨[],by simp[masks],rfl⟩
 |o::os,a=>by
  obtain⟨r,b,d⟩:=aIw os (a++[maskOf a o]);exact⟨maskOf a o::r,by unfold masks;rw[b];simp,by simp[d]⟩
theorem aKO:∀(os:List Oper) (a:NU) (j:Nat) (o:Oper),os[j]?=some o->(masks a os)[a.length+j]?=some (maskOf ((masks a os).take (a.length+j)) o)
 |o'::os,a,0,o,h=>by
  simp at h;subst h;obtain⟨r,b,_⟩:=aIw os (a++[maskOf a o']);unfold masks;rw[b];simp
 |o'::os,a,j+1,o,h=>by
  have:=aKO os (a++[maskOf a o']) j o (by simpa using h);unfold masks;rw[show a.length+(j+1)=(a++[maskOf a o']).length+j by simp;omega];exact this
 | [],a,j,o,h=>by simp at h
variable {i:Nat}
theorem aL7 {acc:NU}(h:(maskOf acc o).testBit i=true):∃e∈o.after.toList,B6 .any e=true/\(e.on=i\/(acc.getD e.on 0).testBit i=true):=by
 unfold maskOf at h
 have b:∀(l:List Edge) (m:Nat),(l.foldl (λm e=>bif B6 .any e then m |||2^e.on |||acc.getD e.on 0 else m) m).testBit i=true->m.testBit i=true\/∃e∈l,B6 .any e=true/\(e.on=i\/(acc.getD e.on 0).testBit i=true):=by
  intro l
  induction l with
  |nil=>exact λm h=>Or.inl h
  |cons e l j=>
   intro m h;simp only[List.foldl_cons]at h
   rcases j _ h with h|⟨d,f,g⟩
   .cases a:B6 .any e with
    |false=>rw[a]at h;exact Or.inl h
    |true=>
     rw[a]at h;simp only[cond_true,Nat.testBit_or,o9,Nat.testBit_two_pow,decide_eq_true_eq]at h
     rcases h with(h|h)|h
     .exact Or.inl h
     .exact B8 ⟨e,by simp,a,Or.inl h⟩
     .exact B8 ⟨e,by simp,a,B8 h⟩
   .exact B8 ⟨d,by simp[f],g⟩
 rcases b _ _ h with h|h
 .simp at h
 .exact h
def qG (ops:Array Oper)(L:Nat->Bool):Prop:=∀(i:Nat) (o:Oper),L i=true->ops[i]?=some o->∀e∈o.after,B6 .any e=true->L e.on=true
variable {ops:Array Oper}
theorem Mw (hc:qG ops L):∀(j:Nat) (o:Oper),ops[j]?=some o->(∀e∈o.after,B6 .any e=true->L e.on=true)->∀i,((masks [] ops.toList).getD j 0).testBit i=true->L i=true:=by
 intro j
 induction j using z7 with
 |ind j v=>
  intro o l u i hi;have w:=(q7.1 l).1;have k:=aKO ops.toList [] j o (by simpa using l);simp only[List.length_nil,z8]at k
  have p:(masks [] ops.toList).getD j 0=maskOf ((masks [] ops.toList).take j) o:=by simp[l5,k]
  rw[p]at hi;obtain⟨e,r,s,h3⟩:=aL7 hi;have g:=u e (by simpa using r) s
  rcases h3 with h3|h3
  .rw[<-h3];exact g
  .have a:e.on<j:=by
    rcases Nat.lt_or_ge e.on j with h|h
    .exact h
    .have:(((masks [] ops.toList).take j).getD e.on 0)=0:=by
      simp only[l5];rw[List.getElem?_eq_none (by rw[List.length_take];omega)];rfl
     rw[this]at h3;simp at h3
   have q:((masks [] ops.toList).take j).getD e.on 0=(masks [] ops.toList).getD e.on 0:=by simp[l5,List.getElem?_take_of_lt a]
   rw[q]at h3;have b:ops[e.on]?=some ops[e.on]:=q8 (by omega);exact v e.on a _ b (λn f d=>hc e.on _ g b n f d) i h3
def Es (M:NU)(i j:Nat):Bool:=(decide (i<j)&&(M.getD j 0).testBit i)||(decide (j<i)&&(M.getD i 0).testBit j)
def oD (all:Array Oper)(n0 i:Nat)(x y:Oper×gH×List Nat):Bool:=
 (match x.1.dst with|some t=>(reads all y.1).contains t|none=>false)||(eO (n0+i) x.2.1).any λb=>y.2.2.contains b
def lE (all:Array Oper)(M:NU)(n0 i j:Nat)(x y:Oper×gH×List Nat):Bool:=
 (x.1.dst.isNone||x.1.dst != y.1.dst)&&(!oD all n0 i x y||Es M i j)&&(!(y.2.2.contains (n0+i))||(decide (i<j)&&(M.getD j 0).testBit i))
def Xs (all:Array Oper)(n0:Nat)(T:Tb)(M:NU):Bool:=
 T.zipIdx.all λ(y,j)=>!(y.2.2.contains (n0+j))&&y.1.after.toList.all (λe=>!Region.binds .any e||decide (e.on<j))&&T.zipIdx.all λ(x,i)=>i==j||lE all M n0 i j x y
theorem Tx {a:Type}{l:List a}{x:a}(h:l[i]?=some x):(x,i)∈l.zipIdx:=by
 rw[List.mem_zipIdx_iff_getElem?];exact h
def Ag (l:List (Nat×bL)):Nat->Option bL:=λb=>(look l b).bind λB=>bif !B.own&&B.ro then some B else none
theorem aNo {B:bL}(h:Ag l b=some B):look l b=some B:=by
 unfold Ag at h;obtain⟨D,d,a⟩:=aS h
 cases hc:(!D.own&&D.ro)with
 |false=>rw[hc]at a;cases a
 |true=>rw[hc]at a;cases a;exact d
def Eb (a:Nat->Option bL)(n0:Nat)(T:Tb):Bool:=T.zipIdx.all λ(y,j)=>(eO (n0+j) y.2.1).all λb=>(a b).isNone
theorem aSB (h:Eb a n0 T=true){x:Oper×gH×List Nat}(e:T[i]?=some x)(d:b∈eO (n0+i) x.2.1):a b=none:=by
 unfold Eb at h;rw[l9]at h;have:=h (x,i) (Tx e);simp only[l9]at this
 simpa using this b d
def aL (C:fE)(sp:Spec)(ops:Array Oper)(s:AS):Option (AS×List Prop):=
 (Bx C sp (Ag s.boxes) ops s.next 0 ops.toList s.tmps s.boxes s.nums).bind λ(T,a,p)=>
  bif Xs ops s.next T (masks [] ops.toList)&&Eb (Ag s.boxes) s.next T then
   some (⟨lY (λ_=>true) 0 T s.tmps,qN s.next 0 T s.boxes,s.next+ops.size,a,s.dirty++T.filterMap (λx=>x.2.1.nB.map (·.1))⟩,p)
  else none
theorem aNb {all:Array Oper}{f:NU}(h:Xs all n0 T f=true){k:Nat}{y:Oper×gH×List Nat}(p:T[k]?=some y):
  (n0+k)∉y.2.2/\(∀e∈y.1.after,B6 .any e=true->e.on<k)/\∀(i:Nat) x,T[i]?=some x->i≠k->lE all f n0 i k x y=true:=by
 unfold Xs at h;rw[l9]at h;have:=h (y,k) (Tx p);simp only[p7,l9]at this;obtain⟨⟨b,d⟩,g⟩:=this;refine⟨by simpa using b,λe n l=>?_,λi x o a=>?_⟩
 .have:=d e (by simpa using n)
  simpa[l]using this
 .have:=g (x,i) (Tx o)
  simpa[a]using this
theorem Ze (L:Nat->Bool)(j:Nat)(b:L j=false):∀(l:NU),l.Nodup->j∈l->(l.filter λi=>!(L i||i==j)).length+1=(l.filter λi=>!L i).length
 | [],_,h=>by simp at h
 |x::l,a,h=>by
  rw[List.nodup_cons]at a
  by_cases e:x=j
  .subst e
   have:(l.filter λi=>!(L i||i==x))=l.filter λi=>!L i:=by
    apply List.filter_congr;intro i hi
    have:i≠x:=λe=>a.1 (e▸hi)
    simp[this]
   simp only[n4,b,o8,beq_self_eq_true,p8,Bool.false_eq_true,if_false,p9,if_true,n5,this]
  .have d:j∈l:=by simpa[Ne.symm e]using h
   have f:=Ze L j b l a.2 d;simp only[n4,beq_eq_false_iff_ne.2 e,Bool.or_false];cases L x
   .simp only[p9,if_true,n5];omega
   .simpa using f
section
variable {C:fE} {sp:Spec}{ψ:LI}
theorem aIj {n:World}(cb:SpecOk C n ψ sp){s s':AS}(ba:aL C sp ops s=some (s',p))(hp:Holds p){R:LI}{a0:Act}{U:World}{Q:AW}(hr:Rep C n ψ R s a0 U)
  (hQ:∀aj a' w',Ext C R aj s.nums s'.nums U w'->Rep C n ψ aj s' a' w'->Q .normal a' w'):wpAny C.P .any ops Q ops.size (q9 ops.size false) a0 {U with drawn:=U.drawn+1}:=by
 unfold aL at ba;obtain⟨⟨T,ag,q⟩,ht,N⟩:=aS ba;simp only at N
 cases I:(Xs ops s.next T (masks [] ops.toList)&&Eb (Ag s.boxes) s.next T)with
 |false=>rw[I]at N;cases N
 |true=>
  rw[I]at N;rw[p7]at I;obtain⟨aq,a8⟩:=I;simp only[cond_true,A6,A7]at N;obtain⟨rfl,rfl⟩:=N
  have ab:zH s.boxes s.next:=by
   intro b g
   cases hl:look s.boxes b with
   |none=>rfl
   |some B=>
    obtain⟨k,o,_,_,_,hk,_⟩:=hr.wd.box _ _ hl;rw[hr.wd.fresh b g]at hk;cases hk
  obtain⟨bc,bj,z⟩:=aR9 ops.toList 0 s.tmps s.boxes s.nums T q ht ab hp;simp only[Array.length_toList]at bc;simp only[z8]at z;generalize al:s.dirty++T.filterMap (λx=>x.2.1.nB.map (·.1))=dirty at*
  have cf:∀(fuel:Nat) (f:Array Bool) (φ:LI) (a:Act) (w:World),
    f.size=ops.size->((n6 ops.size).filter λi=>!f.getD i false).length=fuel->qG ops (λi=>f.getD i false)->
    RepF C n ψ φ (bxL (λi=>f.getD i false) s.next 0 T (look s.boxes)) (λb=>s.next<=b/\∀j,b=s.next+j->f.getD j false=false) ag dirty w->a.defers=[]->
    All2 (relT C φ ag w) (lY (λi=>f.getD i false) 0 T s.tmps) a.tmps.toList->Ext C R φ s.nums ag U w->wpAny C.P .any ops Q fuel f a w:=by
   intro fuel
   induction fuel with
   |zero=>
    intro f φ a w O hf X J hd ai hx
    have W:∀i,i<ops.size->f.getD i false=true:=by
     intro i hi
     cases hv:f.getD i false with
     |true=>rfl
     |false=>
      have:i∈(n6 ops.size).filter λi=>!f.getD i false:=by simp[hi,<-s4,hv]
      rw[List.length_eq_zero_iff.1 hf]at this;cases this
    refine⟨?_,?_⟩
    .apply List.eq_nil_iff_forall_not_mem.2;intro j hj;obtain⟨S,o,h3,_⟩:=mem_ready.1 hj;have:=W j (q7.1 h3).1
     have aa:j<f.size:=by rw[O];exact(q7.1 h3).1
     simp[aa]at this S;rw[this]at S;cases S
    .have e1:=aSa (L:=λi=>f.getD i false) T 0 s.tmps λi hi=>by rw[z8];exact W i (by omega)
     have e2:=aRt (L:=λi=>f.getD i false) (n0:=s.next) T 0 s.boxes ab λi hi=>by rw[z8];exact W i (by omega)
     rw[e1]at ai;rw[e2]at J;refine hQ φ a w hx ⟨J.cQ λb g=>⟨by simp only at g;omega,λj hj=>?_⟩,hd,ai⟩;rw[s4,s8 (by simp only at g;omega)];rfl
   |succ fuel ih=>
    intro f φ a w O hf X J hd ai hx;refine⟨λbg=>?_,λj hj=>?_⟩
    .-- someone can always come
     exfalso
     have av:((n6 ops.size).filter λi=>!f.getD i false)≠[]:=by intro e;rw[e]at hf;simp at hf
     -- the af that is not f
     have:∃i,i<ops.size/\f.getD i false=false:=by
      obtain⟨i,r,e⟩:=List.exists_cons_of_ne_nil av
      have hi:i∈(n6 ops.size).filter λi=>!f.getD i false:=by rw[e];simp
      rw[List.mem_filter,List.mem_range]at hi;exact⟨i,hi.1,by simpa using hi.2⟩
     obtain⟨i,b6,b7⟩:=this
     have af:∀d,d<ops.size->f.getD d false=false->False:=by
      intro d
      induction d using z7 with
      |ind d ce=>
       intro be bf;have ho:ops[d]?=some ops[d]:=q8 be
       have am:d∈Region.ready .any ops f:=by
        refine mem_ready.2 ⟨?_,ops[d],ho,λe he g=>?_⟩
        .have b9:d<f.size:=by rw[O];exact be
         simp[b9]at bf ⊢;exact bf
        .obtain⟨x,v⟩:∃x,T[d]?=some x:=⟨T[d]'(by omega),n7 (by omega)⟩
         have ad:=(z d x v).1
         have M:x.1=ops[d]:=by
          rw[s9,ho]at ad;exact(A5 ad).symm
         obtain⟨_,c2,_⟩:=aNb aq v;have b8:=c2 e (by rw[M];exact he) g
         cases hv:f.getD e.on false with
         |true=>rfl
         |false=>exact(ce e.on b8 (by omega) hv).elim
       rw[bg]at am;cases am
     exact af i b6 b7
    .obtain⟨bb,o,ho,H⟩:=mem_ready.1 hj;have au:j<ops.size:=(q7.1 ho).1
     have D:f.getD j false=false:=by
      have aa:j<f.size:=by rw[O];exact au
      simp[aa]at bb ⊢;exact bb
     obtain⟨x,v⟩:∃x,T[j]?=some x:=⟨T[j]'(by omega),n7 (by omega)⟩
     obtain⟨ad,c7,c8,q2,ca,bk,Y,a5⟩:=z j x v
     have M:x.1=o:=by
      rw[s9,ho]at ad;exact(A5 ad).symm
     obtain⟨c1,c2,c3⟩:=aNb aq v
     -- who is ordered against j is f if,and only if,it comes earlier
     have a6:∀i,((masks [] ops.toList).getD j 0).testBit i=true->f.getD i false=true:=λi hi=>Mw X j o ho H i hi
     have ak:∀i y,T[i]?=some y->((masks [] ops.toList).getD i 0).testBit j=true->f.getD i false=false:=by
      intro i y A hi
      cases hv:f.getD i false with
      |false=>rfl
      |true=>
       have a2:=(z i y A).1;rw[s9]at a2;have:=Mw X i y.1 a2 (λe he g=>X i y.1 hv a2 e he g) j hi;rw[D]at this;cases this
     have ap:∀i y,T[i]?=some y->Es (masks [] ops.toList) i j=true->f.getD i false=decide (i<j):=by
      intro i y A h;unfold Es at h;simp only[o9,p7,decide_eq_true_eq]at h
      rcases h with⟨S,N⟩|⟨S,N⟩
      .rw[a6 i N];simp[S]
      .rw[ak i y A N];simp;omega
     have F:=c3
     -- what j looks at
     have ay:∀t∈reads ops x.1,(lY (λi=>decide (i<j)) 0 T s.tmps)[t]?=(lY (λi=>f.getD i false) 0 T s.tmps)[t]?:=by
      intro t cc
      refine Un T 0 _ _ rfl rfl λi y A a1=>?_
      rw[z8]
      by_cases l:i=j
      .subst l;rw[D];simp
      .have:=F i y A l;unfold lE at this;simp only[p7]at this;obtain⟨⟨_,hc⟩,_⟩:=this
       have u:oD ops s.next i y x=true:=by
        unfold oD;rw[a1];simp only[o9];exact Or.inl (by simpa using cc)
       rw[u]at hc;simp only[p8,o8]at hc;exact(ap i y A hc).symm
     have a7:∀b,b∈fC (iW (lY (λi=>decide (i<j)) 0 T s.tmps)) x.1.op->bxL (λi=>decide (i<j)) s.next 0 T (look s.boxes) b=bxL (λi=>f.getD i false) s.next 0 T (look s.boxes) b:=by
      intro b g;rw[<-a5]at g
      refine Nu T 0 _ _ rfl λi y A ae=>?_
      rw[z8]at ae ⊢
      by_cases l:i=j
      .subst l;rw[D];simp
      .have:=F i y A l;unfold lE at this;simp only[p7]at this;obtain⟨⟨_,hc⟩,_⟩:=this
       have u:oD ops s.next i y x=true:=by
        unfold oD;simp only[o9,n8];exact B8 ⟨b,ae,by simpa using g⟩
       rw[u]at hc;simp only[p8,o8]at hc;exact(ap i y A hc).symm
     rw[aLS ay a7]at Y;rw[M]at Y;refine aVR cb (nb:=λb=>s.next<=b/\∀i,b=s.next+i->f.getD i false=false) (id:=s.next+j) ho J hd ai Y ca (λb B g=>(aM7 T 0 _ λi y A ae=>by rw[z8]at ae;rw[aSB a8 A ae]at g;cases g).trans (aNo g)) bk ⟨by omega,λi hi=>?_⟩ ?_ ?_
     .have:i=j:=by omega
      subst this;exact D
     .intro b cs hs;rw[<-al];simp only[l7,l8];exact B8 ⟨x,List.mem_of_getElem? v,by rw[hs];rfl⟩
     .intro aj a' w' az b3 bi cd
      have E:(λi=>(f.setIfInBounds j true).getD i false)=λi=>f.getD i false||i==j:=by
       funext i
       by_cases l:i=j
       .subst l
        have aa:i<f.size:=by rw[O];exact au
        simp[aa,Array.getElem?_setIfInBounds]
       .rw[getD_set_ne false (Ne.symm l)];simp[l]
      refine ih (f.setIfInBounds j true) aj a' w' (by simp[O]) ?_ ?_ ?_ b3 ?_ (hx.trans cd)
      .have:=Ze (λi=>f.getD i false) j D (n6 ops.size) List.nodup_range (by simp[au])
       have e:(λi=>!(f.setIfInBounds j true).getD i false)=λi=>!(f.getD i false||i==j):=by
        funext i;exact congrArg Bool.not (congrFun E i)
       rw[e];omega
      .rw[E];intro i o' hi ax e he g;simp only[o9,beq_iff_eq]at hi ⊢
       rcases hi with hi|hi
       .exact Or.inl (X i o' hi ax e he g)
       .subst hi;rw[ho]at ax;cases ax;exact Or.inl (H e he g)
      .rw[E]
       have:=aRs (L:=λi=>f.getD i false) (n0:=s.next) (j:=j) T 0 (look s.boxes) j x v (by omega) D (by
        intro m y b hm A S N;rw[z8]at N ⊢
        -- both eO b: ordered
        have av:j≠m:=by omega
        obtain⟨_,cz,c5,c6,_,_,bq,bp⟩:=z m y A;obtain⟨_,cv,cx,cy,_,_,bo,bn⟩:=z j x v
        rcases entTouch bq N with⟨b2,ck⟩|hya
        .-- y makes the box that x touches
         rcases entTouch bo S with⟨cm,_⟩|hxa
         .omega
         .have:=c3 m y A (by omega);unfold lE at this;rw[<-bn]at hxa;rw[b2]at hxa
          have ar:x.2.2.contains (s.next+m)=true:=by simpa using hxa
          simp only[p7,ar,p8,o8,decide_eq_true_eq]at this;omega
        .have:=(aNb aq A).2.2 j x v av;unfold lE at this;simp only[p7]at this;obtain⟨⟨_,hc⟩,_⟩:=this
         have u:oD ops s.next j x y=true:=by
          unfold oD;simp only[o9,n8];exact B8 ⟨b,S,by rw[bp];simpa using hya⟩
         rw[u]at hc;simp only[p8,o8]at hc;unfold Es at hc;simp only[o9,p7,decide_eq_true_eq]at hc
         rcases hc with⟨h3,h4⟩|⟨h3,h4⟩
         .exact ak m y A h4
         .omega)
       rw[this]
       refine az.cQ λb g=>⟨⟨g.1,λi hi=>?_⟩,λe=>?_⟩
       .have:=g.2 i hi
        by_cases l:i=j
        .rw[l];exact D
        .rw[getD_set_ne false (Ne.symm l)]at this;exact this
       .have:=g.2 j e;have e2:=congrFun E j;simp only[beq_self_eq_true,Bool.or_true]at e2;rw[e2]at this;cases this
      .rw[E]
       rw [aWH v D (λi y t hi A hd a1=>by
        have:=F i y A hi;unfold lE at this;simp only[p7]at this;have S:=this.1.1;rw[a1,hd]at S
        simp at S)]
       rw[M];exact bi
  have g:Below U.heap.size U {U with drawn:=U.drawn+1}:=⟨rfl,rfl,rfl,w9 _,λ_ _=>rfl⟩
  have hx:Ext C R R s.nums ag U {U with drawn:=U.drawn+1}:=⟨λ_ _ h=>h,bj,On.below g⟩
  have ah:∀i,(q9 ops.size false).getD i false=false:=by
   intro i;rw[s4]
   by_cases hi:i<ops.size
   .simp[hi]
   .rw[s8 (by simp;omega)];rfl
  refine cf ops.size (q9 ops.size false) R a0 _ (by simp) ?_ ?_ ?_ hr.defers ?_ hx
  .have:((n6 ops.size).filter λi=>!(q9 ops.size false).getD i false)=n6 ops.size:=by
    apply List.filter_eq_self.2;intro i _;rw[ah i];rfl
   rw[this];simp
  .intro i o hi;have hi:(q9 ops.size false).getD i false=true:=hi;rw[ah i]at hi;cases hi
  .rw[Vm T 0 (look s.boxes) λi _=>ah i];have:=hr.wd.later g ag bj;refine⟨this.box,this.own,this.inj,this.tip,λb g=>this.fresh b g.1,this.lt,λk hk b4=>this.low k hk λb b1=>b4 b ?_,this.on,this.base,this.qD⟩;rw[<-al];simp[b1]
  .rw[aJ9 T 0 s.tmps λi _=>ah i];exact hr.tmps.mono (xI hx)
theorem rJ {w0:World}(e:C.P.follows .mixedOrders=true)(b:SpecOk C w0 ψ sp):uA C w0 ψ (aL C sp):=by
 intro ops s i p a f h a0 j id Q g d;exact wp_region_any e (aIj b a f g d)
end
inductive Tok where
 |num (k:Bool) (z:Int) (n:Nat)
 |c (x:AC)
inductive VT where
 |one (c:AC)
 |agg (ts:List Tok)
inductive RV where
 |val (v:VT)
 |tup (vs:List VT)
def fO:AC->Bool
 |.sg _=>false
 |.dg _ _=>false
 |.ptr _ _=>false
 |.slc _ _ _ _=>false
 |.dsl _ _ _ _=>false
 |_=>true
def toks (ν:LV):List AC->Option (List Tok)
 | []=>some []
 |.sg i::.dg k j::r=>bif i==j then(ν[i]?).bind λ(z,n)=>(toks ν r).map (.num k z n::·)else none
 |c::r=>bif fO c then(toks ν r).map (.c c::·)else none
def uX (ν:LV):AV->Option VT
 |.one c=>bif fO c then some (.one c)else none
 |.agg cs=>(toks ν cs).map .agg
section
variable (C:fE)
def RT (w:World):List Tok->List Value->Prop
 | [],[]=>True
 |.num k z n::ts,x::y::a=>x=.bool (decide (z<0))/\C.eS k w z y/\C.bits n z/\RT w ts a
 |.c c::ts,x::a=>fO c=true/\relC C (λ_=>none) [] w c x/\RT w ts a
 |_,_=>False
def lJ (w:World):VT->Value->Prop
 |.one c,x=>fO c=true/\relC C (λ_=>none) [] w c x
 |.agg ts,x=>∃a:LB,x=.agg a.toArray/\RT C w ts a
def RRV (w:World):RV->Value->Prop
 |.val v,x=>lJ C w v x
 |.tup vs,x=>∃a:LB,x=.tuple a.toArray/\All2 (lJ C w) vs a
end
def iI:Nat->List Tok->List AC×List (Int×Nat)
 |_,[]=>([],[])
 |b,.num k z n::r=>(.sg b::.dg k b::(iI (b+1) r).1,(z,n)::(iI (b+1) r).2)
 |b,.c x::r=>(x::(iI b r).1,(iI b r).2)
def sL (b:Nat):VT->AV×List (Int×Nat)
 |.one c=>(.one c,[])
 |.agg ts=>(.agg (iI b ts).1,(iI b ts).2)
def eD:Nat->List VT->List AV×List (Int×Nat)
 |_,[]=>([],[])
 |b,v::r=>((sL b v).1::(eD (b+(sL b v).2.length) r).1,(sL b v).2++(eD (b+(sL b v).2.length) r).2)
def Dz (b:Nat):RV->AT×List (Int×Nat)
 |.val v=>(.val (sL b v).1,(sL b v).2)
 |.tup a=>(.tup (eD b a).1,(eD b a).2)
section
variable {C:fE} {φ:LI} {w:World}{a:LV}{x:Value}
theorem Og {c:AC}(h:fO c=true){φ b:LI}(r:relC C φ ν w c x):relC C b a w c x:=by
 cases c<;>first|exact r|(simp[fO]at h)
theorem aKa {ν u:LV}(b:∀(i:Nat) (x:Int×Nat),ν[i]?=some x->u[i]?=some x):∀(cs:List AC) (ts:List Tok) (g:LB),toks ν cs=some ts->All2 (relC C φ u w) cs g->RT C w ts g
 | [],ts,[],h,_=>by simp[toks]at h;subst h;trivial
 | [],_,_::_,_,h=>h.elim
 |_::_,_,[],_,h=>h.elim
 | [c],ts,[x],h,⟨l,_⟩=>by
  cases c<;>simp[toks,fO]at h<;>subst h<;>exact⟨rfl,Og rfl l,trivial⟩
 | [c],_,_::_::_,_,h=>h.2.elim
 |_::_::_,_,[_],_,h=>h.2.elim
 |c::d::r,ts,x::y::g,h,⟨l,s,q⟩=>by
  by_cases hc:fO c=true
  .have e:toks ν (c::d::r)=(toks ν (d::r)).map (.c c::·):=by
    cases c<;>first|(simp[fO]at hc;done)|rfl
   rw[e]at h;obtain⟨f,o,rfl⟩:=bU h;exact⟨hc,Og hc l,aKa b (d::r) f (y::g) o ⟨s,q⟩⟩
  .cases c<;>simp[fO]at hc
   case sg i=>
    cases d<;>try (simp[toks,fO]at h;done)
    case dg k j=>
     simp only[toks]at h
     cases a:i==j with
     |false=>rw[a]at h;cases h
     |true=>
      rw[a]at h;simp only[cond_true]at h
      have:i=j:=by simpa using a
      subst this;obtain⟨⟨z,n⟩,o,A⟩:=aS h;obtain⟨f,B,rfl⟩:=bU A;obtain⟨F,D,p,v⟩:=l;obtain⟨H,E,f1,f2,f3⟩:=s;have:=b _ _ o;rw[this]at p f1;cases p;cases f1;exact⟨v,f2,f3,aKa b r f g B q⟩
   all_goals simp[toks,fO]at h
theorem aPv {d:LV}(a:∀(i:Nat) (x:Int×Nat),ν[i]?=some x->d[i]?=some x){v:AV}{t:VT}(h:uX ν v=some t)(r:dU C φ d w v x):lJ C w t x:=by
 cases v with
 |one c=>
  simp only[uX]at h
  cases hc:fO c with
  |false=>rw[hc]at h;cases h
  |true=>rw[hc]at h;cases h;exact⟨hc,Og hc r⟩
 |agg cs=>
  simp only[uX]at h;obtain⟨ts,f,rfl⟩:=bU h;obtain⟨b,e,g⟩:=r;exact⟨b,e,aKa a cs ts b f g⟩
theorem aHR {ν e:LV}(a:∀(i:Nat) (x:Int×Nat),ν[i]?=some x->e[i]?=some x):∀{b:List AV} {ts:List VT} {d:LB},eZ (uX ν) b=some ts->All2 (dU C φ e w) b d->All2 (lJ C w) ts d
 | [],ts,[],h,_=>by simp[eZ]at h;subst h;trivial
 |v::b,ts,x::d,h,⟨k,l⟩=>by
  unfold eZ at h;obtain⟨t,f,g⟩:=aS h;obtain⟨n,j,rfl⟩:=bU g;exact⟨aPv a f k,aHR a j l⟩
 | [],_,_::_,_,h=>h.elim
 |_::_,_,[],_,h=>h.elim
def At (a:LV)(b:Nat)(ns:LV):Prop:=∀(i:Nat) (y:Int×Nat),ns[i]?=some y->a[b+i]?=some y
variable {l ns:LV}
theorem At.tail {y:Int×Nat}(h:At l b (y::ns)):At l (b+1) ns:=λi z a=>by rw[show b+1+i=b+(i+1) by omega];exact h (i+1) z (by simpa using a)
theorem At.left (h:At l b (a++ns)):At l b a:=λi z d=>h i z (sH _ _ i z d)
theorem At.right (h:At l b (a++ns)):At l (b+a.length) ns:=λi z d=>by
 rw[show b+a.length+i=b+(a.length+i) by omega];exact h (a.length+i) z (by rw[n9 (by omega)];simpa using d)
theorem Zx {l:LV}:∀(ts:List Tok) (b:Nat) (d:LB),At l b (iI b ts).2->RT C w ts d->All2 (relC C φ l w) (iI b ts).1 d
 | [],b,[],_,_=>trivial
 |.num k z n::r,b,x::y::d,a,⟨e,f,g,j⟩=>by
  simp only[iI]at a ⊢;have i:=a 0 (z,n) rfl;exact⟨⟨z,n,i,e⟩,⟨z,n,i,f,g⟩,Zx r (b+1) d a.tail j⟩
 |.c c::r,b,x::d,a,⟨e,f,g⟩=>by
  simp only[iI]at a ⊢;exact⟨Og e f,Zx r b d a g⟩
 | [],_,_::_,_,h=>h.elim
 |.num ..::_,_,[],_,h=>h.elim
 |.num ..::_,_,[_],_,h=>h.elim
 |.c _::_,_,[],_,h=>h.elim
theorem aM1 {v:VT}(d:At l b (sL b v).2)(h:lJ C w v x):dU C φ l w (sL b v).1 x:=by
 cases v with
 |one c=>exact Og h.1 h.2
 |agg ts=>obtain⟨a,e,f⟩:=h;exact⟨a,e,Zx ts b a d f⟩
theorem Hv {l:LV}:∀(vs:List VT) (b:Nat) (a:LB),At l b (eD b vs).2->All2 (lJ C w) vs a->All2 (dU C φ l w) (eD b vs).1 a
 | [],_,[],_,_=>trivial
 |v::vs,b,x::a,d,⟨e,f⟩=>by
  simp only[eD]at d ⊢;exact⟨aM1 d.left e,Hv vs _ a d.right f⟩
 | [],_,_::_,_,h=>h.elim
 |_::_,_,[],_,h=>h.elim
theorem aSt {r:RV}(a:At l b (Dz b r).2)(h:RRV C w r x):relT C φ l w (Dz b r).1 x:=by
 cases r with
 |val v=>exact aM1 a h
 |tup g=>obtain⟨d,e,f⟩:=h;exact⟨d,e,Hv g b d a f⟩
end
abbrev TE:=List VT->Option (RV×List Prop)
def bI (C:fE)(f:FuncId)(d:TE):Prop:=Enters C.P f/\∀ts r p,d ts=some (r,p)->Holds p->∀w (b:LB),All2 (lJ C w) ts b->Calls C.P f b.toArray w λe a=>∃v,e=.returned v/\RRV C a r v/\Below w.heap.size w a
def adapt (a:TE):List (Int×Nat)->List AV->Option (List (Int×Nat)×AT×List Prop×Option bL):=λν b=>
 (eZ (uX ν) b).bind λts=>(a ts).map λ(r,p)=>((Dz ν.length r).2,(Dz ν.length r).1,p,none)
def oH:List (FuncId×TE)->FuncId->Option TE
 | [],_=>none
 |(g,a)::l,f=>bif g==f then some a else oH l f
def aE (l:List (FuncId×TE)):Spec:=λf _ ν _ _ b=>(oH l f).bind λa=>adapt a ν b
def cV (C:fE):List (FuncId×TE)->Prop
 | []=>True
 |(f,a)::l=>bI C f a/\cV C l
theorem aIu {C:fE}{B:FuncId}{b:TE}:∀{l:List (FuncId×TE)},cV C l->oH l B=some b->bI C B b
 | [],_,h=>by simp[oH]at h
 |(g,t)::l,a,h=>by
  unfold oH at h
  cases e:g==B with
  |true=>
   rw[e]at h;cases h
   have:g=B:=by simpa using e
   subst this;exact a.1
  |false=>rw[e]at h;exact aIu a.2 h
variable {C:fE}
theorem dL {w0:World}{ψ:LI}{l:List (FuncId×TE)}(A:cV C l):SpecOk C w0 ψ (aE l):=by
 intro f d ν id M vs L r p F h;unfold aE at h;obtain⟨N,o,k⟩:=aS h;obtain⟨b,g⟩:=aIu A o;refine⟨b,λB P a φ w J _ _ _ _ j=>?_⟩;unfold adapt at k;obtain⟨ts,q,s⟩:=aS k;obtain⟨⟨I,H⟩,u,n⟩:=bU s;simp only[A7]at n;obtain⟨rfl,rfl,rfl,rfl⟩:=n;refine(g ts I H u B w J (aHR (λi x D=>a i x (sH _ _ i x D)) q j)).mono ?_;rintro e O⟨v,rfl,hv,z⟩;refine⟨v,rfl,z,aSt ?_ hv⟩;intro i y E;exact a _ _ (by rw[n9 (by omega)];simpa using E)
inductive Out where
 |ret (r:RV)
 |br (t:Bool) (a b:Out)
 |need (p:List Prop) (o:Out)
def Out.ok (G:RV->Prop):Out->Prop
 |.ret r=>G r
 |.br t a b=>(t=true->a.ok G)/\(t=false->b.ok G)
 |.need p o=>Holds p/\o.ok G
def rvOf (ν:LV):AT->Option RV
 |.val v=>(uX ν v).map .val
 |.tup a=>(eZ (uX ν) a).map .tup
 |_=>none
def outcome:Tr->Option Out
 |.ret r s=>bif clean s then(rvOf s.nums r).map .ret else none
 |.br t a b=>(outcome a).bind λx=>(outcome b).map λy=>.br t x y
 |.need p t=>(outcome t).map (.need p)
 |.stop _ _=>none
def start (fn:Func)(ts:List VT):AS:=⟨(eD 0 ts).1.map .val++List.replicate (fn.ntmps-(eD 0 ts).1.length) .gG,[],0,(eD 0 ts).2,[]⟩
theorem yK {G:RV->Prop}:∀{i:Tr} {o:Out},outcome i=some o->o.ok G->i.ok (λr s=>clean s=true/\∃g,rvOf s.nums r=some g/\G g) (λ_ _=>False)
 |.ret r s,o,h,d=>by
  simp only[outcome]at h
  cases hc:clean s with
  |false=>rw[hc]at h;cases h
  |true=>rw[hc]at h;obtain⟨g,f,rfl⟩:=bU h;exact⟨hc,g,f,d⟩
 |.br t a b,o,h,d=>by
  simp only[outcome]at h;obtain⟨x,f,j⟩:=aS h;obtain⟨y,k,rfl⟩:=bU j;exact⟨λe=>yK f (d.1 e),λe=>yK k (d.2 e)⟩
 |.need p t,o,h,d=>by
  simp only[outcome]at h;obtain⟨x,f,rfl⟩:=bU h;exact⟨d.1,yK f d.2⟩
 |.stop _ _,o,h,_=>by cases h
theorem Cr {φ:LI}{w:World}{r:AT}{d:RV}{v:Value}(h:rvOf ν r=some d)(b:relT C φ ν w r v):RRV C w d v:=by
 cases r with
 |val x=>simp only[rvOf]at h;obtain⟨t,a,rfl⟩:=bU h;exact aPv (λ_ _ h=>h) a b
 |tup i=>simp only[rvOf]at h;obtain⟨ts,a,rfl⟩:=bU h;obtain⟨g,e,f⟩:=b;exact⟨g,e,aHR (λ_ _ h=>h) a f⟩
 |_=>simp[rvOf]at h
theorem Oh (fn:Func)(ts:List VT)(w:World):RepW C w (λ_=>none) (λ_=>none) (start fn ts) w:=
 ⟨λb B a=>(by simp[start,look]at a),λb B k o a=>(by simp[start,look]at a),λb f B d k o g a=>(by simp[start,look]at a),λb B a=>(by simp[start,look]at a),λb _=>rfl,λb k o e=>(by cases e),λk _ _=>rfl,On.refl _ _,λb x e=>e,λb B k o a=>(by simp[start,look]at a)⟩
end Ab
namespace Rd
def cK (n:Int):Bool:=decide (48<=n/\n<=57)
def isLet (n:Int):Bool:=decide (97<=n/\n<=122)
def kindOf (n:Int):Int:=bif cK n then 1 else bif isLet n then 2 else 3
def aQ (s:ByteArray)(k:Nat):Int:=((s.data.toList.getD k 0).toNat:Int)
theorem Ib (s:ByteArray)(k:Nat)(h:k<s.size):aQ s k=(s[k].toNat:Int):=by
 unfold aQ;have a:k<s.data.size:=h
 have e:s.data[k]?=some (s[k]):=by rw[q8 a];rfl
 simp[l5,e]
def cF (s:ByteArray)(a:Nat):Nat->Nat->Nat
 |0,e=>e
 |f+1,e=>bif decide (e<s.size/\e-a<9)&&cK (aQ s e)then cF s a f (e+1)else e
def bM (s:ByteArray):Nat->Nat->Nat
 |0,e=>e
 |f+1,e=>bif decide (e<s.size)&&(isLet (aQ s e)||cK (aQ s e))then bM s f (e+1)else e
theorem aOm (s:ByteArray)(a:Nat):∀f e,e<=cF s a f e:=by
 intro f
 induction f with
 |zero=>intro e;exact w9 _
 |succ f b=>
  intro e;unfold cF
  cases decide (e<s.size/\e-a<9)&&cK (aQ s e)with
  |false=>exact w9 _
  |true=>exact A0 (by omega) (b (e+1))
theorem aOl (s:ByteArray)(a:Nat):∀f e,e<=s.size->cF s a f e<=s.size:=by
 intro f
 induction f with
 |zero=>intro e h;exact h
 |succ f b=>
  intro e h;unfold cF
  cases hc:decide (e<s.size/\e-a<9)&&cK (aQ s e)with
  |false=>exact h
  |true=>
   simp only[p7,decide_eq_true_eq]at hc;exact b (e+1) (by omega)
theorem aL9 (s:ByteArray):∀f e,e<=bM s f e:=by
 intro f
 induction f with
 |zero=>intro e;exact w9 _
 |succ f a=>
  intro e;unfold bM
  cases decide (e<s.size)&&(isLet (aQ s e)||cK (aQ s e))with
  |false=>exact w9 _
  |true=>exact A0 (by omega) (a (e+1))
theorem aL8 (s:ByteArray):∀f e,e<=s.size->bM s f e<=s.size:=by
 intro f
 induction f with
 |zero=>intro e h;exact h
 |succ f a=>
  intro e h;unfold bM
  cases hc:decide (e<s.size)&&(isLet (aQ s e)||cK (aQ s e))with
  |false=>exact h
  |true=>
   simp only[p7,decide_eq_true_eq]at hc;exact a (e+1) (by omega)
structure Wd where
 kind:Int
 text:ByteArray
 pos:Nat
def wordEnd (s:ByteArray)(a:Nat):Nat:=
 bif Rd.cK (aQ s a)then cF s a 9 (a+1)else bif Rd.isLet (aQ s a)then bM s s.size (a+1)else a+1
def split (s:ByteArray):Nat->Nat->List Wd
 |0,_=>[]
 |f+1,a=>
  bif decide (a<s.size)then
   bif aQ s a != 32 then⟨kindOf (aQ s a),s.extract a (wordEnd s a),a⟩::split s f (wordEnd s a)
   else split s f (wordEnd s a)
  else [⟨0,⟨#[]⟩,s.size⟩]
theorem Hu (s:ByteArray)(a:Nat):a+1<=wordEnd s a:=by grind [wordEnd,aOm,aL9]
theorem Kt (s:ByteArray)(a:Nat)(h:a<s.size):wordEnd s a<=s.size:=by grind [wordEnd,aOl,aL8]
def dY:List Wd->List Value
 | []=>[]
 |w::r=>.int .i64 w.kind::.string w.text::.int .i64 w.pos::dY r
theorem aEs (a b:List Wd):dY (a++b)=dY a++dY b:=by
 induction a with
 |nil=>rfl
 |cons x r d=>simp[dY,d]
def valTo (t:ByteArray):Nat->Int
 |0=>0
 |k+1=>bif cK (aQ t k)then valTo t k*10+(aQ t k-48)else valTo t k
theorem aHQ (t:ByteArray):∀k,0<=valTo t k:=by
 intro k
 induction k with
 |zero=>exact Int.le_refl _
 |succ k a=>
  unfold valTo
  cases h:cK (aQ t k)with
  |false=>exact a
  |true=>
   simp[cK]at h;simp;omega
theorem aRc (t:ByteArray):∀k,valTo t k<(10:Int)^k:=by
 intro k
 induction k with
 |zero=>simp[valTo]
 |succ k b=>
  unfold valTo;rw[Int.pow_succ];have a:=aHQ t k
  cases h:cK (aQ t k)with
  |false=>simp;omega
  |true=>
   simp[cK]at h;simp;omega
theorem aLx (t:ByteArray)(k:Nat)(h:k<=9):valTo t k<1000000000:=by
 have a:=aRc t k
 have b:(10:Int)^k<=10^9:=by
  have:=Nat.pow_le_pow_right (n:=10) (by omega) h;exact_mod_cast this
 omega
def isT (t:ByteArray)(c:ON):Bool:=t.data.toList==c
theorem aRB (t:ByteArray)(c:ON):(t.toList==c)=isT t c:=by unfold isT;rw[ByteArray.toList_eq]
def named (t:ByteArray):Int:=
 bif isT t [112,105]then 2 else bif isT t [101]then 3 else bif isT t [99,102]then 4 else bif isT t [115,113,114,116]then 10
 else bif isT t [101,120,112]then 11 else bif isT t [108,110,49,112]then 12 else bif isT t [97,116,97,110]then 13 else 0
structure St where
 next:Nat
 around:Nat
 deepest:Nat
 nodes:Nat
def aD (ws:List Wd)(n:Nat):Wd:=ws.getD n ⟨0,⟨#[]⟩,0⟩
theorem aPw:∀(a:List Wd) (n:Nat),n<a.length->(dY a)[n*3]?=some (.int .i64 (aD a n).kind)/\(dY a)[n*3+1]?=some (.string (aD a n).text)/\(dY a)[n*3+2]?=some (.int .i64 (aD a n).pos):=by
 intro a
 induction a with
 |nil=>intro n h;simp at h
 |cons x r b=>
  intro n h
  cases n with
  |zero=>simp[dY,aD]
  |succ n=>
   have:=b n (by simpa using h)
   simpa[dY,aD,Nat.add_mul]using this
end Rd
theorem yM {k:IntKind}{a b:Int}(h:a=b):Ending.returned (.int k a)=.returned (.int k b):=by rw[h]
theorem Fs (n:Int)(w:World):
  Calls prog 140 #[.int .u8 n] w λe a=>e=.returned (.bool (Rd.cK n))/\w=a:=by
 by_cases b:48<=n
 all_goals by_cases d:n<=57
 all_goals
  go_enter func140,ntmps140
  go_wp2
  go_ret
  exact⟨by simp[Rd.cK];omega,rfl⟩
theorem Tu (n:Int)(w:World):
  Calls prog 141 #[.int .u8 n] w λe a=>e=.returned (.bool (Rd.isLet n))/\w=a:=by
 by_cases b:97<=n
 all_goals by_cases d:n<=122
 all_goals
  go_enter func141,ntmps141
  go_wp2
  go_ret
  exact⟨by simp[Rd.isLet];omega,rfl⟩
theorem Tw (n:Int)(w:World):
  Calls prog 120 #[.int .u8 n] w λe a=>e=.returned (.int .i64 (Rd.kindOf n))/\w=a:=by
 cases b:Rd.cK n
 all_goals cases d:Rd.isLet n
 all_goals
  go_enter func120,ntmps120
  go_wp2_with (first|(go_at_call 140;refine(Fs _ _).mono ?_;rintro e a⟨rfl,rfl⟩)|(go_at_call 141;refine(Tu _ _).mono ?_;rintro e a⟨rfl,rfl⟩))
  go_ret
  exact⟨by simp[Rd.kindOf,b,d],rfl⟩
theorem aHr (s:ByteArray)(a:Nat)(w:World)(p:s.size<=120)(o:a<s.size):
  Calls prog 121 #[.string s,.int .i64 a] w λe g=>e=.returned (.int .i64 (Rd.cF s a 9 (a+1)))/\w=g:=by
 go_enter func121,ntmps121
 go_wp2_with fail
 go_loop [5] (λe=>∃k:Nat,a+1<=k/\k<=a+9/\k<=s.size/\e=.int .i64 k/\Hid (Rd.cF s a (a+10-k) k=Rd.cF s a 9 (a+1))) (λe=>s.size-(intOf e).toNat)
 case atStart=>exact⟨a+1,by omega,by omega,by omega,by go_num,by rw[show a+10-(a+1)=9 by omega];rfl⟩
 case round=>
  obtain⟨k,j,l,n,rfl,d⟩:=hrel
  obtain⟨f,h⟩:∃f,a+10-k=f+1:=⟨a+9-k,by omega⟩
  have b:Hid (a+10-k=f+1):=h;clear h
  by_cases c1:k<s.size
  .by_cases c2:(k:Int)-a<9
   .cases c3:Rd.cK (s[k].toNat:Int)
    .go_wp2_with (go_at_call 140;refine(Fs _ _).mono ?_;rintro e g⟨rfl,rfl⟩)
     go_ret
     refine⟨yM ?_,rfl⟩;rw[<-d.out,b.out,Rd.cF,Rd.Ib s k c1,c3];simp
    .go_wp2_with (go_at_call 140;refine(Fs _ _).mono ?_;rintro e g⟨rfl,rfl⟩)
     go_round
     case rel=>
      refine⟨k+1,by omega,by omega,by omega,by go_num,?_⟩;show Rd.cF s a (a+10-(k+1)) (k+1)=_
      have i:a+10-(k+1)=f:=by have:=b.out;omega
      rw[i,<-d.out,b.out]
      conv=>rhs;rw[Rd.cF,Rd.Ib s k c1,c3]
      simp[c1,show k-a<9 by omega]
     case measure=>simp[intOf];omega
   .go_wp2_with fail
    go_ret
    refine⟨yM ?_,rfl⟩;rw[<-d.out,b.out,Rd.cF,decide_eq_false (by omega)];simp
  .go_wp2_with fail
   go_ret
   refine⟨yM ?_,rfl⟩;rw[<-d.out,b.out,Rd.cF,decide_eq_false (by omega)];simp
theorem aJP (s:ByteArray)(a:Nat)(w:World)(o:s.size<=120)(n:a<s.size):
  Calls prog 122 #[.string s,.int .i64 a] w λe b=>e=.returned (.int .i64 (Rd.bM s s.size (a+1)))/\w=b:=by
 go_enter func122,ntmps122
 go_wp2_with fail
 go_loop [5] (λe=>∃k:Nat,a+1<=k/\k<=s.size/\e=.int .i64 k/\Hid (Rd.bM s (s.size+a+1-k) k=Rd.bM s s.size (a+1))) (λe=>s.size-(intOf e).toNat)
 case atStart=>exact⟨a+1,by omega,by omega,by go_num,by rw[show s.size+a+1-(a+1)=s.size by omega];rfl⟩
 case round=>
  obtain⟨k,j,l,rfl,g⟩:=hrel
  obtain⟨f,i⟩:∃f,s.size+a+1-k=f+1:=⟨s.size+a-k,by omega⟩
  have d:Hid (s.size+a+1-k=f+1):=i;clear i
  by_cases c1:k<s.size
  .cases c2:Rd.isLet (s[k].toNat:Int)
   .cases c3:Rd.cK (s[k].toNat:Int)
    .go_wp2_with (first|(go_at_call 140;refine(Fs _ _).mono ?_;rintro e b⟨rfl,rfl⟩)|(go_at_call 141;refine(Tu _ _).mono ?_;rintro e b⟨rfl,rfl⟩))
     go_ret
     refine⟨yM ?_,rfl⟩;rw[<-g.out,d.out,Rd.bM,Rd.Ib s k c1,c2,c3];simp
    .go_wp2_with (first|(go_at_call 140;refine(Fs _ _).mono ?_;rintro e b⟨rfl,rfl⟩)|(go_at_call 141;refine(Tu _ _).mono ?_;rintro e b⟨rfl,rfl⟩))
     go_round
     case rel=>
      refine⟨k+1,by omega,by omega,by go_num,?_⟩;show Rd.bM s (s.size+a+1-(k+1)) (k+1)=_
      have h:s.size+a+1-(k+1)=f:=by have:=d.out;omega
      rw[h,<-g.out,d.out]
      conv=>rhs;rw[Rd.bM,Rd.Ib s k c1,c2,c3]
      simp[c1]
     case measure=>simp[intOf];omega
   .go_wp2_with (first|(go_at_call 140;refine(Fs _ _).mono ?_;rintro e b⟨rfl,rfl⟩)|(go_at_call 141;refine(Tu _ _).mono ?_;rintro e b⟨rfl,rfl⟩))
    go_round
    case rel=>
     refine⟨k+1,by omega,by omega,by go_num,?_⟩;show Rd.bM s (s.size+a+1-(k+1)) (k+1)=_
     have h:s.size+a+1-(k+1)=f:=by have:=d.out;omega
     rw[h,<-g.out,d.out]
     conv=>rhs;rw[Rd.bM,Rd.Ib s k c1,c2]
     simp[c1]
    case measure=>simp[intOf];omega
  .go_wp2_with fail
   go_ret
   refine⟨yM ?_,rfl⟩;rw[<-g.out,d.out,Rd.bM,decide_eq_false (by omega)];simp
end Go.Proofs.YtpdflaaamaokbaaGreatDoor
