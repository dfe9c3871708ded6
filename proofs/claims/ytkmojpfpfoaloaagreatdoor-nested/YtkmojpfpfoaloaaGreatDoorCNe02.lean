import Derived.Test.YtkmojpfpfoaloaaGreatDoorCNe01
import Derived.Test.YtkmojpfpfoaloaaGreatDoorRows
import Derived.WalkKit
import Derived.WalkSpells
import Derived.WalkLawsBesides
set_option linter.all false
set_option maxRecDepth 100000
set_option maxHeartbeats 2000000
namespace Go.Proofs.YtkmojpfpfoaloaaGreatDoor
open Go.Proofs.Tryz
open Go.RowKit
namespace Ab
def fR:AT->List Nat
 |.val (.one (.ptr b _))=>[b]
 |.val (.one (.slc b _ _ _))=>[b]
 |_=>[]
def fA (b:Operand->AT):Op->List Nat
 |.load _ a=>fR (b a)
 |.store _ a _=>fR (b a)
 |.call { callee:=.builtin .append,args:=args,..}=>args.toList.flatMap fun x=>fR (b x)
 |_=>[]
def reads (all:Array Oper)(o:Oper):List Tmp:=
 (o.op.operands.toList.filterMap fun|.tmp t=>some t|_=>none)++(match o.guard with|some (g,_)=>((all[g]?).bind (·.dst)).toList|none=>[])
abbrev Tb:=List (Oper×iF×List Nat)
def lW (L:Nat->Bool):Nat->Tb->List AT->List AT
 |_,[],a=>a
 |k,(o,e,_)::r,a=>lW L (k+1) r (bif L k then putT a o.dst e.res else a)
def bxL (L:Nat->Bool)(n0:Nat):Nat->Tb->(Nat->Option bO)->(Nat->Option bO)
 |_,[],a=>a
 |k,(_,e,_)::r,a=>bxL L n0 (k+1) r (bif L k then iH (n0+k) e a else a)
def qK (n0:Nat):Nat->Tb->List (Nat×bO)->List (Nat×bO)
 |_,[],l=>l
 |k,(_,e,_)::r,l=>qK n0 (k+1) r (xL (n0+k) e l)
def Bk (C:fF)(sp:Spec)(f:Nat->Option bO)(all:Array Oper)(n0:Nat):Nat->List Oper->List AT->List (Nat×bO)->List (Int×Nat)->Option (Tb×List (Int×Nat)×List Prop)
 |_,[],_,_,ν=>some ([],ν,[])
 |k,o::r,a,l,ν=>(qO C sp f all a (look l) ν (n0+k) o).bind fun(e,b,p)=>
  (Bk C sp f all n0 (k+1) r (putT a o.dst e.res) (xL (n0+k) e l) (ν++b)).map fun(T,d,q)=>((o,e,fA (iS a) o.op)::T,d,p++q)
def eO (id:Nat)(e:iF):List Nat:=
 match e.new with
 |some _=>id::e.app.toList
 |none=>(e.mQ.map (·.1)).toList
theorem Yf (id:Nat)(e:iF)(l:List (Nat×bO))(hid:look l id=none):look (xL id e l)=iH id e (look l):=by
 unfold xL iH
 cases e.new with
 |some B=>
  simp only
  cases e.app with
  |none=>exact Cx _ _ _
  |some b=>
   simp only[lX]
   cases a:look l b with
   |none=>simp only;exact Cx _ _ _
   |some O=>
    simp only
    have d:b≠id:=by rintro rfl;rw[hid]at a;cases a
    rw[Yq (B:=O) (by rw[Cx,mH d];exact a),Cx]
 |none=>
  simp only
  cases e.mQ with
  |none=>rfl
  |some p=>
   obtain⟨b,cs⟩:=p;simp only
   cases h:look l b with
   |some B=>exact aFN h cs
   |none=>
    funext x;rw[Yp]
    by_cases ex:x=b
    ·subst ex;rw[if_pos rfl,h];simp only;exact h.symm
    ·rw[if_neg ex]
variable {a:Nat->Option bO}{w b:Nat}
theorem aLi {D:bO}{old:Option Nat}(d:b≠w)(f:old≠some b):lX a w D old b=a b:=by
 unfold lX
 cases old with
 |none=>exact mH d
 |some o=>
  have g:b≠o:=fun e=>f (by rw[e])
  simp only
  cases a o with
  |none=>exact mH d
  |some O=>simp only;rw[mH g];exact mH d
theorem aMs {d:Nat->Option bO}{D:bO}{old:Option Nat}(h:b=w\/old=some b)(g:a b=d b):lX a w D old b=lX d w D old b:=by
 unfold lX
 cases old with
 |none=>
  rcases h with rfl|h
  ·simp only[rT]
  ·cases h
 |some o=>
  simp only
  by_cases f:b=o
  ·subst f;rw[g]
   cases d b with
   |none=>simp only[setB];split;rfl;exact g
   |some O=>simp only;rw[rT,rT]
  ·have i:b=w:=by
    rcases h with h|h
    ·exact h
    ·exact absurd (Option.some.inj h).symm f
   subst i
   have e:∀a:Nat->Option bO,(match a o with|some B=>setB (setB a b D) o {B with tip:=false} |none=>setB a b D) b=some D:=by
    intro a
    cases a o with
    |none=>exact rT _ _ _
    |some O=>simp only;rw[mH f];exact rT _ _ _
   exact(e a).trans (e d).symm
variable {id:Nat}{e:iF}
theorem Mh (h:b∉eO id e):iH id e a b=a b:=by
 unfold eO at h;unfold iH
 cases d:e.new with
 |some B=>
  simp only[d,List.mem_cons,not_or]at h ⊢;exact aLi h.1 (fun f=>h.2 (by rw[f];simp))
 |none=>
  simp only[d]at h ⊢
  cases g:e.mQ with
  |none=>rfl
  |some p=>
   obtain⟨c,cs⟩:=p;simp only[g,Option.map_some,Option.toList_some,List.mem_singleton]at h ⊢
   cases a c with
   |none=>rfl
   |some B=>simp only;exact mH h
theorem aH5 {f:Nat->Option bO}(h:b∈eO id e)(d:f b=a b):iH id e f b=iH id e a b:=by
 unfold eO at h;unfold iH
 cases g:e.new with
 |some B=>
  simp only[g,List.mem_cons]at h ⊢;refine aMs ?_ d
  rcases h with h|h
  ·exact Or.inl h
  ·exact Or.inr (by simpa using h)
 |none=>
  simp only[g]at h ⊢
  cases i:e.mQ with
  |none=>simp[i]at h
  |some p=>
   obtain⟨c,cs⟩:=p;simp only[i,Option.map_some,Option.toList_some,List.mem_singleton]at h ⊢;subst h;rw[d]
   cases a b with
   |none=>simp only;exact d
   |some B=>simp only;rw[rT,rT]
theorem Zj (a:List AT)(d:Option Tmp)(v:AT):(putT a d v).length=a.length:=by cases d<;>simp[putT]
theorem Xj {a:List AT}{d:Option Tmp}{v:AT}{t:Nat}(h:d≠some t):(putT a d v)[t]?=a[t]?:=by
 cases d with
 |none=>rfl
 |some d=>simp only[putT];rw[List.getElem?_set_ne (fun e=>h (by rw[e]))]
theorem Xy {b a:List AT}{v:AT}{t:Nat}(h:b.length=a.length):(putT b (some t) v)[t]?=(putT a (some t) v)[t]?:=by
 simp[putT,List.getElem?_set,h]
theorem aOC {L:Nat->Bool}:∀(T:Tb) (k:Nat) (a:List AT),(lW L k T a).length=a.length
 | [],_,_=>rfl
 |(o,e,_)::r,k,a=>by
  unfold lW;rw[aOC r];cases L k
  ·rfl
  ·exact Zj _ _ _
theorem Tp {L L':Nat->Bool}{t:Nat}:∀(T:Tb) (k:Nat) (b a:List AT),b.length=a.length->b[t]?=a[t]?->(∀(i:Nat) x,T[i]?=some x->x.1.dst=some t->L (k+i)=L' (k+i))->(lW L k T b)[t]?=(lW L' k T a)[t]?
 | [],_,_,_,_,h,_=>h
 |(o,e,c)::r,k,b,a,g,h,f=>by
  unfold lW;refine Tp r (k+1) _ _ ?_ ?_ (fun i x n d=>by have:=f (i+1) x (by simpa using n) d;rw[show k+1+i=k+(i+1) by omega];exact this)
  ·cases L k<;>cases L' k<;>simp[Zj,g]
  ·by_cases d:o.dst=some t
   ·have:=f 0 (o,e,c) rfl d;rw[Nat.add_zero]at this;rw[this,d];cases L' k
    ·exact h
    ·exact Xy g
   ·have j:(bif L k then putT b o.dst e.res else b)[t]?=b[t]?:=by cases L k;rfl;exact Xj d
    have l:(bif L' k then putT a o.dst e.res else a)[t]?=a[t]?:=by cases L' k;rfl;exact Xj d
    rw[j,l,h]
variable {L:Nat->Bool}
theorem aTd {t:Nat}:∀(T:Tb) (k:Nat) (a:List AT),(∀(i:Nat) x,T[i]?=some x->x.1.dst=some t->L (k+i)=false)->(lW L k T a)[t]?=a[t]?:=by
 intro T k a h;have:=Tp (L:=L) (L':=fun _=>false) (t:=t) T k a a rfl rfl h;rw[this];clear this h
 induction T generalizing k with
 |nil=>rfl
 |cons x r b=>obtain⟨o,e,c⟩:=x;unfold lW;exact b (k+1)
theorem Zy {L:Nat->Bool}:∀(T:Tb) (k:Nat) (a:List AT),(∀i,k<=i->L i=false)->lW L k T a=a
 | [],_,_,_=>rfl
 |(o,e,c)::r,k,a,h=>by
  unfold lW;rw[h k (Nat.le_refl _)]
  exact Zy r (k+1) a fun i hi=>h i (by omega)
theorem aRo {L:Nat->Bool}{t:Nat}:∀(T:Tb) (j k:Nat) (b:List AT) (x:Oper×iF×List Nat),T[j]?=some x->x.1.dst=some t->L (k+j)=true->(∀(i:Nat) y,i≠j->T[i]?=some y->y.1.dst≠some t)->(lW L k T b)[t]?=(putT b (some t) x.2.1.res)[t]?
 |(o,e,c)::r,0,k,b,x,a,f,d,g=>by
  simp at a;subst a;unfold lW;rw[Nat.add_zero]at d;rw[d];simp only[cond_true];rw[aTd r (k+1) _ (fun i y h l=>absurd l (g (i+1) y (by omega) (by simpa using h)))];simp only at f;rw[f]
 |(o,e,c)::r,j+1,k,b,x,a,f,d,g=>by
  unfold lW;have n:o.dst≠some t:=g 0 (o,e,c) (by omega) rfl;rw[aRo r j (k+1) _ x (by simpa using a) f (by rw[show k+1+j=k+(j+1) by omega];exact d) (fun i y hi h=>g (i+1) y (by omega) (by simpa using h))];refine Xy ?_;cases L k
  ·rfl
  ·exact Zj _ _ _
 | [],j,k,b,x,a,_,_,_=>by simp at a
theorem aVD {T:Tb}{b:List AT}{x:Oper×iF×List Nat}(f:T[w]?=some x)(h:L w=false)(g:∀(i:Nat) y t,i≠w->T[i]?=some y->x.1.dst=some t->y.1.dst≠some t):lW (fun i=>L i||i==w) 0 T b=putT (lW L 0 T b) x.1.dst x.2.1.res:=by
 apply List.ext_getElem?;intro t
 by_cases a:x.1.dst=some t
 ·rw[aRo T w 0 b x f a (by simp) (fun i y hi d=>g i y t hi d a),a];exact Xy (aOC _ _ _).symm
 ·rw[Xj a]
  refine Tp T 0 b b rfl rfl fun i y d e=>?_
  have:i≠w:=by rintro rfl;rw[f]at d;cases d;exact a e
  simp[this]
theorem Mz {L L':Nat->Bool}{n0 b:Nat}:∀(T:Tb) (k:Nat) (d a:Nat->Option bO),d b=a b->(∀(i:Nat) x,T[i]?=some x->b∈eO (n0+(k+i)) x.2.1->L (k+i)=L' (k+i))->bxL L n0 k T d b=bxL L' n0 k T a b
 | [],_,_,_,h,_=>h
 |(o,e,c)::r,k,d,a,h,g=>by
  unfold bxL;refine Mz r (k+1) _ _ ?_ (fun i x n f=>by have:=g (i+1) x (by simpa using n) (by rw[show k+(i+1)=k+1+i by omega];exact f);rw[show k+1+i=k+(i+1) by omega];exact this)
  by_cases f:b∈eO (n0+k) e
  ·have:=g 0 (o,e,c) rfl f;rw[Nat.add_zero]at this;rw[this];cases L' k
   ·exact h
   ·exact aH5 f h
  ·have j:(bif L k then iH (n0+k) e d else d) b=d b:=by cases L k;rfl;exact Mh f
   have l:(bif L' k then iH (n0+k) e a else a) b=a b:=by cases L' k;rfl;exact Mh f
   rw[j,l,h]
theorem Ub {L:Nat->Bool}{n0:Nat}:∀(T:Tb) (k:Nat) (a:Nat->Option bO),(∀i,k<=i->L i=false)->bxL L n0 k T a=a
 | [],_,_,_=>rfl
 |(o,e,c)::r,k,a,h=>by
  unfold bxL;rw[h k (Nat.le_refl _)]
  exact Ub r (k+1) a fun i hi=>h i (by omega)
variable {n0:Nat}
theorem aMH (T:Tb)(k:Nat)(a:Nat->Option bO)(h:∀(i:Nat) x,T[i]?=some x->b∈eO (n0+(k+i)) x.2.1->L (k+i)=false):bxL L n0 k T a b=a b:=by
 rw[Mz (L':=fun _=>false) T k a a rfl h,Ub T k a fun _ _=>rfl]
theorem aQM {L:Nat->Bool}{n0 j:Nat}:∀(T:Tb) (k:Nat) (a:Nat->Option bO) (i:Nat) (x:Oper×iF×List Nat),T[i]?=some x->j=k+i->L j=false->(∀(m:Nat) y b,i<m->T[m]?=some y->b∈eO (n0+j) x.2.1->b∈eO (n0+(k+m)) y.2.1->L (k+m)=false)->bxL (fun i=>L i||i==j) n0 k T a=iH (n0+j) x.2.1 (bxL L n0 k T a)
 |(o,e,c)::r,k,a,0,x,f,l,h,p=>by
  simp at f;subst f;simp only[Nat.add_zero]at l;subst l;unfold bxL;simp only[h,Bool.false_or,beq_self_eq_true,cond_true,cond_false]
  have d:bxL (fun i=>L i||i==j) n0 (j+1) r (iH (n0+j) e a)=bxL L n0 (j+1) r (iH (n0+j) e a):=by
   funext b
   refine Mz r (j+1) _ _ rfl fun m y _ _=>?_
   have:¬j+1+m=j:=by omega
   simp[this]
  rw[d];funext b
  by_cases g:b∈eO (n0+j) e
  ·have n:∀a,bxL L n0 (j+1) r a b=a b:=fun a=>aMH r (j+1) a fun m y q w=>by
    have:=p (m+1) y b (by omega) (by simpa using q) g (by rw[show j+(m+1)=j+1+m by omega];exact w);rw[show j+1+m=j+(m+1) by omega];exact this
   rw[n];exact aH5 g (n a).symm
  ·rw[Mh g]
   exact Mz r (j+1) _ _ (Mh g) fun _ _ _ _=>rfl
 |(o,e,c)::r,k,a,i+1,x,f,l,h,p=>by
  unfold bxL
  have v:¬k=j:=by omega
  have:(L k||k==j)=L k:=by simp[v]
  rw[this]
  exact aQM r (k+1) _ i x (by simpa using f) (by omega) h fun m y b n q s u=>by
   have:=p (m+1) y b (by omega) (by simpa using q) s (by rw[show k+(m+1)=k+1+m by omega];exact u);rw[show k+1+m=k+(m+1) by omega];exact this
 | [],k,a,i,x,f,_,_,_=>by simp at f
theorem aRn {L:Nat->Bool}:∀(T:Tb) (k:Nat) (a:List AT),(∀i,i<T.length->L (k+i)=true)->lW L k T a=lW (fun _=>true) k T a
 | [],_,_,_=>rfl
 |(o,e,c)::r,k,a,h=>by
  unfold lW;rw[show L k=true from h 0 (by simp)]
  exact aRn r (k+1) _ fun i hi=>by have:=h (i+1) (by simpa using hi);rw[show k+1+i=k+(i+1) by omega];exact this
def yZ (l:List (Nat×bO))(n:Nat):Prop:=∀b,n<=b->look l b=none
variable {l:List (Nat×bO)}
theorem aKF {k:Nat}(h:yZ l (n0+k)):yZ (xL (n0+k) e l) (n0+(k+1)):=by
 intro b g;rw[Yf _ _ _ (h _ (Nat.le_refl _))]
 by_cases ht:b∈eO (n0+k) e
 ·-- an old box: there is none
  unfold eO at ht;unfold iH
  cases a:e.new with
  |some B=>
   rw[a]at ht;simp only[List.mem_cons]at ht
   rcases ht with ht|ht
   ·omega
   ·have f:e.app=some b:=by simpa using ht
    simp only[f,lX,h b (by omega)];rw[mH (by omega)];exact h b (by omega)
  |none=>
   rw[a]at ht;simp only at ht ⊢
   cases d:e.mQ with
   |none=>rw[d]at ht;simp at ht
   |some p=>
    obtain⟨c,cs⟩:=p;rw[d]at ht;simp at ht;subst ht;simp only[h b (by omega)]
 ·rw[Mh ht];exact h b (by omega)
theorem aQN {L:Nat->Bool}{n0:Nat}:∀(T:Tb) (k:Nat) (l:List (Nat×bO)),yZ l (n0+k)->(∀i,i<T.length->L (k+i)=true)->bxL L n0 k T (look l)=look (qK n0 k T l)
 | [],_,_,_,_=>rfl
 |(o,e,c)::r,k,l,a,h=>by
  unfold bxL qK;rw[show L k=true from h 0 (by simp)];simp only[cond_true];rw[<-Yf _ _ _ (a _ (Nat.le_refl _))]
  exact aQN r (k+1) _ (aKF a) fun i hi=>by have:=h (i+1) (by simpa using hi);rw[show k+1+i=k+(i+1) by omega];exact this
theorem aRm {T:fF}{sp:Spec}{D:Nat->Option bO}{all:Array Oper}{n0:Nat}{r:List (Int×Nat)}:∀(os:List Oper) (k:Nat) (b:List AT) (l:List (Nat×bO)) (ν:List (Int×Nat)) (a:Tb) (p:List Prop),Bk T sp D all n0 k os b l ν=some (a,r,p)->yZ l (n0+k)->Holds p->
  a.length=os.length/\(∀(i:Nat) (x:Int×Nat),ν[i]?=some x->r[i]?=some x)/\∀(j:Nat) (x:Oper×iF×List Nat),a[j]?=some x->os[j]?=some x.1/\∃f g q,Holds q/\(∀(i:Nat) (y:Int×Nat),(f++g)[i]?=some y->r[i]?=some y)/\
   qO T sp D all (lW (fun i=>decide (i<k+j)) k a b) (bxL (fun i=>decide (i<k+j)) n0 k a (look l)) f (n0+(k+j)) x.1=some (x.2.1,g,q)/\x.2.2=fA (iS (lW (fun i=>decide (i<k+j)) k a b)) x.1.op
 | [],k,b,l,ν,a,p,h,s,w=>by
  simp only[Bk,Option.some.injEq,Prod.mk.injEq]at h;obtain⟨rfl,rfl,rfl⟩:=h;exact⟨rfl,fun _ _ h=>h,fun j x d=>by simp at d⟩
 |o::os,k,b,l,ν,a,p,h,s,w=>by
  unfold Bk at h;obtain⟨⟨e,z,q⟩,I,J⟩:=aU h;obtain⟨⟨n,E,R⟩,L,B⟩:=cA J;simp only[Prod.mk.injEq]at B;obtain⟨rfl,rfl,rfl⟩:=B;obtain⟨F,A,H⟩:=aRm os (k+1) _ _ _ n R L (aKF s) (fun x d=>w x (by simp[d]));refine⟨by simp[F],fun i x d=>A i x (rW _ _ i x d),fun j x d=>?_⟩
  cases j with
  |zero=>
   simp at d;subst d
   have u:lW (fun i=>decide (i<k+0)) k ((o,e,fA (iS b) o.op)::n) b=b:=Zy _ _ _ fun i hi=>by simp;omega
   have v:bxL (fun i=>decide (i<k+0)) n0 k ((o,e,fA (iS b) o.op)::n) (look l)=look l:=Ub _ _ _ fun i hi=>by simp;omega
   rw[u,v];exact⟨rfl,ν,z,q,(fun x d=>w x (by simp[d])),A,I,rfl⟩
  |succ j=>
   obtain⟨k1,f,g,S,M,N,O,P⟩:=H j x (by simpa using d)
   have u:lW (fun i=>decide (i<k+(j+1))) k ((o,e,fA (iS b) o.op)::n) b=lW (fun i=>decide (i<k+1+j)) (k+1) n (putT b o.dst e.res):=by
    conv=>lhs;unfold lW
    rw[show decide (k<k+(j+1))=true by simp];rw[show k+(j+1)=k+1+j by omega];rfl
   have v:bxL (fun i=>decide (i<k+(j+1))) n0 k ((o,e,fA (iS b) o.op)::n) (look l)=bxL (fun i=>decide (i<k+1+j)) n0 (k+1) n (look (xL (n0+k) e l)):=by
    rw[Yf _ _ _ (s _ (Nat.le_refl _))]
    conv=>lhs;unfold bxL
    rw[show decide (k<k+(j+1))=true by simp];rw[show k+(j+1)=k+1+j by omega];rfl
   rw[u,v,show n0+(k+(j+1))=n0+(k+1+j) by omega];exact⟨by simpa using k1,f,g,S,M,N,O,P⟩
variable {d:Nat->Option bO}
theorem aF3 {e:TypeId}{size:Nat}{t:AT}(h:∀b∈fR t,d b=a b):rowOf d e size t=rowOf a e size t:=by
 unfold rowOf;split
 ·rfl
 ·rename_i b f len sz;rw[h b (by simp[fR])]
 ·rfl
theorem aIz {i:Nat->Option bO}{e:TypeId}{size:Nat}{t:AT}{cs:List AC}{len:Nat}(h:rowOf i e size t=some (some b,cs,len)):b∈fR t:=by
 unfold rowOf at h;split at h
 ·cases h
 ·rename_i j f a sz;obtain⟨B,k,d⟩:=aU h
  cases g:(f==0&&sz==size&&B.ty==e&&B.cs.length==a*size)with
  |false=>rw[g]at d;cases d
  |true=>rw[g]at d;cases d;simp[fR]
 ·cases h
variable {k:Operand->AT}{z:Nat->Option bO}{op:Op}
theorem aH6 {P:Program}{j:Operand->AT}{n:Nat->Option bO}(h:∀x∈op.operands.toList,j x=k x)(A:∀b∈fA j op,z b=n b):evalOp P j z op=evalOp P k n op:=by
 cases op with
 |load t a=>
  have C:=h a (by simp[Op.operands]);simp only[evalOp,<-C]
  cases hc:eR (j a)with
  |none=>rfl
  |some c=>
   cases c<;>try rfl
   case ptr b off=>
    simp only[Option.bind_some];rw[A b (by simp[fA,pP hc,fR])]
 |store t a x=>
  have C:=h a (by simp[Op.operands]);have B:=h x (by simp[Op.operands]);simp only[evalOp,<-C,<-B]
  cases hc:eR (j a)with
  |none=>rfl
  |some c=>
   cases c<;>try rfl
   case ptr b off=>
    simp only[Option.bind_some];rw[A b (by simp[fA,pP hc,fR])]
 |build t g=>
  have:(g.toList.map fun(i,x)=>(i,j x))=(g.toList.map fun(i,x)=>(i,k x)):=List.map_congr_left fun p D=>by
   obtain⟨i,x⟩:=p;simp only;rw[h x (by simp only[Op.operands,List.mem_map];exact⟨(i,x),D,rfl⟩)]
  simp only[evalOp,this]
 |buildSlice t len g=>
  have:(g.toList.map fun(i,x)=>(i,j x))=(g.toList.map fun(i,x)=>(i,k x)):=List.map_congr_left fun p D=>by
   obtain⟨i,x⟩:=p;simp only;rw[h x (by simp only[Op.operands,List.mem_map];exact⟨(i,x),D,rfl⟩)]
  simp only[evalOp,this]
 |convert s d x=>simp only[evalOp,h x (by simp[Op.operands])]
 |call c=>
  obtain⟨q,args,l⟩:=c
  cases q with
  |builtin b=>
   cases b<;>try rfl
   case append=>
    simp only[evalOp];split
    ·rename_i t L s x E v;have H:j s=k s:=h s (by simp[Op.operands,Call.operands,v]);have B:j x=k x:=h x (by simp[Op.operands,Call.operands,v])
     have I:∀e size,rowOf z e size (j s)=rowOf n e size (j s):=fun e size=>aF3 fun b w=>A b (by simp only[fA,List.mem_flatMap];exact⟨s,by simp[v],w⟩)
     have J:∀e size,rowOf z e size (j x)=rowOf n e size (j x):=fun e size=>aF3 fun b w=>A b (by simp only[fA,List.mem_flatMap];exact⟨x,by simp[v],w⟩)
     simp only[<-H,<-B,<-I,<-J];congr;funext e;congr;funext _;congr;funext size;congr;funext i;congr;funext zero
     cases F:rowOf z e size (j s)with
     |none=>rfl
     |some p=>
      obtain⟨old,cs,len⟩:=p;simp only[Option.bind_some]
      have:kO z old=kO n old:=by
       cases old with
       |none=>rfl
       |some b=>
        unfold kO;simp only;rw[A b (by simp only[fA,List.mem_flatMap];exact⟨s,by simp[v],aIz F⟩)]
      rw[this]
    ·rfl
   case len=>
    simp only[evalOp]
    cases E:l.toList with
    |nil=>rfl
    |cons t r=>
     cases r with
     |cons _ _=>rfl
     |nil=>
      cases v:args.toList with
      |nil=>rfl
      |cons x r=>
       cases r with
       |cons _ _=>rfl
       |nil=>
        simp only;rw[h x (by simp[Op.operands,Call.operands,v])]
  |value f=>
   cases f with
   |func f=>
    have:args.toList.map j=args.toList.map k:=List.map_congr_left fun x B=>h x (by simp[Op.operands,Call.operands];right;simpa using B)
    simp only[evalOp,this]
   |_=>rfl
  |_=>rfl
 |move x=>simp only[evalOp,h x (by simp[Op.operands])]
 |assign x=>simp only[evalOp,h x (by simp[Op.operands])]
 |pick c a b=>simp only[evalOp,h c (by simp[Op.operands]),h a (by simp[Op.operands]),h b (by simp[Op.operands])]
 |box t x=>simp only[evalOp,h x (by simp[Op.operands])]
 |nilCheck x=>simp only[evalOp,h x (by simp[Op.operands])]
 |binOp o t x y u=>simp only[evalOp,h x (by simp[Op.operands]),h y (by simp[Op.operands])]
 |unOp o t x=>cases o<;>simp only[evalOp,h x (by simp[Op.operands])]
 |fieldAddr t x f=>simp only[evalOp,h x (by simp[Op.operands])]
 |field t x f=>simp only[evalOp,h x (by simp[Op.operands])]
 |indexAddr t x i=>simp only[evalOp,h x (by simp[Op.operands]),h i (by simp[Op.operands])]
 |index t x i=>simp only[evalOp,h x (by simp[Op.operands]),h i (by simp[Op.operands])]
 |extract x i=>simp only[evalOp,h x (by simp[Op.operands])]
 |_=>rfl
def nC.old:nC->Option Nat
 |.mQ b _=>some b
 |.app old _ _ _ _=>old
 |_=>none
def NoSto (e:Option nC):Prop:=∀f b,e=some f->f.old≠some b
theorem kG {d:Type}{x:Option d}{f:d->Option nC}(h:∀a,NoSto (f a)):NoSto (x.bind f):=by
 intro g b e;obtain⟨a,_,i⟩:=aU e;exact h a g b i
theorem wT {d:Type}{x:Option d}{f:d->nC}(h:∀a,NoSto (some (f a))):NoSto (x.map f):=by
 intro g b e;obtain⟨a,_,i⟩:=cA e;exact h a g b (by rw[i])
theorem rB (r:AT)(p:List Prop):NoSto (some (.val r p)):=fun _ _ e=>by cases e;intro h;cases h
theorem Mi (c:Bool){x y:Option nC}(a:NoSto x)(b:NoSto y):NoSto (bif c then x else y):=by cases c;exact b;exact a
theorem Yg (cs:List AC)(ty:TypeId)(sl:Option (Nat×Nat)):NoSto (some (.new cs ty sl)):=fun _ _ e=>by cases e;intro h;cases h
theorem aLP (f:FuncId)(a:List AV):NoSto (some (.call f a)):=fun _ _ e=>by cases e;intro h;cases h
theorem pE:NoSto none:=fun _ _ e=>by cases e
variable {r:Nat->Option bO}
theorem Xs {P:Program}{f:nC}(h:evalOp P k r op=some f)(p:f.old=some b):b∈fA k op:=by
 have no:NoSto (evalOp P k r op)->b∈fA k op:=fun M=>absurd p (M f b h)
 cases op with
 |store t a x=>
  simp only[evalOp]at h;obtain⟨c,w,l⟩:=aU h
  cases c<;>simp only at l<;>try cases l
  case ptr b' off=>
   obtain⟨v,I,z⟩:=aU l;obtain⟨B,J,g⟩:=aU z
   cases A:B.ro with
   |true=>rw[A]at g;cases g
   |false=>
    rw[A]at g;simp only[cond_false]at g;obtain⟨E,L,h8⟩:=cA g;subst h8;cases p;simp[fA,pP w,fR]
 |call c=>
  obtain⟨e,args,j⟩:=c
  cases e with
  |builtin D=>
   cases D<;>try (cases h;done)
   case len=>
    refine no ?_;simp only[evalOp];split
    ·refine kG (fun c=>?_)
     cases c<;>first|exact pE|exact wT fun _=>rB _ _|exact Mi _ (wT fun _=>rB _ _) pE
    ·exact pE
   case append=>
    simp only[evalOp]at h;split at h
    ·rename_i t T s x R F;obtain⟨S,w,h⟩:=aU h;obtain⟨H,l,h⟩:=aU h;obtain⟨size,I,h⟩:=aU h;obtain⟨i,z,h⟩:=aU h;obtain⟨zero,J,h⟩:=aU h;obtain⟨⟨old,cs,len⟩,g,h⟩:=aU h;obtain⟨⟨C,O,n⟩,L,h⟩:=aU h;simp only at h;generalize (Nat.ble (len+n) 100&&Nat.ble i.bytes 1000000&&!(n==0)&&!(size==0)&&zero.length==size&&kO r old)=q at h
     cases q with
     |false=>cases h
     |true=>
      cases h;simp only[nC.old]at p;subst p;simp only[fA,List.mem_flatMap];exact⟨s,by simp[F],aIz g⟩
    ·cases h
  |value f=>
   cases f with
   |func f=>exact no (wT fun _=>aLP _ _)
   |_=>cases h
  |_=>cases h
 |unOp o t x=>
  refine no ?_
  cases o<;>simp only[evalOp]<;>first
   |exact pE
   |exact kG fun c=>wT fun _=>rB _ _
   |exact kG fun c=>by cases c<;>first|exact pE|exact rB _ _
 |move x=>exact no (rB _ _)
 |assign x=>exact no (rB _ _)
 |pick c x y=>
  refine no (kG fun c=>?_)
  cases c<;>(try exact pE)<;>(try exact rB _ _)
  simp only
  split<;>first|exact pE|exact rB _ _
 |alloc t=>exact no (wT fun _=>Yg _ _ _)
 |box t x=>exact no (wT fun _=>Yg _ _ _)
 |build t N=>exact no (kG fun _=>kG fun _=>wT fun _=>rB _ _)
 |buildSlice t len N=>exact no (kG fun _=>kG fun _=>kG fun _=>Mi _ (kG fun _=>wT fun _=>Yg _ _ _) pE)
 |convert s d x=>
  refine no (kG fun _=>kG fun _=>kG fun _=>?_)
  split<;>first|exact pE|exact rB _ _
 |load t a=>
  refine no (kG fun c=>?_)
  cases c<;>(try exact pE)
  exact kG fun _=>wT fun _=>rB _ _
 |nilCheck x=>
  refine no (kG fun c=>?_)
  cases c<;>first|exact pE|exact rB _ _
 |binOp o t x y u=>exact no (kG fun _=>kG fun _=>wT fun _=>rB _ _)
 |fieldAddr t x f=>
  refine no (kG fun c=>?_)
  cases c<;>(try exact pE)
  exact kG fun _=>kG fun _=>kG fun n=>Mi _ pE (rB _ _)
 |field t x f=>
  refine no (kG fun c=>?_)
  cases c<;>(try exact pE)
  exact kG fun _=>kG fun _=>wT fun _=>rB _ _
 |indexAddr t x i=>
  refine no (kG fun c=>?_)
  cases c<;>(try exact pE)
  all_goals
   refine kG fun c=>?_
   cases c<;>(try exact pE)
   all_goals exact kG fun _=>kG fun _=>Mi _ (rB _ _) pE
 |index t x i=>
  refine no (kG fun c=>?_)
  cases c<;>(try exact pE)
  refine kG fun c=>?_
  cases c<;>(try exact pE)
  exact kG fun _=>kG fun _=>Mi _ (wT fun _=>rB _ _) pE
 |extract x i=>
  refine no ?_;simp only[evalOp]
  cases k x<;>first|exact pE|exact wT fun _=>rB _ _
 |_=>cases h
variable {all:Array Oper}{ν:List (Int×Nat)}{o:Oper}{p:List Prop}
theorem entTouch {T:fF}{sp:Spec}{i:List AT}{w:Nat->Option bO}{u:List (Int×Nat)}(h:qO T sp z all i w ν id o=some (e,u,p))(hs:b∈eO id e):(b=id/\e.new≠none)\/b∈fA (iS i) o.op:=by
 have plain:∀r,e=⟨r,none,none,none⟩->(b=id/\e.new≠none)\/b∈fA (iS i) o.op:=by
  rintro r rfl;simp[eO]at hs
 unfold qO at h
 cases F:gd all i o<;>rw[F]at h<;>simp only at h
 ·obtain⟨f,l,a⟩:=aU h
  cases f with
  |val r q=>simp only[eV,Option.some.injEq,Prod.mk.injEq]at a;exact plain r a.1.symm
  |new cs ty sl=>
   simp only[eV,Option.some.injEq,Prod.mk.injEq]at a;obtain⟨rfl,_⟩:=a;simp[eO]at hs;exact Or.inl ⟨hs,by simp⟩
  |app old cs ty len size=>
   simp only[eV]at a
   cases n:T.bt.contains ty<;>rw[n]at a
   ·cases a
   ·simp only[cond_true,Option.some.injEq,Prod.mk.injEq]at a;obtain⟨rfl,_⟩:=a;simp only[eO,List.mem_cons]at hs
    rcases hs with hs|hs
    ·exact Or.inl ⟨hs,by simp⟩
    ·exact Or.inr (Xs l (by simpa[nC.old]using hs))
  |mQ H A=>
   simp only[eV]at a;obtain⟨B,E,d⟩:=aU a
   cases n:T.bt.contains B.ty<;>rw[n]at d
   ·cases d
   ·simp only[cond_true,Option.some.injEq,Prod.mk.injEq]at d;obtain⟨rfl,_⟩:=d;simp[eO]at hs;exact Or.inr (Xs l (by simp[nC.old,hs]))
  |call f x=>
   simp only[eV]at a;obtain⟨⟨j,r,q,g⟩,_,k⟩:=aU a
   cases g with
   |some B=>
    simp only[Option.some.injEq,Prod.mk.injEq]at k;obtain⟨rfl,_⟩:=k;simp[eO]at hs;exact Or.inl ⟨hs,by simp⟩
   |none=>
    simp only[Option.some.injEq,Prod.mk.injEq]at k;exact plain _ k.1.symm
 ·simp only[Option.some.injEq,Prod.mk.injEq]at h;exact plain _ h.1.symm
 ·cases h
 ·rename_i c
  cases s:(evalOp T.P (iS i) w o.op).bind (fS c sp z ν id)with
  |none=>
   rw[s]at h;simp only[orElse]at h;obtain⟨f,args,ts,x,cs,j,v,q,_,_,_,D,_,_⟩:=aET h;exact plain _ D
  |some y=>
  rw[s]at h;simp only[orElse,Option.some.injEq]at h;subst h;obtain⟨f,l,a⟩:=aU s
  cases f with
  |val r q=>
   cases r<;>simp only[fS]at a<;>try cases a
   exact plain _ rfl
  |call f x=>
   simp only[fS]at a;obtain⟨⟨j,r,q,g⟩,E,d⟩:=aU a
   cases r<;>cases g<;>simp only at d<;>try cases d
   exact plain _ rfl
  |_=>simp[fS]at a
theorem aMU {b a:List AT}{x:Operand}(h:∀t,x=.tmp t->b[t]?=a[t]?):iS b x=iS a x:=by
 cases x with
 |tmp t=>simp only[iS,List.getD];rw[h t rfl]
 |_=>rfl
theorem aGY {c:Bool}{sp:Spec}{b a:Operand->AT}(h:∀x∈op.operands.toList,b x=a x):kC c sp d ν id b op=kC c sp d ν id a op:=by
 unfold kC;split
 ·rename_i f args ts
  have:args.toList.map b=args.toList.map a:=List.map_congr_left fun x e=>h x (by simp[Op.operands,Call.operands];exact Or.inr (by simpa using e))
  rw[this]
 ·rfl
theorem aLr {T:fF}{sp:Spec}{i a:List AT}{k h:Nat->Option bO}(n:∀t∈reads all o,i[t]?=a[t]?)(l:∀b∈fA (iS i) o.op,k b=h b):qO T sp r all i k ν id o=qO T sp r all a h ν id o:=by
 have s:gd all i o=gd all a o:=by
  unfold gd
  cases y:o.guard with
  |none=>rfl
  |some p=>
   obtain⟨g,q⟩:=p;simp only
   cases v:(all[g]?).bind (·.dst)with
   |none=>rfl
   |some d=>
    simp only;rw[n d (by simp[reads,y,v])]
 have j:∀ x∈o.op.operands.toList,iS i x=iS a x:=fun x z=>aMU fun t e=>n t (by
  subst e;simp only[reads,List.mem_append,List.mem_filterMap]
  exact Or.inl ⟨.tmp t,z,rfl⟩)
 have u:evalOp T.P (iS i) k o.op=evalOp T.P (iS a) h o.op:=aH6 j l;unfold qO;rw[s,<-u]
 cases gd all a o with
 |yes=>
  simp only
  cases w:evalOp T.P (iS i) k o.op with
  |none=>rfl
  |some f=>
   simp only[Option.bind_some]
   cases f with
   |mQ b cs=>simp only[eV];rw[l b (Xs w rfl)]
   |_=>rfl
 |cond c=>
  simp only;rw[aGY j]
 |_=>rfl
def maskOf (acc:List Nat)(o:Oper):Nat:=o.after.toList.foldl (fun m e=>bif Region.binds .any e then m |||2^e.on |||acc.getD e.on 0 else m) 0
def masks:List Nat->List Oper->List Nat
 |acc,[]=>acc
 |acc,o::r=>masks (acc++[maskOf acc o]) r
theorem aIh:∀(os:List Oper) (a:List Nat),∃r,masks a os=a++r/\r.length=os.length
 | [],a=>⟨[],by simp[masks],rfl⟩
 |o::os,a=>by
  obtain⟨r,b,d⟩:=aIh os (a++[maskOf a o]);exact⟨maskOf a o::r,by unfold masks;rw[b];simp,by simp[d]⟩
theorem aKs:∀(os:List Oper) (a:List Nat) (j:Nat) (o:Oper),os[j]?=some o->(masks a os)[a.length+j]?=some (maskOf ((masks a os).take (a.length+j)) o)
 |o'::os,a,0,o,h=>by
  simp at h;subst h;obtain⟨r,b,_⟩:=aIh os (a++[maskOf a o']);unfold masks;rw[b];simp
 |o'::os,a,j+1,o,h=>by
  have:=aKs os (a++[maskOf a o']) j o (by simpa using h);unfold masks;rw[show a.length+(j+1)=(a++[maskOf a o']).length+j by simp;omega];exact this
 | [],a,j,o,h=>by simp at h
variable {i:Nat}
theorem aLG {acc:List Nat}(h:(maskOf acc o).testBit i=true):∃e∈o.after.toList,Region.binds .any e=true/\(e.on=i\/(acc.getD e.on 0).testBit i=true):=by
 unfold maskOf at h
 have b:∀(l:List Edge) (m:Nat),(l.foldl (fun m e=>bif Region.binds .any e then m |||2^e.on |||acc.getD e.on 0 else m) m).testBit i=true->m.testBit i=true\/∃e∈l,Region.binds .any e=true/\(e.on=i\/(acc.getD e.on 0).testBit i=true):=by
  intro l
  induction l with
  |nil=>exact fun m h=>Or.inl h
  |cons e l j=>
   intro m h;simp only[List.foldl_cons]at h
   rcases j _ h with h|⟨d,f,g⟩
   ·cases a:Region.binds .any e with
    |false=>rw[a]at h;exact Or.inl h
    |true=>
     rw[a]at h;simp only[cond_true,Nat.testBit_or,Bool.or_eq_true,Nat.testBit_two_pow,decide_eq_true_eq]at h
     rcases h with(h|h)|h
     ·exact Or.inl h
     ·exact Or.inr ⟨e,by simp,a,Or.inl h⟩
     ·exact Or.inr ⟨e,by simp,a,Or.inr h⟩
   ·exact Or.inr ⟨d,by simp[f],g⟩
 rcases b _ _ h with h|h
 ·simp at h
 ·exact h
def pZ (ops:Array Oper)(L:Nat->Bool):Prop:=∀(i:Nat) (o:Oper),L i=true->ops[i]?=some o->∀e∈o.after,Region.binds .any e=true->L e.on=true
variable {ops:Array Oper}
theorem Ly (hc:pZ ops L):∀(j:Nat) (o:Oper),ops[j]?=some o->(∀e∈o.after,Region.binds .any e=true->L e.on=true)->∀i,((masks [] ops.toList).getD j 0).testBit i=true->L i=true:=by
 intro j
 induction j using Nat.strongRecOn with
 |ind j v=>
  intro o l u i hi;have w:=(Array.getElem?_eq_some_iff.1 l).1;have k:=aKs ops.toList [] j o (by simpa using l);simp only[List.length_nil,Nat.zero_add]at k
  have p:(masks [] ops.toList).getD j 0=maskOf ((masks [] ops.toList).take j) o:=by simp[List.getD,k]
  rw[p]at hi;obtain⟨e,r,s,h3⟩:=aLG hi;have g:=u e (by simpa using r) s
  rcases h3 with h3|h3
  ·rw[<-h3];exact g
  ·have a:e.on<j:=by
    rcases Nat.lt_or_ge e.on j with h|h
    ·exact h
    ·have:(((masks [] ops.toList).take j).getD e.on 0)=0:=by
      simp only[List.getD];rw[List.getElem?_eq_none (by rw[List.length_take];omega)];rfl
     rw[this]at h3;simp at h3
   have q:((masks [] ops.toList).take j).getD e.on 0=(masks [] ops.toList).getD e.on 0:=by simp[List.getD,List.getElem?_take_of_lt a]
   rw[q]at h3;have b:ops[e.on]?=some ops[e.on]:=Array.getElem?_eq_getElem (by omega);exact v e.on a _ b (fun n f d=>hc e.on _ g b n f d) i h3
def Ea (M:List Nat)(i j:Nat):Bool:=(decide (i<j)&&(M.getD j 0).testBit i)||(decide (j<i)&&(M.getD i 0).testBit j)
def nU (all:Array Oper)(n0 i:Nat)(x y:Oper×iF×List Nat):Bool:=
 (match x.1.dst with|some t=>(reads all y.1).contains t|none=>false)||(eO (n0+i) x.2.1).any fun b=>y.2.2.contains b
def kX (all:Array Oper)(M:List Nat)(n0 i j:Nat)(x y:Oper×iF×List Nat):Bool:=
 (x.1.dst.isNone||x.1.dst != y.1.dst)&&(!nU all n0 i x y||Ea M i j)&&(!(y.2.2.contains (n0+i))||(decide (i<j)&&(M.getD j 0).testBit i))
def Vy (all:Array Oper)(n0:Nat)(T:Tb)(M:List Nat):Bool:=
 T.zipIdx.all fun(y,j)=>!(y.2.2.contains (n0+j))&&y.1.after.toList.all (fun e=>!Region.binds .any e||decide (e.on<j))&&T.zipIdx.all fun(x,i)=>i==j||kX all M n0 i j x y
theorem Sl {a:Type}{l:List a}{x:a}(h:l[i]?=some x):(x,i)∈l.zipIdx:=by
 rw[List.mem_zipIdx_iff_getElem?];exact h
def zT (l:List (Nat×bO)):Nat->Option bO:=fun b=>(look l b).bind fun B=>bif !B.own&&B.ro then some B else none
theorem aMV {B:bO}(h:zT l b=some B):look l b=some B:=by
 unfold zT at h;obtain⟨D,d,a⟩:=aU h
 cases hc:(!D.own&&D.ro)with
 |false=>rw[hc]at a;cases a
 |true=>rw[hc]at a;cases a;exact d
def Dl (a:Nat->Option bO)(n0:Nat)(T:Tb):Bool:=T.zipIdx.all fun(y,j)=>(eO (n0+j) y.2.1).all fun b=>(a b).isNone
theorem aRN {T:Tb}(h:Dl a n0 T=true){x:Oper×iF×List Nat}(e:T[i]?=some x)(d:b∈eO (n0+i) x.2.1):a b=none:=by
 unfold Dl at h;rw[List.all_eq_true]at h;have:=h (x,i) (Sl e);simp only[List.all_eq_true]at this
 simpa using this b d
def aO (C:fF)(sp:Spec)(ops:Array Oper)(s:AS):Option (AS×List Prop):=
 (Bk C sp (zT s.boxes) ops s.next 0 ops.toList s.tmps s.boxes s.nums).bind fun(T,a,p)=>
  bif Vy ops s.next T (masks [] ops.toList)&&Dl (zT s.boxes) s.next T then
   some (⟨lW (fun _=>true) 0 T s.tmps,qK s.next 0 T s.boxes,s.next+ops.size,a,s.dirty++T.filterMap (fun x=>x.2.1.mQ.map (·.1))⟩,p)
  else none
theorem aMK {T:Tb}{d:List Nat}(h:Vy all n0 T d=true){k:Nat}{y:Oper×iF×List Nat}(p:T[k]?=some y):
  (n0+k)∉y.2.2/\(∀e∈y.1.after,Region.binds .any e=true->e.on<k)/\∀(i:Nat) x,T[i]?=some x->i≠k->kX all d n0 i k x y=true:=by
 unfold Vy at h;rw[List.all_eq_true]at h;have:=h (y,k) (Sl p);simp only[Bool.and_eq_true,List.all_eq_true]at this;obtain⟨⟨b,f⟩,g⟩:=this;refine⟨by simpa using b,fun e n l=>?_,fun i x o a=>?_⟩
 ·have:=f e (by simpa using n)
  simpa[l]using this
 ·have:=g (x,i) (Sl o)
  simpa[a]using this
theorem Xt (L:Nat->Bool)(j:Nat)(b:L j=false):∀(l:List Nat),l.Nodup->j∈l->(l.filter fun i=>!(L i||i==j)).length+1=(l.filter fun i=>!L i).length
 | [],_,h=>by simp at h
 |x::l,a,h=>by
  rw[List.nodup_cons]at a
  by_cases e:x=j
  ·subst e
   have:(l.filter fun i=>!(L i||i==x))=l.filter fun i=>!L i:=by
    apply List.filter_congr;intro i hi
    have:i≠x:=fun e=>a.1 (e▸hi)
    simp[this]
   simp only[List.filter_cons,b,Bool.false_or,beq_self_eq_true,Bool.not_true,Bool.false_eq_true,if_false,Bool.not_false,if_true,List.length_cons,this]
  ·have d:j∈l:=by simpa[Ne.symm e]using h
   have f:=Xt L j b l a.2 d;simp only[List.filter_cons,beq_eq_false_iff_ne.2 e,Bool.or_false];cases L x
   ·simp only[Bool.not_false,if_true,List.length_cons];omega
   ·simpa using f
section
variable {C:fF} {sp:Spec}{ψ:Nat->Option (Nat×Nat)}
theorem aH4 {n:World}(cb:SpecOk C n ψ sp){s s':AS}(ba:aO C sp ops s=some (s',p))(hp:Holds p){I:Nat->Option (Nat×Nat)}{a0:Act}{U:World}{Q:Exit->Act->World->Prop}(hr:Rep C n ψ I s a0 U)
  (hQ:∀aj a' w',Ext C I aj s.nums s'.nums U w'->Rep C n ψ aj s' a' w'->Q .normal a' w'):wpAny C.P .any ops Q ops.size (Array.replicate ops.size false) a0 {U with drawn:=U.drawn+1}:=by
 unfold aO at ba;obtain⟨⟨T,ag,q⟩,ht,O⟩:=aU ba;simp only at O
 cases J:(Vy ops s.next T (masks [] ops.toList)&&Dl (zT s.boxes) s.next T)with
 |false=>rw[J]at O;cases O
 |true=>
  rw[J]at O;rw[Bool.and_eq_true]at J;obtain⟨aq,a8⟩:=J;simp only[cond_true,Option.some.injEq,Prod.mk.injEq]at O;obtain⟨rfl,rfl⟩:=O
  have ab:yZ s.boxes s.next:=by
   intro b g
   cases hl:look s.boxes b with
   |none=>rfl
   |some B=>
    obtain⟨k,o,_,_,_,hk,_⟩:=hr.wd.box _ _ hl;rw[hr.wd.fresh b g]at hk;cases hk
  obtain⟨bc,bj,z⟩:=aRm ops.toList 0 s.tmps s.boxes s.nums T q ht ab hp;simp only[Array.length_toList]at bc;simp only[Nat.zero_add]at z;generalize al:s.dirty++T.filterMap (fun x=>x.2.1.mQ.map (·.1))=dirty at*
  have cf:∀(fuel:Nat) (f:Array Bool) (φ:Nat->Option (Nat×Nat)) (a:Act) (w:World),
    f.size=ops.size->((List.range ops.size).filter fun i=>!f.getD i false).length=fuel->pZ ops (fun i=>f.getD i false)->
    RepF C n ψ φ (bxL (fun i=>f.getD i false) s.next 0 T (look s.boxes)) (fun b=>s.next<=b/\∀j,b=s.next+j->f.getD j false=false) ag dirty w->a.defers=[]->
    All2 (relT C φ ag w) (lW (fun i=>f.getD i false) 0 T s.tmps) a.tmps.toList->Ext C I φ s.nums ag U w->wpAny C.P .any ops Q fuel f a w:=by
   intro fuel
   induction fuel with
   |zero=>
    intro f φ a w R hf X M hd ai hx
    have W:∀i,i<ops.size->f.getD i false=true:=by
     intro i hi
     cases hv:f.getD i false with
     |true=>rfl
     |false=>
      have:i∈(List.range ops.size).filter fun i=>!f.getD i false:=by simp[hi,<-Array.getD_eq_getD_getElem?,hv]
      rw[List.length_eq_zero_iff.1 hf]at this;cases this
    refine⟨?_,?_⟩
    ·apply List.eq_nil_iff_forall_not_mem.2;intro j hj;obtain⟨S,o,h3,_⟩:=mem_ready.1 hj;have:=W j (Array.getElem?_eq_some_iff.1 h3).1
     have aa:j<f.size:=by rw[R];exact(Array.getElem?_eq_some_iff.1 h3).1
     simp[aa]at this S;rw[this]at S;cases S
    ·have e1:=aRn (L:=fun i=>f.getD i false) T 0 s.tmps fun i hi=>by rw[Nat.zero_add];exact W i (by omega)
     have e2:=aQN (L:=fun i=>f.getD i false) (n0:=s.next) T 0 s.boxes ab fun i hi=>by rw[Nat.zero_add];exact W i (by omega)
     rw[e1]at ai;rw[e2]at M;refine hQ φ a w hx ⟨M.cT fun b g=>⟨by simp only at g;omega,fun j hj=>?_⟩,hd,ai⟩;rw[Array.getD_eq_getD_getElem?,Array.getElem?_eq_none (by simp only at g;omega)];rfl
   |succ fuel ih=>
    intro f φ a w R hf X M hd ai hx;refine⟨fun bg=>?_,fun j hj=>?_⟩
    ·-- someone can always come
     exfalso
     have av:((List.range ops.size).filter fun i=>!f.getD i false)≠[]:=by intro e;rw[e]at hf;simp at hf
     -- the af that is not f
     have:∃i,i<ops.size/\f.getD i false=false:=by
      obtain⟨i,r,e⟩:=List.exists_cons_of_ne_nil av
      have hi:i∈(List.range ops.size).filter fun i=>!f.getD i false:=by rw[e];simp
      rw[List.mem_filter,List.mem_range]at hi;exact⟨i,hi.1,by simpa using hi.2⟩
     obtain⟨i,b6,b7⟩:=this
     have af:∀d,d<ops.size->f.getD d false=false->False:=by
      intro d
      induction d using Nat.strongRecOn with
      |ind d ce=>
       intro be bf;have ho:ops[d]?=some ops[d]:=Array.getElem?_eq_getElem be
       have am:d∈Region.ready .any ops f:=by
        refine mem_ready.2 ⟨?_,ops[d],ho,fun e he g=>?_⟩
        ·have b9:d<f.size:=by rw[R];exact be
         simp[b9]at bf ⊢;exact bf
        ·obtain⟨x,v⟩:∃x,T[d]?=some x:=⟨T[d]'(by omega),List.getElem?_eq_getElem (by omega)⟩
         have ad:=(z d x v).1
         have N:x.1=ops[d]:=by
          rw[Array.getElem?_toList,ho]at ad;exact(Option.some.inj ad).symm
         obtain⟨_,c2,_⟩:=aMK aq v;have b8:=c2 e (by rw[N];exact he) g
         cases hv:f.getD e.on false with
         |true=>rfl
         |false=>exact(ce e.on b8 (by omega) hv).elim
       rw[bg]at am;cases am
     exact af i b6 b7
    ·obtain⟨bb,o,ho,H⟩:=mem_ready.1 hj;have au:j<ops.size:=(Array.getElem?_eq_some_iff.1 ho).1
     have D:f.getD j false=false:=by
      have aa:j<f.size:=by rw[R];exact au
      simp[aa]at bb ⊢;exact bb
     obtain⟨x,v⟩:∃x,T[j]?=some x:=⟨T[j]'(by omega),List.getElem?_eq_getElem (by omega)⟩
     obtain⟨ad,c7,c8,q2,ca,bk,Y,a5⟩:=z j x v
     have N:x.1=o:=by
      rw[Array.getElem?_toList,ho]at ad;exact(Option.some.inj ad).symm
     obtain⟨c1,c2,c3⟩:=aMK aq v
     -- who is ordered against j is f if,and only if,it comes earlier
     have a6:∀i,((masks [] ops.toList).getD j 0).testBit i=true->f.getD i false=true:=fun i hi=>Ly X j o ho H i hi
     have ak:∀i y,T[i]?=some y->((masks [] ops.toList).getD i 0).testBit j=true->f.getD i false=false:=by
      intro i y A hi
      cases hv:f.getD i false with
      |false=>rfl
      |true=>
       have a2:=(z i y A).1;rw[Array.getElem?_toList]at a2;have:=Ly X i y.1 a2 (fun e he g=>X i y.1 hv a2 e he g) j hi;rw[D]at this;cases this
     have ap:∀i y,T[i]?=some y->Ea (masks [] ops.toList) i j=true->f.getD i false=decide (i<j):=by
      intro i y A h;unfold Ea at h;simp only[Bool.or_eq_true,Bool.and_eq_true,decide_eq_true_eq]at h
      rcases h with⟨S,O⟩|⟨S,O⟩
      ·rw[a6 i O];simp[S]
      ·rw[ak i y A O];simp;omega
     have F:=c3
     -- what j looks at
     have ay:∀t∈reads ops x.1,(lW (fun i=>decide (i<j)) 0 T s.tmps)[t]?=(lW (fun i=>f.getD i false) 0 T s.tmps)[t]?:=by
      intro t cc
      refine Tp T 0 _ _ rfl rfl fun i y A a1=>?_
      rw[Nat.zero_add]
      by_cases l:i=j
      ·subst l;rw[D];simp
      ·have:=F i y A l;unfold kX at this;simp only[Bool.and_eq_true]at this;obtain⟨⟨_,hc⟩,_⟩:=this
       have u:nU ops s.next i y x=true:=by
        unfold nU;rw[a1];simp only[Bool.or_eq_true];exact Or.inl (by simpa using cc)
       rw[u]at hc;simp only[Bool.not_true,Bool.false_or]at hc;exact(ap i y A hc).symm
     have a7:∀b,b∈fA (iS (lW (fun i=>decide (i<j)) 0 T s.tmps)) x.1.op->bxL (fun i=>decide (i<j)) s.next 0 T (look s.boxes) b=bxL (fun i=>f.getD i false) s.next 0 T (look s.boxes) b:=by
      intro b g;rw[<-a5]at g
      refine Mz T 0 _ _ rfl fun i y A ae=>?_
      rw[Nat.zero_add]at ae ⊢
      by_cases l:i=j
      ·subst l;rw[D];simp
      ·have:=F i y A l;unfold kX at this;simp only[Bool.and_eq_true]at this;obtain⟨⟨_,hc⟩,_⟩:=this
       have u:nU ops s.next i y x=true:=by
        unfold nU;simp only[Bool.or_eq_true,List.any_eq_true];exact Or.inr ⟨b,ae,by simpa using g⟩
       rw[u]at hc;simp only[Bool.not_true,Bool.false_or]at hc;exact(ap i y A hc).symm
     rw[aLr ay a7]at Y;rw[N]at Y;refine aUQ cb (nb:=fun b=>s.next<=b/\∀i,b=s.next+i->f.getD i false=false) (id:=s.next+j) ho M hd ai Y ca (fun b B g=>(aMH T 0 _ fun i y A ae=>by rw[Nat.zero_add]at ae;rw[aRN a8 A ae]at g;cases g).trans (aMV g)) bk ⟨by omega,fun i hi=>?_⟩ ?_ ?_
     ·have:i=j:=by omega
      subst this;exact D
     ·intro b cs hs;rw[<-al];simp only[List.mem_append,List.mem_filterMap];exact Or.inr ⟨x,List.mem_of_getElem? v,by rw[hs];rfl⟩
     ·intro aj a' w' az b3 bi cd
      have E:(fun i=>(f.setIfInBounds j true).getD i false)=fun i=>f.getD i false||i==j:=by
       funext i
       by_cases l:i=j
       ·subst l
        have aa:i<f.size:=by rw[R];exact au
        simp[aa,Array.getElem?_setIfInBounds]
       ·rw[getD_set_ne false (Ne.symm l)];simp[l]
      refine ih (f.setIfInBounds j true) aj a' w' (by simp[R]) ?_ ?_ ?_ b3 ?_ (hx.trans cd)
      ·have:=Xt (fun i=>f.getD i false) j D (List.range ops.size) List.nodup_range (by simp[au])
       have e:(fun i=>!(f.setIfInBounds j true).getD i false)=fun i=>!(f.getD i false||i==j):=by
        funext i;exact congrArg Bool.not (congrFun E i)
       rw[e];omega
      ·rw[E];intro i o' hi ax e he g;simp only[Bool.or_eq_true,beq_iff_eq]at hi ⊢
       rcases hi with hi|hi
       ·exact Or.inl (X i o' hi ax e he g)
       ·subst hi;rw[ho]at ax;cases ax;exact Or.inl (H e he g)
      ·rw[E]
       have:=aQM (L:=fun i=>f.getD i false) (n0:=s.next) (j:=j) T 0 (look s.boxes) j x v (by omega) D (by
        intro m y b hm A S O;rw[Nat.zero_add]at O ⊢
        -- both eO b: ordered
        have av:j≠m:=by omega
        obtain⟨_,cz,c5,c6,_,_,bq,bp⟩:=z m y A;obtain⟨_,cv,cx,cy,_,_,bo,bn⟩:=z j x v
        rcases entTouch bq O with⟨b2,ck⟩|hya
        ·-- y makes the box that x touches
         rcases entTouch bo S with⟨cm,_⟩|hxa
         ·omega
         ·have:=c3 m y A (by omega);unfold kX at this;rw[<-bn]at hxa;rw[b2]at hxa
          have ar:x.2.2.contains (s.next+m)=true:=by simpa using hxa
          simp only[Bool.and_eq_true,ar,Bool.not_true,Bool.false_or,decide_eq_true_eq]at this;omega
        ·have:=(aMK aq A).2.2 j x v av;unfold kX at this;simp only[Bool.and_eq_true]at this;obtain⟨⟨_,hc⟩,_⟩:=this
         have u:nU ops s.next j x y=true:=by
          unfold nU;simp only[Bool.or_eq_true,List.any_eq_true];exact Or.inr ⟨b,S,by rw[bp];simpa using hya⟩
         rw[u]at hc;simp only[Bool.not_true,Bool.false_or]at hc;unfold Ea at hc;simp only[Bool.or_eq_true,Bool.and_eq_true,decide_eq_true_eq]at hc
         rcases hc with⟨h3,h4⟩|⟨h3,h4⟩
         ·exact ak m y A h4
         ·omega)
       rw[this]
       refine az.cT fun b g=>⟨⟨g.1,fun i hi=>?_⟩,fun e=>?_⟩
       ·have:=g.2 i hi
        by_cases l:i=j
        ·rw[l];exact D
        ·rw[getD_set_ne false (Ne.symm l)]at this;exact this
       ·have:=g.2 j e;have e2:=congrFun E j;simp only[beq_self_eq_true,Bool.or_true]at e2;rw[e2]at this;cases this
      ·rw[E]
       rw [aVD v D (fun i y t hi A hd a1=>by
        have:=F i y A hi;unfold kX at this;simp only[Bool.and_eq_true]at this;have S:=this.1.1;rw[a1,hd]at S
        simp at S)]
       rw[N];exact bi
  have g:Below U.heap.size U {U with drawn:=U.drawn+1}:=⟨rfl,rfl,rfl,Nat.le_refl _,fun _ _=>rfl⟩
  have hx:Ext C I I s.nums ag U {U with drawn:=U.drawn+1}:=⟨fun _ _ h=>h,bj,On.below g⟩
  have ah:∀i,(Array.replicate ops.size false).getD i false=false:=by
   intro i;rw[Array.getD_eq_getD_getElem?]
   by_cases hi:i<ops.size
   ·simp[hi]
   ·rw[Array.getElem?_eq_none (by simp;omega)];rfl
  refine cf ops.size (Array.replicate ops.size false) I a0 _ (by simp) ?_ ?_ ?_ hr.defers ?_ hx
  ·have:((List.range ops.size).filter fun i=>!(Array.replicate ops.size false).getD i false)=List.range ops.size:=by
    apply List.filter_eq_self.2;intro i _;rw[ah i];rfl
   rw[this];simp
  ·intro i o hi;have hi:(Array.replicate ops.size false).getD i false=true:=hi;rw[ah i]at hi;cases hi
  ·rw[Ub T 0 (look s.boxes) fun i _=>ah i];have:=hr.wd.later g ag bj;refine⟨this.box,this.own,this.inj,this.tip,fun b g=>this.fresh b g.1,this.lt,fun k hk b4=>this.low k hk fun b b1=>b4 b ?_,this.on,this.base,this.pV⟩;rw[<-al];simp[b1]
  ·rw[Zy T 0 s.tmps fun i _=>ah i];exact hr.tmps.mono (xA hx)
theorem rD {w0:World}(e:C.P.follows .mixedOrders=true)(b:SpecOk C w0 ψ sp):tZ C w0 ψ (aO C sp):=by
 intro ops s i p a f h a0 j id Q g d;exact wp_region_any e (aH4 b a f g d)
end
inductive Tok where
 |num (k:Bool) (z:Int) (n:Nat)
 |c (x:AC)
inductive VT where
 |one (c:AC)
 |agg (ts:List Tok)
inductive RV where
 |val (v:VT)
 |tup (vs:List VT)
def fP:AC->Bool
 |.sg _=>false
 |.dg _ _=>false
 |.ptr _ _=>false
 |.slc _ _ _ _=>false
 |.dsl _ _ _ _=>false
 |_=>true
def toks (ν:List (Int×Nat)):List AC->Option (List Tok)
 | []=>some []
 |.sg i::.dg k j::r=>bif i==j then(ν[i]?).bind fun(z,n)=>(toks ν r).map (.num k z n::·)else none
 |c::r=>bif fP c then(toks ν r).map (.c c::·)else none
def uV (ν:List (Int×Nat)):AV->Option VT
 |.one c=>bif fP c then some (.one c)else none
 |.agg cs=>(toks ν cs).map .agg
section
variable (C:fF)
def RT (w:World):List Tok->List Value->Prop
 | [],[]=>True
 |.num k z n::ts,x::y::a=>x=.bool (decide (z<0))/\C.fB k w z y/\C.bits n z/\RT w ts a
 |.c c::ts,x::a=>fP c=true/\relC C (fun _=>none) [] w c x/\RT w ts a
 |_,_=>False
def lG (w:World):VT->Value->Prop
 |.one c,x=>fP c=true/\relC C (fun _=>none) [] w c x
 |.agg ts,x=>∃a:List Value,x=.agg a.toArray/\RT C w ts a
def RRV (w:World):RV->Value->Prop
 |.val v,x=>lG C w v x
 |.tup vs,x=>∃a:List Value,x=.tuple a.toArray/\All2 (lG C w) vs a
end
def iD:Nat->List Tok->List AC×List (Int×Nat)
 |_,[]=>([],[])
 |b,.num k z n::r=>(.sg b::.dg k b::(iD (b+1) r).1,(z,n)::(iD (b+1) r).2)
 |b,.c x::r=>(x::(iD b r).1,(iD b r).2)
def sC (b:Nat):VT->AV×List (Int×Nat)
 |.one c=>(.one c,[])
 |.agg ts=>(.agg (iD b ts).1,(iD b ts).2)
def eA:Nat->List VT->List AV×List (Int×Nat)
 |_,[]=>([],[])
 |b,v::r=>((sC b v).1::(eA (b+(sC b v).2.length) r).1,(sC b v).2++(eA (b+(sC b v).2.length) r).2)
def Dk (b:Nat):RV->AT×List (Int×Nat)
 |.val v=>(.val (sC b v).1,(sC b v).2)
 |.tup a=>(.tup (eA b a).1,(eA b a).2)
section
variable {C:fF} {φ:Nat->Option (Nat×Nat)} {w:World}{a:List (Int×Nat)}{x:Value}
theorem Ng {c:AC}(h:fP c=true){φ I:Nat->Option (Nat×Nat)}(r:relC C φ ν w c x):relC C I a w c x:=by
 cases c<;>first|exact r|(simp[fP]at h)
theorem Zz {ν u:List (Int×Nat)}(b:∀(i:Nat) (x:Int×Nat),ν[i]?=some x->u[i]?=some x):∀(cs:List AC) (ts:List Tok) (g:List Value),toks ν cs=some ts->All2 (relC C φ u w) cs g->RT C w ts g
 | [],ts,[],h,_=>by simp[toks]at h;subst h;trivial
 | [],_,_::_,_,h=>h.elim
 |_::_,_,[],_,h=>h.elim
 | [c],ts,[x],h,⟨l,_⟩=>by
  cases c<;>simp[toks,fP]at h<;>subst h<;>exact⟨rfl,Ng rfl l,trivial⟩
 | [c],_,_::_::_,_,h=>h.2.elim
 |_::_::_,_,[_],_,h=>h.2.elim
 |c::d::r,ts,x::y::g,h,⟨l,s,q⟩=>by
  by_cases hc:fP c=true
  ·have e:toks ν (c::d::r)=(toks ν (d::r)).map (.c c::·):=by
    cases c<;>first|(simp[fP]at hc;done)|rfl
   rw[e]at h;obtain⟨f,o,rfl⟩:=cA h;exact⟨hc,Ng hc l,Zz b (d::r) f (y::g) o ⟨s,q⟩⟩
  ·cases c<;>simp[fP]at hc
   case sg i=>
    cases d<;>try (simp[toks,fP]at h;done)
    case dg k j=>
     simp only[toks]at h
     cases a:i==j with
     |false=>rw[a]at h;cases h
     |true=>
      rw[a]at h;simp only[cond_true]at h
      have:i=j:=by simpa using a
      subst this;obtain⟨⟨z,n⟩,o,A⟩:=aU h;obtain⟨f,B,rfl⟩:=cA A;obtain⟨F,D,p,v⟩:=l;obtain⟨H,E,f1,f2,f3⟩:=s;have:=b _ _ o;rw[this]at p f1;cases p;cases f1;exact⟨v,f2,f3,Zz b r f g B q⟩
   all_goals simp[toks,fP]at h
theorem aOQ {d:List (Int×Nat)}(a:∀(i:Nat) (x:Int×Nat),ν[i]?=some x->d[i]?=some x){v:AV}{t:VT}(h:uV ν v=some t)(r:dM C φ d w v x):lG C w t x:=by
 cases v with
 |one c=>
  simp only[uV]at h
  cases hc:fP c with
  |false=>rw[hc]at h;cases h
  |true=>rw[hc]at h;cases h;exact⟨hc,Ng hc r⟩
 |agg cs=>
  simp only[uV]at h;obtain⟨ts,f,rfl⟩:=cA h;obtain⟨b,e,g⟩:=r;exact⟨b,e,Zz a cs ts b f g⟩
theorem Ze {ν e:List (Int×Nat)}(a:∀(i:Nat) (x:Int×Nat),ν[i]?=some x->e[i]?=some x):∀{b:List AV} {ts:List VT} {d:List Value},eW (uV ν) b=some ts->All2 (dM C φ e w) b d->All2 (lG C w) ts d
 | [],ts,[],h,_=>by simp[eW]at h;subst h;trivial
 |v::b,ts,x::d,h,⟨k,l⟩=>by
  unfold eW at h;obtain⟨t,f,g⟩:=aU h;obtain⟨n,j,rfl⟩:=cA g;exact⟨aOQ a f k,Ze a j l⟩
 | [],_,_::_,_,h=>h.elim
 |_::_,_,[],_,h=>h.elim
def At (a:List (Int×Nat))(b:Nat)(ns:List (Int×Nat)):Prop:=∀(i:Nat) (y:Int×Nat),ns[i]?=some y->a[b+i]?=some y
variable {r ns:List (Int×Nat)}
theorem At.tail {y:Int×Nat}(h:At r b (y::ns)):At r (b+1) ns:=fun i z a=>by rw[show b+1+i=b+(i+1) by omega];exact h (i+1) z (by simpa using a)
theorem At.left (h:At r b (a++ns)):At r b a:=fun i z d=>h i z (rW _ _ i z d)
theorem At.right (h:At r b (a++ns)):At r (b+a.length) ns:=fun i z d=>by
 rw[show b+a.length+i=b+(a.length+i) by omega];exact h (a.length+i) z (by rw[List.getElem?_append_right (by omega)];simpa using d)
theorem Yl {j:List (Int×Nat)}:∀(ts:List Tok) (b:Nat) (d:List Value),At j b (iD b ts).2->RT C w ts d->All2 (relC C φ j w) (iD b ts).1 d
 | [],b,[],_,_=>trivial
 |.num k z n::r,b,x::y::d,a,⟨e,f,g,l⟩=>by
  simp only[iD]at a ⊢;have i:=a 0 (z,n) rfl;exact⟨⟨z,n,i,e⟩,⟨z,n,i,f,g⟩,Yl r (b+1) d a.tail l⟩
 |.c c::r,b,x::d,a,⟨e,f,g⟩=>by
  simp only[iD]at a ⊢;exact⟨Ng e f,Yl r b d a g⟩
 | [],_,_::_,_,h=>h.elim
 |.num ..::_,_,[],_,h=>h.elim
 |.num ..::_,_,[_],_,h=>h.elim
 |.c _::_,_,[],_,h=>h.elim
theorem aMB {v:VT}(d:At r b (sC b v).2)(h:lG C w v x):dM C φ r w (sC b v).1 x:=by
 cases v with
 |one c=>exact Ng h.1 h.2
 |agg ts=>obtain⟨a,e,f⟩:=h;exact⟨a,e,Yl ts b a d f⟩
theorem Hd {r:List (Int×Nat)}:∀(vs:List VT) (b:Nat) (a:List Value),At r b (eA b vs).2->All2 (lG C w) vs a->All2 (dM C φ r w) (eA b vs).1 a
 | [],_,[],_,_=>trivial
 |v::vs,b,x::a,d,⟨e,f⟩=>by
  simp only[eA]at d ⊢;exact⟨aMB d.left e,Hd vs _ a d.right f⟩
 | [],_,_::_,_,h=>h.elim
 |_::_,_,[],_,h=>h.elim
theorem aRF {f:List (Int×Nat)}{r:RV}(a:At f b (Dk b r).2)(h:RRV C w r x):relT C φ f w (Dk b r).1 x:=by
 cases r with
 |val v=>exact aMB a h
 |tup i=>obtain⟨d,e,g⟩:=h;exact⟨d,e,Hd i b d a g⟩
end
abbrev TE:=List VT->Option (RV×List Prop)
def bQ (C:fF)(f:FuncId)(d:TE):Prop:=Enters C.P f/\∀ts r p,d ts=some (r,p)->Holds p->∀w (b:List Value),All2 (lG C w) ts b->Calls C.P f b.toArray w fun e a=>∃v,e=.returned v/\RRV C a r v/\Below w.heap.size w a
def adapt (a:TE):List (Int×Nat)->List AV->Option (List (Int×Nat)×AT×List Prop×Option bO):=fun ν b=>
 (eW (uV ν) b).bind fun ts=>(a ts).map fun(r,p)=>((Dk ν.length r).2,(Dk ν.length r).1,p,none)
def nY:List (FuncId×TE)->FuncId->Option TE
 | [],_=>none
 |(g,a)::l,f=>bif g==f then some a else nY l f
def aE (l:List (FuncId×TE)):Spec:=fun f _ ν _ _ b=>(nY l f).bind fun a=>adapt a ν b
def cX (C:fF):List (FuncId×TE)->Prop
 | []=>True
 |(f,a)::l=>bQ C f a/\cX C l
theorem aIf {C:fF}{P:FuncId}{b:TE}:∀{l:List (FuncId×TE)},cX C l->nY l P=some b->bQ C P b
 | [],_,h=>by simp[nY]at h
 |(g,t)::l,a,h=>by
  unfold nY at h
  cases e:g==P with
  |true=>
   rw[e]at h;cases h
   have:g=P:=by simpa using e
   subst this;exact a.1
  |false=>rw[e]at h;exact aIf a.2 h
variable {C:fF}
theorem dH {w0:World}{ψ:Nat->Option (Nat×Nat)}{l:List (FuncId×TE)}(A:cX C l):SpecOk C w0 ψ (aE l):=by
 intro f d ν id M vs L r p F h;unfold aE at h;obtain⟨N,o,k⟩:=aU h;obtain⟨b,g⟩:=aIf A o;refine⟨b,fun B P a φ w J _ _ _ _ j=>?_⟩;unfold adapt at k;obtain⟨ts,q,s⟩:=aU k;obtain⟨⟨I,H⟩,u,n⟩:=cA s;simp only[Prod.mk.injEq]at n;obtain⟨rfl,rfl,rfl,rfl⟩:=n;refine(g ts I H u B w J (Ze (fun i x D=>a i x (rW _ _ i x D)) q j)).mono ?_;rintro e O⟨v,rfl,hv,z⟩;refine⟨v,rfl,z,aRF ?_ hv⟩;intro i y E;exact a _ _ (by rw[List.getElem?_append_right (by omega)];simpa using E)
inductive Out where
 |ret (r:RV)
 |br (t:Bool) (a b:Out)
 |need (p:List Prop) (o:Out)
def Out.ok (G:RV->Prop):Out->Prop
 |.ret r=>G r
 |.br t a b=>(t=true->a.ok G)/\(t=false->b.ok G)
 |.need p o=>Holds p/\o.ok G
def rvOf (ν:List (Int×Nat)):AT->Option RV
 |.val v=>(uV ν v).map .val
 |.tup a=>(eW (uV ν) a).map .tup
 |_=>none
def outcome:Tr->Option Out
 |.ret r s=>bif clean s then(rvOf s.nums r).map .ret else none
 |.br t a b=>(outcome a).bind fun x=>(outcome b).map fun y=>.br t x y
 |.need p t=>(outcome t).map (.need p)
 |.stop _ _=>none
def start (fn:Func)(ts:List VT):AS:=⟨(eA 0 ts).1.map .val++List.replicate (fn.ntmps-(eA 0 ts).1.length) .gC,[],0,(eA 0 ts).2,[]⟩
theorem yD {G:RV->Prop}:∀{i:Tr} {o:Out},outcome i=some o->o.ok G->i.ok (fun r s=>clean s=true/\∃g,rvOf s.nums r=some g/\G g) (fun _ _=>False)
 |.ret r s,o,h,d=>by
  simp only[outcome]at h
  cases hc:clean s with
  |false=>rw[hc]at h;cases h
  |true=>rw[hc]at h;obtain⟨g,f,rfl⟩:=cA h;exact⟨hc,g,f,d⟩
 |.br t a b,o,h,d=>by
  simp only[outcome]at h;obtain⟨x,f,j⟩:=aU h;obtain⟨y,k,rfl⟩:=cA j;exact⟨fun e=>yD f (d.1 e),fun e=>yD k (d.2 e)⟩
 |.need p t,o,h,d=>by
  simp only[outcome]at h;obtain⟨x,f,rfl⟩:=cA h;exact⟨d.1,yD f d.2⟩
 |.stop _ _,o,h,_=>by cases h
theorem Ce {φ:Nat->Option (Nat×Nat)}{w:World}{r:AT}{d:RV}{z:Value}(h:rvOf ν r=some d)(b:relT C φ ν w r z):RRV C w d z:=by
 cases r with
 |val x=>simp only[rvOf]at h;obtain⟨t,a,rfl⟩:=cA h;exact aOQ (fun _ _ h=>h) a b
 |tup i=>simp only[rvOf]at h;obtain⟨ts,a,rfl⟩:=cA h;obtain⟨g,e,f⟩:=b;exact⟨g,e,Ze (fun _ _ h=>h) a f⟩
 |_=>simp[rvOf]at h
theorem Nh (fn:Func)(ts:List VT)(w:World):RepW C w (fun _=>none) (fun _=>none) (start fn ts) w:=
 ⟨fun b B a=>(by simp[start,look]at a),fun b B k o a=>(by simp[start,look]at a),fun b f B d k o g a=>(by simp[start,look]at a),fun b B a=>(by simp[start,look]at a),fun b _=>rfl,fun b k o e=>(by cases e),fun k _ _=>rfl,On.refl _ _,fun b x e=>e,fun b B k o a=>(by simp[start,look]at a)⟩
end Ab
namespace Rd
def isDig (n:Int):Bool:=decide (48<=n/\n<=57)
def isLet (n:Int):Bool:=decide (97<=n/\n<=122)
def kindOf (n:Int):Int:=bif isDig n then 1 else bif isLet n then 2 else 3
def aQ (s:ByteArray)(k:Nat):Int:=((s.data.toList.getD k 0).toNat:Int)
theorem Hi (s:ByteArray)(k:Nat)(h:k<s.size):aQ s k=(s[k].toNat:Int):=by
 unfold aQ;have a:k<s.data.size:=h
 have e:s.data[k]?=some (s[k]):=by rw[Array.getElem?_eq_getElem a];rfl
 simp[List.getD,e]
def cJ (s:ByteArray)(a:Nat):Nat->Nat->Nat
 |0,e=>e
 |f+1,e=>bif decide (e<s.size/\e-a<9)&&isDig (aQ s e)then cJ s a f (e+1)else e
def bS (s:ByteArray):Nat->Nat->Nat
 |0,e=>e
 |f+1,e=>bif decide (e<s.size)&&(isLet (aQ s e)||isDig (aQ s e))then bS s f (e+1)else e
theorem aNP (s:ByteArray)(a:Nat):∀f e,e<=cJ s a f e:=by
 intro f
 induction f with
 |zero=>intro e;exact Nat.le_refl _
 |succ f b=>
  intro e;unfold cJ
  cases decide (e<s.size/\e-a<9)&&isDig (aQ s e)with
  |false=>exact Nat.le_refl _
  |true=>exact Nat.le_trans (by omega) (b (e+1))
theorem aNO (s:ByteArray)(a:Nat):∀f e,e<=s.size->cJ s a f e<=s.size:=by
 intro f
 induction f with
 |zero=>intro e h;exact h
 |succ f b=>
  intro e h;unfold cJ
  cases hc:decide (e<s.size/\e-a<9)&&isDig (aQ s e)with
  |false=>exact h
  |true=>
   simp only[Bool.and_eq_true,decide_eq_true_eq]at hc;exact b (e+1) (by omega)
theorem aLI (s:ByteArray):∀f e,e<=bS s f e:=by
 intro f
 induction f with
 |zero=>intro e;exact Nat.le_refl _
 |succ f a=>
  intro e;unfold bS
  cases decide (e<s.size)&&(isLet (aQ s e)||isDig (aQ s e))with
  |false=>exact Nat.le_refl _
  |true=>exact Nat.le_trans (by omega) (a (e+1))
theorem aLH (s:ByteArray):∀f e,e<=s.size->bS s f e<=s.size:=by
 intro f
 induction f with
 |zero=>intro e h;exact h
 |succ f a=>
  intro e h;unfold bS
  cases hc:decide (e<s.size)&&(isLet (aQ s e)||isDig (aQ s e))with
  |false=>exact h
  |true=>
   simp only[Bool.and_eq_true,decide_eq_true_eq]at hc;exact a (e+1) (by omega)
structure Wd where
 kind:Int
 text:ByteArray
 pos:Nat
def wordEnd (s:ByteArray)(a:Nat):Nat:=
 bif Rd.isDig (aQ s a)then cJ s a 9 (a+1)else bif Rd.isLet (aQ s a)then bS s s.size (a+1)else a+1
def split (s:ByteArray):Nat->Nat->List Wd
 |0,_=>[]
 |f+1,a=>
  bif decide (a<s.size)then
   bif aQ s a != 32 then⟨kindOf (aQ s a),s.extract a (wordEnd s a),a⟩::split s f (wordEnd s a)
   else split s f (wordEnd s a)
  else [⟨0,⟨#[]⟩,s.size⟩]
theorem Gz (s:ByteArray)(a:Nat):a+1<=wordEnd s a:=by
 unfold wordEnd
 cases isDig (aQ s a)with
 |true=>exact aNP s a 9 (a+1)
 |false=>
  cases isLet (aQ s a)with
  |true=>exact aLI s s.size (a+1)
  |false=>exact Nat.le_refl _
theorem Ka (s:ByteArray)(a:Nat)(h:a<s.size):wordEnd s a<=s.size:=by
 unfold wordEnd
 cases isDig (aQ s a)with
 |true=>exact aNO s a 9 (a+1) (by omega)
 |false=>
  cases isLet (aQ s a)with
  |true=>exact aLH s s.size (a+1) (by omega)
  |false=>exact h
def dV:List Wd->List Value
 | []=>[]
 |w::r=>.int .i64 w.kind::.string w.text::.int .i64 w.pos::dV r
theorem aEj (a b:List Wd):dV (a++b)=dV a++dV b:=by
 induction a with
 |nil=>rfl
 |cons x r d=>simp[dV,d]
def valTo (t:ByteArray):Nat->Int
 |0=>0
 |k+1=>bif isDig (aQ t k)then valTo t k*10+(aQ t k-48)else valTo t k
theorem Zd (t:ByteArray):∀k,0<=valTo t k:=by
 intro k
 induction k with
 |zero=>exact Int.le_refl _
 |succ k a=>
  unfold valTo
  cases h:isDig (aQ t k)with
  |false=>exact a
  |true=>
   simp[isDig]at h;simp;omega
theorem aQv (t:ByteArray):∀k,valTo t k<(10:Int)^k:=by
 intro k
 induction k with
 |zero=>simp[valTo]
 |succ k b=>
  unfold valTo;rw[Int.pow_succ];have a:=Zd t k
  cases h:isDig (aQ t k)with
  |false=>simp;omega
  |true=>
   simp[isDig]at h;simp;omega
theorem aLa (t:ByteArray)(k:Nat)(h:k<=9):valTo t k<1000000000:=by
 have a:=aQv t k
 have b:(10:Int)^k<=10^9:=by
  have:=Nat.pow_le_pow_right (n:=10) (by omega) h;exact_mod_cast this
 omega
def isT (t:ByteArray)(c:List UInt8):Bool:=t.data.toList==c
theorem aQV (t:ByteArray)(c:List UInt8):(t.toList==c)=isT t c:=by unfold isT;rw[ByteArray.toList_eq]
def named (t:ByteArray):Int:=
 bif isT t [112,105]then 2 else bif isT t [101]then 3 else bif isT t [99,102]then 4 else bif isT t [115,113,114,116]then 10
 else bif isT t [101,120,112]then 11 else bif isT t [108,110,49,112]then 12 else bif isT t [97,116,97,110]then 13 else 0
structure St where
 next:Nat
 around:Nat
 deepest:Nat
 nodes:Nat
def aD (ws:List Wd)(n:Nat):Wd:=ws.getD n ⟨0,⟨#[]⟩,0⟩
theorem aOR:∀(a:List Wd) (n:Nat),n<a.length->(dV a)[n*3]?=some (.int .i64 (aD a n).kind)/\(dV a)[n*3+1]?=some (.string (aD a n).text)/\(dV a)[n*3+2]?=some (.int .i64 (aD a n).pos):=by
 intro a
 induction a with
 |nil=>intro n h;simp at h
 |cons x r b=>
  intro n h
  cases n with
  |zero=>simp[dV,aD]
  |succ n=>
   have:=b n (by simpa using h)
   simpa[dV,aD,Nat.add_mul]using this
end Rd
theorem yF {k:IntKind}{a b:Int}(h:a=b):Ending.returned (.int k a)=.returned (.int k b):=by rw[h]
theorem Ez (n:Int)(w:World):
  Calls prog 104 #[.int .u8 n] w fun e a=>e=.returned (.bool (Rd.isDig n))/\w=a:=by
 by_cases b:48<=n
 all_goals by_cases d:n<=57
 all_goals
  go_enter func104,ntmps104
  go_wp2
  go_ret
  exact⟨by simp[Rd.isDig];omega,rfl⟩
theorem Rz (n:Int)(w:World):
  Calls prog 105 #[.int .u8 n] w fun e a=>e=.returned (.bool (Rd.isLet n))/\w=a:=by
 by_cases b:97<=n
 all_goals by_cases d:n<=122
 all_goals
  go_enter func105,ntmps105
  go_wp2
  go_ret
  exact⟨by simp[Rd.isLet];omega,rfl⟩
theorem Sk (n:Int)(w:World):
  Calls prog 84 #[.int .u8 n] w fun e a=>e=.returned (.int .i64 (Rd.kindOf n))/\w=a:=by
 cases b:Rd.isDig n
 all_goals cases d:Rd.isLet n
 all_goals
  go_enter func84,ntmps84
  go_wp2_with (first|(go_at_call 104;refine(Ez _ _).mono ?_;rintro e a⟨rfl,rfl⟩)|(go_at_call 105;refine(Rz _ _).mono ?_;rintro e a⟨rfl,rfl⟩))
  go_ret
  exact⟨by simp[Rd.kindOf,b,d],rfl⟩
theorem aHf (s:ByteArray)(a:Nat)(w:World)(p:s.size<=120)(o:a<s.size):
  Calls prog 85 #[.string s,.int .i64 a] w fun e g=>e=.returned (.int .i64 (Rd.cJ s a 9 (a+1)))/\w=g:=by
 go_enter func85,ntmps85
 go_wp2_with fail
 go_loop [5] (fun e=>∃k:Nat,a+1<=k/\k<=a+9/\k<=s.size/\e=.int .i64 k/\Hid (Rd.cJ s a (a+10-k) k=Rd.cJ s a 9 (a+1))) (fun e=>s.size-(intOf e).toNat)
 case atStart=>exact⟨a+1,by omega,by omega,by omega,by go_num,by rw[show a+10-(a+1)=9 by omega];rfl⟩
 case round=>
  obtain⟨k,j,l,n,rfl,d⟩:=hrel
  obtain⟨f,h⟩:∃f,a+10-k=f+1:=⟨a+9-k,by omega⟩
  have b:Hid (a+10-k=f+1):=h;clear h
  by_cases c1:k<s.size
  ·by_cases c2:(k:Int)-a<9
   ·cases c3:Rd.isDig (s[k].toNat:Int)
    ·go_wp2_with (go_at_call 104;refine(Ez _ _).mono ?_;rintro e g⟨rfl,rfl⟩)
     go_ret
     refine⟨yF ?_,rfl⟩;rw[<-d.out,b.out,Rd.cJ,Rd.Hi s k c1,c3];simp
    ·go_wp2_with (go_at_call 104;refine(Ez _ _).mono ?_;rintro e g⟨rfl,rfl⟩)
     go_round
     case rel=>
      refine⟨k+1,by omega,by omega,by omega,by go_num,?_⟩;show Rd.cJ s a (a+10-(k+1)) (k+1)=_
      have i:a+10-(k+1)=f:=by have:=b.out;omega
      rw[i,<-d.out,b.out]
      conv=>rhs;rw[Rd.cJ,Rd.Hi s k c1,c3]
      simp[c1,show k-a<9 by omega]
     case measure=>simp[intOf];omega
   ·go_wp2_with fail
    go_ret
    refine⟨yF ?_,rfl⟩;rw[<-d.out,b.out,Rd.cJ,decide_eq_false (by omega)];simp
  ·go_wp2_with fail
   go_ret
   refine⟨yF ?_,rfl⟩;rw[<-d.out,b.out,Rd.cJ,decide_eq_false (by omega)];simp
theorem aJx (s:ByteArray)(a:Nat)(w:World)(o:s.size<=120)(n:a<s.size):
  Calls prog 86 #[.string s,.int .i64 a] w fun e b=>e=.returned (.int .i64 (Rd.bS s s.size (a+1)))/\w=b:=by
 go_enter func86,ntmps86
 go_wp2_with fail
 go_loop [5] (fun e=>∃k:Nat,a+1<=k/\k<=s.size/\e=.int .i64 k/\Hid (Rd.bS s (s.size+a+1-k) k=Rd.bS s s.size (a+1))) (fun e=>s.size-(intOf e).toNat)
 case atStart=>exact⟨a+1,by omega,by omega,by go_num,by rw[show s.size+a+1-(a+1)=s.size by omega];rfl⟩
 case round=>
  obtain⟨k,j,l,rfl,g⟩:=hrel
  obtain⟨f,i⟩:∃f,s.size+a+1-k=f+1:=⟨s.size+a-k,by omega⟩
  have d:Hid (s.size+a+1-k=f+1):=i;clear i
  by_cases c1:k<s.size
  ·cases c2:Rd.isLet (s[k].toNat:Int)
   ·cases c3:Rd.isDig (s[k].toNat:Int)
    ·go_wp2_with (first|(go_at_call 104;refine(Ez _ _).mono ?_;rintro e b⟨rfl,rfl⟩)|(go_at_call 105;refine(Rz _ _).mono ?_;rintro e b⟨rfl,rfl⟩))
     go_ret
     refine⟨yF ?_,rfl⟩;rw[<-g.out,d.out,Rd.bS,Rd.Hi s k c1,c2,c3];simp
    ·go_wp2_with (first|(go_at_call 104;refine(Ez _ _).mono ?_;rintro e b⟨rfl,rfl⟩)|(go_at_call 105;refine(Rz _ _).mono ?_;rintro e b⟨rfl,rfl⟩))
     go_round
     case rel=>
      refine⟨k+1,by omega,by omega,by go_num,?_⟩;show Rd.bS s (s.size+a+1-(k+1)) (k+1)=_
      have h:s.size+a+1-(k+1)=f:=by have:=d.out;omega
      rw[h,<-g.out,d.out]
      conv=>rhs;rw[Rd.bS,Rd.Hi s k c1,c2,c3]
      simp[c1]
     case measure=>simp[intOf];omega
   ·go_wp2_with (first|(go_at_call 104;refine(Ez _ _).mono ?_;rintro e b⟨rfl,rfl⟩)|(go_at_call 105;refine(Rz _ _).mono ?_;rintro e b⟨rfl,rfl⟩))
    go_round
    case rel=>
     refine⟨k+1,by omega,by omega,by go_num,?_⟩;show Rd.bS s (s.size+a+1-(k+1)) (k+1)=_
     have h:s.size+a+1-(k+1)=f:=by have:=d.out;omega
     rw[h,<-g.out,d.out]
     conv=>rhs;rw[Rd.bS,Rd.Hi s k c1,c2]
     simp[c1]
    case measure=>simp[intOf];omega
  ·go_wp2_with fail
   go_ret
   refine⟨yF ?_,rfl⟩;rw[<-g.out,d.out,Rd.bS,decide_eq_false (by omega)];simp
end Go.Proofs.YtkmojpfpfoaloaaGreatDoor
