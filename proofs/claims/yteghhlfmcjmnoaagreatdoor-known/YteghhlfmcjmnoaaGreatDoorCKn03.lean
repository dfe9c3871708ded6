import Derived.Test.YteghhlfmcjmnoaaGreatDoorCKn02
set_option linter.unusedSimpArgs false
set_option linter.unusedVariables false
set_option maxRecDepth 100000
set_option maxHeartbeats 2000000
namespace Go.Proofs.YteghhlfmcjmnoaaGreatDoor
open Go.RowKit
namespace Ab
def boxesOf:AT->List Nat
 | .val (.one (.ptr b _))=>[b]
 | .val (.one (.slc b _ _ _))=>[b]
 | _=>[]
def accOf (ev:Operand->AT):Op->List Nat
 | .load _ a=>boxesOf (ev a)
 | .store _ a _=>boxesOf (ev a)
 | .call { callee:=.builtin .append,args:=args,..}=>args.toList.flatMap fun x=>boxesOf (ev x)
 | _=>[]
def reads (all:Array Oper)(o:Oper):List Tmp:=
 (o.op.operands.toList.filterMap fun | .tmp t=>some t | _=>none)++(match o.guard with | some (g,_)=>((all[g]?).bind (·.dst)).toList | none=>[])
abbrev Tb:=List (Oper×Ent×List Nat)
def tmL (L:Nat->Bool):Nat->Tb->List AT->List AT
 | _,[],tm=>tm
 | k,(o,e,_)::r,tm=>tmL L (k+1) r (bif L k then putT tm o.dst e.res else tm)
def bxL (L:Nat->Bool)(n0:Nat):Nat->Tb->(Nat->Option Box)->(Nat->Option Box)
 | _,[],bx=>bx
 | k,(_,e,_)::r,bx=>bxL L n0 (k+1) r (bif L k then effB (n0+k) e bx else bx)
def boxesL (n0:Nat):Nat->Tb->List (Nat×Box)->List (Nat×Box)
 | _,[],l=>l
 | k,(_,e,_)::r,l=>boxesL n0 (k+1) r (effL (n0+k) e l)
def tabA (C:Cfg)(sp:Spec)(xb:Nat->Option Box)(all:Array Oper)(n0:Nat):Nat->List Oper->List AT->List (Nat×Box)->List (Int×Nat)->Option (Tb×List (Int×Nat)×List Prop)
 | _,[],_,_,ν=>some ([],ν,[])
 | k,o::r,tm,l,ν=>(entA C sp xb all tm (look l) ν (n0+k) o).bind fun (e,ν',p)=>
  (tabA C sp xb all n0 (k+1) r (putT tm o.dst e.res) (effL (n0+k) e l) (ν++ν')).map fun (T,νf,q)=>((o,e,accOf (evO tm) o.op)::T,νf,p++q)
def touch (id:Nat)(e:Ent):List Nat:=
 match e.new with
 | some _=>id::e.app.toList
 | none=>(e.sto.map (·.1)).toList
theorem aFa (id:Nat)(e:Ent)(l:List (Nat×Box))(d:look l id=none):look (effL id e l)=effB id e (look l):=by
 unfold effL effB
 cases e.new with
 | some B=>
  simp only
  cases e.app with
  | none=>exact aBI _ _ _
  | some b=>
   simp only [appB]
   cases c:look l b with
   | none=>simp only;exact aBI _ _ _
   | some O=>
    simp only
    have a:b≠id:=by rintro rfl;rw [d] at c;cases c
    rw [aGo (B:=O) (by rw [aBI,aAJ a];exact c),aBI]
 | none=>
  simp only
  cases e.sto with
  | none=>rfl
  | some p=>
   obtain ⟨b,g⟩:=p;simp only
   cases h:look l b with
   | some B=>exact aFb h g
   | none=>
    funext x;rw [aGn]
    by_cases f:x=b
    ·subst f;rw [if_pos rfl,h];simp only;exact h.symm
    ·rw [if_neg f]
theorem aKe {bx:Nat->Option Box}{n:Nat}{D:Box}{a:Option Nat}{b:Nat}(c:b≠n)(f:a≠some b):appB bx n D a b=bx b:=by
 unfold appB
 cases a with
 | none=>exact aAJ c
 | some o=>
  have d:b≠o:=fun e=>f (by rw [e])
  simp only
  cases bx o with
  | none=>exact aAJ c
  | some O=>simp only;rw [aAJ d];exact aAJ c
theorem aLa {bx a:Nat->Option Box}{n:Nat}{D:Box}{c:Option Nat}{b:Nat}(h:b=n\/c=some b)(f:bx b=a b):appB bx n D c b=appB a n D c b:=by
 unfold appB
 cases c with
 | none=>
  rcases h with rfl | h
  ·simp only [aAK]
  ·cases h
 | some o=>
  simp only
  by_cases d:b=o
  ·subst d;rw [f]
   cases a b with
   | none=>simp only [setB];split;rfl;exact f
   | some O=>simp only;rw [aAK,aAK]
  ·have g:b=n:=by
    rcases h with h | h
    ·exact h
    ·exact absurd (Option.some.inj h).symm d
   subst g
   have e:∀ bx:Nat->Option Box,(match bx o with | some B=>setB (setB bx b D) o {B with tip:=false} | none=>setB bx b D) b=some D:=by
    intro bx
    cases bx o with
    | none=>exact aAK _ _ _
    | some O=>simp only;rw [aAJ d];exact aAK _ _ _
   exact (e bx).trans (e a).symm
theorem aCy {id:Nat}{e:Ent}{bx:Nat->Option Box}{b:Nat}(h:b∉touch id e):effB id e bx b=bx b:=by
 unfold touch at h;unfold effB
 cases a:e.new with
 | some B=>
  simp only [a,List.mem_cons,not_or] at h ⊢;exact aKe h.1 (fun e2=>h.2 (by rw [e2];simp))
 | none=>
  simp only [a] at h ⊢
  cases d:e.sto with
  | none=>rfl
  | some p=>
   obtain ⟨c,f⟩:=p;simp only [d,Option.map_some,Option.toList_some,List.mem_singleton] at h ⊢
   cases bx c with
   | none=>rfl
   | some B=>simp only;exact aAJ h
theorem aHi {id:Nat}{e:Ent}{bx a:Nat->Option Box}{b:Nat}(h:b∈touch id e)(d:bx b=a b):effB id e bx b=effB id e a b:=by
 unfold touch at h;unfold effB
 cases f:e.new with
 | some B=>
  simp only [f,List.mem_cons] at h ⊢;refine aLa ?_ d
  rcases h with h | h
  ·exact Or.inl h
  ·exact Or.inr (by simpa using h)
 | none=>
  simp only [f] at h ⊢
  cases g:e.sto with
  | none=>simp [g] at h
  | some p=>
   obtain ⟨c,i⟩:=p;simp only [g,Option.map_some,Option.toList_some,List.mem_singleton] at h ⊢;subst h;rw [d]
   cases a b with
   | none=>simp only;exact d
   | some B=>simp only;rw [aAK,aAK]
theorem aGB (tm:List AT)(d:Option Tmp)(v:AT):(putT tm d v).length=tm.length:=by cases d<;>simp [putT]
theorem aEf {a:List AT}{d:Option Tmp}{v:AT}{t:Nat}(h:d≠some t):(putT a d v)[t]?=a[t]?:=by
 cases d with
 | none=>rfl
 | some d=>simp only [putT];rw [List.getElem?_set_ne (fun e=>h (by rw [e]))]
theorem aFo {b a:List AT}{v:AT}{t:Nat}(h:b.length=a.length):(putT b (some t) v)[t]?=(putT a (some t) v)[t]?:=by
 simp [putT,List.getElem?_set,h]
theorem aNr {L:Nat->Bool}:∀ (T:Tb) (k:Nat) (tm:List AT),(tmL L k T tm).length=tm.length
 | [],_,_=>rfl
 | (o,e,_)::r,k,tm=>by
  unfold tmL;rw [aNr r];cases L k
  ·rfl
  ·exact aGB _ _ _
theorem aEQ {L L':Nat->Bool}{t:Nat}:∀ (T:Tb) (k:Nat) (tm tm':List AT),tm.length=tm'.length->tm[t]?=tm'[t]?->(∀ (i:Nat) x,T[i]?=some x->x.1.dst=some t->L (k+i)=L' (k+i))->(tmL L k T tm)[t]?=(tmL L' k T tm')[t]?
 | [],_,_,_,_,h,_=>h
 | (o,e,c)::r,k,tm,tm',hl,h,hL=>by
  unfold tmL;refine aEQ r (k+1) _ _ ?_ ?_ (fun i x hx hd=>by have:=hL (i+1) x (by simpa using hx) hd;rw [show k+1+i=k+(i+1) by omega];exact this)
  ·cases L k<;>cases L' k<;>simp [aGB,hl]
  ·by_cases hd:o.dst=some t
   ·have:=hL 0 (o,e,c) rfl hd;rw [Nat.add_zero] at this;rw [this,hd];cases L' k
    ·exact h
    ·exact aFo hl
   ·have h1:(bif L k then putT tm o.dst e.res else tm)[t]?=tm[t]?:=by cases L k;rfl;exact aEf hd
    have h2:(bif L' k then putT tm' o.dst e.res else tm')[t]?=tm'[t]?:=by cases L' k;rfl;exact aEf hd
    rw [h1,h2,h]
theorem aRK {L:Nat->Bool}{t:Nat}:∀ (T:Tb) (k:Nat) (tm:List AT),(∀ (i:Nat) x,T[i]?=some x->x.1.dst=some t->L (k+i)=false)->(tmL L k T tm)[t]?=tm[t]?:=by
 intro T k tm h;have:=aEQ (L:=L) (L':=fun _=>false) (t:=t) T k tm tm rfl rfl h;rw [this];clear this h
 induction T generalizing k with
 | nil=>rfl
 | cons x r ih=>obtain ⟨o,e,c⟩:=x;unfold tmL;exact ih (k+1)
theorem aIN {L:Nat->Bool}:∀ (T:Tb) (k:Nat) (tm:List AT),(∀ i,k<=i->L i=false)->tmL L k T tm=tm
 | [],_,_,_=>rfl
 | (o,e,c)::r,k,tm,h=>by
  unfold tmL;rw [h k (Nat.le_refl _)]
  exact aIN r (k+1) tm fun i hi=>h i (by omega)
theorem aPX {L:Nat->Bool}{t:Nat}:∀ (T:Tb) (j k:Nat) (tm:List AT) (x:Oper×Ent×List Nat),T[j]?=some x->x.1.dst=some t->L (k+j)=true->(∀ (i:Nat) y,i≠j->T[i]?=some y->y.1.dst≠some t)->(tmL L k T tm)[t]?=(putT tm (some t) x.2.1.res)[t]?
 | (o,e,c)::r,0,k,tm,x,hx,hd,hL,hn=>by
  simp at hx;subst hx;unfold tmL;rw [Nat.add_zero] at hL;rw [hL];simp only [cond_true];rw [aRK r (k+1) _ (fun i y hy hyd=>absurd hyd (hn (i+1) y (by omega) (by simpa using hy)))];simp only at hd;rw [hd]
 | (o,e,c)::r,j+1,k,tm,x,hx,hd,hL,hn=>by
  unfold tmL;have h0:o.dst≠some t:=hn 0 (o,e,c) (by omega) rfl;rw [aPX r j (k+1) _ x (by simpa using hx) hd (by rw [show k+1+j=k+(j+1) by omega];exact hL) (fun i y hi hy=>hn (i+1) y (by omega) (by simpa using hy))];refine aFo ?_;cases L k
  ·rfl
  ·exact aGB _ _ _
 | [],j,k,tm,x,hx,_,_,_=>by simp at hx
theorem aUa {L:Nat->Bool}{T:Tb}{j:Nat}{b:List AT}{x:Oper×Ent×List Nat}(c:T[j]?=some x)(e:L j=false)(d:∀ (i:Nat) y t,i≠j->T[i]?=some y->x.1.dst=some t->y.1.dst≠some t):tmL (fun i=>L i||i==j) 0 T b=putT (tmL L 0 T b) x.1.dst x.2.1.res:=by
 apply List.ext_getElem?;intro t
 by_cases a:x.1.dst=some t
 ·rw [aPX T j 0 b x c a (by simp) (fun i y hi hy=>d i y t hi hy a),a];exact aFo (aNr _ _ _).symm
 ·rw [aEf a]
  refine aEQ T 0 b b rfl rfl fun i y hy hyd=>?_
  have:i≠j:=by rintro rfl;rw [c] at hy;cases hy;exact a hyd
  simp [this]
theorem aDG {L L':Nat->Bool}{n0 b:Nat}:∀ (T:Tb) (k:Nat) (bx bx':Nat->Option Box),bx b=bx' b->(∀ (i:Nat) x,T[i]?=some x->b∈touch (n0+(k+i)) x.2.1->L (k+i)=L' (k+i))->bxL L n0 k T bx b=bxL L' n0 k T bx' b
 | [],_,_,_,h,_=>h
 | (o,e,c)::r,k,bx,bx',h,hL=>by
  unfold bxL;refine aDG r (k+1) _ _ ?_ (fun i x hx hd=>by have:=hL (i+1) x (by simpa using hx) (by rw [show k+(i+1)=k+1+i by omega];exact hd);rw [show k+1+i=k+(i+1) by omega];exact this)
  by_cases hd:b∈touch (n0+k) e
  ·have:=hL 0 (o,e,c) rfl hd;rw [Nat.add_zero] at this;rw [this];cases L' k
   ·exact h
   ·exact aHi hd h
  ·have h1:(bif L k then effB (n0+k) e bx else bx) b=bx b:=by cases L k;rfl;exact aCy hd
   have h2:(bif L' k then effB (n0+k) e bx' else bx') b=bx' b:=by cases L' k;rfl;exact aCy hd
   rw [h1,h2,h]
theorem aF7 {L:Nat->Bool}{n0:Nat}:∀ (T:Tb) (k:Nat) (bx:Nat->Option Box),(∀ i,k<=i->L i=false)->bxL L n0 k T bx=bx
 | [],_,_,_=>rfl
 | (o,e,c)::r,k,bx,h=>by
  unfold bxL;rw [h k (Nat.le_refl _)]
  exact aF7 r (k+1) bx fun i hi=>h i (by omega)
theorem aLp {L:Nat->Bool}{n0 b:Nat}(T:Tb)(k:Nat)(bx:Nat->Option Box)(h:∀ (i:Nat) x,T[i]?=some x->b∈touch (n0+(k+i)) x.2.1->L (k+i)=false):bxL L n0 k T bx b=bx b:=by
 rw [aDG (L':=fun _=>false) T k bx bx rfl h,aF7 T k bx fun _ _=>rfl]
theorem aPl {L:Nat->Bool}{n0 j:Nat}:∀ (T:Tb) (k:Nat) (bx:Nat->Option Box) (i:Nat) (x:Oper×Ent×List Nat),T[i]?=some x->j=k+i->L j=false->(∀ (m:Nat) y b,i<m->T[m]?=some y->b∈touch (n0+j) x.2.1->b∈touch (n0+(k+m)) y.2.1->L (k+m)=false)->bxL (fun i=>L i||i==j) n0 k T bx=effB (n0+j) x.2.1 (bxL L n0 k T bx)
 | (o,e,c)::r,k,bx,0,x,hx,hj,hL,hn=>by
  simp at hx;subst hx;simp only [Nat.add_zero] at hj;subst hj;unfold bxL;simp only [hL,Bool.false_or,beq_self_eq_true,cond_true,cond_false]
  have hrest:bxL (fun i=>L i||i==j) n0 (j+1) r (effB (n0+j) e bx)=bxL L n0 (j+1) r (effB (n0+j) e bx):=by
   funext b
   refine aDG r (j+1) _ _ rfl fun m y _ _=>?_
   have:¬j+1+m=j:=by omega
   simp [this]
  rw [hrest];funext b
  by_cases a:b∈touch (n0+j) e
  ·have d:∀ bx,bxL L n0 (j+1) r bx b=bx b:=fun bx=>aLp r (j+1) bx fun m y hy ht=>by
    have:=hn (m+1) y b (by omega) (by simpa using hy) a (by rw [show j+(m+1)=j+1+m by omega];exact ht);rw [show j+1+m=j+(m+1) by omega];exact this
   rw [d];exact aHi a (d bx).symm
  ·rw [aCy a]
   exact aDG r (j+1) _ _ (aCy a) fun _ _ _ _=>rfl
 | (o,e,c)::r,k,bx,i+1,x,hx,hj,hL,hn=>by
  unfold bxL
  have f:¬k=j:=by omega
  have:(L k||k==j)=L k:=by simp [f]
  rw [this]
  exact aPl r (k+1) _ i x (by simpa using hx) (by omega) hL fun m y b d hy h1 h2=>by
   have:=hn (m+1) y b (by omega) (by simpa using hy) h1 (by rw [show k+(m+1)=k+1+m by omega];exact h2);rw [show k+1+m=k+(m+1) by omega];exact this
 | [],k,bx,i,x,hx,_,_,_=>by simp at hx
theorem aPW {L:Nat->Bool}:∀ (T:Tb) (k:Nat) (tm:List AT),(∀ i,i<T.length->L (k+i)=true)->tmL L k T tm=tmL (fun _=>true) k T tm
 | [],_,_,_=>rfl
 | (o,e,c)::r,k,tm,h=>by
  unfold tmL;rw [show L k=true from h 0 (by simp)]
  exact aPW r (k+1) _ fun i hi=>by have:=h (i+1) (by simpa using hi);rw [show k+1+i=k+(i+1) by omega];exact this
def Over (l:List (Nat×Box))(n:Nat):Prop:=∀ b,n<=b->look l b=none
theorem aJA {l:List (Nat×Box)}{n0 k:Nat}{e:Ent}(h:Over l (n0+k)):Over (effL (n0+k) e l) (n0+(k+1)):=by
 intro b i;rw [aFa _ _ _ (h _ (Nat.le_refl _))]
 by_cases ht:b∈touch (n0+k) e
 ·-- an old box: there is none
  unfold touch at ht;unfold effB
  cases a:e.new with
  | some B=>
   rw [a] at ht;simp only [List.mem_cons] at ht
   rcases ht with ht | ht
   ·omega
   ·have f:e.app=some b:=by simpa using ht
    simp only [f,appB,h b (by omega)];rw [aAJ (by omega)];exact h b (by omega)
  | none=>
   rw [a] at ht;simp only at ht ⊢
   cases d:e.sto with
   | none=>rw [d] at ht;simp at ht
   | some p=>
    obtain ⟨c,g⟩:=p;rw [d] at ht;simp at ht;subst ht;simp only [h b (by omega)]
 ·rw [aCy ht];exact h b (by omega)
theorem aPm {L:Nat->Bool}{n0:Nat}:∀ (T:Tb) (k:Nat) (l:List (Nat×Box)),Over l (n0+k)->(∀ i,i<T.length->L (k+i)=true)->bxL L n0 k T (look l)=look (boxesL n0 k T l)
 | [],_,_,_,_=>rfl
 | (o,e,c)::r,k,l,ho,h=>by
  unfold bxL boxesL;rw [show L k=true from h 0 (by simp)];simp only [cond_true];rw [<-aFa _ _ _ (ho _ (Nat.le_refl _))]
  exact aPm r (k+1) _ (aJA ho) fun i hi=>by have:=h (i+1) (by simpa using hi);rw [show k+1+i=k+(i+1) by omega];exact this
theorem aPV {C:Cfg}{sp:Spec}{xb:Nat->Option Box}{all:Array Oper}{n0:Nat}{a:List (Int×Nat)}:∀ (os:List Oper) (k:Nat) (tm:List AT) (l:List (Nat×Box)) (ν:List (Int×Nat)) (T:Tb) (p:List Prop),tabA C sp xb all n0 k os tm l ν=some (T,a,p)->Over l (n0+k)->Holds p->
  T.length=os.length/\(∀ (i:Nat) (x:Int×Nat),ν[i]?=some x->a[i]?=some x)/\∀ (j:Nat) (x:Oper×Ent×List Nat),T[j]?=some x->os[j]?=some x.1/\∃ ν1 ν2 q,Holds q/\(∀ (i:Nat) (y:Int×Nat),(ν1++ν2)[i]?=some y->a[i]?=some y)/\
   entA C sp xb all (tmL (fun i=>decide (i<k+j)) k T tm) (bxL (fun i=>decide (i<k+j)) n0 k T (look l)) ν1 (n0+(k+j)) x.1=some (x.2.1,ν2,q)/\x.2.2=accOf (evO (tmL (fun i=>decide (i<k+j)) k T tm)) x.1.op
 | [],k,tm,l,ν,T,p,h,hov,hp=>by
  simp only [tabA,Option.some.injEq,Prod.mk.injEq] at h;obtain ⟨rfl,rfl,rfl⟩:=h;exact ⟨rfl,fun _ _ h=>h,fun j x hx=>by simp at hx⟩
 | o::os,k,tm,l,ν,T,p,h,hov,hp=>by
  unfold tabA at h;obtain ⟨⟨e,ν',q⟩,h1,h2⟩:=bnd h;obtain ⟨⟨T',νf',q'⟩,h3,h4⟩:=mpd h2;simp only [Prod.mk.injEq] at h4;obtain ⟨rfl,rfl,rfl⟩:=h4;obtain ⟨g1,g2,g3⟩:=aPV os (k+1) _ _ _ T' q' h3 (aJA hov) (fun x hx=>hp x (by simp [hx]));refine ⟨by simp [g1],fun i x hx=>g2 i x (aBb _ _ i x hx),fun j x hx=>?_⟩
  cases j with
  | zero=>
   simp at hx;subst hx
   have e1:tmL (fun i=>decide (i<k+0)) k ((o,e,accOf (evO tm) o.op)::T') tm=tm:=aIN _ _ _ fun i hi=>by simp;omega
   have e2:bxL (fun i=>decide (i<k+0)) n0 k ((o,e,accOf (evO tm) o.op)::T') (look l)=look l:=aF7 _ _ _ fun i hi=>by simp;omega
   rw [e1,e2];exact ⟨rfl,ν,ν',q,(fun x hx=>hp x (by simp [hx])),g2,h1,rfl⟩
  | succ j=>
   obtain ⟨k1,ν1,ν2,q2,k2,k3,k4,k5⟩:=g3 j x (by simpa using hx)
   have e1:tmL (fun i=>decide (i<k+(j+1))) k ((o,e,accOf (evO tm) o.op)::T') tm=tmL (fun i=>decide (i<k+1+j)) (k+1) T' (putT tm o.dst e.res):=by
    conv=>lhs;unfold tmL
    rw [show decide (k<k+(j+1))=true by simp];rw [show k+(j+1)=k+1+j by omega];rfl
   have e2:bxL (fun i=>decide (i<k+(j+1))) n0 k ((o,e,accOf (evO tm) o.op)::T') (look l)=bxL (fun i=>decide (i<k+1+j)) n0 (k+1) T' (look (effL (n0+k) e l)):=by
    rw [aFa _ _ _ (hov _ (Nat.le_refl _))]
    conv=>lhs;unfold bxL
    rw [show decide (k<k+(j+1))=true by simp];rw [show k+(j+1)=k+1+j by omega];rfl
   rw [e1,e2,show n0+(k+(j+1))=n0+(k+1+j) by omega];exact ⟨by simpa using k1,ν1,ν2,q2,k2,k3,k4,k5⟩
end Ab
open Go.RowKit
namespace Ab
theorem aFq {bx a:Nat->Option Box}{e:TypeId}{size:Nat}{t:AT}(h:∀ b∈boxesOf t,bx b=a b):rowOf bx e size t=rowOf a e size t:=by
 unfold rowOf;split
 ·rfl
 ·rename_i b c d f;rw [h b (by simp [boxesOf])]
 ·rfl
theorem aHI {bx:Nat->Option Box}{e:TypeId}{size:Nat}{t:AT}{b:Nat}{cs:List AC}{f:Nat}(h:rowOf bx e size t=some (some b,cs,f)):b∈boxesOf t:=by
 unfold rowOf at h;split at h
 ·cases h
 ·rename_i k d a i;obtain ⟨B,j,c⟩:=bnd h
  cases g:(d==0&&i==size&&B.ty==e&&B.cs.length==a*size) with
  | false=>rw [g] at c;cases c
  | true=>rw [g] at c;cases c;simp [boxesOf]
 ·cases h
theorem aHj {P:Program}{ev ev':Operand->AT}{bx k:Nat->Option Box}{q:Op}(h:∀ x∈q.operands.toList,ev x=ev' x)(v:∀ b∈accOf ev q,bx b=k b):evalOp P ev bx q=evalOp P ev' k q:=by
 cases q with
 | load t a=>
  have z:=h a (by simp [Op.operands]);simp only [evalOp,<-z]
  cases A:asOne (ev a) with
  | none=>rfl
  | some c=>
   cases c<;>try rfl
   case ptr b off=>
    simp only [Option.bind_some];rw [v b (by simp [accOf,aBD A,boxesOf])]
 | store t a x=>
  have z:=h a (by simp [Op.operands]);have n:=h x (by simp [Op.operands]);simp only [evalOp,<-z,<-n]
  cases A:asOne (ev a) with
  | none=>rfl
  | some c=>
   cases c<;>try rfl
   case ptr b off=>
    simp only [Option.bind_some];rw [v b (by simp [accOf,aBD A,boxesOf])]
 | build t parts=>
  have:(parts.toList.map fun (i,x)=>(i,ev x))=(parts.toList.map fun (i,x)=>(i,ev' x)):=List.map_congr_left fun p hp=>by
   obtain ⟨i,x⟩:=p;simp only;rw [h x (by simp only [Op.operands,List.mem_map];exact ⟨(i,x),hp,rfl⟩)]
  simp only [evalOp,this]
 | buildSlice t len parts=>
  have:(parts.toList.map fun (i,x)=>(i,ev x))=(parts.toList.map fun (i,x)=>(i,ev' x)):=List.map_congr_left fun p hp=>by
   obtain ⟨i,x⟩:=p;simp only;rw [h x (by simp only [Op.operands,List.mem_map];exact ⟨(i,x),hp,rfl⟩)]
  simp only [evalOp,this]
 | convert s d x=>simp only [evalOp,h x (by simp [Op.operands])]
 | call c=>
  obtain ⟨l,j,g⟩:=c
  cases l with
  | builtin b=>
   cases b<;>try rfl
   case append=>
    simp only [evalOp];split
    ·rename_i t I s x E m;have B:ev s=ev' s:=h s (by simp [Op.operands,Call.operands,m]);have n:ev x=ev' x:=h x (by simp [Op.operands,Call.operands,m])
     have C:∀ e size,rowOf bx e size (ev s)=rowOf k e size (ev s):=fun e size=>aFq fun b hb'=>v b (by simp only [accOf,List.mem_flatMap];exact ⟨s,by simp [m],hb'⟩)
     have D:∀ e size,rowOf bx e size (ev x)=rowOf k e size (ev x):=fun e size=>aFq fun b hb'=>v b (by simp only [accOf,List.mem_flatMap];exact ⟨x,by simp [m],hb'⟩)
     simp only [<-B,<-n,<-C,<-D];congr;funext e;congr;funext _;congr;funext size;congr;funext i;congr;funext zero
     cases F:rowOf bx e size (ev s) with
     | none=>rfl
     | some p=>
      obtain ⟨old,H,len⟩:=p;simp only [Option.bind_some]
      have:okTip bx old=okTip k old:=by
       cases old with
       | none=>rfl
       | some b=>
        unfold okTip;simp only;rw [v b (by simp only [accOf,List.mem_flatMap];exact ⟨s,by simp [m],aHI F⟩)]
      rw [this]
    ·rfl
   case len=>
    simp only [evalOp]
    cases E:g.toList with
    | nil=>rfl
    | cons t r=>
     cases r with
     | cons _ _=>rfl
     | nil=>
      cases m:j.toList with
      | nil=>rfl
      | cons x r=>
       cases r with
       | cons _ _=>rfl
       | nil=>
        simp only;rw [h x (by simp [Op.operands,Call.operands,m])]
  | value f=>
   cases f with
   | func f=>
    have:j.toList.map ev=j.toList.map ev':=List.map_congr_left fun x n=>h x (by simp [Op.operands,Call.operands];right;simpa using n)
    simp only [evalOp,this]
   | _=>rfl
  | _=>rfl
 | move x=>simp only [evalOp,h x (by simp [Op.operands])]
 | assign x=>simp only [evalOp,h x (by simp [Op.operands])]
 | pick c a b=>simp only [evalOp,h c (by simp [Op.operands]),h a (by simp [Op.operands]),h b (by simp [Op.operands])]
 | box t x=>simp only [evalOp,h x (by simp [Op.operands])]
 | nilCheck x=>simp only [evalOp,h x (by simp [Op.operands])]
 | binOp o t x y u=>simp only [evalOp,h x (by simp [Op.operands]),h y (by simp [Op.operands])]
 | unOp o t x=>cases o<;>simp only [evalOp,h x (by simp [Op.operands])]
 | fieldAddr t x f=>simp only [evalOp,h x (by simp [Op.operands])]
 | field t x f=>simp only [evalOp,h x (by simp [Op.operands])]
 | indexAddr t x i=>simp only [evalOp,h x (by simp [Op.operands]),h i (by simp [Op.operands])]
 | index t x i=>simp only [evalOp,h x (by simp [Op.operands]),h i (by simp [Op.operands])]
 | extract x i=>simp only [evalOp,h x (by simp [Op.operands])]
 | _=>rfl
def Eff.old:Eff->Option Nat
 | .sto b _=>some b
 | .app old _ _ _ _=>old
 | _=>none
def NoSto (e:Option Eff):Prop:=∀ f b,e=some f->f.old≠some b
theorem aAl {α:Type}{x:Option α}{f:α->Option Eff}(h:∀ a,NoSto (f a)):NoSto (x.bind f):=by
 intro d b e;obtain ⟨a,_,c⟩:=bnd e;exact h a d b c
theorem aA1 {α:Type}{x:Option α}{f:α->Eff}(h:∀ a,NoSto (some (f a))):NoSto (x.map f):=by
 intro d b e;obtain ⟨a,_,c⟩:=mpd e;exact h a d b (by rw [c])
theorem aAG (r:AT)(p:List Prop):NoSto (some (.val r p)):=fun _ _ e=>by cases e;intro h;cases h
theorem aCz (c:Bool){x y:Option Eff}(hx:NoSto x)(hy:NoSto y):NoSto (bif c then x else y):=by cases c;exact hy;exact hx
theorem aFe (cs:List AC)(ty:TypeId)(sl:Option (Nat×Nat)):NoSto (some (.new cs ty sl)):=fun _ _ e=>by cases e;intro h;cases h
theorem aKK (f:FuncId)(vs:List AV):NoSto (some (.call f vs)):=fun _ _ e=>by cases e;intro h;cases h
theorem aAs:NoSto none:=fun _ _ e=>by cases e
theorem aD6 {P:Program}{ev:Operand->AT}{bx:Nat->Option Box}{op:Op}{f:Eff}{b:Nat}(h:evalOp P ev bx op=some f)(r:f.old=some b):b∈accOf ev op:=by
 have e:NoSto (evalOp P ev bx op)->b∈accOf ev op:=fun hn=>absurd r (hn f b h)
 cases op with
 | store t a x=>
  simp only [evalOp] at h;obtain ⟨c,z,p⟩:=bnd h
  cases c<;>simp only at p<;>try cases p
  case ptr b' off=>
   obtain ⟨v,F,A⟩:=bnd p;obtain ⟨B,H,k⟩:=bnd A
   cases E:B.ro with
   | true=>rw [E] at k;cases k
   | false=>
    rw [E] at k;simp only [cond_false] at k;obtain ⟨I,J,L⟩:=mpd k;subst L;cases r;simp [accOf,aBD z,boxesOf]
 | call c=>
  obtain ⟨g,C,l⟩:=c
  cases g with
  | builtin bb=>
   cases bb<;>try (cases h;done)
   case len=>
    refine e ?_;simp only [evalOp];split
    ·refine aAl (fun c=>?_)
     cases c<;>first | exact aAs | exact aA1 fun _=>aAG _ _ | exact aCz _ (aA1 fun _=>aAG _ _) aAs
    ·exact aAs
   case append=>
    simp only [evalOp] at h;split at h
    ·rename_i t T s x U N;obtain ⟨O,z,h⟩:=bnd h;obtain ⟨M,p,h⟩:=bnd h;obtain ⟨j,F,h⟩:=bnd h;obtain ⟨i,A,h⟩:=bnd h;obtain ⟨m,H,h⟩:=bnd h;obtain ⟨⟨old,R,len⟩,k,h⟩:=bnd h;obtain ⟨⟨D,S,n⟩,J,h⟩:=bnd h;simp only at h;generalize (Nat.ble (len+n) 100&&Nat.ble i.bytes 1000000&&!(n==0)&&!(j==0)&&m.length==j&&okTip bx old)=q at h
     cases q with
     | false=>cases h
     | true=>
      cases h;simp only [Eff.old] at r;subst r;simp only [accOf,List.mem_flatMap];exact ⟨s,by simp [N],aHI k⟩
    ·cases h
  | value f=>
   cases f with
   | func f=>exact e (aA1 fun _=>aKK _ _)
   | _=>cases h
  | _=>cases h
 | unOp o t x=>
  refine e ?_
  cases o<;>simp only [evalOp]<;>first
   | exact aAs
   | exact aAl fun c=>aA1 fun _=>aAG _ _
   | exact aAl fun c=>by cases c<;>first | exact aAs | exact aAG _ _
 | move x=>exact e (aAG _ _)
 | assign x=>exact e (aAG _ _)
 | pick c x y=>
  refine e (aAl fun c=>?_)
  cases c<;>(try exact aAs)<;>(try exact aAG _ _)
  simp only
  split<;>first | exact aAs | exact aAG _ _
 | alloc t=>exact e (aA1 fun _=>aFe _ _ _)
 | box t x=>exact e (aA1 fun _=>aFe _ _ _)
 | build t ps=>exact e (aAl fun _=>aAl fun _=>aA1 fun _=>aAG _ _)
 | buildSlice t len ps=>exact e (aAl fun _=>aAl fun _=>aAl fun _=>aCz _ (aAl fun _=>aA1 fun _=>aFe _ _ _) aAs)
 | convert s d x=>
  refine e (aAl fun _=>aAl fun _=>aAl fun _=>?_)
  split<;>first | exact aAs | exact aAG _ _
 | load t a=>
  refine e (aAl fun c=>?_)
  cases c<;>(try exact aAs)
  exact aAl fun _=>aA1 fun _=>aAG _ _
 | nilCheck x=>
  refine e (aAl fun c=>?_)
  cases c<;>first | exact aAs | exact aAG _ _
 | binOp o t x y u=>exact e (aAl fun _=>aAl fun _=>aA1 fun _=>aAG _ _)
 | fieldAddr t x f=>
  refine e (aAl fun c=>?_)
  cases c<;>(try exact aAs)
  exact aAl fun _=>aAl fun _=>aAl fun n=>aCz _ aAs (aAG _ _)
 | field t x f=>
  refine e (aAl fun c=>?_)
  cases c<;>(try exact aAs)
  exact aAl fun _=>aAl fun _=>aA1 fun _=>aAG _ _
 | indexAddr t x i=>
  refine e (aAl fun c=>?_)
  cases c<;>(try exact aAs)
  all_goals
   refine aAl fun c=>?_
   cases c<;>(try exact aAs)
   all_goals exact aAl fun _=>aAl fun _=>aCz _ (aAG _ _) aAs
 | index t x i=>
  refine e (aAl fun c=>?_)
  cases c<;>(try exact aAs)
  refine aAl fun c=>?_
  cases c<;>(try exact aAs)
  exact aAl fun _=>aAl fun _=>aCz _ (aA1 fun _=>aAG _ _) aAs
 | extract x i=>
  refine e ?_;simp only [evalOp]
  cases ev x<;>first | exact aAs | exact aA1 fun _=>aAG _ _
 | _=>cases h
theorem entTouch {C:Cfg}{sp:Spec}{xb:Nat->Option Box}{all:Array Oper}{j:List AT}{bx:Nat->Option Box}{ν ν':List (Int×Nat)}{id:Nat}{o:Oper}{e:Ent}{p:List Prop}{b:Nat}(h:entA C sp xb all j bx ν id o=some (e,ν',p))(hs:b∈touch id e):(b=id/\e.new≠none)\/b∈accOf (evO j) o.op:=by
 have a:∀ r,e=⟨r,none,none,none⟩->(b=id/\e.new≠none)\/b∈accOf (evO j) o.op:=by
  rintro r rfl;simp [touch] at hs
 unfold entA at h
 cases D:gd all j o<;>rw [D] at h<;>simp only at h
 ·obtain ⟨f,l,d⟩:=bnd h
  cases f with
  | val r q=>simp only [entEff,Option.some.injEq,Prod.mk.injEq] at d;exact a r d.1.symm
  | new x ty sl=>
   simp only [entEff,Option.some.injEq,Prod.mk.injEq] at d;obtain ⟨rfl,_⟩:=d;simp [touch] at hs;exact Or.inl ⟨hs,by simp⟩
  | app old x ty len size=>
   simp only [entEff] at d
   cases m:C.bt.contains ty<;>rw [m] at d
   ·cases d
   ·simp only [cond_true,Option.some.injEq,Prod.mk.injEq] at d;obtain ⟨rfl,_⟩:=d;simp only [touch,List.mem_cons] at hs
    rcases hs with hs | hs
    ·exact Or.inl ⟨hs,by simp⟩
    ·exact Or.inr (aD6 l (by simpa [Eff.old] using hs))
  | sto b' cs'=>
   simp only [entEff] at d;obtain ⟨B,z,g⟩:=bnd d
   cases m:C.bt.contains B.ty<;>rw [m] at g
   ·cases g
   ·simp only [cond_true,Option.some.injEq,Prod.mk.injEq] at g;obtain ⟨rfl,_⟩:=g;simp [touch] at hs;exact Or.inr (aD6 l (by simp [Eff.old,hs]))
  | call f u=>
   simp only [entEff] at d;obtain ⟨⟨s,r,q,i⟩,_,k⟩:=bnd d
   cases i with
   | some B=>
    simp only [Option.some.injEq,Prod.mk.injEq] at k;obtain ⟨rfl,_⟩:=k;simp [touch] at hs;exact Or.inl ⟨hs,by simp⟩
   | none=>
    simp only [Option.some.injEq,Prod.mk.injEq] at k;exact a _ k.1.symm
 ·simp only [Option.some.injEq,Prod.mk.injEq] at h;exact a _ h.1.symm
 ·cases h
 ·rename_i c
  cases n:(evalOp C.P (evO j) bx o.op).bind (entCond c sp xb ν id) with
  | none=>
   rw [n] at h;simp only [orElse] at h;obtain ⟨f,t,E,u,x,s,v,q,_,_,_,A,_,_⟩:=aEr h;exact a _ A
  | some y=>
  rw [n] at h;simp only [orElse,Option.some.injEq] at h;subst h;obtain ⟨f,l,d⟩:=bnd n
  cases f with
  | val r q=>
   cases r<;>simp only [entCond] at d<;>try cases d
   exact a _ rfl
  | call f u=>
   simp only [entCond] at d;obtain ⟨⟨s,r,q,i⟩,z,g⟩:=bnd d
   cases r<;>cases i<;>simp only at g<;>try cases g
   exact a _ rfl
  | _=>simp [entCond] at d
theorem aLG {b a:List AT}{x:Operand}(h:∀ t,x=.tmp t->b[t]?=a[t]?):evO b x=evO a x:=by
 cases x with
 | tmp t=>simp only [evO,List.getD];rw [h t rfl]
 | _=>rfl
theorem aGg {id:Nat}{c:Bool}{sp:Spec}{xb:Nat->Option Box}{ν:List (Int×Nat)}{ev ev':Operand->AT}{b:Op}(h:∀ x∈b.operands.toList,ev x=ev' x):entCall c sp xb ν id ev b=entCall c sp xb ν id ev' b:=by
 unfold entCall;split
 ·rename_i f a d
  have:a.toList.map ev=a.toList.map ev':=List.map_congr_left fun x hx=>h x (by simp [Op.operands,Call.operands];exact Or.inr (by simpa using hx))
  rw [this]
 ·rfl
theorem aKm {C:Cfg}{sp:Spec}{xb:Nat->Option Box}{all:Array Oper}{h a:List AT}{bx i:Nat->Option Box}{ν:List (Int×Nat)}{id:Nat}{o:Oper}(l:∀ t∈reads all o,h[t]?=a[t]?)(m:∀ b∈accOf (evO h) o.op,bx b=i b):entA C sp xb all h bx ν id o=entA C sp xb all a i ν id o:=by
 have n:gd all h o=gd all a o:=by
  unfold gd
  cases r:o.guard with
  | none=>rfl
  | some p=>
   obtain ⟨g,k⟩:=p;simp only
   cases s:(all[g]?).bind (·.dst) with
   | none=>rfl
   | some d=>
    simp only;rw [l d (by simp [reads,r,s])]
 have j:∀ x∈o.op.operands.toList,evO h x=evO a x:=fun x hx=>aLG fun t e=>l t (by
  subst e;simp only [reads,List.mem_append,List.mem_filterMap]
  exact Or.inl ⟨.tmp t,hx,rfl⟩)
 have q:evalOp C.P (evO h) bx o.op=evalOp C.P (evO a) i o.op:=aHj j m;unfold entA;rw [n,<-q]
 cases gd all a o with
 | yes=>
  simp only
  cases u:evalOp C.P (evO h) bx o.op with
  | none=>rfl
  | some f=>
   simp only [Option.bind_some]
   cases f with
   | sto b cs=>simp only [entEff];rw [m b (aD6 u rfl)]
   | _=>rfl
 | cond c=>
  simp only;rw [aGg j]
 | _=>rfl
end Ab
open Go.RowKit
namespace Ab
def maskOf (acc:List Nat)(o:Oper):Nat:=o.after.toList.foldl (fun m e=>bif Region.binds .any e then m ||| 2^e.on ||| acc.getD e.on 0 else m) 0
def masks:List Nat->List Oper->List Nat
 | acc,[]=>acc
 | acc,o::r=>masks (acc++[maskOf acc o]) r
theorem aHu:∀ (os:List Oper) (acc:List Nat),∃ r,masks acc os=acc++r/\r.length=os.length
 | [],acc=>⟨[],by simp [masks],rfl⟩
 | o::os,acc=>by
  obtain ⟨r,h1,h2⟩:=aHu os (acc++[maskOf acc o]);exact ⟨maskOf acc o::r,by unfold masks;rw [h1];simp,by simp [h2]⟩
theorem aJq:∀ (os:List Oper) (acc:List Nat) (j:Nat) (o:Oper),os[j]?=some o->(masks acc os)[acc.length+j]?=some (maskOf ((masks acc os).take (acc.length+j)) o)
 | o'::os,acc,0,o,h=>by
  simp at h;subst h;obtain ⟨r,h1,_⟩:=aHu os (acc++[maskOf acc o']);unfold masks;rw [h1];simp
 | o'::os,acc,j+1,o,h=>by
  have:=aJq os (acc++[maskOf acc o']) j o (by simpa using h);unfold masks;rw [show acc.length+(j+1)=(acc++[maskOf acc o']).length+j by simp;omega];exact this
 | [],acc,j,o,h=>by simp at h
theorem aKC {acc:List Nat}{o:Oper}{i:Nat}(h:(maskOf acc o).testBit i=true):∃ e∈o.after.toList,Region.binds .any e=true/\(e.on=i\/(acc.getD e.on 0).testBit i=true):=by
 unfold maskOf at h
 have b:∀ (l:List Edge) (m:Nat),(l.foldl (fun m e=>bif Region.binds .any e then m ||| 2^e.on ||| acc.getD e.on 0 else m) m).testBit i=true->m.testBit i=true\/∃ e∈l,Region.binds .any e=true/\(e.on=i\/(acc.getD e.on 0).testBit i=true):=by
  intro l
  induction l with
  | nil=>exact fun m h=>Or.inl h
  | cons e l ih=>
   intro m h;simp only [List.foldl_cons] at h
   rcases ih _ h with h | ⟨e',h1,h2⟩
   ·cases a:Region.binds .any e with
    | false=>rw [a] at h;exact Or.inl h
    | true=>
     rw [a] at h;simp only [cond_true,Nat.testBit_or,Bool.or_eq_true,Nat.testBit_two_pow,decide_eq_true_eq] at h
     rcases h with (h | h) | h
     ·exact Or.inl h
     ·exact Or.inr ⟨e,by simp,a,Or.inl h⟩
     ·exact Or.inr ⟨e,by simp,a,Or.inr h⟩
   ·exact Or.inr ⟨e',by simp [h1],h2⟩
 rcases b _ _ h with h | h
 ·simp at h
 ·exact h
def Closed (ops:Array Oper)(L:Nat->Bool):Prop:=∀ (i:Nat) (o:Oper),L i=true->ops[i]?=some o->∀ e∈o.after,Region.binds .any e=true->L e.on=true
theorem aBG {ops:Array Oper}{L:Nat->Bool}(q:Closed ops L):∀ (j:Nat) (o:Oper),ops[j]?=some o->(∀ e∈o.after,Region.binds .any e=true->L e.on=true)->∀ i,((masks [] ops.toList).getD j 0).testBit i=true->L i=true:=by
 intro j
 induction j using Nat.strongRecOn with
 | ind j ih=>
  intro o f p i g;have r:=(Array.getElem?_eq_some_iff.1 f).1;have c:=aJq ops.toList [] j o (by simpa using f);simp only [List.length_nil,Nat.zero_add] at c
  have k:(masks [] ops.toList).getD j 0=maskOf ((masks [] ops.toList).take j) o:=by simp [List.getD,c]
  rw [k] at g;obtain ⟨e,m,n,h3⟩:=aKC g;have d:=p e (by simpa using m) n
  rcases h3 with h3 | h3
  ·rw [<-h3];exact d
  ·have a:e.on<j:=by
    rcases Nat.lt_or_ge e.on j with h | h
    ·exact h
    ·have:(((masks [] ops.toList).take j).getD e.on 0)=0:=by
      simp only [List.getD];rw [List.getElem?_eq_none (by rw [List.length_take];omega)];rfl
     rw [this] at h3;simp at h3
   have l:((masks [] ops.toList).take j).getD e.on 0=(masks [] ops.toList).getD e.on 0:=by simp [List.getD,List.getElem?_take_of_lt a]
   rw [l] at h3;have b:ops[e.on]?=some ops[e.on]:=Array.getElem?_eq_getElem (by omega);exact ih e.on a _ b (fun e' he' hb'=>q e.on _ d b e' he' hb') i h3
def ordB (M:List Nat)(i j:Nat):Bool:=(decide (i<j)&&(M.getD j 0).testBit i)||(decide (j<i)&&(M.getD i 0).testBit j)
def confB (all:Array Oper)(n0 i:Nat)(x y:Oper×Ent×List Nat):Bool:=
 (match x.1.dst with | some t=>(reads all y.1).contains t | none=>false)||(touch (n0+i) x.2.1).any fun b=>y.2.2.contains b
def pairOk (all:Array Oper)(M:List Nat)(n0 i j:Nat)(x y:Oper×Ent×List Nat):Bool:=
 (x.1.dst.isNone||x.1.dst != y.1.dst)&&(!confB all n0 i x y||ordB M i j)&&(!(y.2.2.contains (n0+i))||(decide (i<j)&&(M.getD j 0).testBit i))
def chk (all:Array Oper)(n0:Nat)(T:Tb)(M:List Nat):Bool:=
 T.zipIdx.all fun (y,j)=>!(y.2.2.contains (n0+j))&&y.1.after.toList.all (fun e=>!Region.binds .any e||decide (e.on<j))&&T.zipIdx.all fun (x,i)=>i==j||pairOk all M n0 i j x y
theorem aDk {α:Type}{l:List α}{i:Nat}{x:α}(h:l[i]?=some x):(x,i)∈l.zipIdx:=by
 rw [List.mem_zipIdx_iff_getElem?];exact h
def extO (l:List (Nat×Box)):Nat->Option Box:=fun b=>(look l b).bind fun B=>bif !B.own&&B.ro then some B else none
theorem aLH {l:List (Nat×Box)}{b:Nat}{B:Box}(h:extO l b=some B):look l b=some B:=by
 unfold extO at h;obtain ⟨D,d,a⟩:=bnd h
 cases c:(!D.own&&D.ro) with
 | false=>rw [c] at a;cases a
 | true=>rw [c] at a;cases a;exact d
def chkX (xb:Nat->Option Box)(n0:Nat)(T:Tb):Bool:=T.zipIdx.all fun (y,j)=>(touch (n0+j) y.2.1).all fun b=>(xb b).isNone
theorem aQk {xb:Nat->Option Box}{n0:Nat}{T:Tb}(h:chkX xb n0 T=true){i:Nat}{x:Oper×Ent×List Nat}(a:T[i]?=some x){b:Nat}(c:b∈touch (n0+i) x.2.1):xb b=none:=by
 unfold chkX at h;rw [List.all_eq_true] at h;have:=h (x,i) (aDk a);simp only [List.all_eq_true] at this
 simpa using this b c
def drawA (C:Cfg)(sp:Spec)(ops:Array Oper)(s:AS):Option (AS×List Prop):=
 (tabA C sp (extO s.boxes) ops s.next 0 ops.toList s.tmps s.boxes s.nums).bind fun (T,νf,p)=>
  bif chk ops s.next T (masks [] ops.toList)&&chkX (extO s.boxes) s.next T then
   some (⟨tmL (fun _=>true) 0 T s.tmps,boxesL s.next 0 T s.boxes,s.next+ops.size,νf,s.dirty++T.filterMap (fun x=>x.2.1.sto.map (·.1))⟩,p)
  else none
theorem aLs {all:Array Oper}{n0:Nat}{T:Tb}{M:List Nat}(h:chk all n0 T M=true){j:Nat}{y:Oper×Ent×List Nat}(d:T[j]?=some y):
  (n0+j)∉y.2.2/\(∀ e∈y.1.after,Region.binds .any e=true->e.on<j)/\∀ (i:Nat) x,T[i]?=some x->i≠j->pairOk all M n0 i j x y=true:=by
 unfold chk at h;rw [List.all_eq_true] at h;have:=h (y,j) (aDk d);simp only [Bool.and_eq_true,List.all_eq_true] at this;obtain ⟨⟨a,b⟩,c⟩:=this;refine ⟨by simpa using a,fun e he hb=>?_,fun i x hx hne=>?_⟩
 ·have:=b e (by simpa using he)
  simpa [hb] using this
 ·have:=c (x,i) (aDk hx)
  simpa [hne] using this
theorem aD7 (L:Nat->Bool)(j:Nat)(a:L j=false):∀ (l:List Nat),l.Nodup->j∈l->(l.filter fun i=>!(L i||i==j)).length+1=(l.filter fun i=>!L i).length
 | [],_,h=>by simp at h
 | x::l,hn,h=>by
  rw [List.nodup_cons] at hn
  by_cases e:x=j
  ·subst e
   have:(l.filter fun i=>!(L i||i==x))=l.filter fun i=>!L i:=by
    apply List.filter_congr;intro i d
    have:i≠x:=fun e=>hn.1 (e ▸ d)
    simp [this]
   simp only [List.filter_cons,a,Bool.false_or,beq_self_eq_true,Bool.not_true,Bool.false_eq_true,if_false,Bool.not_false,if_true,List.length_cons,this]
  ·have b:j∈l:=by simpa [Ne.symm e] using h
   have c:=aD7 L j a l hn.2 b;simp only [List.filter_cons,beq_eq_false_iff_ne.2 e,Bool.or_false];cases L x
   ·simp only [Bool.not_false,if_true,List.length_cons];omega
   ·simpa using c
section
variable {C:Cfg} {sp:Spec}
theorem aHh {w0:World}{ψ:Nat->Option (Nat×Nat)}(bz:SpecOk C w0 ψ sp){ops:Array Oper}{s s':AS}{p:List Prop}(be:drawA C sp ops s=some (s',p))(hp:Holds p){φ0:Nat->Option (Nat×Nat)}{a0:Act}{w1:World}{Q:Exit->Act->World->Prop}(hr:Rep C w0 ψ φ0 s a0 w1)
  (hQ:∀ φ' a' w',Ext C φ0 φ' s.nums s'.nums w1 w'->Rep C w0 ψ φ' s' a' w'->Q .normal a' w'):wpAny C.P .any ops Q ops.size (Array.replicate ops.size false) a0 {w1 with drawn:=w1.drawn+1}:=by
 unfold drawA at be;obtain ⟨⟨T,νf,q⟩,ht,J⟩:=bnd be;simp only at J
 cases I:(chk ops s.next T (masks [] ops.toList)&&chkX (extO s.boxes) s.next T) with
 | false=>rw [I] at J;cases J
 | true=>
  rw [I] at J;rw [Bool.and_eq_true] at I;obtain ⟨ao,a1⟩:=I;simp only [cond_true,Option.some.injEq,Prod.mk.injEq] at J;obtain ⟨rfl,rfl⟩:=J
  have R:Over s.boxes s.next:=by
   intro b c
   cases hl:look s.boxes b with
   | none=>rfl
   | some B=>
    obtain ⟨k,o,_,_,_,hk,_⟩:=hr.wd.box _ _ hl;rw [hr.wd.fresh b c] at hk;cases hk
  obtain ⟨a2,hν,l⟩:=aPV ops.toList 0 s.tmps s.boxes s.nums T q ht R hp;simp only [Array.length_toList] at a2;simp only [Nat.zero_add] at l;generalize ai:s.dirty++T.filterMap (fun x=>x.2.1.sto.map (·.1))=dirty at*
  have bm:∀ (A:Nat) (listed:Array Bool) (φ:Nat->Option (Nat×Nat)) (a:Act) (w:World),
    listed.size=ops.size->((List.range ops.size).filter fun i=>!listed.getD i false).length=A->Closed ops (fun i=>listed.getD i false)->
    RepF C w0 ψ φ (bxL (fun i=>listed.getD i false) s.next 0 T (look s.boxes)) (fun b=>s.next<=b/\∀ j,b=s.next+j->listed.getD j false=false) νf dirty w->a.defers=[]->
    All2 (relT C φ νf w) (tmL (fun i=>listed.getD i false) 0 T s.tmps) a.tmps.toList->Ext C φ0 φ s.nums νf w1 w->wpAny C.P .any ops Q A listed a w:=by
   intro A
   induction A with
   | zero=>
    intro listed φ a w N hf aa H hd ad hx
    have S:∀ i,i<ops.size->listed.getD i false=true:=by
     intro i hi
     cases hv:listed.getD i false with
     | true=>rfl
     | false=>
      have:i∈(List.range ops.size).filter fun i=>!listed.getD i false:=by simp [hi,<-Array.getD_eq_getD_getElem?,hv]
      rw [List.length_eq_zero_iff.1 hf] at this;cases this
    refine ⟨?_,?_⟩
    ·apply List.eq_nil_iff_forall_not_mem.2;intro j hj;obtain ⟨O,o,h3,_⟩:=mem_ready.1 hj;have:=S j (Array.getElem?_eq_some_iff.1 h3).1
     have U:j<listed.size:=by rw [N];exact (Array.getElem?_eq_some_iff.1 h3).1
     simp [U] at this O;rw [this] at O;cases O
    ·have e1:=aPW (L:=fun i=>listed.getD i false) T 0 s.tmps fun i hi=>by rw [Nat.zero_add];exact S i (by omega)
     have e2:=aPm (L:=fun i=>listed.getD i false) (n0:=s.next) T 0 s.boxes R fun i hi=>by rw [Nat.zero_add];exact S i (by omega)
     rw [e1] at ad;rw [e2] at H;refine hQ φ a w hx ⟨H.fewer fun b c=>⟨by simp only at c;omega,fun j hj=>?_⟩,hd,ad⟩;rw [Array.getD_eq_getD_getElem?,Array.getElem?_eq_none (by simp only at c;omega)];rfl
   | succ A ih=>
    intro listed φ a w N hf aa H hd ad hx;refine ⟨fun hnil=>?_,fun j hj=>?_⟩
    ·-- someone can always come
     exfalso
     have aj:((List.range ops.size).filter fun i=>!listed.getD i false)≠[]:=by intro e;rw [e] at hf;simp at hf
     -- the W that is not listed
     have:∃ i,i<ops.size/\listed.getD i false=false:=by
      obtain ⟨i,r,e⟩:=List.exists_cons_of_ne_nil aj
      have hi:i∈(List.range ops.size).filter fun i=>!listed.getD i false:=by rw [e];simp
      rw [List.mem_filter,List.mem_range] at hi;exact ⟨i,hi.1,by simpa using hi.2⟩
     obtain ⟨i,bp,bq⟩:=this
     have W:∀ n,n<ops.size->listed.getD n false=false->False:=by
      intro n
      induction n using Nat.strongRecOn with
      | ind n ihn=>
       intro ba bb;have ho:ops[n]?=some ops[n]:=Array.getElem?_eq_getElem ba
       have af:n∈Region.ready .any ops listed:=by
        refine mem_ready.2 ⟨?_,ops[n],ho,fun e he c=>?_⟩
        ·have bn:n<listed.size:=by rw [N];exact ba
         simp [bn] at bb ⊢;exact bb
        ·obtain ⟨x,g⟩:∃ x,T[n]?=some x:=⟨T[n]'(by omega),List.getElem?_eq_getElem (by omega)⟩
         have X:=(l n x g).1
         have E:x.1=ops[n]:=by
          rw [Array.getElem?_toList,ho] at X;exact (Option.some.inj X).symm
         obtain ⟨_,c2,_⟩:=aLs ao g;have bo:=c2 e (by rw [E];exact he) c
         cases hv:listed.getD e.on false with
         | true=>rfl
         | false=>exact (ihn e.on bo (by omega) hv).elim
       rw [hnil] at af;cases af
     exact W i bp bq
    ·obtain ⟨a3,o,ho,F⟩:=mem_ready.1 hj;have ak:j<ops.size:=(Array.getElem?_eq_some_iff.1 ho).1
     have v:listed.getD j false=false:=by
      have U:j<listed.size:=by rw [N];exact ak
      simp [U] at a3 ⊢;exact a3
     obtain ⟨x,g⟩:∃ x,T[j]?=some x:=⟨T[j]'(by omega),List.getElem?_eq_getElem (by omega)⟩
     obtain ⟨X,ν1,ν2,q2,br,bs,Y,a4⟩:=l j x g
     have E:x.1=o:=by
      rw [Array.getElem?_toList,ho] at X;exact (Option.some.inj X).symm
     obtain ⟨c1,c2,c3⟩:=aLs ao g
     -- who is ordered against j is listed if,and only if,it comes earlier
     have ax:∀ i,((masks [] ops.toList).getD j 0).testBit i=true->listed.getD i false=true:=fun i hi=>aBG aa j o ho F i hi
     have ag:∀ i y,T[i]?=some y->((masks [] ops.toList).getD i 0).testBit j=true->listed.getD i false=false:=by
      intro i y u hi
      cases hv:listed.getD i false with
      | false=>rfl
      | true=>
       have al:=(l i y u).1;rw [Array.getElem?_toList] at al;have:=aBG aa i y.1 al (fun e he c=>aa i y.1 hv al e he c) j hi;rw [v] at this;cases this
     have ah:∀ i y,T[i]?=some y->ordB (masks [] ops.toList) i j=true->listed.getD i false=decide (i<j):=by
      intro i y u h;unfold ordB at h;simp only [Bool.or_eq_true,Bool.and_eq_true,decide_eq_true_eq] at h
      rcases h with ⟨O,J⟩ | ⟨O,J⟩
      ·rw [ax i J];simp [O]
      ·rw [ag i y u J];simp;omega
     have D:=c3
     -- what j looks at
     have am:∀ t∈reads ops x.1,(tmL (fun i=>decide (i<j)) 0 T s.tmps)[t]?=(tmL (fun i=>listed.getD i false) 0 T s.tmps)[t]?:=by
      intro t bt
      refine aEQ T 0 _ _ rfl rfl fun i y u hyd=>?_
      rw [Nat.zero_add]
      by_cases d:i=j
      ·subst d;rw [v];simp
      ·have:=D i y u d;unfold pairOk at this;simp only [Bool.and_eq_true] at this;obtain ⟨⟨_,M⟩,_⟩:=this
       have f:confB ops s.next i y x=true:=by
        unfold confB;rw [hyd];simp only [Bool.or_eq_true];exact Or.inl (by simpa using bt)
       rw [f] at M;simp only [Bool.not_true,Bool.false_or] at M;exact (ah i y u M).symm
     have ay:∀ b,b∈accOf (evO (tmL (fun i=>decide (i<j)) 0 T s.tmps)) x.1.op->bxL (fun i=>decide (i<j)) s.next 0 T (look s.boxes) b=bxL (fun i=>listed.getD i false) s.next 0 T (look s.boxes) b:=by
      intro b c;rw [<-a4] at c
      refine aDG T 0 _ _ rfl fun i y u hyt=>?_
      rw [Nat.zero_add] at hyt ⊢
      by_cases d:i=j
      ·subst d;rw [v];simp
      ·have:=D i y u d;unfold pairOk at this;simp only [Bool.and_eq_true] at this;obtain ⟨⟨_,M⟩,_⟩:=this
       have f:confB ops s.next i y x=true:=by
        unfold confB;simp only [Bool.or_eq_true,List.any_eq_true];exact Or.inr ⟨b,hyt,by simpa using c⟩
       rw [f] at M;simp only [Bool.not_true,Bool.false_or] at M;exact (ah i y u M).symm
     rw [aKm am ay] at Y;rw [E] at Y;refine aTq bz (nb:=fun b=>s.next<=b/\∀ i,b=s.next+i->listed.getD i false=false) (id:=s.next+j) ho H hd ad Y br (fun b B c=>(aLp T 0 _ fun i y u hyt=>by rw [Nat.zero_add] at hyt;rw [aQk a1 u hyt] at c;cases c).trans (aLH c)) bs ⟨by omega,fun i hi=>?_⟩ ?_ ?_
     ·have:i=j:=by omega
      subst this;exact v
     ·intro b cs hs;rw [<-ai];simp only [List.mem_append,List.mem_filterMap];exact Or.inr ⟨x,List.mem_of_getElem? g,by rw [hs];rfl⟩
     ·intro φ' a' w' ap bu bc bx
      have z:(fun i=>(listed.setIfInBounds j true).getD i false)=fun i=>listed.getD i false||i==j:=by
       funext i
       by_cases d:i=j
       ·subst d
        have U:i<listed.size:=by rw [N];exact ak
        simp [U,Array.getElem?_setIfInBounds]
       ·rw [getD_set_ne false (Ne.symm d)];simp [d]
      refine ih (listed.setIfInBounds j true) φ' a' w' (by simp [N]) ?_ ?_ ?_ bu ?_ (hx.trans bx)
      ·have:=aD7 (fun i=>listed.getD i false) j v (List.range ops.size) List.nodup_range (by simp [ak])
       have e:(fun i=>!(listed.setIfInBounds j true).getD i false)=fun i=>!(listed.getD i false||i==j):=by
        funext i;exact congrArg Bool.not (congrFun z i)
       rw [e];omega
      ·rw [z];intro i o' hi aq e he c;simp only [Bool.or_eq_true,beq_iff_eq] at hi ⊢
       rcases hi with hi | hi
       ·exact Or.inl (aa i o' hi aq e he c)
       ·subst hi;rw [ho] at aq;cases aq;exact Or.inl (F e he c)
      ·rw [z]
       have:=aPl (L:=fun i=>listed.getD i false) (n0:=s.next) (j:=j) T 0 (look s.boxes) j x g (by omega) v (by
        intro m y b hm u O J;rw [Nat.zero_add] at J ⊢
        -- both touch b: ordered
        have aj:j≠m:=by omega
        obtain ⟨_,b8,b9,ca,_,_,a5,a6⟩:=l m y u;obtain ⟨_,cb,cc,cd,_,_,a7,a8⟩:=l j x g
        rcases entTouch a5 J with ⟨hb1,hb2⟩ | hya
        ·-- y makes the box that x touches
         rcases entTouch a7 O with ⟨hb3,_⟩ | hxa
         ·omega
         ·have:=c3 m y u (by omega);unfold pairOk at this;rw [<-a8] at hxa;rw [hb1] at hxa
          have an:x.2.2.contains (s.next+m)=true:=by simpa using hxa
          simp only [Bool.and_eq_true,an,Bool.not_true,Bool.false_or,decide_eq_true_eq] at this;omega
        ·have:=(aLs ao u).2.2 j x g aj;unfold pairOk at this;simp only [Bool.and_eq_true] at this;obtain ⟨⟨_,M⟩,_⟩:=this
         have f:confB ops s.next j x y=true:=by
          unfold confB;simp only [Bool.or_eq_true,List.any_eq_true];exact Or.inr ⟨b,O,by rw [a6];simpa using hya⟩
         rw [f] at M;simp only [Bool.not_true,Bool.false_or] at M;unfold ordB at M;simp only [Bool.or_eq_true,Bool.and_eq_true,decide_eq_true_eq] at M
         rcases M with ⟨h3,h4⟩ | ⟨h3,h4⟩
         ·exact ag m y u h4
         ·omega)
       rw [this]
       refine ap.fewer fun b c=>⟨⟨c.1,fun i hi=>?_⟩,fun e=>?_⟩
       ·have:=c.2 i hi
        by_cases d:i=j
        ·rw [d];exact v
        ·rw [getD_set_ne false (Ne.symm d)] at this;exact this
       ·have:=c.2 j e;have e2:=congrFun z j;simp only [beq_self_eq_true,Bool.or_true] at e2;rw [e2] at this;cases this
      ·rw [z]
       rw [aUa g v (fun i y t hi u hd hyd=>by
        have:=D i y u hi;unfold pairOk at this;simp only [Bool.and_eq_true] at this;have O:=this.1.1;rw [hyd,hd] at O
        simp at O)]
       rw [E];exact bc
  have c:Below w1.heap.size w1 {w1 with drawn:=w1.drawn+1}:=⟨rfl,rfl,rfl,Nat.le_refl _,fun _ _=>rfl⟩
  have hx:Ext C φ0 φ0 s.nums νf w1 {w1 with drawn:=w1.drawn+1}:=⟨fun _ _ h=>h,hν,On.below c⟩
  have ab:∀ i,(Array.replicate ops.size false).getD i false=false:=by
   intro i;rw [Array.getD_eq_getD_getElem?]
   by_cases hi:i<ops.size
   ·simp [hi]
   ·rw [Array.getElem?_eq_none (by simp;omega)];rfl
  refine bm ops.size (Array.replicate ops.size false) φ0 a0 _ (by simp) ?_ ?_ ?_ hr.defers ?_ hx
  ·have:((List.range ops.size).filter fun i=>!(Array.replicate ops.size false).getD i false)=List.range ops.size:=by
    apply List.filter_eq_self.2;intro i _;rw [ab i];rfl
   rw [this];simp
  ·intro i o hi;have hi:(Array.replicate ops.size false).getD i false=true:=hi;rw [ab i] at hi;cases hi
  ·rw [aF7 T 0 (look s.boxes) fun i _=>ab i];have:=hr.wd.later c νf hν;refine ⟨this.box,this.own,this.inj,this.tip,fun b c=>this.fresh b c.1,this.lt,fun k hk hdd=>this.low k hk fun b hb'=>hdd b ?_,this.on,this.base,this.exa⟩;rw [<-ai];simp [hb']
  ·rw [aIN T 0 s.tmps fun i _=>ab i];exact hr.tmps.mono (aBm hx)
theorem aAI {w0:World}{ψ:Nat->Option (Nat×Nat)}(g:C.P.follows .mixedOrders=true)(b:SpecOk C w0 ψ sp):DrawOk C w0 ψ (drawA C sp):=by
 intro c s h p a d i j k l Q e f;exact wp_region_any g (aHh b a d e f)
end
end Ab
open Go.RowKit
namespace Ab
inductive Tok where
 | num (k:Bool) (z:Int) (n:Nat)
 | c (x:AC)
inductive VT where
 | one (c:AC)
 | agg (ts:List Tok)
inductive RV where
 | val (v:VT)
 | tup (vs:List VT)
def plainC:AC->Bool
 | .sg _=>false
 | .dg _ _=>false
 | .ptr _ _=>false
 | .slc _ _ _ _=>false
 | .dsl _ _ _ _=>false
 | _=>true
def toks (ν:List (Int×Nat)):List AC->Option (List Tok)
 | []=>some []
 | .sg i::.dg k j::r=>bif i==j then (ν[i]?).bind fun (z,n)=>(toks ν r).map (.num k z n::·) else none
 | c::r=>bif plainC c then (toks ν r).map (.c c::·) else none
def vtOf (ν:List (Int×Nat)):AV->Option VT
 | .one c=>bif plainC c then some (.one c) else none
 | .agg cs=>(toks ν cs).map .agg
section
variable (C:Cfg)
def RT (w:World):List Tok->List Value->Prop
 | [],[]=>True
 | .num k z n::ts,x::y::xs=>x=.bool (decide (z<0))/\C.dig k w z y/\C.bits n z/\RT w ts xs
 | .c c::ts,x::xs=>plainC c=true/\relC C (fun _=>none) [] w c x/\RT w ts xs
 | _,_=>False
def RVT (w:World):VT->Value->Prop
 | .one c,x=>plainC c=true/\relC C (fun _=>none) [] w c x
 | .agg ts,x=>∃ xs:List Value,x=.agg xs.toArray/\RT C w ts xs
def RRV (w:World):RV->Value->Prop
 | .val v,x=>RVT C w v x
 | .tup vs,x=>∃ xs:List Value,x=.tuple xs.toArray/\All2 (RVT C w) vs xs
end
def cellsT:Nat->List Tok->List AC×List (Int×Nat)
 | _,[]=>([],[])
 | b,.num k z n::r=>(.sg b::.dg k b::(cellsT (b+1) r).1,(z,n)::(cellsT (b+1) r).2)
 | b,.c x::r=>(x::(cellsT b r).1,(cellsT b r).2)
def avOf (b:Nat):VT->AV×List (Int×Nat)
 | .one c=>(.one c,[])
 | .agg ts=>(.agg (cellsT b ts).1,(cellsT b ts).2)
def avsOf:Nat->List VT->List AV×List (Int×Nat)
 | _,[]=>([],[])
 | b,v::r=>((avOf b v).1::(avsOf (b+(avOf b v).2.length) r).1,(avOf b v).2++(avsOf (b+(avOf b v).2.length) r).2)
def atOf (b:Nat):RV->AT×List (Int×Nat)
 | .val v=>(.val (avOf b v).1,(avOf b v).2)
 | .tup vs=>(.tup (avsOf b vs).1,(avsOf b vs).2)
section
variable {C:Cfg} {φ:Nat->Option (Nat×Nat)} {w:World}
theorem aC4 {c:AC}(h:plainC c=true){φ φ':Nat->Option (Nat×Nat)}{ν ν':List (Int×Nat)}{x:Value}(r:relC C φ ν w c x):relC C φ' ν' w c x:=by
 cases c<;>first | exact r | (simp [plainC] at h)
theorem aIO {ν μ:List (Int×Nat)}(g:∀ (i:Nat) (x:Int×Nat),ν[i]?=some x->μ[i]?=some x):∀ (cs:List AC) (ts:List Tok) (xs:List Value),toks ν cs=some ts->All2 (relC C φ μ w) cs xs->RT C w ts xs
 | [],ts,[],h,_=>by simp [toks] at h;subst h;trivial
 | [],_,_::_,_,h=>h.elim
 | _::_,_,[],_,h=>h.elim
 | [c],ts,[x],h,⟨hx,_⟩=>by
  cases c<;>simp [toks,plainC] at h<;>subst h<;>exact ⟨rfl,aC4 rfl hx,trivial⟩
 | [c],_,_::_::_,_,h=>h.2.elim
 | _::_::_,_,[_],_,h=>h.2.elim
 | c::d::r,ts,x::y::xs,h,⟨hx,hy,hr⟩=>by
  by_cases hc:plainC c=true
  ·have e:toks ν (c::d::r)=(toks ν (d::r)).map (.c c::·):=by
    cases c<;>first | (simp [plainC] at hc;done) | rfl
   rw [e] at h;obtain ⟨a,f,rfl⟩:=mpd h;exact ⟨hc,aC4 hc hx,aIO g (d::r) a (y::xs) f ⟨hy,hr⟩⟩
  ·cases c<;>simp [plainC] at hc
   case sg i=>
    cases d<;>try (simp [toks,plainC] at h;done)
    case dg k j=>
     simp only [toks] at h
     cases b:i==j with
     | false=>rw [b] at h;cases h
     | true=>
      rw [b] at h;simp only [cond_true] at h
      have:i=j:=by simpa using b
      subst this;obtain ⟨⟨z,n⟩,f,o⟩:=bnd h;obtain ⟨a,p,rfl⟩:=mpd o;obtain ⟨u,v,l,q⟩:=hx;obtain ⟨A,B,m,s,t⟩:=hy;have:=g _ _ f;rw [this] at l m;cases l;cases m;exact ⟨q,s,t,aIO g r a xs p hr⟩
   all_goals simp [toks,plainC] at h
theorem aNE {ν μ:List (Int×Nat)}(j:∀ (i:Nat) (x:Int×Nat),ν[i]?=some x->μ[i]?=some x){v:AV}{t:VT}{x:Value}(h:vtOf ν v=some t)(r:relV C φ μ w v x):RVT C w t x:=by
 cases v with
 | one c=>
  simp only [vtOf] at h
  cases a:plainC c with
  | false=>rw [a] at h;cases h
  | true=>rw [a] at h;cases h;exact ⟨a,aC4 a r⟩
 | agg cs=>
  simp only [vtOf] at h;obtain ⟨d,f,rfl⟩:=mpd h;obtain ⟨b,e,g⟩:=r;exact ⟨b,e,aIO j cs d b f g⟩
theorem aGT {ν μ:List (Int×Nat)}(hμ:∀ (i:Nat) (x:Int×Nat),ν[i]?=some x->μ[i]?=some x):∀ {vs:List AV} {ts:List VT} {xs:List Value},mapO (vtOf ν) vs=some ts->All2 (relV C φ μ w) vs xs->All2 (RVT C w) ts xs
 | [],ts,[],h,_=>by simp [mapO] at h;subst h;trivial
 | v::vs,ts,x::xs,h,⟨h1,h2⟩=>by
  unfold mapO at h;obtain ⟨t,g1,g2⟩:=bnd h;obtain ⟨ts',g3,rfl⟩:=mpd g2;exact ⟨aNE hμ g1 h1,aGT hμ g3 h2⟩
 | [],_,_::_,_,h=>h.elim
 | _::_,_,[],_,h=>h.elim
def At (μ:List (Int×Nat))(b:Nat)(ns:List (Int×Nat)):Prop:=∀ (i:Nat) (y:Int×Nat),ns[i]?=some y->μ[b+i]?=some y
theorem At.tail {μ:List (Int×Nat)}{b:Nat}{y:Int×Nat}{ns:List (Int×Nat)}(h:At μ b (y::ns)):At μ (b+1) ns:=fun i z hz=>by rw [show b+1+i=b+(i+1) by omega];exact h (i+1) z (by simpa using hz)
theorem At.left {μ:List (Int×Nat)}{b:Nat}{ms ns:List (Int×Nat)}(h:At μ b (ms++ns)):At μ b ms:=fun i z hz=>h i z (aBb _ _ i z hz)
theorem At.right {μ:List (Int×Nat)}{b:Nat}{ms ns:List (Int×Nat)}(h:At μ b (ms++ns)):At μ (b+ms.length) ns:=fun i z hz=>by
 rw [show b+ms.length+i=b+(ms.length+i) by omega];exact h (ms.length+i) z (by rw [List.getElem?_append_right (by omega)];simpa using hz)
theorem aEX {μ:List (Int×Nat)}:∀ (ts:List Tok) (b:Nat) (xs:List Value),At μ b (cellsT b ts).2->RT C w ts xs->All2 (relC C φ μ w) (cellsT b ts).1 xs
 | [],b,[],_,_=>trivial
 | .num k z n::r,b,x::y::xs,hA,⟨h1,h2,h3,h4⟩=>by
  simp only [cellsT] at hA ⊢;have h0:=hA 0 (z,n) rfl;exact ⟨⟨z,n,h0,h1⟩,⟨z,n,h0,h2,h3⟩,aEX r (b+1) xs hA.tail h4⟩
 | .c c::r,b,x::xs,hA,⟨h1,h2,h3⟩=>by
  simp only [cellsT] at hA ⊢;exact ⟨aC4 h1 h2,aEX r b xs hA h3⟩
 | [],_,_::_,_,h=>h.elim
 | .num ..::_,_,[],_,h=>h.elim
 | .num ..::_,_,[_],_,h=>h.elim
 | .c _::_,_,[],_,h=>h.elim
theorem aLh {μ:List (Int×Nat)}{v:VT}{b:Nat}{x:Value}(f:At μ b (avOf b v).2)(h:RVT C w v x):relV C φ μ w (avOf b v).1 x:=by
 cases v with
 | one c=>exact aC4 h.1 h.2
 | agg ts=>obtain ⟨a,e,d⟩:=h;exact ⟨a,e,aEX ts b a f d⟩
theorem aCH {μ:List (Int×Nat)}:∀ (vs:List VT) (b:Nat) (xs:List Value),At μ b (avsOf b vs).2->All2 (RVT C w) vs xs->All2 (relV C φ μ w) (avsOf b vs).1 xs
 | [],_,[],_,_=>trivial
 | v::vs,b,x::xs,hA,⟨h1,h2⟩=>by
  simp only [avsOf] at hA ⊢;exact ⟨aLh hA.left h1,aCH vs _ xs hA.right h2⟩
 | [],_,_::_,_,h=>h.elim
 | _::_,_,[],_,h=>h.elim
theorem aQf {μ:List (Int×Nat)}{r:RV}{b:Nat}{x:Value}(c:At μ b (atOf b r).2)(h:RRV C w r x):relT C φ μ w (atOf b r).1 x:=by
 cases r with
 | val v=>exact aLh c h
 | tup vs=>obtain ⟨a,e,d⟩:=h;exact ⟨a,e,aCH vs b a c d⟩
end
abbrev TE:=List VT->Option (RV×List Prop)
def TEok (C:Cfg)(f:FuncId)(te:TE):Prop:=Enters C.P f/\∀ ts r p,te ts=some (r,p)->Holds p->∀ w (xs:List Value),All2 (RVT C w) ts xs->Calls C.P f xs.toArray w fun e w'=>∃ v,e=.returned v/\RRV C w' r v/\Below w.heap.size w w'
def adapt (te:TE):List (Int×Nat)->List AV->Option (List (Int×Nat)×AT×List Prop×Option Box):=fun ν vs=>
 (mapO (vtOf ν) vs).bind fun ts=>(te ts).map fun (r,p)=>((atOf ν.length r).2,(atOf ν.length r).1,p,none)
def lookTE:List (FuncId×TE)->FuncId->Option TE
 | [],_=>none
 | (g,te)::l,f=>bif g==f then some te else lookTE l f
def tabSp (l:List (FuncId×TE)):Spec:=fun f _ ν _ _ vs=>(lookTE l f).bind fun te=>adapt te ν vs
def AllTE (C:Cfg):List (FuncId×TE)->Prop
 | []=>True
 | (f,te)::l=>TEok C f te/\AllTE C l
theorem aHs {C:Cfg}{f:FuncId}{te:TE}:∀ {l:List (FuncId×TE)},AllTE C l->lookTE l f=some te->TEok C f te
 | [],_,h=>by simp [lookTE] at h
 | (g,t)::l,hl,h=>by
  unfold lookTE at h
  cases e:g==f with
  | true=>
   rw [e] at h;cases h
   have:g=f:=by simpa using e
   subst this;exact hl.1
  | false=>rw [e] at h;exact aHs hl.2 h
theorem aAd {C:Cfg}{w0:World}{ψ:Nat->Option (Nat×Nat)}{l:List (FuncId×TE)}(B:AllTE C l):SpecOk C w0 ψ (tabSp l):=by
 intro f d ν F H I J r p z h;unfold tabSp at h;obtain ⟨D,j,c⟩:=bnd h;obtain ⟨a,b⟩:=aHs B j;refine ⟨a,fun hp μ hμ φ w xs _ _ _ _ hxs=>?_⟩;unfold adapt at c;obtain ⟨k,m,n⟩:=bnd c;obtain ⟨⟨o,q⟩,s,g⟩:=mpd n;simp only [Prod.mk.injEq] at g;obtain ⟨rfl,rfl,rfl,rfl⟩:=g;refine (b k o q s hp w xs (aGT (fun i x hx=>hμ i x (aBb _ _ i x hx)) m hxs)).mono ?_;rintro e E ⟨v,rfl,t,u⟩;refine ⟨v,rfl,u,aQf ?_ t⟩;intro i y A;exact hμ _ _ (by rw [List.getElem?_append_right (by omega)];simpa using A)
inductive Out where
 | ret (r:RV)
 | br (t:Bool) (a b:Out)
 | need (p:List Prop) (o:Out)
def Out.ok (G:RV->Prop):Out->Prop
 | .ret r=>G r
 | .br t a b=>(t=true->a.ok G)/\(t=false->b.ok G)
 | .need p o=>Holds p/\o.ok G
def rvOf (ν:List (Int×Nat)):AT->Option RV
 | .val v=>(vtOf ν v).map .val
 | .tup vs=>(mapO (vtOf ν) vs).map .tup
 | _=>none
def outcome:Tr->Option Out
 | .ret r s=>bif clean s then (rvOf s.nums r).map .ret else none
 | .br t a b=>(outcome a).bind fun x=>(outcome b).map fun y=>.br t x y
 | .need p t=>(outcome t).map (.need p)
 | .stop _ _=>none
def start (fn:Func)(ts:List VT):AS:=⟨(avsOf 0 ts).1.map .val++List.replicate (fn.ntmps-(avsOf 0 ts).1.length) .und,[],0,(avsOf 0 ts).2,[]⟩
theorem aAV {G:RV->Prop}:∀ {tr:Tr} {o:Out},outcome tr=some o->o.ok G->tr.ok (fun r s=>clean s=true/\∃ r',rvOf s.nums r=some r'/\G r') (fun _ _=>False)
 | .ret r s,o,h,hg=>by
  simp only [outcome] at h
  cases hc:clean s with
  | false=>rw [hc] at h;cases h
  | true=>rw [hc] at h;obtain ⟨r',h1,rfl⟩:=mpd h;exact ⟨hc,r',h1,hg⟩
 | .br t a b,o,h,hg=>by
  simp only [outcome] at h;obtain ⟨x,h1,h2⟩:=bnd h;obtain ⟨y,h3,rfl⟩:=mpd h2;exact ⟨fun e=>aAV h1 (hg.1 e),fun e=>aAV h3 (hg.2 e)⟩
 | .need p t,o,h,hg=>by
  simp only [outcome] at h;obtain ⟨x,h1,rfl⟩:=mpd h;exact ⟨hg.1,aAV h1 hg.2⟩
 | .stop _ _,o,h,_=>by cases h
theorem aCu {C:Cfg}{φ:Nat->Option (Nat×Nat)}{w:World}{ν:List (Int×Nat)}{r:AT}{b:RV}{v:Value}(h:rvOf ν r=some b)(c:relT C φ ν w r v):RRV C w b v:=by
 cases r with
 | val x=>simp only [rvOf] at h;obtain ⟨t,a,rfl⟩:=mpd h;exact aNE (fun _ _ h=>h) a c
 | tup vs=>simp only [rvOf] at h;obtain ⟨g,a,rfl⟩:=mpd h;obtain ⟨d,e,f⟩:=c;exact ⟨d,e,aGT (fun _ _ h=>h) a f⟩
 | _=>simp [rvOf] at h
theorem aC5 {C:Cfg}(fn:Func)(ts:List VT)(w:World):RepW C w (fun _=>none) (fun _=>none) (start fn ts) w:=
 ⟨fun b B hB=>(by simp [start,look] at hB),fun b B k o hB=>(by simp [start,look] at hB),fun b b' B B' k o o' hB=>(by simp [start,look] at hB),fun b B hB=>(by simp [start,look] at hB),fun b _=>rfl,fun b k o e=>(by cases e),fun k _ _=>rfl,On.refl _ _,fun b x e=>e,fun b B k o hB=>(by simp [start,look] at hB)⟩
end Ab
end Go.Proofs.YteghhlfmcjmnoaaGreatDoor
