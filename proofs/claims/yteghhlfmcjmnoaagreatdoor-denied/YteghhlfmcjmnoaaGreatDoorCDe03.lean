import Derived.Test.YteghhlfmcjmnoaaGreatDoorCDe02
set_option linter.unusedSimpArgs false
set_option linter.unusedVariables false
set_option maxRecDepth 100000
set_option maxHeartbeats 2000000
namespace Go.Proofs.YteghhlfmcjmnoaaGreatDoor
open Go.RowKit
namespace Ab
def boxesOf:AT->List Nat
 | .val (.one (.ptr b _))=>[b]
 | .val (.one (.slc b _ _ _))=>[b]
 | _=>[]
def accOf (ev:Operand->AT):Op->List Nat
 | .load _ a=>boxesOf (ev a)
 | .store _ a _=>boxesOf (ev a)
 | .call { callee:=.builtin .append,args:=args,..}=>args.toList.flatMap fun x=>boxesOf (ev x)
 | _=>[]
def reads (all:Array Oper)(o:Oper):List Tmp:=
 (o.op.operands.toList.filterMap fun | .tmp t=>some t | _=>none)++(match o.guard with | some (g,_)=>((all[g]?).bind (·.dst)).toList | none=>[])
abbrev Tb:=List (Oper×Ent×List Nat)
def tmL (L:Nat->Bool):Nat->Tb->List AT->List AT
 | _,[],tm=>tm
 | k,(o,e,_)::r,tm=>tmL L (k+1) r (bif L k then putT tm o.dst e.res else tm)
def bxL (L:Nat->Bool)(n0:Nat):Nat->Tb->(Nat->Option Box)->(Nat->Option Box)
 | _,[],bx=>bx
 | k,(_,e,_)::r,bx=>bxL L n0 (k+1) r (bif L k then effB (n0+k) e bx else bx)
def boxesL (n0:Nat):Nat->Tb->List (Nat×Box)->List (Nat×Box)
 | _,[],l=>l
 | k,(_,e,_)::r,l=>boxesL n0 (k+1) r (effL (n0+k) e l)
def tabA (C:Cfg)(sp:Spec)(xb:Nat->Option Box)(all:Array Oper)(n0:Nat):Nat->List Oper->List AT->List (Nat×Box)->List (Int×Nat)->Option (Tb×List (Int×Nat)×List Prop)
 | _,[],_,_,ν=>some ([],ν,[])
 | k,o::r,tm,l,ν=>(entA C sp xb all tm (look l) ν (n0+k) o).bind fun (e,ν',p)=>
  (tabA C sp xb all n0 (k+1) r (putT tm o.dst e.res) (effL (n0+k) e l) (ν++ν')).map fun (T,νf,q)=>((o,e,accOf (evO tm) o.op)::T,νf,p++q)
def touch (id:Nat)(e:Ent):List Nat:=
 match e.new with
 | some _=>id::e.app.toList
 | none=>(e.sto.map (·.1)).toList
theorem look_effL (id:Nat)(e:Ent)(l:List (Nat×Box))(hid:look l id=none):look (effL id e l)=effB id e (look l):=by
 unfold effL effB
 cases e.new with
 | some B=>
  simp only
  cases e.app with
  | none=>exact look_cons _ _ _
  | some b=>
   simp only [appB]
   cases hb:look l b with
   | none=>simp only;exact look_cons _ _ _
   | some O=>
    simp only
    have hne:b≠id:=by rintro rfl;rw [hid] at hb;cases hb
    rw [look_tip (B:=O) (by rw [look_cons,setB_ne hne];exact hb),look_cons]
 | none=>
  simp only
  cases e.sto with
  | none=>rfl
  | some p=>
   obtain ⟨b,cs⟩:=p
   simp only
   cases h:look l b with
   | some B=>exact look_putBox h cs
   | none=>
    funext x
    rw [look_put]
    by_cases ex:x=b
    ·subst ex;rw [if_pos rfl,h];simp only;exact h.symm
    ·rw [if_neg ex]
theorem appB_other {bx:Nat->Option Box}{n:Nat}{D:Box}{old:Option Nat}{b:Nat}(h1:b≠n)(h2:old≠some b):appB bx n D old b=bx b:=by
 unfold appB
 cases old with
 | none=>exact setB_ne h1
 | some o=>
  have ho:b≠o:=fun e=>h2 (by rw [e])
  simp only
  cases bx o with
  | none=>exact setB_ne h1
  | some O=>simp only;rw [setB_ne ho];exact setB_ne h1
theorem appB_same {bx bx':Nat->Option Box}{n:Nat}{D:Box}{old:Option Nat}{b:Nat}(h:b=n\/old=some b)(hb:bx b=bx' b):appB bx n D old b=appB bx' n D old b:=by
 unfold appB
 cases old with
 | none=>
  rcases h with rfl | h
  ·simp only [setB_same]
  ·cases h
 | some o=>
  simp only
  by_cases ho:b=o
  ·subst ho
   rw [hb]
   cases bx' b with
   | none=>simp only [setB];split;rfl;exact hb
   | some O=>simp only;rw [setB_same,setB_same]
  ·have hn:b=n:=by
    rcases h with h | h
    ·exact h
    ·exact absurd (Option.some.inj h).symm ho
   subst hn
   have e:∀ bx:Nat->Option Box,(match bx o with | some B=>setB (setB bx b D) o {B with tip:=false} | none=>setB bx b D) b=some D:=by
    intro bx
    cases bx o with
    | none=>exact setB_same _ _ _
    | some O=>simp only;rw [setB_ne ho];exact setB_same _ _ _
   exact (e bx).trans (e bx').symm
theorem effB_other {id:Nat}{e:Ent}{bx:Nat->Option Box}{b:Nat}(h:b∉touch id e):effB id e bx b=bx b:=by
 unfold touch at h
 unfold effB
 cases hn:e.new with
 | some B=>
  simp only [hn,List.mem_cons,not_or] at h ⊢
  exact appB_other h.1 (fun e2=>h.2 (by rw [e2];simp))
 | none=>
  simp only [hn] at h ⊢
  cases hs:e.sto with
  | none=>rfl
  | some p=>
   obtain ⟨c,cs⟩:=p
   simp only [hs,Option.map_some,Option.toList_some,List.mem_singleton] at h ⊢
   cases bx c with
   | none=>rfl
   | some B=>simp only;exact setB_ne h
theorem effB_same {id:Nat}{e:Ent}{bx bx':Nat->Option Box}{b:Nat}(h:b∈touch id e)(hb:bx b=bx' b):effB id e bx b=effB id e bx' b:=by
 unfold touch at h
 unfold effB
 cases hn:e.new with
 | some B=>
  simp only [hn,List.mem_cons] at h ⊢
  refine appB_same ?_ hb
  rcases h with h | h
  ·exact Or.inl h
  ·exact Or.inr (by simpa using h)
 | none=>
  simp only [hn] at h ⊢
  cases hs:e.sto with
  | none=>simp [hs] at h
  | some p=>
   obtain ⟨c,cs⟩:=p
   simp only [hs,Option.map_some,Option.toList_some,List.mem_singleton] at h ⊢
   subst h
   rw [hb]
   cases bx' b with
   | none=>simp only;exact hb
   | some B=>simp only;rw [setB_same,setB_same]
theorem putT_len (tm:List AT)(d:Option Tmp)(v:AT):(putT tm d v).length=tm.length:=by cases d<;>simp [putT]
theorem putT_other {tm:List AT}{d:Option Tmp}{v:AT}{t:Nat}(h:d≠some t):(putT tm d v)[t]?=tm[t]?:=by
 cases d with
 | none=>rfl
 | some d=>simp only [putT];rw [List.getElem?_set_ne (fun e=>h (by rw [e]))]
theorem putT_same {tm tm':List AT}{v:AT}{t:Nat}(h:tm.length=tm'.length):(putT tm (some t) v)[t]?=(putT tm' (some t) v)[t]?:=by
 simp [putT,List.getElem?_set,h]
theorem tmL_len {L:Nat->Bool}:∀ (T:Tb) (k:Nat) (tm:List AT),(tmL L k T tm).length=tm.length
 | [],_,_=>rfl
 | (o,e,_)::r,k,tm=>by
  unfold tmL
  rw [tmL_len r]
  cases L k
  ·rfl
  ·exact putT_len _ _ _
theorem tm_agree {L L':Nat->Bool}{t:Nat}:∀ (T:Tb) (k:Nat) (tm tm':List AT),tm.length=tm'.length->tm[t]?=tm'[t]?->(∀ (i:Nat) x,T[i]?=some x->x.1.dst=some t->L (k+i)=L' (k+i))->(tmL L k T tm)[t]?=(tmL L' k T tm')[t]?
 | [],_,_,_,_,h,_=>h
 | (o,e,c)::r,k,tm,tm',hl,h,hL=>by
  unfold tmL
  refine tm_agree r (k+1) _ _ ?_ ?_ (fun i x hx hd=>by have:=hL (i+1) x (by simpa using hx) hd;rw [show k+1+i=k+(i+1) by omega];exact this)
  ·cases L k<;>cases L' k<;>simp [putT_len,hl]
  ·by_cases hd:o.dst=some t
   ·have:=hL 0 (o,e,c) rfl hd
    rw [Nat.add_zero] at this
    rw [this,hd]
    cases L' k
    ·exact h
    ·exact putT_same hl
   ·have h1:(bif L k then putT tm o.dst e.res else tm)[t]?=tm[t]?:=by cases L k;rfl;exact putT_other hd
    have h2:(bif L' k then putT tm' o.dst e.res else tm')[t]?=tm'[t]?:=by cases L' k;rfl;exact putT_other hd
    rw [h1,h2,h]
theorem tm_miss {L:Nat->Bool}{t:Nat}:∀ (T:Tb) (k:Nat) (tm:List AT),(∀ (i:Nat) x,T[i]?=some x->x.1.dst=some t->L (k+i)=false)->(tmL L k T tm)[t]?=tm[t]?:=by
 intro T k tm h
 have:=tm_agree (L:=L) (L':=fun _=>false) (t:=t) T k tm tm rfl rfl h
 rw [this]
 clear this h
 induction T generalizing k with
 | nil=>rfl
 | cons x r ih=>obtain ⟨o,e,c⟩:=x;unfold tmL;exact ih (k+1)
theorem tm_none {L:Nat->Bool}:∀ (T:Tb) (k:Nat) (tm:List AT),(∀ i,k<=i->L i=false)->tmL L k T tm=tm
 | [],_,_,_=>rfl
 | (o,e,c)::r,k,tm,h=>by
  unfold tmL
  rw [h k (Nat.le_refl _)]
  exact tm_none r (k+1) tm fun i hi=>h i (by omega)
theorem tm_hit {L:Nat->Bool}{t:Nat}:∀ (T:Tb) (j k:Nat) (tm:List AT) (x:Oper×Ent×List Nat),T[j]?=some x->x.1.dst=some t->L (k+j)=true->(∀ (i:Nat) y,i≠j->T[i]?=some y->y.1.dst≠some t)->(tmL L k T tm)[t]?=(putT tm (some t) x.2.1.res)[t]?
 | (o,e,c)::r,0,k,tm,x,hx,hd,hL,hn=>by
  simp at hx
  subst hx
  unfold tmL
  rw [Nat.add_zero] at hL
  rw [hL]
  simp only [cond_true]
  rw [tm_miss r (k+1) _ (fun i y hy hyd=>absurd hyd (hn (i+1) y (by omega) (by simpa using hy)))]
  simp only at hd
  rw [hd]
 | (o,e,c)::r,j+1,k,tm,x,hx,hd,hL,hn=>by
  unfold tmL
  have h0:o.dst≠some t:=hn 0 (o,e,c) (by omega) rfl
  rw [tm_hit r j (k+1) _ x (by simpa using hx) hd (by rw [show k+1+j=k+(j+1) by omega];exact hL) (fun i y hi hy=>hn (i+1) y (by omega) (by simpa using hy))]
  refine putT_same ?_
  cases L k
  ·rfl
  ·exact putT_len _ _ _
 | [],j,k,tm,x,hx,_,_,_=>by simp at hx
theorem tm_add {L:Nat->Bool}{T:Tb}{j:Nat}{tm:List AT}{x:Oper×Ent×List Nat}(hx:T[j]?=some x)(hj:L j=false)(hn:∀ (i:Nat) y t,i≠j->T[i]?=some y->x.1.dst=some t->y.1.dst≠some t):tmL (fun i=>L i||i==j) 0 T tm=putT (tmL L 0 T tm) x.1.dst x.2.1.res:=by
 apply List.ext_getElem?
 intro t
 by_cases hd:x.1.dst=some t
 ·rw [tm_hit T j 0 tm x hx hd (by simp) (fun i y hi hy=>hn i y t hi hy hd),hd]
  exact putT_same (tmL_len _ _ _).symm
 ·rw [putT_other hd]
  refine tm_agree T 0 tm tm rfl rfl fun i y hy hyd=>?_
  have:i≠j:=by rintro rfl;rw [hx] at hy;cases hy;exact hd hyd
  simp [this]
theorem bx_agree {L L':Nat->Bool}{n0 b:Nat}:∀ (T:Tb) (k:Nat) (bx bx':Nat->Option Box),bx b=bx' b->(∀ (i:Nat) x,T[i]?=some x->b∈touch (n0+(k+i)) x.2.1->L (k+i)=L' (k+i))->bxL L n0 k T bx b=bxL L' n0 k T bx' b
 | [],_,_,_,h,_=>h
 | (o,e,c)::r,k,bx,bx',h,hL=>by
  unfold bxL
  refine bx_agree r (k+1) _ _ ?_ (fun i x hx hd=>by have:=hL (i+1) x (by simpa using hx) (by rw [show k+(i+1)=k+1+i by omega];exact hd);rw [show k+1+i=k+(i+1) by omega];exact this)
  by_cases hd:b∈touch (n0+k) e
  ·have:=hL 0 (o,e,c) rfl hd
   rw [Nat.add_zero] at this
   rw [this]
   cases L' k
   ·exact h
   ·exact effB_same hd h
  ·have h1:(bif L k then effB (n0+k) e bx else bx) b=bx b:=by cases L k;rfl;exact effB_other hd
   have h2:(bif L' k then effB (n0+k) e bx' else bx') b=bx' b:=by cases L' k;rfl;exact effB_other hd
   rw [h1,h2,h]
theorem bx_none {L:Nat->Bool}{n0:Nat}:∀ (T:Tb) (k:Nat) (bx:Nat->Option Box),(∀ i,k<=i->L i=false)->bxL L n0 k T bx=bx
 | [],_,_,_=>rfl
 | (o,e,c)::r,k,bx,h=>by
  unfold bxL
  rw [h k (Nat.le_refl _)]
  exact bx_none r (k+1) bx fun i hi=>h i (by omega)
theorem bx_miss {L:Nat->Bool}{n0 b:Nat}(T:Tb)(k:Nat)(bx:Nat->Option Box)(h:∀ (i:Nat) x,T[i]?=some x->b∈touch (n0+(k+i)) x.2.1->L (k+i)=false):bxL L n0 k T bx b=bx b:=by
 rw [bx_agree (L':=fun _=>false) T k bx bx rfl h,bx_none T k bx fun _ _=>rfl]
theorem bx_add {L:Nat->Bool}{n0 j:Nat}:∀ (T:Tb) (k:Nat) (bx:Nat->Option Box) (i:Nat) (x:Oper×Ent×List Nat),T[i]?=some x->j=k+i->L j=false->(∀ (m:Nat) y b,i<m->T[m]?=some y->b∈touch (n0+j) x.2.1->b∈touch (n0+(k+m)) y.2.1->L (k+m)=false)->bxL (fun i=>L i||i==j) n0 k T bx=effB (n0+j) x.2.1 (bxL L n0 k T bx)
 | (o,e,c)::r,k,bx,0,x,hx,hj,hL,hn=>by
  simp at hx
  subst hx
  simp only [Nat.add_zero] at hj
  subst hj
  unfold bxL
  simp only [hL,Bool.false_or,beq_self_eq_true,cond_true,cond_false]
  have hrest:bxL (fun i=>L i||i==j) n0 (j+1) r (effB (n0+j) e bx)=bxL L n0 (j+1) r (effB (n0+j) e bx):=by
   funext b
   refine bx_agree r (j+1) _ _ rfl fun m y _ _=>?_
   have:¬j+1+m=j:=by omega
   simp [this]
  rw [hrest]
  funext b
  by_cases hd:b∈touch (n0+j) e
  ·have hm:∀ bx,bxL L n0 (j+1) r bx b=bx b:=fun bx=>bx_miss r (j+1) bx fun m y hy ht=>by
    have:=hn (m+1) y b (by omega) (by simpa using hy) hd (by rw [show j+(m+1)=j+1+m by omega];exact ht)
    rw [show j+1+m=j+(m+1) by omega]
    exact this
   rw [hm]
   exact effB_same hd (hm bx).symm
  ·rw [effB_other hd]
   exact bx_agree r (j+1) _ _ (effB_other hd) fun _ _ _ _=>rfl
 | (o,e,c)::r,k,bx,i+1,x,hx,hj,hL,hn=>by
  unfold bxL
  have hk:¬k=j:=by omega
  have:(L k||k==j)=L k:=by simp [hk]
  rw [this]
  exact bx_add r (k+1) _ i x (by simpa using hx) (by omega) hL fun m y b hm hy h1 h2=>by
   have:=hn (m+1) y b (by omega) (by simpa using hy) h1 (by rw [show k+(m+1)=k+1+m by omega];exact h2)
   rw [show k+1+m=k+(m+1) by omega]
   exact this
 | [],k,bx,i,x,hx,_,_,_=>by simp at hx
theorem tm_all {L:Nat->Bool}:∀ (T:Tb) (k:Nat) (tm:List AT),(∀ i,i<T.length->L (k+i)=true)->tmL L k T tm=tmL (fun _=>true) k T tm
 | [],_,_,_=>rfl
 | (o,e,c)::r,k,tm,h=>by
  unfold tmL
  rw [show L k=true from h 0 (by simp)]
  exact tm_all r (k+1) _ fun i hi=>by have:=h (i+1) (by simpa using hi);rw [show k+1+i=k+(i+1) by omega];exact this
def Over (l:List (Nat×Box))(n:Nat):Prop:=∀ b,n<=b->look l b=none
theorem over_eff {l:List (Nat×Box)}{n0 k:Nat}{e:Ent}(h:Over l (n0+k)):Over (effL (n0+k) e l) (n0+(k+1)):=by
 intro b hb
 rw [look_effL _ _ _ (h _ (Nat.le_refl _))]
 by_cases ht:b∈touch (n0+k) e
 ·-- an old box: there is none
  unfold touch at ht
  unfold effB
  cases hn:e.new with
  | some B=>
   rw [hn] at ht
   simp only [List.mem_cons] at ht
   rcases ht with ht | ht
   ·omega
   ·have ho:e.app=some b:=by simpa using ht
    simp only [ho,appB,h b (by omega)]
    rw [setB_ne (by omega)]
    exact h b (by omega)
  | none=>
   rw [hn] at ht
   simp only at ht ⊢
   cases hs:e.sto with
   | none=>rw [hs] at ht;simp at ht
   | some p=>
    obtain ⟨c,cs⟩:=p
    rw [hs] at ht
    simp at ht
    subst ht
    simp only [h b (by omega)]
 ·rw [effB_other ht]
  exact h b (by omega)
theorem bx_all {L:Nat->Bool}{n0:Nat}:∀ (T:Tb) (k:Nat) (l:List (Nat×Box)),Over l (n0+k)->(∀ i,i<T.length->L (k+i)=true)->bxL L n0 k T (look l)=look (boxesL n0 k T l)
 | [],_,_,_,_=>rfl
 | (o,e,c)::r,k,l,ho,h=>by
  unfold bxL boxesL
  rw [show L k=true from h 0 (by simp)]
  simp only [cond_true]
  rw [<-look_effL _ _ _ (ho _ (Nat.le_refl _))]
  exact bx_all r (k+1) _ (over_eff ho) fun i hi=>by have:=h (i+1) (by simpa using hi);rw [show k+1+i=k+(i+1) by omega];exact this
theorem tab_at {C:Cfg}{sp:Spec}{xb:Nat->Option Box}{all:Array Oper}{n0:Nat}{νf:List (Int×Nat)}:∀ (os:List Oper) (k:Nat) (tm:List AT) (l:List (Nat×Box)) (ν:List (Int×Nat)) (T:Tb) (p:List Prop),tabA C sp xb all n0 k os tm l ν=some (T,νf,p)->Over l (n0+k)->Holds p->
  T.length=os.length/\(∀ (i:Nat) (x:Int×Nat),ν[i]?=some x->νf[i]?=some x)/\∀ (j:Nat) (x:Oper×Ent×List Nat),T[j]?=some x->os[j]?=some x.1/\∃ ν1 ν2 q,Holds q/\(∀ (i:Nat) (y:Int×Nat),(ν1++ν2)[i]?=some y->νf[i]?=some y)/\
   entA C sp xb all (tmL (fun i=>decide (i<k+j)) k T tm) (bxL (fun i=>decide (i<k+j)) n0 k T (look l)) ν1 (n0+(k+j)) x.1=some (x.2.1,ν2,q)/\x.2.2=accOf (evO (tmL (fun i=>decide (i<k+j)) k T tm)) x.1.op
 | [],k,tm,l,ν,T,p,h,hov,hp=>by
  simp only [tabA,Option.some.injEq,Prod.mk.injEq] at h
  obtain ⟨rfl,rfl,rfl⟩:=h
  exact ⟨rfl,fun _ _ h=>h,fun j x hx=>by simp at hx⟩
 | o::os,k,tm,l,ν,T,p,h,hov,hp=>by
  unfold tabA at h
  obtain ⟨⟨e,ν',q⟩,h1,h2⟩:=bnd h
  obtain ⟨⟨T',νf',q'⟩,h3,h4⟩:=mpd h2
  simp only [Prod.mk.injEq] at h4
  obtain ⟨rfl,rfl,rfl⟩:=h4
  obtain ⟨g1,g2,g3⟩:=tab_at os (k+1) _ _ _ T' q' h3 (over_eff hov) (fun x hx=>hp x (by simp [hx]))
  refine ⟨by simp [g1],fun i x hx=>g2 i x (app_ext _ _ i x hx),fun j x hx=>?_⟩
  cases j with
  | zero=>
   simp at hx
   subst hx
   have e1:tmL (fun i=>decide (i<k+0)) k ((o,e,accOf (evO tm) o.op)::T') tm=tm:=tm_none _ _ _ fun i hi=>by simp;omega
   have e2:bxL (fun i=>decide (i<k+0)) n0 k ((o,e,accOf (evO tm) o.op)::T') (look l)=look l:=bx_none _ _ _ fun i hi=>by simp;omega
   rw [e1,e2]
   exact ⟨rfl,ν,ν',q,(fun x hx=>hp x (by simp [hx])),g2,h1,rfl⟩
  | succ j=>
   obtain ⟨k1,ν1,ν2,q2,k2,k3,k4,k5⟩:=g3 j x (by simpa using hx)
   have e1:tmL (fun i=>decide (i<k+(j+1))) k ((o,e,accOf (evO tm) o.op)::T') tm=tmL (fun i=>decide (i<k+1+j)) (k+1) T' (putT tm o.dst e.res):=by
    conv=>lhs;unfold tmL
    rw [show decide (k<k+(j+1))=true by simp]
    rw [show k+(j+1)=k+1+j by omega]
    rfl
   have e2:bxL (fun i=>decide (i<k+(j+1))) n0 k ((o,e,accOf (evO tm) o.op)::T') (look l)=bxL (fun i=>decide (i<k+1+j)) n0 (k+1) T' (look (effL (n0+k) e l)):=by
    rw [look_effL _ _ _ (hov _ (Nat.le_refl _))]
    conv=>lhs;unfold bxL
    rw [show decide (k<k+(j+1))=true by simp]
    rw [show k+(j+1)=k+1+j by omega]
    rfl
   rw [e1,e2,show n0+(k+(j+1))=n0+(k+1+j) by omega]
   exact ⟨by simpa using k1,ν1,ν2,q2,k2,k3,k4,k5⟩
end Ab
open Go.RowKit
namespace Ab
theorem rowOf_congr {bx bx':Nat->Option Box}{e:TypeId}{size:Nat}{t:AT}(h:∀ b∈boxesOf t,bx b=bx' b):rowOf bx e size t=rowOf bx' e size t:=by
 unfold rowOf
 split
 ·rfl
 ·rename_i b off len sz
  rw [h b (by simp [boxesOf])]
 ·rfl
theorem rowOf_box {bx:Nat->Option Box}{e:TypeId}{size:Nat}{t:AT}{b:Nat}{cs:List AC}{len:Nat}(h:rowOf bx e size t=some (some b,cs,len)):b∈boxesOf t:=by
 unfold rowOf at h
 split at h
 ·cases h
 ·rename_i b' off len' sz
  obtain ⟨B,h1,h2⟩:=bnd h
  cases hb:(off==0&&sz==size&&B.ty==e&&B.cs.length==len'*size) with
  | false=>rw [hb] at h2;cases h2
  | true=>rw [hb] at h2;cases h2;simp [boxesOf]
 ·cases h
theorem evalOp_congr {P:Program}{ev ev':Operand->AT}{bx bx':Nat->Option Box}{op:Op}(h:∀ x∈op.operands.toList,ev x=ev' x)(hb:∀ b∈accOf ev op,bx b=bx' b):evalOp P ev bx op=evalOp P ev' bx' op:=by
 cases op with
 | load t a=>
  have ha:=h a (by simp [Op.operands])
  simp only [evalOp,<-ha]
  cases hc:asOne (ev a) with
  | none=>rfl
  | some c=>
   cases c<;>try rfl
   case ptr b off=>
    simp only [Option.bind_some]
    rw [hb b (by simp [accOf,one_of hc,boxesOf])]
 | store t a x=>
  have ha:=h a (by simp [Op.operands])
  have hx:=h x (by simp [Op.operands])
  simp only [evalOp,<-ha,<-hx]
  cases hc:asOne (ev a) with
  | none=>rfl
  | some c=>
   cases c<;>try rfl
   case ptr b off=>
    simp only [Option.bind_some]
    rw [hb b (by simp [accOf,one_of hc,boxesOf])]
 | build t parts=>
  have:(parts.toList.map fun (i,x)=>(i,ev x))=(parts.toList.map fun (i,x)=>(i,ev' x)):=List.map_congr_left fun p hp=>by
   obtain ⟨i,x⟩:=p
   simp only
   rw [h x (by simp only [Op.operands,List.mem_map];exact ⟨(i,x),hp,rfl⟩)]
  simp only [evalOp,this]
 | buildSlice t len parts=>
  have:(parts.toList.map fun (i,x)=>(i,ev x))=(parts.toList.map fun (i,x)=>(i,ev' x)):=List.map_congr_left fun p hp=>by
   obtain ⟨i,x⟩:=p
   simp only
   rw [h x (by simp only [Op.operands,List.mem_map];exact ⟨(i,x),hp,rfl⟩)]
  simp only [evalOp,this]
 | convert s d x=>simp only [evalOp,h x (by simp [Op.operands])]
 | call c=>
  obtain ⟨callee,args,argTypes⟩:=c
  cases callee with
  | builtin b=>
   cases b<;>try rfl
   case append=>
    simp only [evalOp]
    split
    ·rename_i t t' s x e1 e2
     have hs:ev s=ev' s:=h s (by simp [Op.operands,Call.operands,e2])
     have hx:ev x=ev' x:=h x (by simp [Op.operands,Call.operands,e2])
     have r1:∀ e size,rowOf bx e size (ev s)=rowOf bx' e size (ev s):=fun e size=>rowOf_congr fun b hb'=>hb b (by simp only [accOf,List.mem_flatMap];exact ⟨s,by simp [e2],hb'⟩)
     have r2:∀ e size,rowOf bx e size (ev x)=rowOf bx' e size (ev x):=fun e size=>rowOf_congr fun b hb'=>hb b (by simp only [accOf,List.mem_flatMap];exact ⟨x,by simp [e2],hb'⟩)
     simp only [<-hs,<-hx,<-r1,<-r2]
     congr
     funext e
     congr
     funext _
     congr
     funext size
     congr
     funext i
     congr
     funext zero
     cases hr:rowOf bx e size (ev s) with
     | none=>rfl
     | some p=>
      obtain ⟨old,cs,len⟩:=p
      simp only [Option.bind_some]
      have:okTip bx old=okTip bx' old:=by
       cases old with
       | none=>rfl
       | some b=>
        unfold okTip
        simp only
        rw [hb b (by simp only [accOf,List.mem_flatMap];exact ⟨s,by simp [e2],rowOf_box hr⟩)]
      rw [this]
    ·rfl
   case len=>
    simp only [evalOp]
    cases e1:argTypes.toList with
    | nil=>rfl
    | cons t r=>
     cases r with
     | cons _ _=>rfl
     | nil=>
      cases e2:args.toList with
      | nil=>rfl
      | cons x r=>
       cases r with
       | cons _ _=>rfl
       | nil=>
        simp only
        rw [h x (by simp [Op.operands,Call.operands,e2])]
  | value f=>
   cases f with
   | func f=>
    have:args.toList.map ev=args.toList.map ev':=List.map_congr_left fun x hx=>h x (by simp [Op.operands,Call.operands];right;simpa using hx)
    simp only [evalOp,this]
   | _=>rfl
  | _=>rfl
 | move x=>simp only [evalOp,h x (by simp [Op.operands])]
 | assign x=>simp only [evalOp,h x (by simp [Op.operands])]
 | pick c a b=>simp only [evalOp,h c (by simp [Op.operands]),h a (by simp [Op.operands]),h b (by simp [Op.operands])]
 | box t x=>simp only [evalOp,h x (by simp [Op.operands])]
 | nilCheck x=>simp only [evalOp,h x (by simp [Op.operands])]
 | binOp o t x y u=>simp only [evalOp,h x (by simp [Op.operands]),h y (by simp [Op.operands])]
 | unOp o t x=>cases o<;>simp only [evalOp,h x (by simp [Op.operands])]
 | fieldAddr t x f=>simp only [evalOp,h x (by simp [Op.operands])]
 | field t x f=>simp only [evalOp,h x (by simp [Op.operands])]
 | indexAddr t x i=>simp only [evalOp,h x (by simp [Op.operands]),h i (by simp [Op.operands])]
 | index t x i=>simp only [evalOp,h x (by simp [Op.operands]),h i (by simp [Op.operands])]
 | extract x i=>simp only [evalOp,h x (by simp [Op.operands])]
 | _=>rfl
def Eff.old:Eff->Option Nat
 | .sto b _=>some b
 | .app old _ _ _ _=>old
 | _=>none
def NoSto (e:Option Eff):Prop:=∀ f b,e=some f->f.old≠some b
theorem noSto_bind {α:Type}{x:Option α}{f:α->Option Eff}(h:∀ a,NoSto (f a)):NoSto (x.bind f):=by
 intro f' b e
 obtain ⟨a,_,h2⟩:=bnd e
 exact h a f' b h2
theorem noSto_map {α:Type}{x:Option α}{f:α->Eff}(h:∀ a,NoSto (some (f a))):NoSto (x.map f):=by
 intro f' b e
 obtain ⟨a,_,h2⟩:=mpd e
 exact h a f' b (by rw [h2])
theorem noSto_val (r:AT)(p:List Prop):NoSto (some (.val r p)):=fun _ _ e=>by cases e;intro h;cases h
theorem noSto_cond (c:Bool){x y:Option Eff}(hx:NoSto x)(hy:NoSto y):NoSto (bif c then x else y):=by cases c;exact hy;exact hx
theorem noSto_new (cs:List AC)(ty:TypeId)(sl:Option (Nat×Nat)):NoSto (some (.new cs ty sl)):=fun _ _ e=>by cases e;intro h;cases h
theorem noSto_call (f:FuncId)(vs:List AV):NoSto (some (.call f vs)):=fun _ _ e=>by cases e;intro h;cases h
theorem noSto_none:NoSto none:=fun _ _ e=>by cases e
theorem evalOp_old {P:Program}{ev:Operand->AT}{bx:Nat->Option Box}{op:Op}{f:Eff}{b:Nat}(h:evalOp P ev bx op=some f)(hf:f.old=some b):b∈accOf ev op:=by
 have no:NoSto (evalOp P ev bx op)->b∈accOf ev op:=fun hn=>absurd hf (hn f b h)
 cases op with
 | store t a x=>
  simp only [evalOp] at h
  obtain ⟨c,h1,h2⟩:=bnd h
  cases c<;>simp only at h2<;>try cases h2
  case ptr b' off=>
   obtain ⟨v,h3,h4⟩:=bnd h2
   obtain ⟨B,h5,h6⟩:=bnd h4
   cases hr:B.ro with
   | true=>rw [hr] at h6;cases h6
   | false=>
    rw [hr] at h6
    simp only [cond_false] at h6
    obtain ⟨cs',h7,h8⟩:=mpd h6
    subst h8
    cases hf
    simp [accOf,one_of h1,boxesOf]
 | call c=>
  obtain ⟨callee,args,argTypes⟩:=c
  cases callee with
  | builtin bb=>
   cases bb<;>try (cases h;done)
   case len=>
    refine no ?_
    simp only [evalOp]
    split
    ·refine noSto_bind (fun c=>?_)
     cases c<;>first | exact noSto_none | exact noSto_map fun _=>noSto_val _ _ | exact noSto_cond _ (noSto_map fun _=>noSto_val _ _) noSto_none
    ·exact noSto_none
   case append=>
    simp only [evalOp] at h
    split at h
    ·rename_i t t' s x e1 e2
     obtain ⟨el,h1,h⟩:=bnd h
     obtain ⟨el',h2,h⟩:=bnd h
     obtain ⟨size,h3,h⟩:=bnd h
     obtain ⟨i,h4,h⟩:=bnd h
     obtain ⟨zero,h5,h⟩:=bnd h
     obtain ⟨⟨old,cs,len⟩,h6,h⟩:=bnd h
     obtain ⟨⟨old2,ds,n⟩,h7,h⟩:=bnd h
     simp only at h
     generalize (Nat.ble (len+n) 100&&Nat.ble i.bytes 1000000&&!(n==0)&&!(size==0)&&zero.length==size&&okTip bx old)=q at h
     cases q with
     | false=>cases h
     | true=>
      cases h
      simp only [Eff.old] at hf
      subst hf
      simp only [accOf,List.mem_flatMap]
      exact ⟨s,by simp [e2],rowOf_box h6⟩
    ·cases h
  | value f=>
   cases f with
   | func f=>exact no (noSto_map fun _=>noSto_call _ _)
   | _=>cases h
  | _=>cases h
 | unOp o t x=>
  refine no ?_
  cases o<;>simp only [evalOp]<;>first
   | exact noSto_none
   | exact noSto_bind fun c=>noSto_map fun _=>noSto_val _ _
   | exact noSto_bind fun c=>by cases c<;>first | exact noSto_none | exact noSto_val _ _
 | move x=>exact no (noSto_val _ _)
 | assign x=>exact no (noSto_val _ _)
 | pick c x y=>
  refine no (noSto_bind fun c=>?_)
  cases c<;>(try exact noSto_none)<;>(try exact noSto_val _ _)
  simp only
  split<;>first | exact noSto_none | exact noSto_val _ _
 | alloc t=>exact no (noSto_map fun _=>noSto_new _ _ _)
 | box t x=>exact no (noSto_map fun _=>noSto_new _ _ _)
 | build t ps=>exact no (noSto_bind fun _=>noSto_bind fun _=>noSto_map fun _=>noSto_val _ _)
 | buildSlice t len ps=>exact no (noSto_bind fun _=>noSto_bind fun _=>noSto_bind fun _=>noSto_cond _ (noSto_bind fun _=>noSto_map fun _=>noSto_new _ _ _) noSto_none)
 | convert s d x=>
  refine no (noSto_bind fun _=>noSto_bind fun _=>noSto_bind fun _=>?_)
  split<;>first | exact noSto_none | exact noSto_val _ _
 | load t a=>
  refine no (noSto_bind fun c=>?_)
  cases c<;>(try exact noSto_none)
  exact noSto_bind fun _=>noSto_map fun _=>noSto_val _ _
 | nilCheck x=>
  refine no (noSto_bind fun c=>?_)
  cases c<;>first | exact noSto_none | exact noSto_val _ _
 | binOp o t x y u=>exact no (noSto_bind fun _=>noSto_bind fun _=>noSto_map fun _=>noSto_val _ _)
 | fieldAddr t x f=>
  refine no (noSto_bind fun c=>?_)
  cases c<;>(try exact noSto_none)
  exact noSto_bind fun _=>noSto_bind fun _=>noSto_bind fun n=>noSto_cond _ noSto_none (noSto_val _ _)
 | field t x f=>
  refine no (noSto_bind fun c=>?_)
  cases c<;>(try exact noSto_none)
  exact noSto_bind fun _=>noSto_bind fun _=>noSto_map fun _=>noSto_val _ _
 | indexAddr t x i=>
  refine no (noSto_bind fun c=>?_)
  cases c<;>(try exact noSto_none)
  all_goals
   refine noSto_bind fun c=>?_
   cases c<;>(try exact noSto_none)
   all_goals exact noSto_bind fun _=>noSto_bind fun _=>noSto_cond _ (noSto_val _ _) noSto_none
 | index t x i=>
  refine no (noSto_bind fun c=>?_)
  cases c<;>(try exact noSto_none)
  refine noSto_bind fun c=>?_
  cases c<;>(try exact noSto_none)
  exact noSto_bind fun _=>noSto_bind fun _=>noSto_cond _ (noSto_map fun _=>noSto_val _ _) noSto_none
 | extract x i=>
  refine no ?_
  simp only [evalOp]
  cases ev x<;>first | exact noSto_none | exact noSto_map fun _=>noSto_val _ _
 | _=>cases h
theorem entTouch {C:Cfg}{sp:Spec}{xb:Nat->Option Box}{all:Array Oper}{tm:List AT}{bx:Nat->Option Box}{ν ν':List (Int×Nat)}{id:Nat}{o:Oper}{e:Ent}{p:List Prop}{b:Nat}(h:entA C sp xb all tm bx ν id o=some (e,ν',p))(hs:b∈touch id e):(b=id/\e.new≠none)\/b∈accOf (evO tm) o.op:=by
 have plain:∀ r,e=⟨r,none,none,none⟩->(b=id/\e.new≠none)\/b∈accOf (evO tm) o.op:=by
  rintro r rfl
  simp [touch] at hs
 unfold entA at h
 cases hg:gd all tm o<;>rw [hg] at h<;>simp only at h
 ·obtain ⟨f,h1,h2⟩:=bnd h
  cases f with
  | val r q=>simp only [entEff,Option.some.injEq,Prod.mk.injEq] at h2;exact plain r h2.1.symm
  | new cs ty sl=>
   simp only [entEff,Option.some.injEq,Prod.mk.injEq] at h2
   obtain ⟨rfl,_⟩:=h2
   simp [touch] at hs
   exact Or.inl ⟨hs,by simp⟩
  | app old cs ty len size=>
   simp only [entEff] at h2
   cases hb:C.bt.contains ty<;>rw [hb] at h2
   ·cases h2
   ·simp only [cond_true,Option.some.injEq,Prod.mk.injEq] at h2
    obtain ⟨rfl,_⟩:=h2
    simp only [touch,List.mem_cons] at hs
    rcases hs with hs | hs
    ·exact Or.inl ⟨hs,by simp⟩
    ·exact Or.inr (evalOp_old h1 (by simpa [Eff.old] using hs))
  | sto b' cs'=>
   simp only [entEff] at h2
   obtain ⟨B,g1,g2⟩:=bnd h2
   cases hb:C.bt.contains B.ty<;>rw [hb] at g2
   ·cases g2
   ·simp only [cond_true,Option.some.injEq,Prod.mk.injEq] at g2
    obtain ⟨rfl,_⟩:=g2
    simp [touch] at hs
    exact Or.inr (evalOp_old h1 (by simp [Eff.old,hs]))
  | call f vs=>
   simp only [entEff] at h2
   obtain ⟨⟨ν1,r,q,nbx⟩,_,h4⟩:=bnd h2
   cases nbx with
   | some B=>
    simp only [Option.some.injEq,Prod.mk.injEq] at h4
    obtain ⟨rfl,_⟩:=h4
    simp [touch] at hs
    exact Or.inl ⟨hs,by simp⟩
   | none=>
    simp only [Option.some.injEq,Prod.mk.injEq] at h4
    exact plain _ h4.1.symm
 ·simp only [Option.some.injEq,Prod.mk.injEq] at h;exact plain _ h.1.symm
 ·cases h
 ·rename_i c
  cases hx:(evalOp C.P (evO tm) bx o.op).bind (entCond c sp xb ν id) with
  | none=>
   rw [hx] at h
   simp only [orElse] at h
   obtain ⟨f,args,ts,vs,cs,ν1,v,q,_,_,_,e1,_,_⟩:=entCall_open h
   exact plain _ e1
  | some y=>
  rw [hx] at h
  simp only [orElse,Option.some.injEq] at h
  subst h
  obtain ⟨f,h1,h2⟩:=bnd hx
  cases f with
  | val r q=>
   cases r<;>simp only [entCond] at h2<;>try cases h2
   exact plain _ rfl
  | call f vs=>
   simp only [entCond] at h2
   obtain ⟨⟨ν1,r,q,nbx⟩,g1,g2⟩:=bnd h2
   cases r<;>cases nbx<;>simp only at g2<;>try cases g2
   exact plain _ rfl
  | _=>simp [entCond] at h2
theorem evO_congr {tm tm':List AT}{x:Operand}(h:∀ t,x=.tmp t->tm[t]?=tm'[t]?):evO tm x=evO tm' x:=by
 cases x with
 | tmp t=>simp only [evO,List.getD];rw [h t rfl]
 | _=>rfl
theorem entCall_congr {id:Nat}{c:Bool}{sp:Spec}{xb:Nat->Option Box}{ν:List (Int×Nat)}{ev ev':Operand->AT}{op:Op}(h:∀ x∈op.operands.toList,ev x=ev' x):entCall c sp xb ν id ev op=entCall c sp xb ν id ev' op:=by
 unfold entCall
 split
 ·rename_i f args ts
  have:args.toList.map ev=args.toList.map ev':=List.map_congr_left fun x hx=>h x (by simp [Op.operands,Call.operands];exact Or.inr (by simpa using hx))
  rw [this]
 ·rfl
theorem entA_congr {C:Cfg}{sp:Spec}{xb:Nat->Option Box}{all:Array Oper}{tm tm':List AT}{bx bx':Nat->Option Box}{ν:List (Int×Nat)}{id:Nat}{o:Oper}(ht:∀ t∈reads all o,tm[t]?=tm'[t]?)(hb:∀ b∈accOf (evO tm) o.op,bx b=bx' b):entA C sp xb all tm bx ν id o=entA C sp xb all tm' bx' ν id o:=by
 have h1:gd all tm o=gd all tm' o:=by
  unfold gd
  cases hg:o.guard with
  | none=>rfl
  | some p=>
   obtain ⟨g,want⟩:=p
   simp only
   cases hd:(all[g]?).bind (·.dst) with
   | none=>rfl
   | some d=>
    simp only
    rw [ht d (by simp [reads,hg,hd])]
 have hop:∀ x∈o.op.operands.toList,evO tm x=evO tm' x:=fun x hx=>evO_congr fun t e=>ht t (by
  subst e
  simp only [reads,List.mem_append,List.mem_filterMap]
  exact Or.inl ⟨.tmp t,hx,rfl⟩)
 have h2:evalOp C.P (evO tm) bx o.op=evalOp C.P (evO tm') bx' o.op:=evalOp_congr hop hb
 unfold entA
 rw [h1,<-h2]
 cases gd all tm' o with
 | yes=>
  simp only
  cases he:evalOp C.P (evO tm) bx o.op with
  | none=>rfl
  | some f=>
   simp only [Option.bind_some]
   cases f with
   | sto b cs=>simp only [entEff];rw [hb b (evalOp_old he rfl)]
   | _=>rfl
 | cond c=>
  simp only
  rw [entCall_congr hop]
 | _=>rfl
end Ab
open Go.RowKit
namespace Ab
def maskOf (acc:List Nat)(o:Oper):Nat:=o.after.toList.foldl (fun m e=>bif Region.binds .any e then m ||| 2^e.on ||| acc.getD e.on 0 else m) 0
def masks:List Nat->List Oper->List Nat
 | acc,[]=>acc
 | acc,o::r=>masks (acc++[maskOf acc o]) r
theorem masks_pre:∀ (os:List Oper) (acc:List Nat),∃ r,masks acc os=acc++r/\r.length=os.length
 | [],acc=>⟨[],by simp [masks],rfl⟩
 | o::os,acc=>by
  obtain ⟨r,h1,h2⟩:=masks_pre os (acc++[maskOf acc o])
  exact ⟨maskOf acc o::r,by unfold masks;rw [h1];simp,by simp [h2]⟩
theorem masks_at:∀ (os:List Oper) (acc:List Nat) (j:Nat) (o:Oper),os[j]?=some o->(masks acc os)[acc.length+j]?=some (maskOf ((masks acc os).take (acc.length+j)) o)
 | o'::os,acc,0,o,h=>by
  simp at h
  subst h
  obtain ⟨r,h1,_⟩:=masks_pre os (acc++[maskOf acc o'])
  unfold masks
  rw [h1]
  simp
 | o'::os,acc,j+1,o,h=>by
  have:=masks_at os (acc++[maskOf acc o']) j o (by simpa using h)
  unfold masks
  rw [show acc.length+(j+1)=(acc++[maskOf acc o']).length+j by simp;omega]
  exact this
 | [],acc,j,o,h=>by simp at h
theorem maskOf_bit {acc:List Nat}{o:Oper}{i:Nat}(h:(maskOf acc o).testBit i=true):∃ e∈o.after.toList,Region.binds .any e=true/\(e.on=i\/(acc.getD e.on 0).testBit i=true):=by
 unfold maskOf at h
 have key:∀ (l:List Edge) (m:Nat),(l.foldl (fun m e=>bif Region.binds .any e then m ||| 2^e.on ||| acc.getD e.on 0 else m) m).testBit i=true->m.testBit i=true\/∃ e∈l,Region.binds .any e=true/\(e.on=i\/(acc.getD e.on 0).testBit i=true):=by
  intro l
  induction l with
  | nil=>exact fun m h=>Or.inl h
  | cons e l ih=>
   intro m h
   simp only [List.foldl_cons] at h
   rcases ih _ h with h | ⟨e',h1,h2⟩
   ·cases hb:Region.binds .any e with
    | false=>rw [hb] at h;exact Or.inl h
    | true=>
     rw [hb] at h
     simp only [cond_true,Nat.testBit_or,Bool.or_eq_true,Nat.testBit_two_pow,decide_eq_true_eq] at h
     rcases h with (h | h) | h
     ·exact Or.inl h
     ·exact Or.inr ⟨e,by simp,hb,Or.inl h⟩
     ·exact Or.inr ⟨e,by simp,hb,Or.inr h⟩
   ·exact Or.inr ⟨e',by simp [h1],h2⟩
 rcases key _ _ h with h | h
 ·simp at h
 ·exact h
def Closed (ops:Array Oper)(L:Nat->Bool):Prop:=∀ (i:Nat) (o:Oper),L i=true->ops[i]?=some o->∀ e∈o.after,Region.binds .any e=true->L e.on=true
theorem before_listed {ops:Array Oper}{L:Nat->Bool}(hc:Closed ops L):∀ (j:Nat) (o:Oper),ops[j]?=some o->(∀ e∈o.after,Region.binds .any e=true->L e.on=true)->∀ i,((masks [] ops.toList).getD j 0).testBit i=true->L i=true:=by
 intro j
 induction j using Nat.strongRecOn with
 | ind j ih=>
  intro o ho hd i hi
  have hj:=(Array.getElem?_eq_some_iff.1 ho).1
  have hm:=masks_at ops.toList [] j o (by simpa using ho)
  simp only [List.length_nil,Nat.zero_add] at hm
  have e1:(masks [] ops.toList).getD j 0=maskOf ((masks [] ops.toList).take j) o:=by simp [List.getD,hm]
  rw [e1] at hi
  obtain ⟨e,h1,h2,h3⟩:=maskOf_bit hi
  have hL:=hd e (by simpa using h1) h2
  rcases h3 with h3 | h3
  ·rw [<-h3];exact hL
  ·have hlt:e.on<j:=by
    rcases Nat.lt_or_ge e.on j with h | h
    ·exact h
    ·have:(((masks [] ops.toList).take j).getD e.on 0)=0:=by
      simp only [List.getD]
      rw [List.getElem?_eq_none (by rw [List.length_take];omega)]
      rfl
     rw [this] at h3
     simp at h3
   have e2:((masks [] ops.toList).take j).getD e.on 0=(masks [] ops.toList).getD e.on 0:=by simp [List.getD,List.getElem?_take_of_lt hlt]
   rw [e2] at h3
   have ho':ops[e.on]?=some ops[e.on]:=Array.getElem?_eq_getElem (by omega)
   exact ih e.on hlt _ ho' (fun e' he' hb'=>hc e.on _ hL ho' e' he' hb') i h3
def ordB (M:List Nat)(i j:Nat):Bool:=(decide (i<j)&&(M.getD j 0).testBit i)||(decide (j<i)&&(M.getD i 0).testBit j)
def confB (all:Array Oper)(n0 i:Nat)(x y:Oper×Ent×List Nat):Bool:=
 (match x.1.dst with | some t=>(reads all y.1).contains t | none=>false)||(touch (n0+i) x.2.1).any fun b=>y.2.2.contains b
def pairOk (all:Array Oper)(M:List Nat)(n0 i j:Nat)(x y:Oper×Ent×List Nat):Bool:=
 (x.1.dst.isNone||x.1.dst != y.1.dst)&&(!confB all n0 i x y||ordB M i j)&&(!(y.2.2.contains (n0+i))||(decide (i<j)&&(M.getD j 0).testBit i))
def chk (all:Array Oper)(n0:Nat)(T:Tb)(M:List Nat):Bool:=
 T.zipIdx.all fun (y,j)=>!(y.2.2.contains (n0+j))&&y.1.after.toList.all (fun e=>!Region.binds .any e||decide (e.on<j))&&T.zipIdx.all fun (x,i)=>i==j||pairOk all M n0 i j x y
theorem mem_zipIdx {α:Type}{l:List α}{i:Nat}{x:α}(h:l[i]?=some x):(x,i)∈l.zipIdx:=by
 rw [List.mem_zipIdx_iff_getElem?]
 exact h
def extO (l:List (Nat×Box)):Nat->Option Box:=fun b=>(look l b).bind fun B=>bif !B.own&&B.ro then some B else none
theorem extO_look {l:List (Nat×Box)}{b:Nat}{B:Box}(h:extO l b=some B):look l b=some B:=by
 unfold extO at h
 obtain ⟨D,h1,h2⟩:=bnd h
 cases hc:(!D.own&&D.ro) with
 | false=>rw [hc] at h2;cases h2
 | true=>rw [hc] at h2;cases h2;exact h1
def chkX (xb:Nat->Option Box)(n0:Nat)(T:Tb):Bool:=T.zipIdx.all fun (y,j)=>(touch (n0+j) y.2.1).all fun b=>(xb b).isNone
theorem chkX_ok {xb:Nat->Option Box}{n0:Nat}{T:Tb}(h:chkX xb n0 T=true){i:Nat}{x:Oper×Ent×List Nat}(hx:T[i]?=some x){b:Nat}(hb:b∈touch (n0+i) x.2.1):xb b=none:=by
 unfold chkX at h
 rw [List.all_eq_true] at h
 have:=h (x,i) (mem_zipIdx hx)
 simp only [List.all_eq_true] at this
 simpa using this b hb
def drawA (C:Cfg)(sp:Spec)(ops:Array Oper)(s:AS):Option (AS×List Prop):=
 (tabA C sp (extO s.boxes) ops s.next 0 ops.toList s.tmps s.boxes s.nums).bind fun (T,νf,p)=>
  bif chk ops s.next T (masks [] ops.toList)&&chkX (extO s.boxes) s.next T then
   some (⟨tmL (fun _=>true) 0 T s.tmps,boxesL s.next 0 T s.boxes,s.next+ops.size,νf,s.dirty++T.filterMap (fun x=>x.2.1.sto.map (·.1))⟩,p)
  else none
theorem chk_ok {all:Array Oper}{n0:Nat}{T:Tb}{M:List Nat}(h:chk all n0 T M=true){j:Nat}{y:Oper×Ent×List Nat}(hy:T[j]?=some y):
  (n0+j)∉y.2.2/\(∀ e∈y.1.after,Region.binds .any e=true->e.on<j)/\∀ (i:Nat) x,T[i]?=some x->i≠j->pairOk all M n0 i j x y=true:=by
 unfold chk at h
 rw [List.all_eq_true] at h
 have:=h (y,j) (mem_zipIdx hy)
 simp only [Bool.and_eq_true,List.all_eq_true] at this
 obtain ⟨⟨h1,h2⟩,h3⟩:=this
 refine ⟨by simpa using h1,fun e he hb=>?_,fun i x hx hne=>?_⟩
 ·have:=h2 e (by simpa using he)
  simpa [hb] using this
 ·have:=h3 (x,i) (mem_zipIdx hx)
  simpa [hne] using this
theorem filter_one (L:Nat->Bool)(j:Nat)(hj:L j=false):∀ (l:List Nat),l.Nodup->j∈l->(l.filter fun i=>!(L i||i==j)).length+1=(l.filter fun i=>!L i).length
 | [],_,h=>by simp at h
 | x::l,hn,h=>by
  rw [List.nodup_cons] at hn
  by_cases e:x=j
  ·subst e
   have:(l.filter fun i=>!(L i||i==x))=l.filter fun i=>!L i:=by
    apply List.filter_congr
    intro i hi
    have:i≠x:=fun e=>hn.1 (e ▸ hi)
    simp [this]
   simp only [List.filter_cons,hj,Bool.false_or,beq_self_eq_true,Bool.not_true,Bool.false_eq_true,if_false,Bool.not_false,if_true,List.length_cons,this]
  ·have hm:j∈l:=by simpa [Ne.symm e] using h
   have ih:=filter_one L j hj l hn.2 hm
   simp only [List.filter_cons,beq_eq_false_iff_ne.2 e,Bool.or_false]
   cases L x
   ·simp only [Bool.not_false,if_true,List.length_cons];omega
   ·simpa using ih
section
variable {C:Cfg} {sp:Spec}
theorem drawA_any {w0:World}{ψ:Nat->Option (Nat×Nat)}(hsp:SpecOk C w0 ψ sp){ops:Array Oper}{s s':AS}{p:List Prop}(hdr:drawA C sp ops s=some (s',p))(hp:Holds p){φ0:Nat->Option (Nat×Nat)}{a0:Act}{w1:World}{Q:Exit->Act->World->Prop}(hr:Rep C w0 ψ φ0 s a0 w1)
  (hQ:∀ φ' a' w',Ext C φ0 φ' s.nums s'.nums w1 w'->Rep C w0 ψ φ' s' a' w'->Q .normal a' w'):wpAny C.P .any ops Q ops.size (Array.replicate ops.size false) a0 {w1 with drawn:=w1.drawn+1}:=by
 unfold drawA at hdr
 obtain ⟨⟨T,νf,q⟩,ht,h2⟩:=bnd hdr
 simp only at h2
 cases hch2:(chk ops s.next T (masks [] ops.toList)&&chkX (extO s.boxes) s.next T) with
 | false=>rw [hch2] at h2;cases h2
 | true=>
  rw [hch2] at h2
  rw [Bool.and_eq_true] at hch2
  obtain ⟨hch,hchX⟩:=hch2
  simp only [cond_true,Option.some.injEq,Prod.mk.injEq] at h2
  obtain ⟨rfl,rfl⟩:=h2
  have hover:Over s.boxes s.next:=by
   intro b hb
   cases hl:look s.boxes b with
   | none=>rfl
   | some B=>
    obtain ⟨k,o,_,_,_,hk,_⟩:=hr.wd.box _ _ hl
    rw [hr.wd.fresh b hb] at hk
    cases hk
  obtain ⟨hlen,hν,htab⟩:=tab_at ops.toList 0 s.tmps s.boxes s.nums T q ht hover hp
  simp only [Array.length_toList] at hlen
  simp only [Nat.zero_add] at htab
  generalize hdir:s.dirty++T.filterMap (fun x=>x.2.1.sto.map (·.1))=dirty at*
  have key:∀ (fuel:Nat) (listed:Array Bool) (φ:Nat->Option (Nat×Nat)) (a:Act) (w:World),
    listed.size=ops.size->((List.range ops.size).filter fun i=>!listed.getD i false).length=fuel->Closed ops (fun i=>listed.getD i false)->
    RepF C w0 ψ φ (bxL (fun i=>listed.getD i false) s.next 0 T (look s.boxes)) (fun b=>s.next<=b/\∀ j,b=s.next+j->listed.getD j false=false) νf dirty w->a.defers=[]->
    All2 (relT C φ νf w) (tmL (fun i=>listed.getD i false) 0 T s.tmps) a.tmps.toList->Ext C φ0 φ s.nums νf w1 w->wpAny C.P .any ops Q fuel listed a w:=by
   intro fuel
   induction fuel with
   | zero=>
    intro listed φ a w hsz hf hcl hrep hd htm hx
    have hall:∀ i,i<ops.size->listed.getD i false=true:=by
     intro i hi
     cases hv:listed.getD i false with
     | true=>rfl
     | false=>
      have:i∈(List.range ops.size).filter fun i=>!listed.getD i false:=by simp [hi,<-Array.getD_eq_getD_getElem?,hv]
      rw [List.length_eq_zero_iff.1 hf] at this
      cases this
    refine ⟨?_,?_⟩
    ·apply List.eq_nil_iff_forall_not_mem.2
     intro j hj
     obtain ⟨h1,o,h3,_⟩:=mem_ready.1 hj
     have:=hall j (Array.getElem?_eq_some_iff.1 h3).1
     have hj':j<listed.size:=by rw [hsz];exact (Array.getElem?_eq_some_iff.1 h3).1
     simp [hj'] at this h1
     rw [this] at h1
     cases h1
    ·have e1:=tm_all (L:=fun i=>listed.getD i false) T 0 s.tmps fun i hi=>by rw [Nat.zero_add];exact hall i (by omega)
     have e2:=bx_all (L:=fun i=>listed.getD i false) (n0:=s.next) T 0 s.boxes hover fun i hi=>by rw [Nat.zero_add];exact hall i (by omega)
     rw [e1] at htm
     rw [e2] at hrep
     refine hQ φ a w hx ⟨hrep.fewer fun b hb=>⟨by simp only at hb;omega,fun j hj=>?_⟩,hd,htm⟩
     rw [Array.getD_eq_getD_getElem?,Array.getElem?_eq_none (by simp only at hb;omega)]
     rfl
   | succ fuel ih=>
    intro listed φ a w hsz hf hcl hrep hd htm hx
    refine ⟨fun hnil=>?_,fun j hj=>?_⟩
    ·-- someone can always come
     exfalso
     have hne:((List.range ops.size).filter fun i=>!listed.getD i false)≠[]:=by intro e;rw [e] at hf;simp at hf
     -- the least that is not listed
     have:∃ i,i<ops.size/\listed.getD i false=false:=by
      obtain ⟨i,r,e⟩:=List.exists_cons_of_ne_nil hne
      have hi:i∈(List.range ops.size).filter fun i=>!listed.getD i false:=by rw [e];simp
      rw [List.mem_filter,List.mem_range] at hi
      exact ⟨i,hi.1,by simpa using hi.2⟩
     obtain ⟨i,hi1,hi2⟩:=this
     have least:∀ n,n<ops.size->listed.getD n false=false->False:=by
      intro n
      induction n using Nat.strongRecOn with
      | ind n ihn=>
       intro hn1 hn2
       have ho:ops[n]?=some ops[n]:=Array.getElem?_eq_getElem hn1
       have hmem:n∈Region.ready .any ops listed:=by
        refine mem_ready.2 ⟨?_,ops[n],ho,fun e he hb=>?_⟩
        ·have hn':n<listed.size:=by rw [hsz];exact hn1
         simp [hn'] at hn2 ⊢
         exact hn2
        ·obtain ⟨x,hx1⟩:∃ x,T[n]?=some x:=⟨T[n]'(by omega),List.getElem?_eq_getElem (by omega)⟩
         have hxo:=(htab n x hx1).1
         have hxo':x.1=ops[n]:=by
          rw [Array.getElem?_toList,ho] at hxo
          exact (Option.some.inj hxo).symm
         obtain ⟨_,c2,_⟩:=chk_ok hch hx1
         have hlt:=c2 e (by rw [hxo'];exact he) hb
         cases hv:listed.getD e.on false with
         | true=>rfl
         | false=>exact (ihn e.on hlt (by omega) hv).elim
       rw [hnil] at hmem
       cases hmem
     exact least i hi1 hi2
    ·obtain ⟨hj0,o,ho,hafter⟩:=mem_ready.1 hj
     have hjs:j<ops.size:=(Array.getElem?_eq_some_iff.1 ho).1
     have hLj:listed.getD j false=false:=by
      have hj':j<listed.size:=by rw [hsz];exact hjs
      simp [hj'] at hj0 ⊢
      exact hj0
     obtain ⟨x,hx1⟩:∃ x,T[j]?=some x:=⟨T[j]'(by omega),List.getElem?_eq_getElem (by omega)⟩
     obtain ⟨hxo,ν1,ν2,q2,hq2,hνf,hent,hacc⟩:=htab j x hx1
     have hxo':x.1=o:=by
      rw [Array.getElem?_toList,ho] at hxo
      exact (Option.some.inj hxo).symm
     obtain ⟨c1,c2,c3⟩:=chk_ok hch hx1
     -- who is ordered against j is listed if,and only if,it comes earlier
     have hbef:∀ i,((masks [] ops.toList).getD j 0).testBit i=true->listed.getD i false=true:=fun i hi=>before_listed hcl j o ho hafter i hi
     have haft:∀ i y,T[i]?=some y->((masks [] ops.toList).getD i 0).testBit j=true->listed.getD i false=false:=by
      intro i y hy hi
      cases hv:listed.getD i false with
      | false=>rfl
      | true=>
       have hyo:=(htab i y hy).1
       rw [Array.getElem?_toList] at hyo
       have:=before_listed hcl i y.1 hyo (fun e he hb=>hcl i y.1 hv hyo e he hb) j hi
       rw [hLj] at this
       cases this
     have hord:∀ i y,T[i]?=some y->ordB (masks [] ops.toList) i j=true->listed.getD i false=decide (i<j):=by
      intro i y hy h
      unfold ordB at h
      simp only [Bool.or_eq_true,Bool.and_eq_true,decide_eq_true_eq] at h
      rcases h with ⟨h1,h2⟩ | ⟨h1,h2⟩
      ·rw [hbef i h2];simp [h1]
      ·rw [haft i y hy h2];simp;omega
     have hpair:=c3
     -- what j looks at
     have hread:∀ t∈reads ops x.1,(tmL (fun i=>decide (i<j)) 0 T s.tmps)[t]?=(tmL (fun i=>listed.getD i false) 0 T s.tmps)[t]?:=by
      intro t htr
      refine tm_agree T 0 _ _ rfl rfl fun i y hy hyd=>?_
      rw [Nat.zero_add]
      by_cases hij:i=j
      ·subst hij;rw [hLj];simp
      ·have:=hpair i y hy hij
       unfold pairOk at this
       simp only [Bool.and_eq_true] at this
       obtain ⟨⟨_,hc⟩,_⟩:=this
       have hconf:confB ops s.next i y x=true:=by
        unfold confB
        rw [hyd]
        simp only [Bool.or_eq_true]
        exact Or.inl (by simpa using htr)
       rw [hconf] at hc
       simp only [Bool.not_true,Bool.false_or] at hc
       exact (hord i y hy hc).symm
     have hbox:∀ b,b∈accOf (evO (tmL (fun i=>decide (i<j)) 0 T s.tmps)) x.1.op->bxL (fun i=>decide (i<j)) s.next 0 T (look s.boxes) b=bxL (fun i=>listed.getD i false) s.next 0 T (look s.boxes) b:=by
      intro b hb
      rw [<-hacc] at hb
      refine bx_agree T 0 _ _ rfl fun i y hy hyt=>?_
      rw [Nat.zero_add] at hyt ⊢
      by_cases hij:i=j
      ·subst hij;rw [hLj];simp
      ·have:=hpair i y hy hij
       unfold pairOk at this
       simp only [Bool.and_eq_true] at this
       obtain ⟨⟨_,hc⟩,_⟩:=this
       have hconf:confB ops s.next i y x=true:=by
        unfold confB
        simp only [Bool.or_eq_true,List.any_eq_true]
        exact Or.inr ⟨b,hyt,by simpa using hb⟩
       rw [hconf] at hc
       simp only [Bool.not_true,Bool.false_or] at hc
       exact (hord i y hy hc).symm
     rw [entA_congr hread hbox] at hent
     rw [hxo'] at hent
     refine ent_ok hsp (nb:=fun b=>s.next<=b/\∀ i,b=s.next+i->listed.getD i false=false) (id:=s.next+j) ho hrep hd htm hent hq2 (fun b B hb=>(bx_miss T 0 _ fun i y hy hyt=>by rw [Nat.zero_add] at hyt;rw [chkX_ok hchX hy hyt] at hb;cases hb).trans (extO_look hb)) hνf ⟨by omega,fun i hi=>?_⟩ ?_ ?_
     ·have:i=j:=by omega
      subst this
      exact hLj
     ·intro b cs hs
      rw [<-hdir]
      simp only [List.mem_append,List.mem_filterMap]
      exact Or.inr ⟨x,List.mem_of_getElem? hx1,by rw [hs];rfl⟩
     ·intro φ' a' w' hrep' hd' htm' hx'
      have hset:(fun i=>(listed.setIfInBounds j true).getD i false)=fun i=>listed.getD i false||i==j:=by
       funext i
       by_cases hij:i=j
       ·subst hij
        have hj':i<listed.size:=by rw [hsz];exact hjs
        simp [hj',Array.getElem?_setIfInBounds]
       ·rw [getD_set_ne false (Ne.symm hij)]
        simp [hij]
      refine ih (listed.setIfInBounds j true) φ' a' w' (by simp [hsz]) ?_ ?_ ?_ hd' ?_ (hx.trans hx')
      ·have:=filter_one (fun i=>listed.getD i false) j hLj (List.range ops.size) List.nodup_range (by simp [hjs])
       have e:(fun i=>!(listed.setIfInBounds j true).getD i false)=fun i=>!(listed.getD i false||i==j):=by
        funext i
        exact congrArg Bool.not (congrFun hset i)
       rw [e]
       omega
      ·rw [hset]
       intro i o' hi ho' e he hb
       simp only [Bool.or_eq_true,beq_iff_eq] at hi ⊢
       rcases hi with hi | hi
       ·exact Or.inl (hcl i o' hi ho' e he hb)
       ·subst hi
        rw [ho] at ho'
        cases ho'
        exact Or.inl (hafter e he hb)
      ·rw [hset]
       have:=bx_add (L:=fun i=>listed.getD i false) (n0:=s.next) (j:=j) T 0 (look s.boxes) j x hx1 (by omega) hLj (by
        intro m y b hm hy h1 h2
        rw [Nat.zero_add] at h2 ⊢
        -- both touch b: ordered
        have hne:j≠m:=by omega
        obtain ⟨_,ym1,ym2,ymq,_,_,yent,yacc⟩:=htab m y hy
        obtain ⟨_,xm1,xm2,xmq,_,_,xent,xacc⟩:=htab j x hx1
        rcases entTouch yent h2 with ⟨hb1,hb2⟩ | hya
        ·-- y makes the box that x touches
         rcases entTouch xent h1 with ⟨hb3,_⟩ | hxa
         ·omega
         ·have:=c3 m y hy (by omega)
          unfold pairOk at this
          rw [<-xacc] at hxa
          rw [hb1] at hxa
          have hcont:x.2.2.contains (s.next+m)=true:=by simpa using hxa
          simp only [Bool.and_eq_true,hcont,Bool.not_true,Bool.false_or,decide_eq_true_eq] at this
          omega
        ·have:=(chk_ok hch hy).2.2 j x hx1 hne
         unfold pairOk at this
         simp only [Bool.and_eq_true] at this
         obtain ⟨⟨_,hc⟩,_⟩:=this
         have hconf:confB ops s.next j x y=true:=by
          unfold confB
          simp only [Bool.or_eq_true,List.any_eq_true]
          exact Or.inr ⟨b,h1,by rw [yacc];simpa using hya⟩
         rw [hconf] at hc
         simp only [Bool.not_true,Bool.false_or] at hc
         unfold ordB at hc
         simp only [Bool.or_eq_true,Bool.and_eq_true,decide_eq_true_eq] at hc
         rcases hc with ⟨h3,h4⟩ | ⟨h3,h4⟩
         ·exact haft m y hy h4
         ·omega)
       rw [this]
       refine hrep'.fewer fun b hb=>⟨⟨hb.1,fun i hi=>?_⟩,fun e=>?_⟩
       ·have:=hb.2 i hi
        by_cases hij:i=j
        ·rw [hij];exact hLj
        ·rw [getD_set_ne false (Ne.symm hij)] at this
         exact this
       ·have:=hb.2 j e
        have e2:=congrFun hset j
        simp only [beq_self_eq_true,Bool.or_true] at e2
        rw [e2] at this
        cases this
      ·rw [hset]
       rw [tm_add hx1 hLj (fun i y t hi hy hd hyd=>by
        have:=hpair i y hy hi
        unfold pairOk at this
        simp only [Bool.and_eq_true] at this
        have h1:=this.1.1
        rw [hyd,hd] at h1
        simp at h1)]
       rw [hxo']
       exact htm'
  have hb:Below w1.heap.size w1 {w1 with drawn:=w1.drawn+1}:=⟨rfl,rfl,rfl,Nat.le_refl _,fun _ _=>rfl⟩
  have hx:Ext C φ0 φ0 s.nums νf w1 {w1 with drawn:=w1.drawn+1}:=⟨fun _ _ h=>h,hν,On.below hb⟩
  have hL0:∀ i,(Array.replicate ops.size false).getD i false=false:=by
   intro i
   rw [Array.getD_eq_getD_getElem?]
   by_cases hi:i<ops.size
   ·simp [hi]
   ·rw [Array.getElem?_eq_none (by simp;omega)];rfl
  refine key ops.size (Array.replicate ops.size false) φ0 a0 _ (by simp) ?_ ?_ ?_ hr.defers ?_ hx
  ·have:((List.range ops.size).filter fun i=>!(Array.replicate ops.size false).getD i false)=List.range ops.size:=by
    apply List.filter_eq_self.2
    intro i _
    rw [hL0 i]
    rfl
   rw [this]
   simp
  ·intro i o hi
   have hi:(Array.replicate ops.size false).getD i false=true:=hi
   rw [hL0 i] at hi
   cases hi
  ·rw [bx_none T 0 (look s.boxes) fun i _=>hL0 i]
   have:=hr.wd.later hb νf hν
   refine ⟨this.box,this.own,this.inj,this.tip,fun b hb=>this.fresh b hb.1,this.lt,fun k hk hdd=>this.low k hk fun b hb'=>hdd b ?_,this.on,this.base,this.exa⟩
   rw [<-hdir]
   simp [hb']
  ·rw [tm_none T 0 s.tmps fun i _=>hL0 i]
   exact hr.tmps.mono (relT_ext hx)
theorem drawA_ok {w0:World}{ψ:Nat->Option (Nat×Nat)}(hm:C.P.follows .mixedOrders=true)(hsp:SpecOk C w0 ψ sp):DrawOk C w0 ψ (drawA C sp):=by
 intro ops s s' p hdr hp φ0 a0 w1 id Q hr hQ
 exact wp_region_any hm (drawA_any hsp hdr hp hr hQ)
end
end Ab
end Go.Proofs.YteghhlfmcjmnoaaGreatDoor
