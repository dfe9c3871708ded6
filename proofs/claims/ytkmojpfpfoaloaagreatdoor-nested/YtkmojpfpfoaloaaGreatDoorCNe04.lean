import Derived.Test.YtkmojpfpfoaloaaGreatDoorCNe02
import Derived.Test.YtkmojpfpfoaloaaGreatDoorCNe03
set_option linter.all false
set_option maxRecDepth 100000
set_option maxHeartbeats 2000000
namespace Go.Proofs.YtkmojpfpfoaloaaGreatDoor
open Go.Proofs.Tryz
open Go.RowKit
namespace Ab
def kT:Code->List (K (List AT))->Option (Code×List (K (List AT)))
 |.seq a b,d=>match kT a (.code b::d)with|some r=>some r|none=>kT b d
 |.block id b,d=>kT b (.cD id::d)
 |.loop b,d=>some (b,d)
 |.cond _ a b,d=>match kT a d with|some r=>some r|none=>kT b d
 |_,_=>none
def rL (c:Code)(fn:Func):Code:=((kT c [.top fn]).map (·.1)).getD .skip
def wA (c:Code)(fn:Func):List (K (List AT)):=((kT c [.top fn]).map (·.2)).getD []
def qJ:List (K (List AT))->Bool
 |.code (.loop _)::_=>true
 |_=>false
def kB:List (K (List AT))->Bool
 |.lp _ _::_=>true
 |_=>false
def sS (a:List Nat):AC->Bool
 |.sg _=>false
 |.dg _ _=>false
 |.ptr b _=>a.contains b
 |.slc b _ _ _=>a.contains b
 |.dsl b _ _ _=>a.contains b
 |_=>true
def rn (ν:List (Int×Nat))(a:List Nat):Nat->List AC->Option (List AC×List (Int×Nat))
 |_,[]=>some ([],[])
 |base,.sg i::.dg k j::r=>bif i==j then(ν[i]?).bind fun zn=>(rn ν a (base+1) r).map fun p=>(.sg base::.dg k base::p.1,zn::p.2)else none
 |base,c::r=>bif sS a c then(rn ν a base r).map fun p=>(c::p.1,p.2)else none
def wk:AC->AC
 |.int k n=>.sint k n
 |.bool b=>.sbool b
 |c=>c
def Wk (ν:List (Int×Nat))(a:List Nat)(base:Nat):AT->Option (AT×List (Int×Nat))
 |.val (.one c)=>bif sS a c then some (.val (.one c),[])else none
 |.val (.agg cs)=>(rn ν a base cs).map fun p=>(.val (.agg p.1),p.2)
 |_=>none
def wkT:AT->AT
 |.val (.one c)=>.val (.one (wk c))
 |t=>t
def Qr (a:List (Nat×bO))(ν:List (Int×Nat))(d:List Nat):Nat->List Nat->Option (List (Nat×bO)×List (Int×Nat))
 |_,[]=>some ([],[])
 |base,b::r=>(look a b).bind fun B=>(rn ν d base B.cs).bind fun p=>(Qr a ν d (base+p.2.length) r).map fun q=>((b,{B with cs:=p.1})::q.1,p.2++q.2)
def Je (ν:List (Int×Nat))(a b:List Nat):Nat->Nat->List AT->Option (List AT×List (Int×Nat))
 |_,_,[]=>some ([],[])
 |base,i,t::r=>
  bif b.contains i then(Wk ν a base t).bind fun p=>(Je ν a b (base+p.2.length) (i+1) r).map fun q=>(p.1::q.1,p.2++q.2)
  else bif b.contains (1000+i)then(Wk ν a base (wkT t)).bind fun p=>(Je ν a b (base+p.2.length) (i+1) r).map fun q=>(p.1::q.1,p.2++q.2)
  else(Je ν a b base (i+1) r).map fun q=>(.top::q.1,q.2)
def norm (a f:List Nat)(e:Nat)(s:AS):Option AS:=
 (Qr s.boxes s.nums a 0 a).bind fun p=>(Je s.nums a f p.2.length 0 s.tmps).bind fun q=>
  bif a.all (fun b=>Nat.blt b e)&&s.dirty.all (fun d=>a.contains d||(match look s.boxes d with|some B=>B.own|none=>false))then some ⟨q.1,p.1,e,p.2++q.2,s.dirty.filter fun d=>a.contains d⟩else none
def rst (a:List Nat)(φ:Nat->Option (Nat×Nat)):Nat->Option (Nat×Nat):=fun b=>bif a.contains b then φ b else none
section
variable {C:fF} {φ:Nat->Option (Nat×Nat)} {w:World}{d:List Nat}{ν:List (Int×Nat)}{x:Value}
theorem Zu {c:AC}(h:sS d c=true){g:List (Int×Nat)}(r:relC C φ ν w c x):relC C (rst d φ) g w c x:=by
 cases c<;>simp only[sS]at h<;>simp only[relC]at r ⊢<;>try exact r
 ·obtain⟨k,o,b,f⟩:=r;exact⟨k,o,by unfold rst;rw[h];exact b,f⟩
 ·obtain⟨k,o,a,e,m,b,f⟩:=r;exact⟨k,o,a,e,m,by unfold rst;rw[h];exact b,f⟩
 ·obtain⟨k,a,b,f⟩:=r;exact⟨k,a,by unfold rst;rw[h];exact b,f⟩
 ·cases h
 ·cases h
theorem Vq {ν D:List (Int×Nat)}{b:List Nat}:∀(cs:List AC) (base:Nat) (a:List AC) (ns:List (Int×Nat)) (g:List Value),rn ν b base cs=some (a,ns)->At D base ns->All2 (relC C φ ν w) cs g->All2 (relC C (rst b φ) D w) a g
 | [],_,a,ns,[],h,_,_=>by simp[rn]at h;rw[h.1];trivial
 | [],_,_,_,_::_,_,_,h=>h.elim
 |_::_,_,_,_,[],_,_,h=>h.elim
 | [c],base,a,ns,[x],h,l,⟨o,_⟩=>by
  have:rn ν b base [c]=bif sS b c then some ([c],[])else none:=by cases c<;>simp[rn,sS]
  rw[this]at h
  cases hc:sS b c with
  |false=>rw[hc]at h;cases h
  |true=>rw[hc]at h;cases h;exact⟨Zu hc o,trivial⟩
 | [c],_,_,_,_::_::_,_,_,h=>h.2.elim
 |_::_::_,_,_,_,[_],_,_,h=>h.2.elim
 |c::d::r,base,a,ns,x::y::g,h,l,⟨o,B,A⟩=>by
  by_cases hc:sS b c=true
  ·have e:rn ν b base (c::d::r)=(rn ν b base (d::r)).map fun p=>(c::p.1,p.2):=by
    cases c<;>first|(simp[sS]at hc;done)|(simp only[rn,hc,cond_true])
   rw[e]at h;obtain⟨p,q,s⟩:=cA h;cases s;exact⟨Zu hc o,Vq (d::r) base p.1 p.2 (y::g) q l ⟨B,A⟩⟩
  ·cases c<;>try (simp only[rn]at h;simp[hc]at h;done)
   case sg i=>
    cases d<;>try (simp[rn,sS]at h;done)
    case dg k j=>
     simp only[rn]at h
     cases f:i==j with
     |false=>rw[f]at h;cases h
     |true=>
      rw[f]at h;simp only[cond_true]at h
      have:i=j:=by simpa using f
      subst this;obtain⟨⟨z,n⟩,q,s⟩:=aU h;obtain⟨p,F,H⟩:=cA s;cases H;obtain⟨L,I,u,E⟩:=o;obtain⟨M,J,f1,f2,f3⟩:=B;rw[q]at u f1;cases u;cases f1;have v:=l 0 (z,n) rfl;exact⟨⟨z,n,v,E⟩,⟨z,n,v,f2,f3⟩,Vq r (base+1) p.1 p.2 g F l.tail A⟩
theorem aVK {c:AC}(r:relC C φ ν w c x):relC C φ ν w (wk c) x:=by cases c<;>exact r
theorem aTo {t:AT}(r:relT C φ ν w t x):relT C φ ν w (wkT t) x:=by
 cases t with
 |val v=>cases v with
  |one c=>exact aVK r
  |agg cs=>exact r
 |_=>exact r
theorem aRb {f:List (Int×Nat)}{t a:AT}{base:Nat}{ns:List (Int×Nat)}(h:Wk ν d base t=some (a,ns))(j:At f base ns)(r:relT C φ ν w t x):relT C (rst d φ) f w a x:=by
 unfold Wk at h;split at h
 ·rename_i c
  cases hc:sS d c with
  |false=>rw[hc]at h;cases h
  |true=>rw[hc]at h;cases h;exact Zu hc r
 ·obtain⟨p,g,i⟩:=cA h;cases i;obtain⟨b,e,k⟩:=r;exact⟨b,e,Vq _ _ _ _ b g j k⟩
 ·cases h
theorem Vm {ν v:List (Int×Nat)}{d n:List Nat}:∀(ts:List AT) (base i:Nat) (a:List AT) (ns:List (Int×Nat)) (b:List Value),Je ν d n base i ts=some (a,ns)->At v base ns->All2 (relT C φ ν w) ts b->All2 (relT C (rst d φ) v w) a b
 | [],_,_,a,ns,[],h,_,_=>by simp[Je]at h;rw[h.1];trivial
 | [],_,_,_,_,_::_,_,_,h=>h.elim
 |_::_,_,_,_,_,[],_,_,h=>h.elim
 |t::r,base,i,a,ns,x::b,h,g,⟨u,l⟩=>by
  simp only[Je]at h
  cases o:n.contains i with
  |false=>
   rw[o]at h;simp only[cond_false]at h
   cases s:n.contains (1000+i)with
   |false=>
    rw[s]at h;simp only[cond_false]at h;obtain⟨q,e,f⟩:=cA h;cases f;exact⟨trivial,Vm r base (i+1) q.1 q.2 b e g l⟩
   |true=>
    rw[s]at h;simp only[cond_true]at h;obtain⟨p,e,f⟩:=aU h;obtain⟨q,j,k⟩:=cA f;cases k;exact⟨aRb e g.left (aTo u),Vm r (base+p.2.length) (i+1) q.1 q.2 b j g.right l⟩
  |true=>
   rw[o]at h;simp only[cond_true]at h;obtain⟨p,e,f⟩:=aU h;obtain⟨q,j,k⟩:=cA f;cases k;exact⟨aRb e g.left u,Vm r (base+p.2.length) (i+1) q.1 q.2 b j g.right l⟩
theorem aQ3 {k:List (Nat×bO)}{ν μ:List (Int×Nat)}{d:List Nat}:∀(l:List Nat) (base:Nat) (f:List (Nat×bO)) (ns:List (Int×Nat)),Qr k ν d base l=some (f,ns)->At μ base ns->∀b g,look f b=some g->b∈l/\∃B a j,look k b=some B/\g={B with cs:=g.cs}/\rn ν d a B.cs=some (g.cs,j)/\At μ a j
 | [],base,f,ns,h,_,b,g,e=>by simp[Qr]at h;rw[h.1]at e;simp[look]at e
 |c::l,base,f,ns,h,n,b,g,e=>by
  simp only[Qr]at h;obtain⟨B,s,u⟩:=aU h;obtain⟨p,v,x⟩:=aU u;obtain⟨q,y,z⟩:=cA x;cases z;simp only[look]at e
  cases i:(c==b)with
  |true=>
   rw[i]at e;simp only[cond_true,Option.some.injEq]at e
   have:c=b:=by simpa using i
   subst this;subst e;exact⟨by simp,B,base,p.2,s,rfl,v,n.left⟩
  |false=>
   rw[i]at e;simp only[cond_false]at e;obtain⟨o,r⟩:=aQ3 l (base+p.2.length) q.1 q.2 y n.right b g e;exact⟨by simp[o],r⟩
end
theorem Oy {ν:List (Int×Nat)}{b:List Nat}:∀{cs:List AC} {base:Nat} {a:List AC} {ns:List (Int×Nat)},rn ν b base cs=some (a,ns)->a.length=cs.length
 | [],_,_,_,h=>by simp[rn]at h;rw[h.1]
 | [c],base,a,ns,h=>by
  have:rn ν b base [c]=bif sS b c then some ([c],[])else none:=by cases c<;>simp[rn,sS]
  rw[this]at h
  cases hc:sS b c with
  |false=>rw[hc]at h;cases h
  |true=>rw[hc]at h;cases h;rfl
 |c::d::r,base,a,ns,h=>by
  by_cases hc:sS b c=true
  ·have e:rn ν b base (c::d::r)=(rn ν b base (d::r)).map fun p=>(c::p.1,p.2):=by
    cases c<;>first|(simp[sS]at hc;done)|(simp only[rn,hc,cond_true])
   rw[e]at h;obtain⟨p,l,g⟩:=cA h;cases g;simp[Oy l]
  ·cases c<;>try (simp only[rn]at h;simp[hc]at h;done)
   case sg i=>
    cases d<;>try (simp[rn,sS]at h;done)
    case dg k j=>
     simp only[rn]at h
     cases f:i==j with
     |false=>rw[f]at h;cases h
     |true=>
      rw[f]at h;simp only[cond_true]at h;obtain⟨zn,l,g⟩:=aU h;obtain⟨p,n,o⟩:=cA g;cases o;simp[Oy n]
variable {w:World}{ψ φ:Nat->Option (Nat×Nat)}{kt:List Nat}{s:AS}
theorem aKA {C:fF}{w0:World}{r:List Nat}{N:Nat}{s':AS}(h:norm r kt N s=some s')(Y:∀b x,ψ b=some x->r.contains b=true)(u:RepW C w0 ψ φ s w):RepW C w0 ψ (rst r φ) s' w:=by
 unfold norm at h;obtain⟨p,h1,h2⟩:=aU h;obtain⟨q,h3,M⟩:=aU h2
 cases hc:(r.all (fun b=>Nat.blt b N)&&s.dirty.all (fun d=>r.contains d||(match look s.boxes d with|some B=>B.own|none=>false)))with
 |false=>rw[hc]at M;cases M
 |true=>
  rw[hc]at M;cases M;simp only[Bool.and_eq_true,List.all_eq_true]at hc;obtain⟨c1,c2⟩:=hc
  have A1:At (p.2++q.2) 0 p.2:=fun i y X=>by rw[Nat.zero_add];exact rW _ _ i y X
  have A2:At (p.2++q.2) p.2.length q.2:=fun i y X=>by
   rw[List.getElem?_append_right (by omega)]
   simpa using X
  have f:∀b x,rst r φ b=some x->r.contains b=true/\φ b=some x:=by
   intro b x a;unfold rst at a
   cases l:r.contains b with
   |false=>rw[l]at a;cases a
   |true=>rw[l]at a;exact⟨rfl,a⟩
  have j:=fun b n a=>aQ3 (μ:=p.2++q.2) r 0 p.1 p.2 h1 A1 b n a
  refine⟨?_,?_,?_,?_,?_,?_,?_,u.on,?_,fun b n k o a I hr l=>?_⟩
  rotate_right
  ·obtain⟨m,B,base,ns,v,g,H,_⟩:=j b n a;have l1:=Oy H;rw[g]at I hr;obtain⟨A,E⟩:=u.pV b B k o v I hr (f _ _ l).2;refine⟨A,?_⟩;rw[l1,g];exact E
  ·intro b n a;obtain⟨m,B,base,ns,v,g,H,g4⟩:=j b n a;obtain⟨k,o,ab,ys,L,k1,k2,k3,k4⟩:=u.box b B v;refine⟨k,o,ab,ys,L,?_,?_,k3,Vq _ _ _ _ ys H g4 k4⟩
   ·unfold rst;rw[show r.contains b=true by simpa using m];exact k1
   ·rw[g];exact k2
  ·intro b n k o a I l;obtain⟨m,B,base,ns,v,g,_⟩:=j b n a;rw[g]at I;exact u.own b B k o v I (f _ _ l).2
  ·intro b b' B n k o o' a T l U;obtain⟨m,D,base,ns,v,g,H,_⟩:=j b B a;obtain⟨m',D',O,az,P,F,S,_⟩:=j b' n T;have l1:=Oy H;have l2:=Oy S
   rcases u.inj b b' D D' k o o' v P (f _ _ l).2 (f _ _ U).2 with e|⟨A,E,e3,e4⟩
   ·exact Or.inl e
   ·refine Or.inr ⟨by rw[g];exact A,by rw[F];exact E,by rw[g,F];exact e3,?_⟩;intro J
    have z:D.tip=true:=by rw[g]at J;exact J
    have:=e4 z;rw[l1,l2];exact this
  ·intro b n a J;obtain⟨m,B,base,ns,v,g,_⟩:=j b n a
   have z:B.tip=true:=by rw[g]at J;exact J
   obtain⟨A,E⟩:=u.tip b B v z;rw[g];exact⟨A,E⟩
  ·intro b a;unfold rst
   cases l:r.contains b with
   |false=>rfl
   |true=>
    have:=c1 b (by simpa using l)
    have aq:b<N:=by simpa[Nat.blt_eq]using this
    have a:N<=b:=a;omega
  ·intro b k o a;exact u.lt b k o (f _ _ a).2
  ·intro k l hd;refine u.low k l ?_;intro b a o e;have hc2:=c2 b a;simp only[Bool.or_eq_true]at hc2
   rcases hc2 with hc2|hc2
   ·refine hd b ?_ o ?_
    ·exact List.mem_filter.2 ⟨a,hc2⟩
    ·unfold rst;rw[hc2];exact e
   ·cases W:look s.boxes b with
    |none=>rw[W]at hc2;cases hc2
    |some B=>
     rw[W]at hc2;have:=u.own b B k o W hc2 e;omega
  ·intro b x a;unfold rst;rw[Y b x a];exact u.base b x a
variable {u:List Nat}{a:Act}
theorem aNM {C:fF}{w0:World}{e:List Nat}{k:Nat}{l:AS}(h:norm e u k s=some l)(j:∀b x,ψ b=some x->e.contains b=true)(g:Rep C w0 ψ φ s a w):Rep C w0 ψ (rst e φ) l a w:=by
 refine⟨aKA h j g.wd,g.defers,?_⟩;unfold norm at h;obtain⟨p,v,n⟩:=aU h;obtain⟨q,o,f⟩:=aU n
 cases hc:(e.all (fun b=>Nat.blt b k)&&s.dirty.all (fun d=>e.contains d||(match look s.boxes d with|some B=>B.own|none=>false)))with
 |false=>rw[hc]at f;cases f
 |true=>
  rw[hc]at f;cases f;exact Vm _ _ _ _ _ _ o (fun i y r=>by rw[List.getElem?_append_right (by omega)];simpa using r) g.tmps
def noFr {F:Type}:List (K F)->Bool
 | []=>true
 |.fr _ _ _::_=>false
 |_::ks=>noFr ks
theorem SR.any {C:fF}{φ I:Nat->Option (Nat×Nat)}{ν g:List (Int×Nat)}{w b:World}:∀{ks:List (K (List AT))} {e:List (K Act)},noFr ks=true->SR C φ ν w ks e->SR C I g b ks e
 | [],[],_,_=>trivial
 |.code _::_,.code _::_,h,⟨a,d⟩=>⟨a,SR.any (by simpa[noFr]using h) d⟩
 |.cD _::_,.cD _::_,h,⟨a,d⟩=>⟨a,SR.any (by simpa[noFr]using h) d⟩
 |.lp _ _::_,.lp _ _::_,h,⟨a,d,f⟩=>⟨a,d,SR.any (by simpa[noFr]using h) f⟩
 |.ops _ _::_,.ops _ _::_,h,⟨a,d,f⟩=>⟨a,d,SR.any (by simpa[noFr]using h) f⟩
 |.top _::_,.top _::_,h,⟨a,d⟩=>⟨a,SR.any (by simpa[noFr]using h) d⟩
 |.fr _ _ _::_,_,h,_=>by simp[noFr]at h
section
variable {C:fF} {w0:World} {ψ:Nat->Option (Nat×Nat)} {sp:Spec} {bodies:FuncId->Option Func} {draw:Array Oper->AS->Option (AS×List Prop)} {R:Ending->World->Prop}
end
def oN (ν:List (Int×Nat)):List AC->List AC×List Prop
 |.bool false::.dg k i::r=>match ν[i]? with
  |some zn=>(.sg i::.dg k i::(oN ν r).1,(0<=zn.1)::(oN ν r).2)
  |none=>(.bool false::.dg k i::(oN ν r).1,(oN ν r).2)
 |c::r=>(c::(oN ν r).1,(oN ν r).2)
 | []=>([],[])
theorem Vd {T:fF}{φ:Nat->Option (Nat×Nat)}{ν:List (Int×Nat)}{n:World}:∀(cs:List AC) (g:List Value),Holds (oN ν cs).2->All2 (relC T φ ν n) cs g->All2 (relC T φ ν n) (oN ν cs).1 g
 | [],[],_,h=>h
 | [],_::_,_,h=>h.elim
 |_::_,[],_,h=>h.elim
 | [c],[x],a,⟨f,l⟩=>by
  have e:oN ν [c]=([c],[]):=by cases c<;>(try rfl);rename_i b;cases b<;>rfl
  rw[e];exact⟨f,trivial⟩
 | [c],_::_::_,_,h=>h.2.elim
 |_::_::_,[_],_,h=>h.2.elim
 |c::d::r,x::y::g,a,⟨f,l,o⟩=>by
  by_cases j:∃k i,c=.bool false/\d=.dg k i
  ·obtain⟨k,i,rfl,rfl⟩:=j;simp only[oN]at a ⊢
   cases hi:ν[i]? with
   |none=>
    rw[hi]at a;simp only at a ⊢;exact⟨f,l,Vd r g a o⟩
   |some zn=>
    rw[hi]at a;simp only at a ⊢;have s:0<=zn.1:=a _ (by simp);refine⟨⟨zn.1,zn.2,hi,?_⟩,l,Vd r g (fun q p=>a q (by simp[p])) o⟩;have f:x=.bool false:=f;rw[f,decide_eq_false (by omega)]
  ·have e:oN ν (c::d::r)=(c::(oN ν (d::r)).1,(oN ν (d::r)).2):=by
    cases c<;>try rfl
    rename_i b
    cases b<;>try rfl
    cases d<;>try rfl
    exact absurd ⟨_,_,rfl,rfl⟩ j
   rw[e]at a ⊢;exact⟨f,Vd (d::r) (y::g) a ⟨l,o⟩⟩
theorem Us {ν:List (Int×Nat)}:∀(cs:List AC),(oN ν cs).1.length=cs.length
 | []=>rfl
 | [c]=>by
  have e:oN ν [c]=([c],[]):=by cases c<;>(try rfl);rename_i b;cases b<;>rfl
  rw[e]
 |c::d::r=>by
  by_cases a:∃k i,c=.bool false/\d=.dg k i
  ·obtain⟨k,i,rfl,rfl⟩:=a;simp only[oN]
   cases ν[i]?<;>simp[Us r]
  ·have e:oN ν (c::d::r)=(c::(oN ν (d::r)).1,(oN ν (d::r)).2):=by
    cases c<;>try rfl
    rename_i b
    cases b<;>try rfl
    cases d<;>try rfl
    exact absurd ⟨_,_,rfl,rfl⟩ a
   rw[e];have:=Us (d::r) (ν:=ν);simp only[List.length_cons]at this ⊢;omega
def qW (ν:List (Int×Nat)):List (Nat×bO)->List (Nat×bO)×List Prop
 | []=>([],[])
 |(b,B)::r=>((b,{B with cs:=(oN ν B.cs).1})::(qW ν r).1,(oN ν B.cs).2++(qW ν r).2)
def Rh (s:AS):AS:={s with boxes:=(qW s.nums s.boxes).1}
theorem aKq {ν:List (Int×Nat)}:∀(l:List (Nat×bO)) (b:Nat) (a:bO),look (qW ν l).1 b=some a->∃B,look l b=some B/\a={B with cs:=(oN ν B.cs).1}/\(Holds (qW ν l).2->Holds (oN ν B.cs).2)
 | [],b,a,h=>by simp[qW,look]at h
 |(c,D)::l,b,a,h=>by
  simp only[qW,look]at h ⊢
  cases hc:(c==b)with
  |true=>
   rw[hc]at h;simp only[cond_true,Option.some.injEq]at h;exact⟨D,by rw[cond_true],h.symm,fun d q e=>d q (by simp[e])⟩
  |false=>
   rw[hc]at h;simp only[cond_false]at h;obtain⟨B,f,g,i⟩:=aKq l b a h;exact⟨B,by rw[cond_false];exact f,g,fun d=>i fun q e=>d q (by simp[e])⟩
variable {n:World}{q:Nat->Option (Nat×Nat)}
theorem aS3 {T:fF}(R:Holds (qW s.nums s.boxes).2)(f:Rep T n q φ s a w):Rep T n q φ (Rh s) a w:=by
 have r:=fun b g h=>aKq (ν:=s.nums) s.boxes b g h
 refine⟨⟨?_,?_,?_,?_,f.wd.fresh,f.wd.lt,f.wd.low,f.wd.on,f.wd.base,?_⟩,f.defers,f.tmps⟩
 ·intro b g j;obtain⟨B,i,d,P⟩:=r b g j;obtain⟨k,o,J,Y,E,k1,S,U,W⟩:=f.wd.box b B i;exact⟨k,o,J,Y,E,k1,by rw[d];exact S,U,by rw[d];exact Vd _ _ (P R) W⟩
 ·intro b g k o j y x;obtain⟨B,i,d,_⟩:=r b g j;rw[d]at y;exact f.wd.own b B k o i y x
 ·intro b L B g k o X j H x I;obtain⟨D,i,d,_⟩:=r b B j;obtain⟨M,F,l,_⟩:=r L g H
  rcases f.wd.inj b L D M k o X i F x I with e|⟨u,v,N,O⟩
  ·exact Or.inl e
  ·refine Or.inr ⟨by rw[d];exact u,by rw[l];exact v,by rw[d,l];exact N,?_⟩;intro A
   have p:D.tip=true:=by rw[d]at A;exact A
   have:=O p;rw[d,l];simp only[Us];exact this
 ·intro b g j A;obtain⟨B,i,d,_⟩:=r b g j
  have p:B.tip=true:=by rw[d]at A;exact A
  obtain⟨u,v⟩:=f.wd.tip b B i p;rw[d];exact⟨u,v⟩
 ·intro b g k o j y z x;obtain⟨B,i,d,_⟩:=r b g j;rw[d]at y z;obtain⟨u,v⟩:=f.wd.pV b B k o i y z x;refine⟨u,?_⟩;rw[d];simp only[Us];exact v
def mG:List (Int×Nat)->List Nat->List (Int×Nat)
 |(z,_)::r,N::a=>(z,N)::mG r a
 |l,_=>l
def oI:List (Int×Nat)->List Nat->List Prop
 |(z,_)::r,N::a=>Bits N z::oI r a
 |_,_=>[]
def Ec (a:List Nat)(s:AS):AS:={s with nums:=mG s.nums a}
theorem aRa:∀(l:List (Int×Nat)) (e:List Nat) (i:Nat) (z:Int) (n:Nat),l[i]?=some (z,n)->Bits n z->Holds (oI l e)->∃m,(mG l e)[i]?=some (z,m)/\Bits m z
 | [],_,i,z,n,h,_,_=>by simp at h
 |(y,k)::r,[],i,z,n,h,a,_=>⟨n,by simpa[mG]using h,a⟩
 |(y,k)::r,N::d,0,z,n,h,a,b=>by
  simp at h;obtain⟨rfl,rfl⟩:=h;exact⟨N,by simp[mG],b _ (by simp[oI])⟩
 |(y,k)::r,N::d,i+1,z,n,h,a,b=>by
  obtain⟨m,f,g⟩:=aRa r d i z n (by simpa using h) a (fun q j=>b q (by simp[oI,j]));exact⟨m,by simpa[mG]using f,g⟩
theorem aOc:∀(l:List (Int×Nat)) (d:List Nat) (i:Nat) (z:Int) (n:Nat),l[i]?=some (z,n)->∃m,(mG l d)[i]?=some (z,m)
 | [],_,i,z,n,h=>by simp at h
 |(y,k)::r,[],i,z,n,h=>⟨n,by simpa[mG]using h⟩
 |(y,k)::r,N::a,0,z,n,h=>by
  simp at h;obtain⟨rfl,rfl⟩:=h;exact⟨N,by simp[mG]⟩
 |(y,k)::r,N::a,i+1,z,n,h=>by
  obtain⟨m,b⟩:=aOc r a i z n (by simpa using h);exact⟨m,by simpa[mG]using b⟩
variable {ν:List (Int×Nat)}{d:List Nat}
theorem Uo (i:Holds (oI ν d))(c:AC)(x:Value)(r:relC Z φ ν n c x):relC Z φ (mG ν d) n c x:=by
 cases c<;>try exact r
 ·obtain⟨z,a,b,e⟩:=r;obtain⟨m,f⟩:=aOc ν d _ z a b;exact⟨z,m,f,e⟩
 ·obtain⟨z,a,b,e,f⟩:=r;obtain⟨m,g,h⟩:=aRa ν d _ z a b f i;exact⟨z,m,g,e,h⟩
theorem Zm (a:Holds (oI ν d))(v:AV)(x:Value)(r:dM Z φ ν n v x):dM Z φ (mG ν d) n v x:=by
 cases v with
 |one c=>exact Uo a c x r
 |agg cs=>obtain⟨b,e,h⟩:=r;exact⟨b,e,h.mono (Uo a)⟩
theorem aPW (a:Holds (oI ν d))(t:AT)(x:Value)(r:relT Z φ ν n t x):relT Z φ (mG ν d) n t x:=by
 cases t with
 |top=>trivial
 |gC=>exact r
 |val v=>exact Zm a v x r
 |tup f=>obtain⟨b,e,h⟩:=r;exact⟨b,e,h.mono (Zm a)⟩
 |mY c v=>
  simp only[relT]at r ⊢
  cases c with
  |true=>simp only[if_true]at r ⊢;exact Zm a v x r
  |false=>simpa using r
theorem aOb (h:Holds (oI s.nums d))(e:Rep Z n q φ s a w):Rep Z n q φ (Ec d s) a w:=by
 refine⟨⟨?_,e.wd.own,e.wd.inj,e.wd.tip,e.wd.fresh,e.wd.lt,e.wd.low,e.wd.on,e.wd.base,e.wd.pV⟩,e.defers,e.tmps.mono (aPW h)⟩;intro b B i;obtain⟨k,o,g,r,f,k1,j,l,p⟩:=e.wd.box b B i;exact⟨k,o,g,r,f,k1,j,l,p.mono (Uo h)⟩
def turnS (d e:List Nat)(f:Nat)(a:List Nat)(s:AS):Option (AS×List Prop):=
 (norm d e f (Rh s)).map fun b=>(Ec a b,(qW s.nums s.boxes).2++oI b.nums a)
theorem aK4 {e:World}{i:Nat->Option (Nat×Nat)}{w:Nat}{v:List Nat}{k:AS}{p:List Prop}(h:turnS d u w v s=some (k,p))(j:Holds p)(g:∀b x,i b=some x->d.contains b=true)(r:Rep Z n i φ s a e):Rep Z n i (rst d φ) k a e:=by
 unfold turnS at h;obtain⟨t,l,o⟩:=cA h;cases o;exact aOb (fun q f=>j q (by simp[f])) (aNM l g (aS3 (fun q f=>j q (by simp[f])) r))
inductive LT where
 |ret (g:RG)
 |again (ks:List (K (List AT))) (s:AS)
 |br (t:Bool) (a b:LT)
 |need (p:List Prop) (o:LT)
def LT.ok (P:RG->Prop)(Q:List (K (List AT))->AS->Prop):LT->Prop
 |.ret g=>P g
 |.again d s=>Q d s
 |.br t a b=>(t=true->a.ok P Q)/\(t=false->b.ok P Q)
 |.need p o=>Holds p/\o.ok P Q
def Bf (k:Bool):RV->Option RG
 |.val v=>(gT k v).map fun g=>.one g.1
 |.tup b=>(eW (gT k) b).map fun a=>.tup (a.map (·.1))
def jU (k:Bool)(d e:List Nat)(f:Nat)(g:List Nat):Tr->Option LT
 |.ret r s=>bif clean s then((rvOf s.nums r).bind (Bf k)).map .ret else none
 |.br t a b=>(jU k d e f g a).bind fun x=>(jU k d e f g b).map fun y=>.br t x y
 |.need p t=>(jU k d e f g t).map (.need p)
 |.stop h s=>(turnS d e f g s).map fun x=>match x.2 with| []=>.again h x.1|p::i=>.need (p::i) (.again h x.1)
def isL (k:Bool)(P:RG->Prop)(r:AT)(s:AS):Prop:=clean s=true/\∃a g,rvOf s.nums r=some a/\Bf k a=some g/\P g
def isN (b e:List Nat)(f:Nat)(g:List Nat)(Q:List (K (List AT))->AS->Prop)(d:List (K (List AT)))(s:AS):Prop:=∃a p,turnS b e f g s=some (a,p)/\Holds p/\Q d a
theorem Oc {k:Bool}{d n:List Nat}{w:Nat}{o:List Nat}{P:RG->Prop}{Q:List (K (List AT))->AS->Prop}:∀{v:Tr} {lt:LT},jU k d n w o v=some lt->lt.ok P Q->v.ok (isL k P) (isN d n w o Q)
 |.ret r s,lt,h,f=>by
  simp only[jU]at h
  cases hc:clean s with
  |false=>rw[hc]at h;cases h
  |true=>
   rw[hc]at h;simp only[cond_true]at h;obtain⟨g,i,rfl⟩:=cA h;obtain⟨A,j,l⟩:=aU i;exact⟨hc,A,g,j,l,f⟩
 |.br t a b,lt,h,f=>by
  simp only[jU]at h;obtain⟨x,i,j⟩:=aU h;obtain⟨y,l,rfl⟩:=cA j;exact⟨fun e=>Oc i (f.1 e),fun e=>Oc l (f.2 e)⟩
 |.need p t,lt,h,f=>by
  simp only[jU]at h;obtain⟨x,i,rfl⟩:=cA h;exact⟨f.1,Oc i f.2⟩
 |.stop B s,lt,h,f=>by
  simp only[jU]at h;obtain⟨⟨u,q⟩,i,j⟩:=cA h
  cases q with
  |nil=>
   simp only at j;subst j;exact⟨u,[],i,iC,f⟩
  |cons p z=>
   simp only at j;subst j;exact⟨u,p::z,i,f.1,f.2⟩
variable {k:Bool}{rb:List Nat}
theorem Qm {sp:Spec}{i:FuncId->Option Func}{R:Ending->World->Prop}(l:SpecOk Z n q sp)(B:bV Z i){P:RG->Prop}(hG:∀r s φ v g,isL k P r s->relT Z φ s.nums g r v->RepW Z n q φ s g->R (.returned v) g){b:Code}{j:List (K (List AT))}(C:noFr j=true){w:Nat}(H:∀b x,q b=some x->d.contains b=true)(I:Nat->AS->Prop)
  (hI:∀m s,I m s->∀e,∃f lt,(run Z sp i (aO Z sp) kB f (.code b::.lp b e::j) s).bind (jU k d kt w rb)=some lt/\lt.ok P fun N O=>N=.lp b e::j/\∃A,A<m/\I A O):
  ∀(m e:Nat) (s:AS),I m s->m<e->∀(h:List (K Act)) (φ:Nat->Option (Nat×Nat)) (a:Act) (g:World),SR Z φ s.nums g (.lp b e::j) h->Rep Z n q φ s a g->fZ Z.P R h .normal a g:=by
 intro m
 induction m using Nat.strongRecOn with
 |_ m ih=>
  intro e s hs ae h φ a g F hr
  cases e with
  |zero=>omega
  |succ e=>
   match h,F with
   |.lp z n'::h,⟨T,U,u⟩=>
    subst T;subst U;obtain⟨f,lt,W,X⟩:=hI m s hs e;obtain⟨tr,Y,h4⟩:=aU W
    have J:fZ Z.P R (.code z::.lp z e::h) .normal a g:=by
     refine vB (stp:=kB) l B (rD mixed l) (isL k P) _ ?_ hG f _ s tr Y (Oc h4 X) (.code z::.lp z e::h) φ a g ⟨rfl,rfl,rfl,u⟩ hr;rintro N O⟨L,p,hn,hp,rfl,A,D,hi⟩ y M S w' o E;exact ih A D e L hi (by omega) y (rst d M) S w' (SR.any (by simpa[noFr]using C) o) (aK4 hn hp H E)
    exact J
variable {l:List (FuncId×TE)}{F:List G->Option RG}{nd:List G->List Prop}
theorem Rn (Y:cX Z l){sp:Spec}(z:∀I J,SpecOk Z I J sp){b:FuncId->Option Func}(q:bV Z b){f:FuncId}{fn:Func}(g:Fn f fn){E:List Nat->Nat}(j:∀a ns out,F a=some out->Holds (nd a)->pL a ns->pL a d->RGB (E ns) out)
  (h:∀a out,F a=some out->∃C,((run Z (fJ sp (aE l)) b (aO Z (fJ sp (aE l))) (fun _=>false) 2000 [.code (aF fn),.top fn] (start fn (dY k a d))).bind outcome).bind (pI k)=some (C,out)/\(Holds (nd a)->pL a d->Holds C)):bQ Z f (gZ k F nd E d):=by
 refine Dg g.en j fun a out W x r w D A=>?_
 obtain⟨C,L,M⟩:=h a out W;obtain⟨o,N,O⟩:=aU L;obtain⟨tr,R,S⟩:=aU N
 have U:At (eA 0 (dY k a d)).2 0 (eA 0 (dY k a d)).2:=fun i y hy=>by rw[Nat.zero_add];exact hy
 have H:SpecOk Z w (fun _=>none) (fJ sp (aE l)):=Oa (z _ _) (dH Y);obtain⟨n0,u⟩:=wM.someB out
 have B:Calls Z.P f D.toArray w fun e p=>∃v,e=.returned v/\RRV Z p (wG k n0 out) v/\Below w.heap.size w p:=by
  refine mC (w0:=w) (ψ:=fun _=>none) (φ:=fun _=>none) (s:=start fn (dY k a d)) (vs:=(eA 0 (dY k a d)).1) H q (rD mixed H) g.at' g.body rfl (Hd _ 0 D U A) (Nh fn _ w) 2000 R _ (fun _ _=>False) (fun _ _ h=>h.elim) (yD S (Ob (n:=n0) O (M x r) u)) ?_;rintro r0 s φ v p⟨hc,r',T,h8⟩ hr hw;exact⟨v,rfl,h8 p v (Ce T hr),RepF.below hw hc⟩
 refine B.mono ?_;rintro e p⟨v,rfl,hv,X⟩;exact⟨v,rfl,fun n hn=>wM.anyB hv hn,X⟩
theorem aK3 {P:FuncId}{s:List G->Option RG}{i:List G->List Prop}{x j:List Nat->Nat}(h:bQ Z P (gZ k F nd x d))(H:∀a out,s a=some out->Holds (i a)->pL a d->F a=some out/\Holds (nd a))(g:∀a ns out,s a=some out->Holds (i a)->pL a ns->pL a d->RGB (j ns) out):bQ Z P (gZ k s i j d):=by
 refine⟨h.1,fun ts r p n B w C o=>?_⟩;unfold gZ at n;obtain⟨q,z,l⟩:=aU n
 cases b:mO (q.map (·.2)) d with
 |false=>rw[b]at l;cases l
 |true=>
  rw[b]at l;simp only[cond_true]at l;obtain⟨out,A,E⟩:=cA l;cases E;obtain⟨L,D,y⟩:=Mv ts q d C z b o;obtain⟨k1,J⟩:=H _ out A B y;have u:=h.2 ts (wG k (x (q.map (·.2))) out) (nd (q.map (·.1))) (by unfold gZ;rw[z];simp only[Option.bind_some,b,cond_true,k1,Option.map_some]) J w C o;refine u.mono ?_;rintro e M⟨v,rfl,hv,I⟩;exact⟨v,rfl,wM.anyB hv (g _ _ out A B D y),I⟩
theorem Bv (hl:cX Z l){sp:Spec}(M:∀w0 ψ,SpecOk Z w0 ψ sp){P:FuncId}{fn:Func}(o:Fn P fn){U:List Nat->Nat}(q:∀b ns out,F b=some out->Holds (nd b)->pL b ns->pL b d->RGB (U ns) out)
  {kb:List Nat} {nx:Nat}  (B:noFr (wA (aF fn) fn)=true)
  (h:∀ b out,F b=some out->Holds (nd b)->pL b d->∃ I:Nat->AS->Prop,
   (∃n lt,(run Z (fJ sp (aE l)) (fun _=>none) (aO Z (fJ sp (aE l))) qJ n [.code (aF fn),.top fn] (start fn (dY k b d))).bind (jU k kb kt nx rb)=some lt/\lt.ok (fun g=>g=out) fun D s=>D=.code (.loop (rL (aF fn) fn))::wA (aF fn) fn/\∃m,I m s)/\
   ∀m s,I m s->∀n,∃P lt,(run Z (fJ sp (aE l)) (fun _=>none) (aO Z (fJ sp (aE l))) kB P (.code (rL (aF fn) fn)::.lp (rL (aF fn) fn) n::wA (aF fn) fn) s).bind (jU k kb kt nx rb)=some lt/\lt.ok (fun g=>g=out) fun D Y=>D=.lp (rL (aF fn) fn) n::wA (aF fn) fn/\∃X,X<m/\I X Y):bQ Z P (gZ k F nd U d):=by
 refine Dg o.en q fun b out hF H E w vs O=>?_
 obtain⟨I,⟨n,lt,A,h2⟩,hI⟩:=h b out hF H E;obtain⟨tr,h3,h4⟩:=aU A
 have hA:At (eA 0 (dY k b d)).2 0 (eA 0 (dY k b d)).2:=fun i y hy=>by rw[Nat.zero_add];exact hy
 have L:SpecOk Z w (fun _=>none) (fJ sp (aE l)):=Oa (M _ _) (dH hl)
 have W:∀r s φ v j,isL k (fun g=>g=out) r s->relT Z φ s.nums j r v->RepW Z w (fun _=>none) φ s j->(fun(e:Ending) (j:World)=>∃v,e=.returned v/\(∀n,RGB n out->RRV Z j (wG k n out) v)/\Below w.heap.size w j) (.returned v) j:=by
  rintro r s φ v j⟨hc,r',g,g1,g2,rfl⟩ J hw;exact⟨v,rfl,fun n z=>rgOf_ok g2 (Ce g1 J) z,RepF.below hw hc⟩
 refine mC L dT (rD mixed L) o.at' o.body rfl (Hd _ 0 vs hA O) (Nh fn _ w) n h3 (isL k fun g=>g=out) _ ?_ (Oc h4 h2) W;rintro D Y⟨S,p,z,hp,rfl,m,hi⟩ u T a j N J
 match u,N with
 |.code c'::u,⟨e,C⟩=>
  subst e;have:=Qm (R:=fun(e:Ending) (j:World)=>∃v,e=.returned v/\(∀n,RGB n out->RRV Z j (wG k n out) v)/\Below w.heap.size w j) L dT W B (fun _ _ e=>by cases e) I hI m (m+1) S hi (by omega) (.lp (rL (aF fn) fn) (m+1)::u) (rst kb T) a j ⟨rfl,rfl,SR.any B C⟩ (aK4 z hp (fun _ _ e=>by cases e) J);exact wp_loop_rounds (m+1) this
where
 rgOf_ok {k:Bool} {w:World} {r:RV} {g:RG} {v:Value} (h:Bf k r=some g) (hv:RRV Z w r v) {n:Nat} (z:RGB n g):RRV Z w (wG k n g) v:=by
  cases r with
  |val t=>
   simp only[Bf]at h;obtain⟨⟨x,m⟩,A,rfl⟩:=cA h;exact(Lg A hv).2 n z
  |tup vs=>
   simp only[Bf]at h;obtain⟨b,A,rfl⟩:=cA h;obtain⟨xs,e,hx⟩:=hv;exact⟨xs,e,Zi A z hx⟩
end Ab
variable {xs:List Int}
theorem Nm.Fc {i:Nat}(h:¬i<xs.length):Nm.at' xs i=0:=by
 unfold Nm.at';rw[List.getD_eq_getElem?_getD,List.getElem?_eq_none (by omega)];rfl
variable {s:List Int}{k:Nat}
theorem Nm.aJM (h:k<s.length)(a:Nm.at' s k=0):Nm.strip (s.take (k+1))=Nm.strip (s.take k):=by
 rw[List.take_succ_eq_append_getElem h];unfold Nm.at' at a;rw[List.getD_eq_getElem?_getD,List.getElem?_eq_getElem h]at a;rw[show s[k]=0 from a,Nm.Ma]
theorem Nm.aJL (h:k<s.length)(a:Nm.at' s k≠0):Nm.strip (s.take (k+1))=s.take (k+1):=by
 rw[List.take_succ_eq_append_getElem h];unfold Nm.at' at a;rw[List.getD_eq_getElem?_getD,List.getElem?_eq_getElem h]at a;exact Nm.Ml _ a
theorem Dd (w:World)(a:List Int)(v:Value)(B:Nat)(h:cG B w a v)(z:a.length<=100000000000):
  Calls prog 160 #[v] w fun e r=>e=.returned (.int .i64 (Nm.strip a).length)/\w=r:=by
 obtain⟨s,p,rfl,j⟩:=h.shape;have o:=hid h;clear h
 go_enter func160,ntmps160
 go_wp2_with fail
 go_loop [3] (fun n=>∃k:Nat,k<=a.length/\n=.int .i64 k/\Nm.strip (a.take k)=Nm.strip a) (fun n=>(intOf n).toNat)
 case atStart=>exact⟨a.length,Nat.le_refl _,rfl,by rw[List.take_length]⟩
 case round=>
  obtain⟨k,y,rfl,l⟩:=hrel;have f:=hid l;clear l
  cases k with
  |zero=>
   have q:Hid (Nm.strip a=[]):=by have:=f.out;show _=_;rw[<-this];rfl
   go_wp2_with fail
   go_ret
   exact⟨by rw[q.out];rfl,rfl⟩
  |succ k=>
   obtain⟨g,rfl,hc⟩:=o.out.place (by omega);have i:=hc k (by omega);clear hc
   by_cases d:Nm.at' a k=0
   ·have b:=hid (Nm.aJM (by omega) d);rw[d]at i
    go_wp2_with fail
    go_round
    case rel=>exact⟨k,by omega,by simp,by rw[<-b.out,f.out]⟩
    case measure=>simp[intOf]
   ·have u:(Nm.at' a k==0)=false:=by simpa using d
    have b:=hid (show(Nm.strip a).length=k+1 by rw[<-f.out,Nm.aJL (by omega) d,List.length_take];omega);generalize Nm.at' a k=x at*
    go_wp2_with fail
    go_ret
    exact⟨by rw[b.out];rfl,rfl⟩
def An (w:World)(N:Int)(m d:Value)(wr:World):Prop:=
 ∃(k:Int) (done:List Int),m=.int .u64 k/\0<=k/\k<=N/\done.length<=2/\wr.ownsRow w.heap.size 168 1 d done.length (done.map (Value.int .u32))/\Below w.heap.size w wr/\Nm.dK 4294967296 done/\(k=0->Nm.Top done)/\Nm.val 4294967296 done+k*4294967296^done.length=N/\(done.length=1->k<4294967296)/\(2<=done.length->k=0)
theorem Mo (N:Int)(w:World)(H:0<=N)(R:N<18446744073709551616):Calls prog 89 #[.int .u64 N] w (cP w fun D=>Nm.Good 4294967296 D/\Nm.val 4294967296 D=N/\D.length<=2):=by
 obtain⟨i,hi,O,o,B⟩:=info_parts lQ
 go_enter func89,ntmps89
 go_wp2_with fail
 go_loopw [0,3] (fun m d wr=>An w N m d wr) (fun m _ _=>(intOf m).toNat)
 case atStart=>
  refine⟨N,[],rfl,H,Int.le_refl _,by simp,?_,aX (Below.refl _ _) (Nat.le_refl _) _,Nm.dK.nil _,fun _=>Nm.Top.nil,by simp[Nm.val],fun h=>by simp at h,fun h=>by simp at h⟩;exact⟨rfl,Or.inr ⟨w.heap.size,0,#[],rfl,Nat.le_refl _,wV _ _,Nat.le_refl _,by decide,rfl,rfl⟩⟩
 case round=>
  obtain⟨k,done,rfl,k0,k1,J,f,b,v,j,l,x,y⟩:=hrel;have A:=hid l;have E:=hid j;have z:=hid v;have a:=hid b;have p:=hid x;have s:=hid y;have M:=b.size;clear l j v b x y
  by_cases I:(0:Int)<k
  ·have L:done.length<=1:=by have:=s.out;omega
   go_wp2_with (at_builtin;refine wpList_append_own _ rfl _ _ 87 rfl _ 168 i (.int .u32 0) 1 4 underlying87 hi O o B rfl (by decide) _ _ _ rfl (f.alloc _) ⟨wr.heap.size,0,none⟩ 1 1 [.int .u32 (k%4294967296)] rfl rfl (cell_one_new _ _ _) (fun u F=>by simp at F;subst F;rfl) (by unfold maxLen;omega) (by omega) (by simp;omega) ?_;intro S T n g C)
   go_roundw
   case rel=>
    refine⟨k/4294967296,done++[k%4294967296],rfl,by omega,by omega,by simp;omega,by simpa using n,Cw f a.out a.out.size _ g,z.out.snoc (by omega) (by omega),?_,?_,?_,?_⟩
    ·intro h;exact Nm.aQk (by omega)
    ·rw[Nm.De,<-A.out,List.length_append,List.length_singleton,Int.pow_succ];have e:=Int.emod_add_mul_ediv k 4294967296;generalize k%4294967296=r at*;generalize k/4294967296=q at*;generalize (4294967296:Int)^done.length=P at*;clear A E z a p s;subst e;grind
    ·intro h;simp only[List.length_append,List.length_singleton]at h;omega
    ·intro h;simp only[List.length_append,List.length_singleton]at h;have:=p.out (by omega);omega
   case measure=>simp[intOf];omega
  ·obtain rfl:k=0:=by omega
   go_wp2_with fail
   go_ret
   refine⟨_,done,rfl,⟨⟨z.out,E.out (by simp)⟩,by have:=A.out;simpa using this,J⟩,f,a.out⟩
def Hr (W:World)(a b:List Int)(i:Value)(wr:World):Prop:=
 ∃k:Nat,k<=a.length/\i=.int .i64 ((k:Int)-1)/\a.drop k=b.drop k/\Below W.heap.size W wr
theorem Lz (w:World)(a b:List Int)(u v:Value)(x:Lims w a u)(A:Lims w b v)(O:a.length<=100000000000)(D:Nm.Good 4294967296 a)(E:Nm.Good 4294967296 b):
  Calls prog 141 #[u,v] w fun e P=>e=.returned (.int .i64 (Nm.cmp (Nm.val 4294967296 a) (Nm.val 4294967296 b)))/\Below w.heap.size w P:=by
 obtain⟨R,N,rfl,H⟩:=x.shape;obtain⟨S,M,rfl,F⟩:=A.shape;have J:=hid x;have L:=hid A;have p:=hid D;have GB:=hid E;clear x A D E
 by_cases c1:(a.length:Int)<b.length
 ·rw[Nm.jB (Nm.Se (by decide) p.out.fB GB.out (by omega))]
  go_enter func141,ntmps141
  go_wp2_with fail
  go_ret
  exact⟨rfl,Below.refl _ _⟩
 ·by_cases c3:(b.length:Int)<a.length
  ·rw[Nm.gV (Nm.Se (by decide) GB.out.fB p.out (by omega))]
   go_enter func141,ntmps141
   go_wp2_with fail
   go_ret
   exact⟨rfl,Below.refl _ _⟩
  ·have f:a.length=b.length:=by omega
   clear c3 c1;rw[<-f];have h:=hid f;clear f
   go_enter func141,ntmps141
   go_wp2_with fail
   go_loopw [5] (fun i wr=>Hr w a b i wr) (fun i _=>(intOf i+1).toNat)
   case atStart=>exact⟨a.length,Nat.le_refl _,rfl,by rw[List.drop_length,h.out,List.drop_length],Below.refl _ _⟩
   case round=>
    obtain⟨k,U,rfl,I,j⟩:=hrel;have q:=hid I;have d:=hid j;clear I j
    cases k with
    |zero=>
     have n:Hid (Nm.cmp (Nm.val 4294967296 a) (Nm.val 4294967296 b)=0):=Nm.jA (by have:=q.out;simp at this;rw[this])
     go_wp2_with fail
     go_ret
     exact⟨by rw[n.out];rfl,d.out⟩
    |succ k=>
     obtain⟨g,rfl,hc⟩:=(J.out.below d.out).place (by omega);obtain⟨T,rfl,l⟩:=(L.out.below d.out).place (by rw[<-h.out];omega);have x1:=hc k (by omega);have x2:=l k (by rw[<-h.out];omega);clear hc l
     have o:k<b.length:=by rw[<-h.out];omega
     by_cases B:Nm.at' a k<Nm.at' b k
     ·have n:Hid (Nm.cmp (Nm.val 4294967296 a) (Nm.val 4294967296 b)=-1):=Nm.jB (Nm.aOM (by decide) p.out.fB GB.out.fB k q.out B (by omega) o);generalize Nm.at' a k=y at*;generalize Nm.at' b k=z at*
      go_wp2_with fail
      go_quiet (fail)
      go_wp2_with fail
      go_ret
      exact⟨by rw[n.out];rfl,below_drewN d.out _⟩
     ·by_cases C:Nm.at' b k<Nm.at' a k
      ·have n:Hid (Nm.cmp (Nm.val 4294967296 a) (Nm.val 4294967296 b)=1):=Nm.gV (Nm.aOM (by decide) GB.out.fB p.out.fB k q.out.symm C o (by omega));generalize Nm.at' a k=y at*;generalize Nm.at' b k=z at*
       go_wp2_with fail
       go_quiet (fail)
       go_wp2_with fail
       go_quiet (fail)
       go_wp2_with fail
       go_ret
       exact⟨by rw[n.out];rfl,by first|exact below_drewN d.out _|exact below_drewN (below_drewN d.out _) _⟩
      ·have s:Nm.at' a k=Nm.at' b k:=by omega
       have r:=hid (Nm.aPv h.out (by omega) q.out s);rw[<-s]at x2;clear B C s;generalize Nm.at' a k=y at*
       go_wp2_with fail
       go_quiet (fail)
       go_wp2_with fail
       go_quiet (fail)
       go_wp2_with fail
       go_roundw
       case rel=>exact⟨k,by omega,by simp,r.out,by first|exact below_drewN d.out _|exact below_drewN (below_drewN d.out _) _⟩
       case measure=>simp[intOf]
variable {x:Int}
theorem Nm.Tn (h:k<s.length):(s.set k x).take (k+1)=s.take k++[x]:=by
 rw[List.take_succ_eq_append_getElem (by simpa using h),List.take_set_of_le (Nat.le_refl _)];simp
variable {v:Int}{w:Nat}{a b:List Int}
theorem Nm.aKJ {c:Int}(g:2<=v){out:List Int}(u:out.length=w+1)(l:Nm.dK v out)(j:a.length<=w)(k:b.length<=w)(d:Nm.dK v a)(e:Nm.dK v b)(c0:0<=c)
  (h:Nm.val v (out.take (w+1))+c*v^(w+1)=Nm.val v (a.take (w+1))+Nm.val v (b.take (w+1))):Nm.val v out=Nm.val v a+Nm.val v b:=by
 rw[Nm.Ey v out (by omega),Nm.Ey v a (by omega),Nm.Ey v b (by omega)]at h;have n:=Nm.xF (by omega) d;have o:=Nm.xF (by omega) e;have p:=Nm.tK (B:=v) (by omega) j;have q:=Nm.tK (B:=v) (by omega) k;have r:=Nm.uF (by omega) l;have i:=Nm.jZ (B:=v) (by omega) w;have s:2*v^w<=v*v^w:=Int.mul_le_mul_of_nonneg_right g (Int.le_of_lt i);rw[Int.pow_succ,Int.mul_comm (v^w) v]at h
 have f:c*(v*v^w)<1*(v*v^w):=by omega
 have h8:=Int.lt_of_mul_lt_mul_right f (by omega)
 have:c=0:=by omega
 subst this;omega
variable {n:World}
theorem dQ.used {G:Nat}(h:dQ n G s)(g:s.length<=100000000000){B:Nat}(f:B<=G):cG B n (Nm.strip s) (.slice (some ⟨G,0,none⟩) (Nm.strip s).length s.length):=by
 obtain⟨a,e,d⟩:=h;have b:=Nm.yH s;refine⟨by simp,Or.inr ⟨G,s.length,a,rfl,f,e,b,by unfold maxLen;omega,?_,?_⟩⟩
 ·rw[<-Array.length_toList,d];simp
 ·rw[d,Nat.mul_one,<-List.map_take,<-Nm.Xn]
def uG (w:World)(a b:List Int)(N:Nat)(c i:Value)(wr:World):Prop:=
 ∃(k:Nat) (d:Int) (out:List Int),i=.int .i64 k/\c=.int .u64 d/\0<=d/\d<=1/\k<=N+1/\dQ wr w.heap.size out/\out.length=N+1/\Nm.dK 4294967296 out/\Below w.heap.size w wr/\
  Nm.val 4294967296 (out.take k)+d*4294967296^k=Nm.val 4294967296 (a.take k)+Nm.val 4294967296 (b.take k)
theorem aFs {wr:World}{out:List Int}(c0:0<=v)(c1:v<=1)(o:k<w+1)(e:dQ wr n.heap.size out)(g:out.length=w+1)(f:Nm.dK 4294967296 out)(d:Below n.heap.size n wr)(i:Nm.dK 4294967296 a)(j:Nm.dK 4294967296 b)
  (h:Nm.val 4294967296 (out.take k)+v*4294967296^k=Nm.val 4294967296 (a.take k)+Nm.val 4294967296 (b.take k)) (l:x=v+Nm.at' a k+Nm.at' b k):
  uG n a b w (.int .u64 (x/4294967296)) (.int .i64 ((k:Int)+1)) (wr.setCell ⟨n.heap.size,k,none⟩ (.int .u32 (x%4294967296))):=by
 have a0:=i.at' (by decide) k;have b0:=j.at' (by decide) k;refine⟨k+1,x/4294967296,out.set k (x%4294967296),by simp,rfl,by omega,by omega,by omega,e.set _ _,by simpa using g,f.set _ (by omega) (by omega),d.setCell (by simp) _,?_⟩;rw[Nm.Tn (by omega)];exact Nm.aN6 (by rw[List.length_take];omega) h l
theorem aI6 (w:World)(a b:List Int)(u v:Value)(H:Lims w a u)(I:Lims w b v)(af:a.length<=10000000000)(ag:b.length<=10000000000)(F:Nm.dK 4294967296 a)(A:Nm.dK 4294967296 b)(ai:(a.length:Int)<b.length):
  Calls prog 140 #[u,v] w (cP w fun C=>Nm.Good 4294967296 C/\Nm.val 4294967296 C=Nm.val 4294967296 a+Nm.val 4294967296 b):=by
 obtain⟨ao,ab,rfl,U⟩:=H.shape;obtain⟨bo,aa,rfl,T⟩:=I.shape;have J:=run_make_row' (P:=prog) 87 168 (.int .u32 0) 4 underlying87 lQ rfl .i64 .i64 (b.length+1) (by omega) (by omega);rw[show((b.length+1:Nat):Int)=(b.length:Int)+1 by omega]at J;have W:=hid H;have M:=hid I;have D:=hid F;have GB:=hid A;clear H I F A
 go_enter func140,ntmps140
 go_wp2_with fail
 go_loopw [7,8] (fun c i wr=>uG w a b b.length c i wr) (fun _ i _=>b.length+1-(intOf i).toNat)
 case atStart=>exact⟨0,0,List.replicate (b.length+1) 0,rfl,rfl,by omega,by omega,by omega,dQ.made w _,by simp,Nm.dK.mS (by decide) _,aX (Below.refl _ _) (Nat.le_refl _) _,rfl⟩
 case round=>
  obtain⟨k,cc,out,rfl,rfl,c0,c1,hk,g,d,j,f,l⟩:=hrel
  by_cases ah:(k:Int)<(b.length:Int)+1
  ·have k1:=g.cell k (by omega);have k2:=g.frozen k;have ST:=hid (fun x hx=>aFs (x:=x) c0 c1 (by omega) g d j f D.out GB.out l hx);have a0:=D.out.at' (by decide) k;have b0:=GB.out.at' (by decide) k;have O:=hid d
   by_cases g1:(k:Int)<a.length
   ·obtain⟨F,rfl,s⟩:=(W.out.below f).place (by omega);have x1:=s k (by omega);clear s
    by_cases g2:(k:Int)<b.length
    ·obtain⟨A,rfl,p⟩:=(M.out.below f).place (by omega);have x2:=p k (by omega);clear p l d j f g;generalize Nm.at' a k=x at*;generalize Nm.at' b k=y at*;generalize Nm.at' out k=o at*;obtain⟨a1,a2⟩:=a0;obtain⟨b1,b2⟩:=b0
     go_wp2_with fail
     go_roundw
     case rel=>exact ST.out _ (by omega)
     case measure=>simp[intOf];omega
    ·exfalso;omega
   ·have z:=Nm.Fc (xs:=a) (i:=k) (by omega)
    by_cases g2:(k:Int)<b.length
    ·obtain⟨A,rfl,p⟩:=(M.out.below f).place (by omega);have x2:=p k (by omega);clear p l d j f g;generalize Nm.at' a k=x at*;generalize Nm.at' b k=y at*;generalize Nm.at' out k=o at*;obtain⟨b1,b2⟩:=b0;have q:=hid z;clear z a0
     go_wp2_with fail
     go_roundw
     case rel=>exact ST.out _ (by have:=q.out;omega)
     case measure=>simp[intOf];omega
    ·have S:=Nm.Fc (xs:=b) (i:=k) (by omega);clear l d j f g;generalize Nm.at' a k=x at*;generalize Nm.at' b k=y at*;generalize Nm.at' out k=o at*;have q:=hid z;have E:=hid S;clear z a0 S b0
     go_wp2_with fail
     go_roundw
     case rel=>
      have h:=ST.out cc (by have:=q.out;have:=E.out;omega)
      first
       |exact h
       |(rw[Int.emod_eq_of_lt c0 (by omega)]at h;exact h)
       |(rw[Int.emod_eq_of_lt c0 (by omega),Int.ediv_eq_zero_of_lt c0 (by omega)]at h;exact h)
     case measure=>simp[intOf];omega
  ·obtain rfl:k=b.length+1:=by omega
   have Y:=hid (Nm.aKJ (by decide) d j (by omega) (by omega) D.out GB.out c0 l);have R:=hid (Dd wr out _ 0 (g.sO (by omega)) (by omega));rw[d]at R;have L:=Nm.yH out;rw[d]at L;have N:=hid (g.used (B:=w.heap.size) (by omega) (Nat.le_refl _));rw[d]at N;have X:=hid j;have r:=hid f;clear l d j f g;generalize hn:(Nm.strip out).length=n at*;clear hn
   go_wp2_with fail
   refine(R.out).mono ?_;rintro e w1⟨rfl,rfl⟩
   go_wp2_with fail
   go_ret
   exact⟨_,Nm.strip out,rfl,⟨Nm.Cz X.out,by rw[Nm.Cy,Y.out]⟩,N.out,r.out⟩
theorem aI5 (w:World)(a b:List Int)(u v:Value)(H:Lims w a u)(I:Lims w b v)(ag:a.length<=10000000000)(ah:b.length<=10000000000)(E:Nm.dK 4294967296 a)(F:Nm.dK 4294967296 b)(aj:¬(a.length:Int)<b.length):
  Calls prog 140 #[u,v] w (cP w fun A=>Nm.Good 4294967296 A/\Nm.val 4294967296 A=Nm.val 4294967296 a+Nm.val 4294967296 b):=by
 obtain⟨ao,ad,rfl,T⟩:=H.shape;obtain⟨bo,ab,rfl,S⟩:=I.shape;have J:=run_make_row' (P:=prog) 87 168 (.int .u32 0) 4 underlying87 lQ rfl .i64 .i64 (a.length+1) (by omega) (by omega);rw[show((a.length+1:Nat):Int)=(a.length:Int)+1 by omega]at J;have U:=hid H;have W:=hid I;have C:=hid E;have GB:=hid F;clear H I E F
 go_enter func140,ntmps140
 go_wp2_with fail
 go_loopw [7,8] (fun c i wr=>uG w a b a.length c i wr) (fun _ i _=>a.length+1-(intOf i).toNat)
 case atStart=>exact⟨0,0,List.replicate (a.length+1) 0,rfl,rfl,by omega,by omega,by omega,dQ.made w _,by simp,Nm.dK.mS (by decide) _,aX (Below.refl _ _) (Nat.le_refl _) _,rfl⟩
 case round=>
  obtain⟨k,cc,out,rfl,rfl,c0,c1,hk,f,d,j,g,l⟩:=hrel
  by_cases ai:(k:Int)<(a.length:Int)+1
  ·have k1:=f.cell k (by omega);have k2:=f.frozen k;have ST:=hid (fun x hx=>aFs (x:=x) c0 c1 (by omega) f d j g C.out GB.out l hx);have a0:=C.out.at' (by decide) k;have b0:=GB.out.at' (by decide) k;have N:=hid d
   by_cases g1:(k:Int)<a.length
   ·obtain⟨E,rfl,s⟩:=(U.out.below g).place (by omega);have x1:=s k (by omega);clear s
    by_cases g2:(k:Int)<b.length
    ·obtain⟨F,rfl,z⟩:=(W.out.below g).place (by omega);have x2:=z k (by omega);clear z l d j g f;generalize Nm.at' a k=x at*;generalize Nm.at' b k=y at*;generalize Nm.at' out k=o at*;obtain⟨a1,a2⟩:=a0;obtain⟨b1,b2⟩:=b0
     go_wp2_with fail
     go_roundw
     case rel=>exact ST.out _ (by omega)
     case measure=>simp[intOf];omega
    ·have r:=Nm.Fc (xs:=b) (i:=k) (by omega);clear l d j g f;generalize Nm.at' a k=x at*;generalize Nm.at' b k=y at*;generalize Nm.at' out k=o at*;obtain⟨a1,a2⟩:=a0;have p:=hid r;clear r b0
     go_wp2_with fail
     go_roundw
     case rel=>exact ST.out _ (by have:=p.out;omega)
     case measure=>simp[intOf];omega
   ·have R:=Nm.Fc (xs:=a) (i:=k) (by omega)
    by_cases g2:(k:Int)<b.length
    ·exfalso;omega
    ·have r:=Nm.Fc (xs:=b) (i:=k) (by omega);clear l d j g f;generalize Nm.at' a k=x at*;generalize Nm.at' b k=y at*;generalize Nm.at' out k=o at*;have D:=hid R;have p:=hid r;clear R a0 r b0
     go_wp2_with fail
     go_roundw
     case rel=>
      have h:=ST.out cc (by have:=D.out;have:=p.out;omega)
      first
       |exact h
       |(rw[Int.emod_eq_of_lt c0 (by omega)]at h;exact h)
       |(rw[Int.emod_eq_of_lt c0 (by omega),Int.ediv_eq_zero_of_lt c0 (by omega)]at h;exact h)
     case measure=>simp[intOf];omega
  ·obtain rfl:k=a.length+1:=by omega
   have Y:=hid (Nm.aKJ (by decide) d j (by omega) (by omega) C.out GB.out c0 l);have O:=hid (Dd wr out _ 0 (f.sO (by omega)) (by omega));rw[d]at O;have L:=Nm.yH out;rw[d]at L;have M:=hid (f.used (B:=w.heap.size) (by omega) (Nat.le_refl _));rw[d]at M;have X:=hid j;have q:=hid g;clear l d j g f;generalize hn:(Nm.strip out).length=n at*;clear hn
   go_wp2_with fail
   refine(O.out).mono ?_;rintro e w1⟨rfl,rfl⟩
   go_wp2_with fail
   go_ret
   exact⟨_,Nm.strip out,rfl,⟨Nm.Cz X.out,by rw[Nm.Cy,Y.out]⟩,M.out,q.out⟩
theorem aER (w:World)(a b:List Int)(u v:Value)(i:Lims w a u)(j:Lims w b v)(d:a.length<=10000000000)(e:b.length<=10000000000)(f:Nm.dK 4294967296 a)(g:Nm.dK 4294967296 b):
  Calls prog 140 #[u,v] w (cP w fun k=>Nm.Good 4294967296 k/\Nm.val 4294967296 k=Nm.val 4294967296 a+Nm.val 4294967296 b):=by
 by_cases h:(a.length:Int)<b.length
 ·exact aI6 w a b u v i j d e f g h
 ·exact aI5 w a b u v i j d e f g h
def Bi (w:World)(a b:List Int)(c i:Value)(wr:World):Prop:=
 ∃(k:Nat) (d:Int) (out:List Int),i=.int .i64 k/\c=.int .u64 d/\0<=d/\d<=1/\k<=a.length/\dQ wr w.heap.size out/\out.length=a.length/\Nm.dK 4294967296 out/\Below w.heap.size w wr/\
  Nm.val 4294967296 (out.take k)+Nm.val 4294967296 (b.take k)=Nm.val 4294967296 (a.take k)+d*4294967296^k
theorem aJN {wr:World}{out:List Int}{c' d:Int}(c0:0<=c')(c1:c'<=1)(l:k<a.length)(f:dQ wr n.heap.size out)(h:out.length=a.length)(g:Nm.dK 4294967296 out)(e:Below n.heap.size n wr)
  (i:Nm.val 4294967296 (out.take k)+Nm.val 4294967296 (b.take k)=Nm.val 4294967296 (a.take k)+v*4294967296^k) (d0:0<=d) (d1:d<4294967296) (j:d=Nm.at' a k-Nm.at' b k-v+c'*4294967296):
  Bi n a b (.int .u64 c') (.int .i64 ((k:Int)+1)) (wr.setCell ⟨n.heap.size,k,none⟩ (.int .u32 d)):=by
 refine⟨k+1,c',out.set k d,by simp,rfl,c0,c1,by omega,f.set _ _,by simpa using h,g.set _ d0 d1,e.setCell (by simp) _,?_⟩;rw[Nm.Tn (by omega)];exact Nm.aNx (by rw[List.length_take];omega) i j
theorem Jt (w:World)(a b:List Int)(u v:Value)(I:Lims w a u)(J:Lims w b v)(ak:a.length<=10000000000)(L:b.length<=a.length)(F:Nm.dK 4294967296 a)(H:Nm.dK 4294967296 b)(A:Nm.val 4294967296 b<=Nm.val 4294967296 a):
  Calls prog 142 #[u,v] w (cP w fun N=>Nm.Good 4294967296 N/\Nm.val 4294967296 N=Nm.val 4294967296 a-Nm.val 4294967296 b):=by
 obtain⟨ao,aj,rfl,Y⟩:=I.shape;obtain⟨bo,ai,rfl,X⟩:=J.shape;have ap:=run_make_row' (P:=prog) 87 168 (.int .u32 0) 4 underlying87 lQ rfl .i64 .i64 a.length (by omega) (by omega);have HA:=hid I;have HB:=hid J;have GA:=hid F;have GB:=hid H;have C:=hid A;clear I J F H A
 go_enter func142,ntmps142
 go_wp2_with fail
 go_loopw [6,7] (fun c i wr=>Bi w a b c i wr) (fun _ i _=>a.length-(intOf i).toNat)
 case atStart=>exact⟨0,0,List.replicate a.length 0,rfl,rfl,by omega,by omega,by omega,dQ.made w _,by simp,Nm.dK.mS (by decide) _,aX (Below.refl _ _) (Nat.le_refl _) _,rfl⟩
 case round=>
  obtain⟨k,U,out,rfl,rfl,c0,c1,hk,f,g,j,h,l⟩:=hrel
  by_cases am:(k:Int)<a.length
  ·have k1:=f.cell k (by omega);have k2:=f.frozen k;have ST:=hid (fun T d D E d0 d1 hd=>aJN (c':=T) (d:=d) D E (by omega) f g j h l d0 d1 hd);have a0:=GA.out.at' (by decide) k;have b0:=GB.out.at' (by decide) k;have R:=hid g;obtain⟨F,rfl,r⟩:=(HA.out.below h).place (by omega);have x1:=r k (by omega);clear r
   by_cases g2:(k:Int)<b.length
   ·obtain⟨H,rfl,s⟩:=(HB.out.below h).place (by omega);have x2:=s k (by omega);clear s l g j h f;generalize Nm.at' a k=x at*;generalize Nm.at' b k=y at*;generalize Nm.at' out k=o at*;obtain⟨a1,a2⟩:=a0;obtain⟨b1,b2⟩:=b0
    by_cases hc:x<U+y
    ·go_wp2_with fail
     go_roundw
     case rel=>exact ST.out 1 _ (by omega) (by omega) (by omega) (by omega) (by omega)
     case measure=>simp[intOf];omega
    ·go_wp2_with fail
     go_roundw
     case rel=>exact ST.out 0 _ (by omega) (by omega) (by omega) (by omega) (by omega)
     case measure=>simp[intOf];omega
   ·have W:=Nm.Fc (xs:=b) (i:=k) (by omega);clear l g j h f;generalize Nm.at' a k=x at*;generalize Nm.at' b k=y at*;generalize Nm.at' out k=o at*;obtain⟨a1,a2⟩:=a0;have q:=hid W;clear W b0
    by_cases hc:x<U
    ·go_wp2_with fail
     go_roundw
     case rel=>exact ST.out 1 _ (by omega) (by omega) (by omega) (by omega) (by have:=q.out;omega)
     case measure=>simp[intOf];omega
    ·go_wp2_with fail
     go_roundw
     case rel=>exact ST.out 0 _ (by omega) (by omega) (by omega) (by omega) (by have:=q.out;omega)
     case measure=>simp[intOf];omega
  ·obtain rfl:k=a.length:=by omega
   have z:(out.take a.length).length=a.length:=by rw[List.length_take];omega
   have HE:=hid (Nm.aPu (by decide) rfl z (j.take _) c0 C.out L l);have HT:=hid (show out.take a.length=out from List.take_of_length_le (by omega));have S:=hid (Dd wr out _ 0 (f.sO (by omega)) (by omega));rw[g]at S;have M:=Nm.yH out;rw[g]at M;have O:=hid (f.used (B:=w.heap.size) (by omega) (Nat.le_refl _));rw[g]at O;have HD:=hid j;have p:=hid h;clear l g j h f z;generalize hn:(Nm.strip out).length=n at*;clear hn
   go_wp2_with fail
   refine(S.out).mono ?_;rintro e w1⟨rfl,rfl⟩
   go_wp2_with fail
   go_ret
   exact⟨_,Nm.strip out,rfl,⟨Nm.Cz HD.out,by rw[Nm.Cy,<-HE.out.2,HT.out]⟩,O.out,p.out⟩
theorem Nm.Mb {j:Nat}(h:k≠j):Nm.at' (s.set k x) j=Nm.at' s j:=by
 unfold Nm.at';simp[List.getD,List.getElem?_set_ne h]
theorem Nm.aJ3 (n i:Nat):Nm.at' (List.replicate n 0) i=0:=by
 unfold Nm.at';rw[List.getD_eq_getElem?_getD]
 cases h:(List.replicate n (0:Int))[i]? with
 |none=>rfl
 |some x=>have:=List.mem_of_getElem? h;rw[List.mem_replicate]at this;rw[this.2];rfl
def wN (w:World)(S L:List Int)(i:Value)(wr:World):Prop:=
 ∃(k:Nat) (out:List Int),i=.int .i64 k/\k<=S.length/\dQ wr w.heap.size out/\out.length=S.length+L.length/\Nm.dK 4294967296 out/\Below w.heap.size w wr/\Nm.val 4294967296 out=Nm.val 4294967296 (S.take k)*Nm.val 4294967296 L/\(∀t,k+L.length<=t->Nm.at' out t=0)
def El (w:World)(S L:List Int)(i:Nat)(c b:Value)(wr:World):Prop:=
 ∃(j:Nat) (a:Int) (out:List Int),b=.int .i64 j/\c=.int .u64 a/\0<=a/\a<4294967296/\j<=L.length/\dQ wr w.heap.size out/\out.length=S.length+L.length/\Nm.dK 4294967296 out/\Below w.heap.size w wr/\
  Nm.val 4294967296 out+a*4294967296^(i+j)=Nm.val 4294967296 (S.take i)*Nm.val 4294967296 L+Nm.at' S i*Nm.val 4294967296 (L.take j)*4294967296^i/\(∀t,i+L.length<=t->Nm.at' out t=0)
theorem aRs {out:List Int}(d:k+b.length<out.length)(e:Nm.at' out (k+b.length)=0)(h:Nm.val 4294967296 out+v*4294967296^(k+b.length)=Nm.val 4294967296 (a.take k)*Nm.val 4294967296 b+Nm.at' a k*Nm.val 4294967296 (b.take b.length)*4294967296^k):
  Nm.val 4294967296 (out.set (k+b.length) v)=Nm.val 4294967296 (a.take (k+1))*Nm.val 4294967296 b:=by
 rw[List.take_length]at h;rw[Nm.aOO _ _ _ _ d,e,Nm.yG];generalize (4294967296:Int)^(k+b.length)=P at*;grind
theorem Wz (w:World)(a b:List Int)(u v:Value)(W:Lims w a u)(Y:Lims w b v)(a7:a.length<=10000000000)(a8:b.length<=10000000000)(ga:Nm.dK 4294967296 a)(gb:Nm.dK 4294967296 b):
  Calls prog 137 #[u,v] w (cP w fun xs=>Nm.Good 4294967296 xs/\Nm.val 4294967296 xs=Nm.val 4294967296 a*Nm.val 4294967296 b):=by
 obtain⟨ao,a3,rfl,av⟩:=W.shape;obtain⟨bo,az,rfl,au⟩:=Y.shape;have ak:=run_make_row' (P:=prog) 87 168 (.int .u32 0) 4 underlying87 lQ rfl .i64 .i64 (a.length+b.length) (by omega) (by omega);rw[show((a.length+b.length:Nat):Int)=(a.length:Int)+b.length by omega]at ak
 by_cases a6:(b.length:Int)<a.length
 ·have T:=hid Y;have J:=hid W;have GS:=hid gb;have GL:=hid ga;clear W Y ga gb
  go_enter func137,ntmps137
  go_wp2_with fail
  go_loopw [8] (fun i wr=>wN w b a i wr) (fun i _=>b.length-(intOf i).toNat)
  case atStart=>exact⟨0,List.replicate (a.length+b.length) 0,rfl,Nat.zero_le _,dQ.made w _,by simp;try omega,Nm.dK.mS (by decide) _,aX (Below.refl _ _) (Nat.le_refl _) _,by rw[Nm.Ya];simp[Nm.val],fun t _=>Nm.aJ3 _ _⟩
  case round=>
   obtain⟨k,out,rfl,hk,d,h,p,l,r,z⟩:=hrel;have HV:=hid r;have L:=hid h;have E:=hid p;have A:=hid l;have I:=hid d;have N:=hid z;have hs:=d.lt
   by_cases aj:(k:Int)<b.length
   ·obtain⟨g,rfl,_⟩:=T.out.place (by omega)
    obtain⟨wo,R⟩:∃wo:World,wo=wr:=⟨_,rfl⟩
    subst R;have x1:=(T.out.below A.out).nQ k (by omega);clear r h p l d z;have a0:=GS.out.at' (by decide) k
    have i5:(k:Int)+a.length<=(a.length:Int)+b.length:=by omega
    have i6:IntKind.i64.wrap ((k:Int)+a.length)=(k:Int)+a.length:=by rw[IntKind.wrap_i64];omega
    have i7:((k:Int)+a.length).toNat=k+a.length:=by omega
    have i8:k+a.length-k=a.length:=by omega
    have i9:(0:Int)<=(k:Int)+a.length:=by omega
    have ap:(k:Int)<=(k:Int)+a.length:=by omega
    have aq:k+a.length<=a.length+b.length:=by omega
    have ar:k<=k+a.length:=by omega
    go_wp2_with fail
    go_loopw [11,12] (fun c j wr=>El w b a k c j wr) (fun _ j _=>a.length-(intOf j).toNat)
    case atStart=>
     refine⟨0,0,out,rfl,rfl,by omega,by omega,by omega,I.out,L.out,E.out,A.out,?_,N.out⟩;rw[HV.out];simp[Nm.val]
    case round=>
     obtain⟨j,H,f,rfl,rfl,c0,c1,hj,d,h,p,l,r,z⟩:=hrel;have am:=d.lt
     by_cases gg:(j:Int)<a.length
     ·have D:k+j<f.length:=by rw[h];omega
      obtain⟨g2,rfl,_⟩:=J.out.place (by omega);have y1:=(J.out.below l).nQ j (by omega);have x2:=d.cell (k+j) D;have x3:=d.frozen (k+j);have b0:=GL.out.at' (by decide) j;have S:=p.at' (by decide) (k+j);have C:=Nm.aIi (x:=H+Nm.at' f (k+j)+Nm.at' b k*Nm.at' a j) (by decide) c0 c1 S.1 S.2 a0.1 a0.2 b0.1 b0.2 rfl;have ST:=hid (Nm.aKu (x:=H+Nm.at' f (k+j)+Nm.at' b k*Nm.at' a j) D r rfl)
      have F:Hid (∀X q,X=H+Nm.at' f (k+j)+Nm.at' b k*Nm.at' a j->El w b a k (.int .u64 (X/4294967296)) (.int .i64 ((j:Int)+1)) ((wr.drewN q).setCell ⟨w.heap.size,k+j,none⟩ (.int .u32 (X%4294967296)))):=by
       rintro X q rfl;refine⟨j+1,_,f.set (k+j) ((H+Nm.at' f (k+j)+Nm.at' b k*Nm.at' a j)%4294967296),by simp,rfl,C.2.1,C.2.2.1,by omega,(show dQ (wr.drewN q) w.heap.size f from d).set _ _,by simpa using h,p.set _ (by omega) (by omega),(below_drewN l q).setCell (by simp) _,ST.out,?_⟩;intro t ht;rw[Nm.Mb (by omega)];exact z t ht
      clear r h p l d z ST;generalize Nm.at' b k=x at*;generalize Nm.at' a j=y at*;generalize Nm.at' f (k+j)=o at*;obtain⟨a1,a2⟩:=a0;obtain⟨b1,b2⟩:=b0;obtain⟨o1,o2⟩:=S;obtain⟨k0,k1,k2,k3⟩:=C;have p0:0<=x*y:=Int.mul_nonneg a1 b1;have p1:x*y<=4294967295*4294967295:=Int.mul_le_mul (by omega) (by omega) b1 (by omega)
      go_wp2_with fail
      go_quiet (fail)
      go_wp2_with fail
      go_roundw
      case rel=>exact F.out (H+(x*y+o)) _ (by rw[Int.add_comm (x*y) o,Int.add_assoc])
      case measure=>simp[intOf];omega
     ·obtain rfl:j=a.length:=by omega
      have D:k+a.length<f.length:=by rw[h];omega
      have M:=hid (aRs D (z _ (Nat.le_refl _)) r);have x2:=d.cell (k+a.length) D;have x3:=d.frozen (k+a.length)
      have F:Hid (wN w b a (.int .i64 ((k:Int)+1)) (wr.setCell ⟨w.heap.size,k+a.length,none⟩ (.int .u32 H))):=by
       refine⟨k+1,f.set (k+a.length) H,by simp,by omega,d.set _ _,by simpa using h,p.set _ c0 c1,l.setCell (by simp) _,M.out,?_⟩;intro t ht;rw[Nm.Mb (by omega)];exact z t (by omega)
      have i1:(k:Int)+a.length<(a.length:Int)+b.length:=by omega
      clear r h p l d z M;generalize Nm.at' f (k+a.length)=o at*
      go_wp2_with fail
      go_roundw
      case rel=>exact F.out
      case measure=>simp[intOf];omega
   ·obtain rfl:k=b.length:=by omega
    have HE:=hid (show Nm.val 4294967296 out=Nm.val 4294967296 b*Nm.val 4294967296 a by rw[r,List.take_length]);have U:=hid (Dd wr out _ 0 (d.sO (by omega)) (by omega))
    have s:out.length=a.length+b.length:=by omega
    rw[s]at U;have O:=Nm.yH out;rw[s]at O;have J:=hid (d.used (B:=w.heap.size) (by omega) (Nat.le_refl _));rw[s]at J;clear r h p l d z s;generalize hn:(Nm.strip out).length=n at*;clear hn
    go_wp2_with fail
    refine(U.out).mono ?_;rintro e w1⟨rfl,rfl⟩
    go_wp2_with fail
    go_ret
    exact⟨_,Nm.strip out,rfl,⟨Nm.Cz E.out,by rw[Nm.Cy,HE.out];exact Int.mul_comm _ _⟩,J.out,A.out⟩
 ·have T:=hid W;have J:=hid Y;have GS:=hid ga;have GL:=hid gb;clear W Y ga gb
  go_enter func137,ntmps137
  go_wp2_with fail
  go_loopw [8] (fun i wr=>wN w a b i wr) (fun i _=>a.length-(intOf i).toNat)
  case atStart=>exact⟨0,List.replicate (a.length+b.length) 0,rfl,Nat.zero_le _,dQ.made w _,by simp;try omega,Nm.dK.mS (by decide) _,aX (Below.refl _ _) (Nat.le_refl _) _,by rw[Nm.Ya];simp[Nm.val],fun t _=>Nm.aJ3 _ _⟩
  case round=>
   obtain⟨k,out,rfl,hk,d,h,p,l,r,z⟩:=hrel;have HV:=hid r;have L:=hid h;have E:=hid p;have A:=hid l;have I:=hid d;have N:=hid z;have hs:=d.lt
   by_cases aj:(k:Int)<a.length
   ·obtain⟨g,rfl,_⟩:=T.out.place (by omega)
    obtain⟨wo,R⟩:∃wo:World,wo=wr:=⟨_,rfl⟩
    subst R;have x1:=(T.out.below A.out).nQ k (by omega);clear r h p l d z;have a0:=GS.out.at' (by decide) k
    have i5:(k:Int)+b.length<=(a.length:Int)+b.length:=by omega
    have i6:IntKind.i64.wrap ((k:Int)+b.length)=(k:Int)+b.length:=by rw[IntKind.wrap_i64];omega
    have i7:((k:Int)+b.length).toNat=k+b.length:=by omega
    have i8:k+b.length-k=b.length:=by omega
    have i9:(0:Int)<=(k:Int)+b.length:=by omega
    have ap:(k:Int)<=(k:Int)+b.length:=by omega
    have aq:k+b.length<=a.length+b.length:=by omega
    have ar:k<=k+b.length:=by omega
    go_wp2_with fail
    go_loopw [11,12] (fun c j wr=>El w a b k c j wr) (fun _ j _=>b.length-(intOf j).toNat)
    case atStart=>
     refine⟨0,0,out,rfl,rfl,by omega,by omega,by omega,I.out,L.out,E.out,A.out,?_,N.out⟩;rw[HV.out];simp[Nm.val]
    case round=>
     obtain⟨j,H,f,rfl,rfl,c0,c1,hj,d,h,p,l,r,z⟩:=hrel;have am:=d.lt
     by_cases gg:(j:Int)<b.length
     ·have D:k+j<f.length:=by rw[h];omega
      obtain⟨g2,rfl,_⟩:=J.out.place (by omega);have y1:=(J.out.below l).nQ j (by omega);have x2:=d.cell (k+j) D;have x3:=d.frozen (k+j);have b0:=GL.out.at' (by decide) j;have S:=p.at' (by decide) (k+j);have C:=Nm.aIi (x:=H+Nm.at' f (k+j)+Nm.at' a k*Nm.at' b j) (by decide) c0 c1 S.1 S.2 a0.1 a0.2 b0.1 b0.2 rfl;have ST:=hid (Nm.aKu (x:=H+Nm.at' f (k+j)+Nm.at' a k*Nm.at' b j) D r rfl)
      have F:Hid (∀X q,X=H+Nm.at' f (k+j)+Nm.at' a k*Nm.at' b j->El w a b k (.int .u64 (X/4294967296)) (.int .i64 ((j:Int)+1)) ((wr.drewN q).setCell ⟨w.heap.size,k+j,none⟩ (.int .u32 (X%4294967296)))):=by
       rintro X q rfl;refine⟨j+1,_,f.set (k+j) ((H+Nm.at' f (k+j)+Nm.at' a k*Nm.at' b j)%4294967296),by simp,rfl,C.2.1,C.2.2.1,by omega,(show dQ (wr.drewN q) w.heap.size f from d).set _ _,by simpa using h,p.set _ (by omega) (by omega),(below_drewN l q).setCell (by simp) _,ST.out,?_⟩;intro t ht;rw[Nm.Mb (by omega)];exact z t ht
      clear r h p l d z ST;generalize Nm.at' a k=x at*;generalize Nm.at' b j=y at*;generalize Nm.at' f (k+j)=o at*;obtain⟨a1,a2⟩:=a0;obtain⟨b1,b2⟩:=b0;obtain⟨o1,o2⟩:=S;obtain⟨k0,k1,k2,k3⟩:=C;have p0:0<=x*y:=Int.mul_nonneg a1 b1;have p1:x*y<=4294967295*4294967295:=Int.mul_le_mul (by omega) (by omega) b1 (by omega)
      go_wp2_with fail
      go_quiet (fail)
      go_wp2_with fail
      go_roundw
      case rel=>exact F.out (H+(x*y+o)) _ (by rw[Int.add_comm (x*y) o,Int.add_assoc])
      case measure=>simp[intOf];omega
     ·obtain rfl:j=b.length:=by omega
      have D:k+b.length<f.length:=by rw[h];omega
      have M:=hid (aRs D (z _ (Nat.le_refl _)) r);have x2:=d.cell (k+b.length) D;have x3:=d.frozen (k+b.length)
      have F:Hid (wN w a b (.int .i64 ((k:Int)+1)) (wr.setCell ⟨w.heap.size,k+b.length,none⟩ (.int .u32 H))):=by
       refine⟨k+1,f.set (k+b.length) H,by simp,by omega,d.set _ _,by simpa using h,p.set _ c0 c1,l.setCell (by simp) _,M.out,?_⟩;intro t ht;rw[Nm.Mb (by omega)];exact z t (by omega)
      have i1:(k:Int)+b.length<(a.length:Int)+b.length:=by omega
      clear r h p l d z M;generalize Nm.at' f (k+b.length)=o at*
      go_wp2_with fail
      go_roundw
      case rel=>exact F.out
      case measure=>simp[intOf];omega
   ·obtain rfl:k=a.length:=by omega
    have HE:=hid (show Nm.val 4294967296 out=Nm.val 4294967296 a*Nm.val 4294967296 b by rw[r,List.take_length]);have U:=hid (Dd wr out _ 0 (d.sO (by omega)) (by omega))
    have s:out.length=a.length+b.length:=by omega
    rw[s]at U;have O:=Nm.yH out;rw[s]at O;have J:=hid (d.used (B:=w.heap.size) (by omega) (Nat.le_refl _));rw[s]at J;clear r h p l d z s;generalize hn:(Nm.strip out).length=n at*;clear hn
    go_wp2_with fail
    refine(U.out).mono ?_;rintro e w1⟨rfl,rfl⟩
    go_wp2_with fail
    go_ret
    exact⟨_,Nm.strip out,rfl,⟨Nm.Cz E.out,by rw[Nm.Cy,HE.out]⟩,J.out,A.out⟩
theorem wW {o:Obj}(a:Obj)(h:n.heap[k]?=some o):(n.alloc a).heap[k]?=some o:=by rw[Below.heap_alloc _ _ _ (eZ h)];exact h
structure Ww (w w2:World) (B:Nat) (z:Int) (p q:Value):Prop where
 c0:((w2.setCell ⟨B,0,none⟩ p).setCell ⟨B,1,none⟩ q).cell? ⟨B,0,none⟩=some p
 c1:((w2.setCell ⟨B,0,none⟩ p).setCell ⟨B,1,none⟩ q).cell? ⟨B,1,none⟩=some q
 num:WhoAt ((w2.setCell ⟨B,0,none⟩ p).setCell ⟨B,1,none⟩ q) z (.agg #[p,q])
 below:Below w.heap.size w ((w2.setCell ⟨B,0,none⟩ p).setCell ⟨B,1,none⟩ q)
theorem mD {b:World}{x f p q:Value}(h:b.heap[w]?=some (.cells #[x,f] 89 (0,0)))(i:WhoAt b v (.agg #[p,q]))(g:Below n.heap.size n b)(e:n.heap.size<=w):Ww n b w v p q:=by
 have a:=rU h (o:=0) p;have d:=rU a (o:=1) q;exact⟨bK d rfl,bK d rfl,(i.other h (by decide) p).other a (by decide) q,(g.setCell e _).setCell e _⟩
def kS (w:World)(a b c d:Value):World:=((w.alloc (.cells #[a,b] 89)).alloc (.cells #[c,d] 89)).alloc (.cells #[.bool false,.slice none 0 0] 89)
theorem Jy (w:World)(a b c d:Value):Below w.heap.size w (kS w a b c d).drew:=(aX (aX (aX (Below.refl _ _) (Nat.le_refl _) _) (by simp) _) (by simp;omega) _).trans ((vJ _).mono (by simp[kS];omega))
theorem zE (w:World)(a b c d:Value):(kS w a b c d).drew.heap.size=w.heap.size+3:=by simp[kS]
theorem My (w:World)(a b c d:Value):(kS w a b c d).drew.heap[w.heap.size]?=some (.cells #[a,b] 89 (0,0)):=wW _ (wW _ (wV _ _))
theorem Sp (w:World)(a b c d:Value):(kS w a b c d).drew.heap[w.heap.size+1]?=some (.cells #[c,d] 89 (0,0)):=by
 have:=wW (.cells #[.bool false,.slice none 0 0] 89) (wV (w.alloc (.cells #[a,b] 89)) (.cells #[c,d] 89));rw[World.size_alloc]at this;exact this
theorem Yv (w:World)(a b c d:Value):(kS w a b c d).drew.heap[w.heap.size+2]?=some (.cells #[.bool false,.slice none 0 0] 89 (0,0)):=by
 have:=wV ((w.alloc (.cells #[a,b] 89)).alloc (.cells #[c,d] 89)) (.cells #[.bool false,.slice none 0 0] 89);rw[World.size_alloc,World.size_alloc]at this;exact this
theorem mT (w:World)(a b c d:Value):Below w.heap.size w (kS w a b c d):=aX (aX (aX (Below.refl _ _) (Nat.le_refl _) _) (by simp) _) (by simp;omega) _
theorem tL (w:World)(a b c d:Value):(kS w a b c d).heap.size=w.heap.size+3:=by simp[kS]
theorem Ju (w:World)(a b c d:Value):(kS w a b c d).heap[w.heap.size]?=some (.cells #[a,b] 89 (0,0)):=My w a b c d
theorem Hh (w:World)(a b c d:Value):(kS w a b c d).heap[w.heap.size+1]?=some (.cells #[c,d] 89 (0,0)):=Sp w a b c d
theorem zD (w:World)(a b c d:Value):(kS w a b c d).heap[w.heap.size+2]?=some (.cells #[.bool false,.slice none 0 0] 89 (0,0)):=Yv w a b c d
theorem rV {z:Int}{v:Value}{a:Bool}(b:Lims n xs v)(e:Nm.Good 4294967296 xs)(hv:Nm.val 4294967296 xs=z.natAbs)(d:a=decide (z<0)):WhoAt n z (.agg #[.bool a,v]):=⟨xs,v,by rw[d],b,e,hv⟩
theorem aTr (n:Int)(w:World)(r:-9223372036854775808<=n)(q:n<9223372036854775808)(hc:n<0):Calls prog 72 #[.int .i64 n] w (bR w n):=by
 have o:Hid (∀W N,N=-n->Calls prog 89 #[.int .u64 N] W (cP W fun b=>Nm.Good 4294967296 b/\Nm.val 4294967296 b=-n/\b.length<=2)):=by
  rintro W N rfl;exact Mo _ W (by omega) (by omega)
 have i:decide (n<0)=true:=by simpa using hc
 go_enter func72,ntmps72
 go_wp2_with fail
 refine(o.out _ _ (by omega)).mono ?_;rintro e x⟨C,b,rfl,⟨p,hv,_⟩,f,d⟩;have g:=d.size;rw[World.size_alloc]at g;obtain⟨o1,c1,rfl,_⟩:=f.shape;have a:=cO (by rw[World.size_alloc];omega) (wV w (.cells #[.bool false,.slice none 0 0] 89)) d;have h:WhoAt x n (.agg #[.bool true,.slice o1 b.length c1]):=rV (f.bU (Nat.zero_le _)) p (by omega) i.symm;have j:=(aX (Below.refl w.heap.size w) (Nat.le_refl _) (.cells #[.bool false,.slice none 0 0] 89)).trans (d.mono (by rw[World.size_alloc];omega));have F:=mD a h j (by omega);obtain⟨y,z⟩:=tX a;obtain⟨A,B⟩:=iR a rfl rfl;have s:=F.c0;have u:=F.c1;have l:=hid F.num;have k:=hid F.below;clear F h j a;clear d f i
 go_wp2_with fail
 refine bodyPost_ret (v:=.agg #[.bool true,.slice o1 b.length c1]) (by simp[results,results72,go_sem,s,u]) rfl ⟨_,rfl,l.out,k.out⟩
theorem aTs (n:Int)(w:World)(r:-9223372036854775808<=n)(q:n<9223372036854775808)(hc:¬n<0):Calls prog 72 #[.int .i64 n] w (bR w n):=by
 have o:Hid (∀W N,N=n->Calls prog 89 #[.int .u64 N] W (cP W fun b=>Nm.Good 4294967296 b/\Nm.val 4294967296 b=n/\b.length<=2)):=by
  rintro W N rfl;exact Mo _ W (by omega) (by omega)
 have i:decide (n<0)=false:=by simpa using hc
 go_enter func72,ntmps72
 go_wp2_with fail
 refine(o.out _ _ (by omega)).mono ?_;rintro e x⟨C,b,rfl,⟨p,hv,_⟩,f,d⟩;have g:=d.size;rw[World.size_alloc]at g;obtain⟨o1,c1,rfl,_⟩:=f.shape;have a:=cO (by rw[World.size_alloc];omega) (wV w (.cells #[.bool false,.slice none 0 0] 89)) d;have h:WhoAt x n (.agg #[.bool false,.slice o1 b.length c1]):=rV (f.bU (Nat.zero_le _)) p (by omega) i.symm;have j:=(aX (Below.refl w.heap.size w) (Nat.le_refl _) (.cells #[.bool false,.slice none 0 0] 89)).trans (d.mono (by rw[World.size_alloc];omega));have F:=mD a h j (by omega);obtain⟨y,z⟩:=tX a;obtain⟨A,B⟩:=iR a rfl rfl;have s:=F.c0;have u:=F.c1;have l:=hid F.num;have k:=hid F.below;clear F h j a;clear d f i
 go_wp2_with fail
 refine bodyPost_ret (v:=.agg #[.bool false,.slice o1 b.length c1]) (by simp[results,results72,go_sem,s,u]) rfl ⟨_,rfl,l.out,k.out⟩
theorem aTq (n:Int)(w:World)(b:-9223372036854775808<=n)(a:n<9223372036854775808):Calls prog 72 #[.int .i64 n] w (bR w n):=by
 by_cases h:n<0
 ·exact aTr n w b a h
 ·exact aTs n w b a h
theorem Nq (a:Nm.Good 4294967296 s)(hv:Nm.val 4294967296 s=v.natAbs):s=[]↔v=0:=by
 have:=Nm.Tq (by decide) a;rw[hv]at this;rw[<-this];omega
theorem Za (w:World)(z:Int)(v:Value)(h:WhoAt w z v):Calls prog 78 #[v] w fun e j=>e=.returned (.int .i64 (Nm.cmp z 0))/\Below w.heap.size w j:=by
 obtain⟨b,k,f,rfl,g,d,hv⟩:=h.open;have a:=Nq d hv;clear g d hv h
 rcases Int.lt_trichotomy z 0 with h0|h0|h0
 ·have i:((b.length:Int)==0)=false:=by
   simp only[beq_eq_false_iff_ne,ne_eq];intro h;have:=a.1 (List.eq_nil_of_length_eq_zero (by omega));omega
  rw[Nm.jB h0,decide_eq_true h0];clear a
  go_enter func78,ntmps78
  go_wp2_with fail
  go_ret
  exact⟨rfl,aX (Below.refl _ _) (Nat.le_refl _) _⟩
 ·subst h0;have:=a.2 rfl;subst this;rw[Nm.jA rfl];clear a
  go_enter func78,ntmps78
  go_wp2_with fail
  go_ret
  exact⟨rfl,aX (Below.refl _ _) (Nat.le_refl _) _⟩
 ·have i:((b.length:Int)==0)=false:=by
   simp only[beq_eq_false_iff_ne,ne_eq];intro h;have:=a.1 (List.eq_nil_of_length_eq_zero (by omega));omega
  rw[Nm.gV h0,decide_eq_false (by omega)];clear a
  go_enter func78,ntmps78
  go_wp2_with fail
  go_ret
  exact⟨rfl,aX (Below.refl _ _) (Nat.le_refl _) _⟩
theorem aLf (w:World)(z:Int)(v:Value)(h:WhoAt w z v):Calls prog 90 #[v] w (bR w (-z)):=by
 obtain⟨d,i,b,rfl,n,j,hv⟩:=h.open;have o:=Nq j hv;have g:=hid n;have f:=hid j;have k:=hid hv;clear n j hv h
 by_cases a:z<0
 ·rw[decide_eq_true a]
  go_enter func90,ntmps90
  go_wp2_with fail
  refine bodyPost_ret (v:=.agg #[.bool false,.slice i d.length b]) (by simp[results,results90,go_sem]) rfl ⟨_,rfl,rV ((g.out.alloc _).alloc _) f.out (by rw[k.out];omega) (by symm;simp;omega),aX (aX (Below.refl _ _) (Nat.le_refl _) _) (by simp) _⟩
 ·rw[decide_eq_false a]
  by_cases l:z=0
  ·have e:=o.2 l;subst e
   go_enter func90,ntmps90
   go_wp2_with fail
   refine bodyPost_ret (v:=.agg #[.bool false,.slice i 0 b]) (by simp[results,results90,go_sem]) rfl ⟨_,rfl,rV (xs:=[]) ((g.out.alloc _).alloc _) f.out rfl rfl,aX (aX (Below.refl _ _) (Nat.le_refl _) _) (by simp) _⟩
  ·have q:(0:Int)<d.length:=by
    rcases Nat.eq_zero_or_pos d.length with h|h
    ·exact absurd (o.1 (List.eq_nil_of_length_eq_zero h)) l
    ·omega
   have p:0<d.length:=by omega
   go_enter func90,ntmps90
   go_wp2_with fail
   refine bodyPost_ret (v:=.agg #[.bool true,.slice i d.length b]) (by simp[results,results90,go_sem,p]) rfl ⟨_,rfl,rV ((g.out.alloc _).alloc _) f.out (by rw[k.out];omega) (by symm;simp;omega),aX (aX (Below.refl _ _) (Nat.le_refl _) _) (by simp) _⟩
theorem Zb (w:World)(z:Int)(v:Value)(h:WhoAt w z v):Calls prog 161 #[v] w (bR w (z.natAbs:Int)):=by
 obtain⟨j,i,a,rfl,b,d,hv⟩:=h.open;have f:=hid b;have e:=hid d;have g:=hid hv;clear b d hv h;generalize decide (z<0)=k at*
 go_enter func161,ntmps161
 go_wp2_with fail
 refine bodyPost_ret (v:=.agg #[.bool false,.slice i j.length a]) (by simp[results,results161,go_sem]) rfl ⟨_,rfl,rV ((f.out.alloc _).alloc _) e.out (by rw[g.out];simp) (by symm;simp),aX (aX (Below.refl _ _) (Nat.le_refl _) _) (by simp) _⟩
end Go.Proofs.YtkmojpfpfoaloaaGreatDoor
