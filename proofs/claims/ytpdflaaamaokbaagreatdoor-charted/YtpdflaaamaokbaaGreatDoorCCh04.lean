import Derived.Test.YtpdflaaamaokbaaGreatDoorCCh02
import Derived.Test.YtpdflaaamaokbaaGreatDoorCCh03
set_option linter.all false
set_option maxRecDepth 100000
set_option maxHeartbeats 2000000
namespace Go.Proofs.YtpdflaaamaokbaaGreatDoor
open List renaming getElem?_append_right->j8,getD_eq_getElem?_getD->j9,take_succ_eq_append_getElem->k8,getElem?_eq_getElem->k9,take_length->l4,length_take->l5,length_append->l7,length_singleton->l8,drop_length->l9,replicate->n4,eq_nil_of_length_eq_zero->n5
open Nat renaming blt->n6,zero_add->n7,le_refl->n8,zero_le->n9
open Int renaming pow_succ->o8,mul_comm->o9,emod_eq_of_lt->p7,ediv_eq_zero_of_lt->p8,mul_nonneg->p9,mul_le_mul->q7,add_comm->q8,add_assoc->q9
open Go.World renaming size_alloc->s4
open Nm (cX Top jC Tz hO jB aPr Fm xK tQ wV Cn Cq aGk aIx aKQ)
open Go.Proofs.Tryz
open Go.RowKit
namespace Ab
def kX:Code->List (K (List AT))->Option (Code×List (K (List AT)))
 |.seq a b,d=>match kX a (.code b::d)with|some r=>some r|none=>kX b d
 |.block id b,d=>kX b (.bS id::d)
 |.loop b,d=>some (b,d)
 |.cond _ a b,d=>match kX a d with|some r=>some r|none=>kX b d
 |_,_=>none
def rU (c:Code)(fn:Func):Code:=((kX c [.top fn]).map (·.1)).getD .skip
def wB (c:Code)(fn:Func):List (K (List AT)):=((kX c [.top fn]).map (·.2)).getD []
def qM:List (K (List AT))->Bool
 |.code (.loop _)::_=>true
 |_=>false
def kB:List (K (List AT))->Bool
 |.lp _ _::_=>true
 |_=>false
def sY (a:NU):AC->Bool
 |.sg _=>false
 |.dg _ _=>false
 |.ptr b _=>a.contains b
 |.slc b _ _ _=>a.contains b
 |.dsl b _ _ _=>a.contains b
 |_=>true
def rn (ν:LV)(a:NU):Nat->List AC->Option (List AC×List (Int×Nat))
 |_,[]=>some ([],[])
 |base,.sg i::.dg k j::r=>bif i==j then(ν[i]?).bind λzn=>(rn ν a (base+1) r).map λp=>(.sg base::.dg k base::p.1,zn::p.2)else none
 |base,c::r=>bif sY a c then(rn ν a base r).map λp=>(c::p.1,p.2)else none
def wk:AC->AC
 |.int k n=>.sint k n
 |.bool b=>.sbool b
 |c=>c
def Yd (ν:LV)(a:NU)(base:Nat):AT->Option (AT×List (Int×Nat))
 |.val (.one c)=>bif sY a c then some (.val (.one c),[])else none
 |.val (.agg cs)=>(rn ν a base cs).map λp=>(.val (.agg p.1),p.2)
 |_=>none
def wkT:AT->AT
 |.val (.one c)=>.val (.one (wk c))
 |t=>t
def Si (a:List (Nat×bL))(ν:LV)(d:NU):Nat->List Nat->Option (List (Nat×bL)×List (Int×Nat))
 |_,[]=>some ([],[])
 |base,b::r=>(look a b).bind λB=>(rn ν d base B.cs).bind λp=>(Si a ν d (base+p.2.length) r).map λq=>((b,{B with cs:=p.1})::q.1,p.2++q.2)
def Jw (ν:LV)(a b:NU):Nat->Nat->List AT->Option (List AT×List (Int×Nat))
 |_,_,[]=>some ([],[])
 |base,i,t::r=>
  bif b.contains i then(Yd ν a base t).bind λp=>(Jw ν a b (base+p.2.length) (i+1) r).map λq=>(p.1::q.1,p.2++q.2)
  else bif b.contains (1000+i)then(Yd ν a base (wkT t)).bind λp=>(Jw ν a b (base+p.2.length) (i+1) r).map λq=>(p.1::q.1,p.2++q.2)
  else(Jw ν a b base (i+1) r).map λq=>(.top::q.1,q.2)
def norm (a f:NU)(e:Nat)(s:AS):Option AS:=
 (Si s.boxes s.nums a 0 a).bind λp=>(Jw s.nums a f p.2.length 0 s.tmps).bind λq=>
  bif a.all (λb=>n6 b e)&&s.dirty.all (λd=>a.contains d||(match look s.boxes d with|some B=>B.own|none=>false))then some ⟨q.1,p.1,e,p.2++q.2,s.dirty.filter λd=>a.contains d⟩else none
def rst (a:NU)(φ:LI):LI:=λb=>bif a.contains b then φ b else none
section
variable {C:fE} {φ:LI} {w:World}{f:NU}{ν:LV}{x:Value}
theorem aJV {c:AC}(h:sY f c=true){g:LV}(r:relC C φ ν w c x):relC C (rst f φ) g w c x:=by
 cases c<;>simp only[sY]at h<;>simp only[relC]at r ⊢<;>try exact r
 .obtain⟨k,o,b,d⟩:=r;exact⟨k,o,by unfold rst;rw[h];exact b,d⟩
 .obtain⟨k,o,a,e,m,b,d⟩:=r;exact⟨k,o,a,e,m,by unfold rst;rw[h];exact b,d⟩
 .obtain⟨k,a,b,d⟩:=r;exact⟨k,a,by unfold rst;rw[h];exact b,d⟩
 .cases h
 .cases h
theorem Xo {ν D:LV}{f:NU}:∀(cs:List AC) (base:Nat) (a:List AC) (ns:LV) (g:LB),rn ν f base cs=some (a,ns)->At D base ns->All2 (relC C φ ν w) cs g->All2 (relC C (rst f φ) D w) a g
 | [],_,a,ns,[],h,_,_=>by simp[rn]at h;rw[h.1];trivial
 | [],_,_,_,_::_,_,_,h=>h.elim
 |_::_,_,_,_,[],_,_,h=>h.elim
 | [c],base,a,ns,[x],h,l,⟨o,_⟩=>by
  have:rn ν f base [c]=bif sY f c then some ([c],[])else none:=by cases c<;>simp[rn,sY]
  rw[this]at h
  cases hc:sY f c with
  |false=>rw[hc]at h;cases h
  |true=>rw[hc]at h;cases h;exact⟨aJV hc o,trivial⟩
 | [c],_,_,_,_::_::_,_,_,h=>h.2.elim
 |_::_::_,_,_,_,[_],_,_,h=>h.2.elim
 |c::d::r,base,a,ns,x::y::g,h,l,⟨o,B,A⟩=>by
  by_cases hc:sY f c=true
  .have e:rn ν f base (c::d::r)=(rn ν f base (d::r)).map λp=>(c::p.1,p.2):=by
    cases c<;>first|(simp[sY]at hc;done)|(simp only[rn,hc,cond_true])
   rw[e]at h;obtain⟨p,q,s⟩:=bU h;cases s;exact⟨aJV hc o,Xo (d::r) base p.1 p.2 (y::g) q l ⟨B,A⟩⟩
  .cases c<;>try (simp only[rn]at h;simp[hc]at h;done)
   case sg i=>
    cases d<;>try (simp[rn,sY]at h;done)
    case dg k j=>
     simp only[rn]at h
     cases b:i==j with
     |false=>rw[b]at h;cases h
     |true=>
      rw[b]at h;simp only[cond_true]at h
      have:i=j:=by simpa using b
      subst this;obtain⟨⟨z,n⟩,q,s⟩:=aS h;obtain⟨p,F,H⟩:=bU s;cases H;obtain⟨L,I,u,E⟩:=o;obtain⟨M,J,f1,f2,f3⟩:=B;rw[q]at u f1;cases u;cases f1;have v:=l 0 (z,n) rfl;exact⟨⟨z,n,v,E⟩,⟨z,n,v,f2,f3⟩,Xo r (base+1) p.1 p.2 g F l.tail A⟩
theorem aWP {c:AC}(r:relC C φ ν w c x):relC C φ ν w (wk c) x:=by cases c<;>exact r
theorem aUo {t:AT}(r:relT C φ ν w t x):relT C φ ν w (wkT t) x:=by
 cases t with
 |val v=>cases v with
  |one c=>exact aWP r
  |agg cs=>exact r
 |_=>exact r
theorem aRZ {d:LV}{t a:AT}{base:Nat}{ns:LV}(h:Yd ν f base t=some (a,ns))(j:At d base ns)(r:relT C φ ν w t x):relT C (rst f φ) d w a x:=by
 unfold Yd at h;split at h
 .rename_i c
  cases hc:sY f c with
  |false=>rw[hc]at h;cases h
  |true=>rw[hc]at h;cases h;exact aJV hc r
 .obtain⟨p,g,i⟩:=bU h;cases i;obtain⟨b,e,k⟩:=r;exact⟨b,e,Xo _ _ _ _ b g j k⟩
 .cases h
theorem Wv {ν v:LV}{f n:NU}:∀(ts:List AT) (base i:Nat) (a:List AT) (ns:LV) (b:LB),Jw ν f n base i ts=some (a,ns)->At v base ns->All2 (relT C φ ν w) ts b->All2 (relT C (rst f φ) v w) a b
 | [],_,_,a,ns,[],h,_,_=>by simp[Jw]at h;rw[h.1];trivial
 | [],_,_,_,_,_::_,_,_,h=>h.elim
 |_::_,_,_,_,_,[],_,_,h=>h.elim
 |t::r,base,i,a,ns,x::b,h,g,⟨u,l⟩=>by
  simp only[Jw]at h
  cases o:n.contains i with
  |false=>
   rw[o]at h;simp only[cond_false]at h
   cases s:n.contains (1000+i)with
   |false=>
    rw[s]at h;simp only[cond_false]at h;obtain⟨q,d,e⟩:=bU h;cases e;exact⟨trivial,Wv r base (i+1) q.1 q.2 b d g l⟩
   |true=>
    rw[s]at h;simp only[cond_true]at h;obtain⟨p,d,e⟩:=aS h;obtain⟨q,j,k⟩:=bU e;cases k;exact⟨aRZ d g.left (aUo u),Wv r (base+p.2.length) (i+1) q.1 q.2 b j g.right l⟩
  |true=>
   rw[o]at h;simp only[cond_true]at h;obtain⟨p,d,e⟩:=aS h;obtain⟨q,j,k⟩:=bU e;cases k;exact⟨aRZ d g.left u,Wv r (base+p.2.length) (i+1) q.1 q.2 b j g.right l⟩
theorem aRM {k:List (Nat×bL)}{ν μ:LV}{f:NU}:∀(l:NU) (base:Nat) (e:List (Nat×bL)) (ns:LV),Si k ν f base l=some (e,ns)->At μ base ns->∀b g,look e b=some g->b∈l/\∃B a j,look k b=some B/\g={B with cs:=g.cs}/\rn ν f a B.cs=some (g.cs,j)/\At μ a j
 | [],base,e,ns,h,_,b,g,d=>by simp[Si]at h;rw[h.1]at d;simp[look]at d
 |c::l,base,e,ns,h,n,b,g,d=>by
  simp only[Si]at h;obtain⟨B,s,u⟩:=aS h;obtain⟨p,v,x⟩:=aS u;obtain⟨q,y,z⟩:=bU x;cases z;simp only[look]at d
  cases i:(c==b)with
  |true=>
   rw[i]at d;simp only[cond_true,Option.some.injEq]at d
   have:c=b:=by simpa using i
   subst this;subst d;exact⟨by simp,B,base,p.2,s,rfl,v,n.left⟩
  |false=>
   rw[i]at d;simp only[cond_false]at d;obtain⟨o,r⟩:=aRM l (base+p.2.length) q.1 q.2 y n.right b g d;exact⟨by simp[o],r⟩
end
theorem Pu {ν:LV}{f:NU}:∀{cs:List AC} {base:Nat} {a:List AC} {ns:LV},rn ν f base cs=some (a,ns)->a.length=cs.length
 | [],_,_,_,h=>by simp[rn]at h;rw[h.1]
 | [c],base,a,ns,h=>by
  have:rn ν f base [c]=bif sY f c then some ([c],[])else none:=by cases c<;>simp[rn,sY]
  rw[this]at h
  cases hc:sY f c with
  |false=>rw[hc]at h;cases h
  |true=>rw[hc]at h;cases h;rfl
 |c::d::r,base,a,ns,h=>by
  by_cases hc:sY f c=true
  .have e:rn ν f base (c::d::r)=(rn ν f base (d::r)).map λp=>(c::p.1,p.2):=by
    cases c<;>first|(simp[sY]at hc;done)|(simp only[rn,hc,cond_true])
   rw[e]at h;obtain⟨p,l,g⟩:=bU h;cases g;simp[Pu l]
  .cases c<;>try (simp only[rn]at h;simp[hc]at h;done)
   case sg i=>
    cases d<;>try (simp[rn,sY]at h;done)
    case dg k j=>
     simp only[rn]at h
     cases b:i==j with
     |false=>rw[b]at h;cases h
     |true=>
      rw[b]at h;simp only[cond_true]at h;obtain⟨zn,l,g⟩:=aS h;obtain⟨p,n,o⟩:=bU g;cases o;simp[Pu n]
variable {w:World}{ψ φ:LI}{f kt:NU}{s:AS}
theorem aKW {C:fE}{w0:World}{N:Nat}{s':AS}(h:norm f kt N s=some s')(Y:∀b x,ψ b=some x->f.contains b=true)(u:RepW C w0 ψ φ s w):RepW C w0 ψ (rst f φ) s' w:=by
 unfold norm at h;obtain⟨p,h1,h2⟩:=aS h;obtain⟨q,h3,M⟩:=aS h2
 cases hc:(f.all (λb=>n6 b N)&&s.dirty.all (λd=>f.contains d||(match look s.boxes d with|some B=>B.own|none=>false)))with
 |false=>rw[hc]at M;cases M
 |true=>
  rw[hc]at M;cases M;simp only[Bool.and_eq_true,List.all_eq_true]at hc;obtain⟨c1,c2⟩:=hc
  have A1:At (p.2++q.2) 0 p.2:=λi y X=>by rw[n7];exact sH _ _ i y X
  have A2:At (p.2++q.2) p.2.length q.2:=λi y X=>by
   rw[j8 (by omega)]
   simpa using X
  have g:∀b x,rst f φ b=some x->f.contains b=true/\φ b=some x:=by
   intro b x a;unfold rst at a
   cases n:f.contains b with
   |false=>rw[n]at a;cases a
   |true=>rw[n]at a;exact⟨rfl,a⟩
  have l:=λb r a=>aRM (μ:=p.2++q.2) f 0 p.1 p.2 h1 A1 b r a
  refine⟨?_,?_,?_,?_,?_,?_,?_,u.on,?_,λb r k o a I hr n=>?_⟩
  rotate_right
  .obtain⟨m,B,base,ns,v,j,H,_⟩:=l b r a;have l1:=Pu H;rw[j]at I hr;obtain⟨A,E⟩:=u.qD b B k o v I hr (g _ _ n).2;refine⟨A,?_⟩;rw[l1,j];exact E
  .intro b r a;obtain⟨m,B,base,ns,v,j,H,g4⟩:=l b r a;obtain⟨k,o,ab,ys,L,k1,k2,k3,k4⟩:=u.box b B v;refine⟨k,o,ab,ys,L,?_,?_,k3,Xo _ _ _ _ ys H g4 k4⟩
   .unfold rst;rw[show f.contains b=true by simpa using m];exact k1
   .rw[j];exact k2
  .intro b r k o a I n;obtain⟨m,B,base,ns,v,j,_⟩:=l b r a;rw[j]at I;exact u.own b B k o v I (g _ _ n).2
  .intro b b' B r k o o' a T n U;obtain⟨m,D,base,ns,v,j,H,_⟩:=l b B a;obtain⟨m',D',O,az,P,F,S,_⟩:=l b' r T;have l1:=Pu H;have l2:=Pu S
   rcases u.inj b b' D D' k o o' v P (g _ _ n).2 (g _ _ U).2 with e|⟨A,E,e3,e4⟩
   .exact Or.inl e
   .refine Or.inr ⟨by rw[j];exact A,by rw[F];exact E,by rw[j,F];exact e3,?_⟩;intro J
    have z:D.tip=true:=by rw[j]at J;exact J
    have:=e4 z;rw[l1,l2];exact this
  .intro b r a J;obtain⟨m,B,base,ns,v,j,_⟩:=l b r a
   have z:B.tip=true:=by rw[j]at J;exact J
   obtain⟨A,E⟩:=u.tip b B v z;rw[j];exact⟨A,E⟩
  .intro b a;unfold rst
   cases n:f.contains b with
   |false=>rfl
   |true=>
    have:=c1 b (by simpa using n)
    have aq:b<N:=by simpa[Nat.blt_eq]using this
    have a:N<=b:=a;omega
  .intro b k o a;exact u.lt b k o (g _ _ a).2
  .intro k n hd;refine u.low k n ?_;intro b a o e;have hc2:=c2 b a;simp only[Bool.or_eq_true]at hc2
   rcases hc2 with hc2|hc2
   .refine hd b ?_ o ?_
    .exact List.mem_filter.2 ⟨a,hc2⟩
    .unfold rst;rw[hc2];exact e
   .cases W:look s.boxes b with
    |none=>rw[W]at hc2;cases hc2
    |some B=>
     rw[W]at hc2;have:=u.own b B k o W hc2 e;omega
  .intro b x a;unfold rst;rw[Y b x a];exact u.base b x a
variable {u:NU}{a:Act}
theorem aOj {C:fE}{w0:World}{k:Nat}{l:AS}(h:norm f u k s=some l)(j:∀b x,ψ b=some x->f.contains b=true)(g:Rep C w0 ψ φ s a w):Rep C w0 ψ (rst f φ) l a w:=by
 refine⟨aKW h j g.wd,g.defers,?_⟩;unfold norm at h;obtain⟨p,v,n⟩:=aS h;obtain⟨q,o,e⟩:=aS n
 cases hc:(f.all (λb=>n6 b k)&&s.dirty.all (λd=>f.contains d||(match look s.boxes d with|some B=>B.own|none=>false)))with
 |false=>rw[hc]at e;cases e
 |true=>
  rw[hc]at e;cases e;exact Wv _ _ _ _ _ _ o (λi y r=>by rw[j8 (by omega)];simpa using r) g.tmps
def noFr {F:Type}:List (K F)->Bool
 | []=>true
 |.fr _ _ _::_=>false
 |_::ks=>noFr ks
theorem SR.any {C:fE}{φ i:LI}{ν g:LV}{w b:World}:∀{ks:List (K (List AT))} {e:List (K Act)},noFr ks=true->SR C φ ν w ks e->SR C i g b ks e
 | [],[],_,_=>trivial
 |.code _::_,.code _::_,h,⟨a,d⟩=>⟨a,SR.any (by simpa[noFr]using h) d⟩
 |.bS _::_,.bS _::_,h,⟨a,d⟩=>⟨a,SR.any (by simpa[noFr]using h) d⟩
 |.lp _ _::_,.lp _ _::_,h,⟨a,d,f⟩=>⟨a,d,SR.any (by simpa[noFr]using h) f⟩
 |.ops _ _::_,.ops _ _::_,h,⟨a,d,f⟩=>⟨a,d,SR.any (by simpa[noFr]using h) f⟩
 |.top _::_,.top _::_,h,⟨a,d⟩=>⟨a,SR.any (by simpa[noFr]using h) d⟩
 |.fr _ _ _::_,_,h,_=>by simp[noFr]at h
section
variable {C:fE} {w0:World} {ψ:LI} {sp:Spec} {bodies:XW} {draw:Array Oper->AS->Option (AS×List Prop)} {R:EW}
end
def oW (ν:LV):List AC->List AC×List Prop
 |.bool false::.dg k i::r=>match ν[i]? with
  |some zn=>(.sg i::.dg k i::(oW ν r).1,(0<=zn.1)::(oW ν r).2)
  |none=>(.bool false::.dg k i::(oW ν r).1,(oW ν r).2)
 |c::r=>(c::(oW ν r).1,(oW ν r).2)
 | []=>([],[])
theorem Wy {L:fE}{φ:LI}{ν:LV}{n:World}:∀(cs:List AC) (g:LB),Holds (oW ν cs).2->All2 (relC L φ ν n) cs g->All2 (relC L φ ν n) (oW ν cs).1 g
 | [],[],_,h=>h
 | [],_::_,_,h=>h.elim
 |_::_,[],_,h=>h.elim
 | [c],[x],a,⟨f,l⟩=>by
  have e:oW ν [c]=([c],[]):=by cases c<;>(try rfl);rename_i b;cases b<;>rfl
  rw[e];exact⟨f,trivial⟩
 | [c],_::_::_,_,h=>h.2.elim
 |_::_::_,[_],_,h=>h.2.elim
 |c::d::r,x::y::g,a,⟨f,l,o⟩=>by
  by_cases j:∃k i,c=.bool false/\d=.dg k i
  .obtain⟨k,i,rfl,rfl⟩:=j;simp only[oW]at a ⊢
   cases hi:ν[i]? with
   |none=>
    rw[hi]at a;simp only at a ⊢;exact⟨f,l,Wy r g a o⟩
   |some zn=>
    rw[hi]at a;simp only at a ⊢;have s:0<=zn.1:=a _ (by simp);refine⟨⟨zn.1,zn.2,hi,?_⟩,l,Wy r g (λq p=>a q (by simp[p])) o⟩;have f:x=.bool false:=f;rw[f,decide_eq_false (by omega)]
  .have e:oW ν (c::d::r)=(c::(oW ν (d::r)).1,(oW ν (d::r)).2):=by
    cases c<;>try rfl
    rename_i b
    cases b<;>try rfl
    cases d<;>try rfl
    exact absurd ⟨_,_,rfl,rfl⟩ j
   rw[e]at a ⊢;exact⟨f,Wy (d::r) (y::g) a ⟨l,o⟩⟩
theorem Vy {ν:LV}:∀(cs:List AC),(oW ν cs).1.length=cs.length
 | []=>rfl
 | [c]=>by
  have e:oW ν [c]=([c],[]):=by cases c<;>(try rfl);rename_i b;cases b<;>rfl
  rw[e]
 |c::d::r=>by
  by_cases a:∃k i,c=.bool false/\d=.dg k i
  .obtain⟨k,i,rfl,rfl⟩:=a;simp only[oW]
   cases ν[i]?<;>simp[Vy r]
  .have e:oW ν (c::d::r)=(c::(oW ν (d::r)).1,(oW ν (d::r)).2):=by
    cases c<;>try rfl
    rename_i b
    cases b<;>try rfl
    cases d<;>try rfl
    exact absurd ⟨_,_,rfl,rfl⟩ a
   rw[e];have:=Vy (d::r) (ν:=ν);simp only[List.length_cons]at this ⊢;omega
def rD (ν:LV):List (Nat×bL)->List (Nat×bL)×List Prop
 | []=>([],[])
 |(b,B)::r=>((b,{B with cs:=(oW ν B.cs).1})::(rD ν r).1,(oW ν B.cs).2++(rD ν r).2)
def Sy (s:AS):AS:={s with boxes:=(rD s.nums s.boxes).1}
theorem aKN {ν:LV}:∀(l:List (Nat×bL)) (b:Nat) (a:bL),look (rD ν l).1 b=some a->∃B,look l b=some B/\a={B with cs:=(oW ν B.cs).1}/\(Holds (rD ν l).2->Holds (oW ν B.cs).2)
 | [],b,a,h=>by simp[rD,look]at h
 |(c,D)::l,b,a,h=>by
  simp only[rD,look]at h ⊢
  cases hc:(c==b)with
  |true=>
   rw[hc]at h;simp only[cond_true,Option.some.injEq]at h;exact⟨D,by rw[cond_true],h.symm,λd q e=>d q (by simp[e])⟩
  |false=>
   rw[hc]at h;simp only[cond_false]at h;obtain⟨B,f,g,i⟩:=aKN l b a h;exact⟨B,by rw[cond_false];exact f,g,λd=>i λq e=>d q (by simp[e])⟩
variable {n:World}{q:LI}
theorem aT2 {L:fE}(S:Holds (rD s.nums s.boxes).2)(f:Rep L n q φ s a w):Rep L n q φ (Sy s) a w:=by
 have r:=λb g h=>aKN (ν:=s.nums) s.boxes b g h
 refine⟨⟨?_,?_,?_,?_,f.wd.fresh,f.wd.lt,f.wd.low,f.wd.on,f.wd.base,?_⟩,f.defers,f.tmps⟩
 .intro b g j;obtain⟨B,i,d,R⟩:=r b g j;obtain⟨k,o,J,Y,E,k1,T,U,W⟩:=f.wd.box b B i;exact⟨k,o,J,Y,E,k1,by rw[d];exact T,U,by rw[d];exact Wy _ _ (R S) W⟩
 .intro b g k o j y x;obtain⟨B,i,d,_⟩:=r b g j;rw[d]at y;exact f.wd.own b B k o i y x
 .intro b M B g k o X j H x I;obtain⟨D,i,d,_⟩:=r b B j;obtain⟨N,F,l,_⟩:=r M g H
  rcases f.wd.inj b M D N k o X i F x I with e|⟨u,v,O,P⟩
  .exact Or.inl e
  .refine Or.inr ⟨by rw[d];exact u,by rw[l];exact v,by rw[d,l];exact O,?_⟩;intro A
   have p:D.tip=true:=by rw[d]at A;exact A
   have:=P p;rw[d,l];simp only[Vy];exact this
 .intro b g j A;obtain⟨B,i,d,_⟩:=r b g j
  have p:B.tip=true:=by rw[d]at A;exact A
  obtain⟨u,v⟩:=f.wd.tip b B i p;rw[d];exact⟨u,v⟩
 .intro b g k o j y z x;obtain⟨B,i,d,_⟩:=r b g j;rw[d]at y z;obtain⟨u,v⟩:=f.wd.qD b B k o i y z x;refine⟨u,?_⟩;rw[d];simp only[Vy];exact v
def mR:List (Int×Nat)->List Nat->List (Int×Nat)
 |(z,_)::r,N::a=>(z,N)::mR r a
 |l,_=>l
def oT:List (Int×Nat)->List Nat->List Prop
 |(z,_)::r,N::a=>Bits N z::oT r a
 |_,_=>[]
def Eu (a:NU)(s:AS):AS:={s with nums:=mR s.nums a}
theorem aRY:∀(l:LV) (e:NU) (i:Nat) (z:Int) (n:Nat),l[i]?=some (z,n)->Bits n z->Holds (oT l e)->∃m,(mR l e)[i]?=some (z,m)/\Bits m z
 | [],_,i,z,n,h,_,_=>by simp at h
 |(y,k)::r,[],i,z,n,h,a,_=>⟨n,by simpa[mR]using h,a⟩
 |(y,k)::r,N::d,0,z,n,h,a,b=>by
  simp at h;obtain⟨rfl,rfl⟩:=h;exact⟨N,by simp[mR],b _ (by simp[oT])⟩
 |(y,k)::r,N::d,i+1,z,n,h,a,b=>by
  obtain⟨m,f,g⟩:=aRY r d i z n (by simpa using h) a (λq j=>b q (by simp[oT,j]));exact⟨m,by simpa[mR]using f,g⟩
theorem aOM:∀(l:LV) (d:NU) (i:Nat) (z:Int) (n:Nat),l[i]?=some (z,n)->∃m,(mR l d)[i]?=some (z,m)
 | [],_,i,z,n,h=>by simp at h
 |(y,k)::r,[],i,z,n,h=>⟨n,by simpa[mR]using h⟩
 |(y,k)::r,N::a,0,z,n,h=>by
  simp at h;obtain⟨rfl,rfl⟩:=h;exact⟨N,by simp[mR]⟩
 |(y,k)::r,N::a,i+1,z,n,h=>by
  obtain⟨m,b⟩:=aOM r a i z n (by simpa using h);exact⟨m,by simpa[mR]using b⟩
variable {ν:LV}
theorem Vv (i:Holds (oT ν f))(c:AC)(x:Value)(r:relC Z φ ν n c x):relC Z φ (mR ν f) n c x:=by
 cases c<;>try exact r
 .obtain⟨z,a,b,d⟩:=r;obtain⟨m,e⟩:=aOM ν f _ z a b;exact⟨z,m,e,d⟩
 .obtain⟨z,a,b,d,e⟩:=r;obtain⟨m,g,h⟩:=aRY ν f _ z a b e i;exact⟨z,m,g,d,h⟩
theorem aHE (a:Holds (oT ν f))(v:AV)(x:Value)(r:dU Z φ ν n v x):dU Z φ (mR ν f) n v x:=by
 cases v with
 |one c=>exact Vv a c x r
 |agg cs=>obtain⟨b,e,h⟩:=r;exact⟨b,e,h.mono (Vv a)⟩
theorem aQG (a:Holds (oT ν f))(t:AT)(x:Value)(r:relT Z φ ν n t x):relT Z φ (mR ν f) n t x:=by
 cases t with
 |top=>trivial
 |gG=>exact r
 |val v=>exact aHE a v x r
 |tup d=>obtain⟨b,e,h⟩:=r;exact⟨b,e,h.mono (aHE a)⟩
 |nI c v=>
  simp only[relT]at r ⊢
  cases c with
  |true=>simp only[if_true]at r ⊢;exact aHE a v x r
  |false=>simpa using r
theorem aOL (h:Holds (oT s.nums f))(d:Rep Z n q φ s a w):Rep Z n q φ (Eu f s) a w:=by
 refine⟨⟨?_,d.wd.own,d.wd.inj,d.wd.tip,d.wd.fresh,d.wd.lt,d.wd.low,d.wd.on,d.wd.base,d.wd.qD⟩,d.defers,d.tmps.mono (aQG h)⟩;intro b B i;obtain⟨k,o,g,r,e,k1,j,l,p⟩:=d.wd.box b B i;exact⟨k,o,g,r,e,k1,j,l,p.mono (Vv h)⟩
def turnS (d e:NU)(f:Nat)(a:NU)(s:AS):Option (AS×List Prop):=
 (norm d e f (Sy s)).map λb=>(Eu a b,(rD s.nums s.boxes).2++oT b.nums a)
theorem aLr {d:World}{i:LI}{w:Nat}{v:NU}{k:AS}{p:List Prop}(h:turnS f u w v s=some (k,p))(j:Holds p)(g:∀b x,i b=some x->f.contains b=true)(r:Rep Z n i φ s a d):Rep Z n i (rst f φ) k a d:=by
 unfold turnS at h;obtain⟨t,l,o⟩:=bU h;cases o;exact aOL (λq e=>j q (by simp[e])) (aOj l g (aT2 (λq e=>j q (by simp[e])) r))
inductive LT where
 |ret (g:RG)
 |again (ks:List (K (List AT))) (s:AS)
 |br (t:Bool) (a b:LT)
 |need (p:List Prop) (o:LT)
def LT.ok (P:RG->Prop)(Q:List (K (List AT))->AS->Prop):LT->Prop
 |.ret g=>P g
 |.again d s=>Q d s
 |.br t a b=>(t=true->a.ok P Q)/\(t=false->b.ok P Q)
 |.need p o=>Holds p/\o.ok P Q
def Bs (k:Bool):RV->Option RG
 |.val v=>(gT k v).map λg=>.one g.1
 |.tup b=>(eZ (gT k) b).map λa=>.tup (a.map (·.1))
def jS (k:Bool)(d e:NU)(f:Nat)(g:NU):Tr->Option LT
 |.ret r s=>bif clean s then((rvOf s.nums r).bind (Bs k)).map .ret else none
 |.br t a b=>(jS k d e f g a).bind λx=>(jS k d e f g b).map λy=>.br t x y
 |.need p t=>(jS k d e f g t).map (.need p)
 |.stop h s=>(turnS d e f g s).map λx=>match x.2 with| []=>.again h x.1|p::i=>.need (p::i) (.again h x.1)
def isL (k:Bool)(P:RG->Prop)(r:AT)(s:AS):Prop:=clean s=true/\∃a g,rvOf s.nums r=some a/\Bs k a=some g/\P g
def isN (b e:NU)(f:Nat)(g:NU)(Q:List (K (List AT))->AS->Prop)(d:List (K (List AT)))(s:AS):Prop:=∃a p,turnS b e f g s=some (a,p)/\Holds p/\Q d a
theorem Pb {k:Bool}{f n:NU}{w:Nat}{o:NU}{P:RG->Prop}{Q:List (K (List AT))->AS->Prop}:∀{v:Tr} {lt:LT},jS k f n w o v=some lt->lt.ok P Q->v.ok (isL k P) (isN f n w o Q)
 |.ret r s,lt,h,d=>by
  simp only[jS]at h
  cases hc:clean s with
  |false=>rw[hc]at h;cases h
  |true=>
   rw[hc]at h;simp only[cond_true]at h;obtain⟨g,i,rfl⟩:=bU h;obtain⟨A,j,l⟩:=aS i;exact⟨hc,A,g,j,l,d⟩
 |.br t a b,lt,h,d=>by
  simp only[jS]at h;obtain⟨x,i,j⟩:=aS h;obtain⟨y,l,rfl⟩:=bU j;exact⟨λe=>Pb i (d.1 e),λe=>Pb l (d.2 e)⟩
 |.need p t,lt,h,d=>by
  simp only[jS]at h;obtain⟨x,i,rfl⟩:=bU h;exact⟨d.1,Pb i d.2⟩
 |.stop B s,lt,h,d=>by
  simp only[jS]at h;obtain⟨⟨u,q⟩,i,j⟩:=bU h
  cases q with
  |nil=>
   simp only at j;subst j;exact⟨u,[],i,gJ,d⟩
  |cons p z=>
   simp only at j;subst j;exact⟨u,p::z,i,d.1,d.2⟩
variable {k:Bool}{rb:NU}
theorem Sb {sp:Spec}{i:XW}{R:EW}(l:SpecOk Z n q sp)(B:bQ Z i){P:RG->Prop}(hG:∀r s φ v g,isL k P r s->relT Z φ s.nums g r v->RepW Z n q φ s g->R (.returned v) g){b:Code}{j:List (K (List AT))}(C:noFr j=true){w:Nat}(H:∀b x,q b=some x->f.contains b=true)(I:Nat->AS->Prop)
  (hI:∀m s,I m s->∀e,∃d lt,(run Z sp i (aL Z sp) kB d (.code b::.lp b e::j) s).bind (jS k f kt w rb)=some lt/\lt.ok P λN O=>N=.lp b e::j/\∃A,A<m/\I A O):
  ∀(m e:Nat) (s:AS),I m s->m<e->∀(h:List (K Act)) (φ:LI) (a:Act) (g:World),SR Z φ s.nums g (.lp b e::j) h->Rep Z n q φ s a g->gD Z.P R h .normal a g:=by
 intro m
 induction m using Nat.strongRecOn with
 |_ m ih=>
  intro e s hs ae h φ a g F hr
  cases e with
  |zero=>omega
  |succ e=>
   match h,F with
   |.lp z n'::h,⟨T,U,u⟩=>
    subst T;subst U;obtain⟨d,lt,W,X⟩:=hI m s hs e;obtain⟨tr,Y,h4⟩:=aS W
    have J:gD Z.P R (.code z::.lp z e::h) .normal a g:=by
     refine vC (stp:=kB) l B (rJ mixed l) (isL k P) _ ?_ hG d _ s tr Y (Pb h4 X) (.code z::.lp z e::h) φ a g ⟨rfl,rfl,rfl,u⟩ hr;rintro N O⟨L,p,hn,hp,rfl,A,D,hi⟩ y M S w' o E;exact ih A D e L hi (by omega) y (rst f M) S w' (SR.any (by simpa[noFr]using C) o) (aLr hn hp H E)
    exact J
variable {l:List (FuncId×TE)}{B:FuncId}{F:List G->Option RG}{nd:List G->List Prop}
theorem Tf (Y:cV Z l){sp:Spec}(x:∀I J,SpecOk Z I J sp){b:XW}(p:bQ Z b){fn:Func}(d:Fn B fn){E:List Nat->Nat}(g:∀a ns out,F a=some out->Holds (nd a)->pU a ns->pU a f->RGB (E ns) out)
  (h:∀a out,F a=some out->∃C,((run Z (fI sp (aE l)) b (aL Z (fI sp (aE l))) (λ_=>false) 2000 [.code (aF fn),.top fn] (start fn (eA k a f))).bind outcome).bind (pR k)=some (C,out)/\(Holds (nd a)->pU a f->Holds C)):bI Z B (hY k F nd E f):=by
 refine Dv d.en g λa out W u q w D z=>?_
 obtain⟨C,L,M⟩:=h a out W;obtain⟨o,N,O⟩:=aS L;obtain⟨tr,R,S⟩:=aS N
 have U:At (eD 0 (eA k a f)).2 0 (eD 0 (eA k a f)).2:=λi y hy=>by rw[n7];exact hy
 have H:SpecOk Z w (λ_=>none) (fI sp (aE l)):=Oz (x _ _) (dL Y);obtain⟨n0,r⟩:=wO.someB out
 have A:Calls Z.P B D.toArray w λe j=>∃v,e=.returned v/\RRV Z j (wH k n0 out) v/\Below w.heap.size w j:=by
  refine mO (w0:=w) (ψ:=λ_=>none) (φ:=λ_=>none) (s:=start fn (eA k a f)) (vs:=(eD 0 (eA k a f)).1) H p (rJ mixed H) d.at' d.body rfl (Hv _ 0 D U z) (Oh fn _ w) 2000 R _ (λ_ _=>False) (λ_ _ h=>h.elim) (yK S (Pa (n:=n0) O (M u q) r)) ?_;rintro r0 s φ v j⟨hc,r',T,h8⟩ hr hw;exact⟨v,rfl,h8 j v (Cr T hr),RepF.below hw hc⟩
 refine A.mono ?_;rintro e j⟨v,rfl,hv,X⟩;exact⟨v,rfl,λn hn=>wO.anyB hv hn,X⟩
theorem aLp {q:List G->Option RG}{g:List G->List Prop}{u i:List Nat->Nat}(h:bI Z B (hY k F nd u f))(H:∀a out,q a=some out->Holds (g a)->pU a f->F a=some out/\Holds (nd a))(d:∀a ns out,q a=some out->Holds (g a)->pU a ns->pU a f->RGB (i ns) out):bI Z B (hY k q g i f):=by
 refine⟨h.1,λts r p l A w C n=>?_⟩;unfold hY at l;obtain⟨o,y,j⟩:=aS l
 cases b:mZ (o.map (·.2)) f with
 |false=>rw[b]at j;cases j
 |true=>
  rw[b]at j;simp only[cond_true]at j;obtain⟨out,z,E⟩:=bU j;cases E;obtain⟨L,D,x⟩:=Ob ts o f C y b n;obtain⟨k1,J⟩:=H _ out z A x;have s:=h.2 ts (wH k (u (o.map (·.2))) out) (nd (o.map (·.1))) (by unfold hY;rw[y];simp only[Option.bind_some,b,cond_true,k1,Option.map_some]) J w C n;refine s.mono ?_;rintro e M⟨v,rfl,hv,I⟩;exact⟨v,rfl,wO.anyB hv (d _ _ out z A D x),I⟩
theorem Cj (hl:cV Z l){sp:Spec}(M:∀w0 ψ,SpecOk Z w0 ψ sp){fn:Func}(j:Fn B fn){T:List Nat->Nat}(o:∀b ns out,F b=some out->Holds (nd b)->pU b ns->pU b f->RGB (T ns) out)
  {kb:NU} {nx:Nat}  (A:noFr (wB (aF fn) fn)=true)
  (h:∀ b out,F b=some out->Holds (nd b)->pU b f->∃ I:Nat->AS->Prop,
   (∃n lt,(run Z (fI sp (aE l)) (λ_=>none) (aL Z (fI sp (aE l))) qM n [.code (aF fn),.top fn] (start fn (eA k b f))).bind (jS k kb kt nx rb)=some lt/\lt.ok (λg=>g=out) λD s=>D=.code (.loop (rU (aF fn) fn))::wB (aF fn) fn/\∃m,I m s)/\
   ∀m s,I m s->∀n,∃B lt,(run Z (fI sp (aE l)) (λ_=>none) (aL Z (fI sp (aE l))) kB B (.code (rU (aF fn) fn)::.lp (rU (aF fn) fn) n::wB (aF fn) fn) s).bind (jS k kb kt nx rb)=some lt/\lt.ok (λg=>g=out) λD X=>D=.lp (rU (aF fn) fn) n::wB (aF fn) fn/\∃W,W<m/\I W X):bI Z B (hY k F nd T f):=by
 refine Dv j.en o λb out hF H E w Y O=>?_
 obtain⟨I,⟨n,lt,z,h2⟩,hI⟩:=h b out hF H E;obtain⟨tr,h3,h4⟩:=aS z
 have hA:At (eD 0 (eA k b f)).2 0 (eD 0 (eA k b f)).2:=λi y hy=>by rw[n7];exact hy
 have L:SpecOk Z w (λ_=>none) (fI sp (aE l)):=Oz (M _ _) (dL hl)
 have U:∀r s φ v d,isL k (λg=>g=out) r s->relT Z φ s.nums d r v->RepW Z w (λ_=>none) φ s d->(λ(e:Ending) (d:World)=>∃v,e=.returned v/\(∀n,RGB n out->RRV Z d (wH k n out) v)/\Below w.heap.size w d) (.returned v) d:=by
  rintro r s φ v d⟨hc,r',g,g1,g2,rfl⟩ J hw;exact⟨v,rfl,λn u=>rgOf_ok g2 (Cr g1 J) u,RepF.below hw hc⟩
 refine mO L dJ (rJ mixed L) j.at' j.body rfl (Hv _ 0 Y hA O) (Oh fn _ w) n h3 (isL k λg=>g=out) _ ?_ (Pb h4 h2) U;rintro D X⟨P,p,u,hp,rfl,m,hi⟩ q S a d N J
 match q,N with
 |.code c'::q,⟨e,C⟩=>
  subst e;have:=Sb (R:=λ(e:Ending) (d:World)=>∃v,e=.returned v/\(∀n,RGB n out->RRV Z d (wH k n out) v)/\Below w.heap.size w d) L dJ U A (λ_ _ e=>by cases e) I hI m (m+1) P hi (by omega) (.lp (rU (aF fn) fn) (m+1)::q) (rst kb S) a d ⟨rfl,rfl,SR.any A C⟩ (aLr u hp (λ_ _ e=>by cases e) J);exact wp_loop_rounds (m+1) this
where
 rgOf_ok {k:Bool} {w:World} {r:RV} {g:RG} {v:Value} (h:Bs k r=some g) (hv:RRV Z w r v) {n:Nat} (u:RGB n g):RRV Z w (wH k n g) v:=by
  cases r with
  |val t=>
   simp only[Bs]at h;obtain⟨⟨x,m⟩,z,rfl⟩:=bU h;exact(Mb z hv).2 n u
  |tup Y=>
   simp only[Bs]at h;obtain⟨b,z,rfl⟩:=bU h;obtain⟨xs,e,hx⟩:=hv;exact⟨xs,e,aHs z u hx⟩
end Ab
variable {xs:LN}
theorem Nm.Fv {i:Nat}(h:¬i<xs.length):Nm.at' xs i=0:=by
 unfold Nm.at';rw[j9,List.getElem?_eq_none (by omega)];rfl
variable {s:LN}{k:Nat}
theorem Nm.aJ4 (h:k<s.length)(a:Nm.at' s k=0):Nm.strip (s.take (k+1))=Nm.strip (s.take k):=by
 rw[k8 h];unfold Nm.at' at a;rw[j9,k9 h]at a;rw[show s[k]=0 from a,Nm.My]
theorem Nm.aJ3 (h:k<s.length)(a:Nm.at' s k≠0):Nm.strip (s.take (k+1))=s.take (k+1):=by
 rw[k8 h];unfold Nm.at' at a;rw[j9,k9 h]at a;exact Nm.Np _ a
theorem Cl (w:World)(a:LN)(v:Value)(B:Nat)(h:cB B w a v)(z:a.length<=100000000000):
  Calls prog 98 #[v] w λe r=>e=.returned (.int .i64 (Nm.strip a).length)/\w=r:=by
 obtain⟨s,p,rfl,j⟩:=h.shape;have o:=hid h;clear h
 go_enter func98,ntmps98
 go_wp2_with fail
 go_loop [3] (λn=>∃k:Nat,k<=a.length/\n=.int .i64 k/\Nm.strip (a.take k)=Nm.strip a) (λn=>(intOf n).toNat)
 case atStart=>exact⟨a.length,n8 _,rfl,by rw[l4]⟩
 case round=>
  obtain⟨k,y,rfl,l⟩:=hrel;have f:=hid l;clear l
  cases k with
  |zero=>
   have q:Hid (Nm.strip a=[]):=by have:=f.out;show _=_;rw[<-this];rfl
   go_wp2_with fail
   go_ret
   exact⟨by rw[q.out];rfl,rfl⟩
  |succ k=>
   obtain⟨g,rfl,hc⟩:=o.out.place (by omega);have i:=hc k (by omega);clear hc
   by_cases d:Nm.at' a k=0
   .have b:=hid (Nm.aJ4 (by omega) d);rw[d]at i
    go_wp2_with fail
    go_round
    case rel=>exact⟨k,by omega,by simp,by rw[<-b.out,f.out]⟩
    case measure=>simp[intOf]
   .have u:(Nm.at' a k==0)=false:=by simpa using d
    have b:=hid (show(Nm.strip a).length=k+1 by rw[<-f.out,Nm.aJ3 (by omega) d,l5];omega);generalize Nm.at' a k=x at*
    go_wp2_with fail
    go_ret
    exact⟨by rw[b.out];rfl,rfl⟩
def Bb (w:World)(N:Int)(m d:Value)(wr:World):Prop:=
 ∃(k:Int) (done:LN),m=.int .u64 k/\0<=k/\k<=N/\done.length<=2/\wr.ownsRow w.heap.size 130 1 d done.length (done.map (Value.int .u32))/\Below w.heap.size w wr/\cX 4294967296 done/\(k=0->Top done)/\Nm.val 4294967296 done+k*4294967296^done.length=N/\(done.length=1->k<4294967296)/\(2<=done.length->k=0)
theorem Tq (N:Int)(w:World)(H:0<=N)(R:N<18446744073709551616):Calls prog 62 #[.int .u64 N] w (cZ w λD=>Nm.Good 4294967296 D/\Nm.val 4294967296 D=N/\D.length<=2):=by
 obtain⟨i,hi,O,o,B⟩:=info_parts kO
 go_enter func62,ntmps62
 go_wp2_with fail
 go_loopw [0,3] (λm d wr=>Bb w N m d wr) (λm _ _=>(intOf m).toNat)
 case atStart=>
  refine⟨N,[],rfl,H,Int.le_refl _,by simp,?_,aV (Below.refl _ _) (n8 _) _,cX.nil _,λ_=>Top.nil,by simp[Nm.val],λh=>by simp at h,λh=>by simp at h⟩;exact⟨rfl,Or.inr ⟨w.heap.size,0,#[],rfl,n8 _,wX _ _,n8 _,by decide,rfl,rfl⟩⟩
 case round=>
  obtain⟨k,done,rfl,k0,k1,J,f,b,v,j,l,x,y⟩:=hrel;have A:=hid l;have E:=hid j;have z:=hid v;have a:=hid b;have p:=hid x;have s:=hid y;have M:=b.size;clear l j v b x y
  by_cases I:(0:Int)<k
  .have L:done.length<=1:=by have:=s.out;omega
   go_wp2_with (at_builtin;refine wpList_append_own _ rfl _ _ 64 rfl _ 130 i (.int .u32 0) 1 4 underlying64 hi O o B rfl (by decide) _ _ _ rfl (f.alloc _) ⟨wr.heap.size,0,none⟩ 1 1 [.int .u32 (k%4294967296)] rfl rfl (cell_one_new _ _ _) (λu F=>by simp at F;subst F;rfl) (by unfold maxLen;omega) (by omega) (by simp;omega) ?_;intro S T n g C)
   go_roundw
   case rel=>
    refine⟨k/4294967296,done++[k%4294967296],rfl,by omega,by omega,by simp;omega,by simpa using n,Dl f a.out a.out.size _ g,z.out.snoc (by omega) (by omega),?_,?_,?_,?_⟩
    .intro h;exact Nm.aQ1 (by omega)
    .rw[Nm.Dt,<-A.out,l7,l8,o8];have e:=Int.emod_add_mul_ediv k 4294967296;generalize k%4294967296=r at*;generalize k/4294967296=q at*;generalize (4294967296:Int)^done.length=P at*;clear A E z a p s;subst e;grind
    .intro h;simp only[l7,l8]at h;omega
    .intro h;simp only[l7,l8]at h;have:=p.out (by omega);omega
   case measure=>simp[intOf];omega
  .obtain rfl:k=0:=by omega
   go_wp2_with fail
   go_ret
   refine⟨_,done,rfl,⟨⟨z.out,E.out (by simp)⟩,by have:=A.out;simpa using this,J⟩,f,a.out⟩
def Il (W:World)(a b:LN)(i:Value)(wr:World):Prop:=
 ∃k:Nat,k<=a.length/\i=.int .i64 ((k:Int)-1)/\a.drop k=b.drop k/\Below W.heap.size W wr
theorem Mx (w:World)(a b:LN)(u v:Value)(x:Lims w a u)(A:Lims w b v)(O:a.length<=100000000000)(D:Nm.Good 4294967296 a)(E:Nm.Good 4294967296 b):
  Calls prog 94 #[u,v] w λe P=>e=.returned (.int .i64 (Nm.cmp (Nm.val 4294967296 a) (Nm.val 4294967296 b)))/\Below w.heap.size w P:=by
 obtain⟨R,N,rfl,H⟩:=x.shape;obtain⟨S,M,rfl,F⟩:=A.shape;have J:=hid x;have L:=hid A;have p:=hid D;have GB:=hid E;clear x A D E
 by_cases c1:(a.length:Int)<b.length
 .rw[jC (Tz (by decide) p.out.eS GB.out (by omega))]
  go_enter func94,ntmps94
  go_wp2_with fail
  go_ret
  exact⟨rfl,Below.refl _ _⟩
 .by_cases c3:(b.length:Int)<a.length
  .rw[hO (Tz (by decide) GB.out.eS p.out (by omega))]
   go_enter func94,ntmps94
   go_wp2_with fail
   go_ret
   exact⟨rfl,Below.refl _ _⟩
  .have f:a.length=b.length:=by omega
   clear c3 c1;rw[<-f];have h:=hid f;clear f
   go_enter func94,ntmps94
   go_wp2_with fail
   go_loopw [5] (λi wr=>Il w a b i wr) (λi _=>(intOf i+1).toNat)
   case atStart=>exact⟨a.length,n8 _,rfl,by rw[l9,h.out,l9],Below.refl _ _⟩
   case round=>
    obtain⟨k,U,rfl,I,j⟩:=hrel;have q:=hid I;have d:=hid j;clear I j
    cases k with
    |zero=>
     have n:Hid (Nm.cmp (Nm.val 4294967296 a) (Nm.val 4294967296 b)=0):=jB (by have:=q.out;simp at this;rw[this])
     go_wp2_with fail
     go_ret
     exact⟨by rw[n.out];rfl,d.out⟩
    |succ k=>
     obtain⟨g,rfl,hc⟩:=(J.out.below d.out).place (by omega);obtain⟨T,rfl,l⟩:=(L.out.below d.out).place (by rw[<-h.out];omega);have x1:=hc k (by omega);have x2:=l k (by rw[<-h.out];omega);clear hc l
     have o:k<b.length:=by rw[<-h.out];omega
     by_cases B:Nm.at' a k<Nm.at' b k
     .have n:Hid (Nm.cmp (Nm.val 4294967296 a) (Nm.val 4294967296 b)=-1):=jC (aPr (by decide) p.out.eS GB.out.eS k q.out B (by omega) o);generalize Nm.at' a k=y at*;generalize Nm.at' b k=z at*
      go_wp2_with fail
      go_quiet (fail)
      go_wp2_with fail
      go_ret
      exact⟨by rw[n.out];rfl,below_drewN d.out _⟩
     .by_cases C:Nm.at' b k<Nm.at' a k
      .have n:Hid (Nm.cmp (Nm.val 4294967296 a) (Nm.val 4294967296 b)=1):=hO (aPr (by decide) GB.out.eS p.out.eS k q.out.symm C o (by omega));generalize Nm.at' a k=y at*;generalize Nm.at' b k=z at*
       go_wp2_with fail
       go_quiet (fail)
       go_wp2_with fail
       go_quiet (fail)
       go_wp2_with fail
       go_ret
       exact⟨by rw[n.out];rfl,by first|exact below_drewN d.out _|exact below_drewN (below_drewN d.out _) _⟩
      .have s:Nm.at' a k=Nm.at' b k:=by omega
       have r:=hid (Nm.aQe h.out (by omega) q.out s);rw[<-s]at x2;clear B C s;generalize Nm.at' a k=y at*
       go_wp2_with fail
       go_quiet (fail)
       go_wp2_with fail
       go_quiet (fail)
       go_wp2_with fail
       go_roundw
       case rel=>exact⟨k,by omega,by simp,r.out,by first|exact below_drewN d.out _|exact below_drewN (below_drewN d.out _) _⟩
       case measure=>simp[intOf]
variable {x:Int}
theorem Nm.Vl (h:k<s.length):(s.set k x).take (k+1)=s.take k++[x]:=by
 rw[k8 (by simpa using h),List.take_set_of_le (n8 _)];simp
variable {v:Int}{w:Nat}{a b:LN}
theorem Nm.aK5 {c:Int}(g:2<=v){out:LN}(u:out.length=w+1)(l:cX v out)(j:a.length<=w)(k:b.length<=w)(d:cX v a)(e:cX v b)(c0:0<=c)
  (h:Nm.val v (out.take (w+1))+c*v^(w+1)=Nm.val v (a.take (w+1))+Nm.val v (b.take (w+1))):Nm.val v out=Nm.val v a+Nm.val v b:=by
 rw[Fm v out (by omega),Fm v a (by omega),Fm v b (by omega)]at h;have n:=xK (by omega) d;have o:=xK (by omega) e;have p:=tQ (B:=v) (by omega) j;have q:=tQ (B:=v) (by omega) k;have r:=Nm.rM (by omega) l;have i:=Nm.jZ (B:=v) (by omega) w;have s:2*v^w<=v*v^w:=Int.mul_le_mul_of_nonneg_right g (Int.le_of_lt i);rw[o8,o9 (v^w) v]at h
 have f:c*(v*v^w)<1*(v*v^w):=by omega
 have h8:=Int.lt_of_mul_lt_mul_right f (by omega)
 have:c=0:=by omega
 subst this;omega
variable {n:World}
theorem dQ.used {G:Nat}(h:dQ n G s)(g:s.length<=100000000000){B:Nat}(f:B<=G):cB B n (Nm.strip s) (.slice (some ⟨G,0,none⟩) (Nm.strip s).length s.length):=by
 obtain⟨a,e,d⟩:=h;have b:=wV s;refine⟨by simp,Or.inr ⟨G,s.length,a,rfl,f,e,b,by unfold maxLen;omega,?_,?_⟩⟩
 .rw[<-Array.length_toList,d];simp
 .rw[d,Nat.mul_one,<-List.map_take,<-Nm.Zp]
def uI (w:World)(a b:LN)(N:Nat)(c i:Value)(wr:World):Prop:=
 ∃(k:Nat) (d:Int) (out:LN),i=.int .i64 k/\c=.int .u64 d/\0<=d/\d<=1/\k<=N+1/\dQ wr w.heap.size out/\out.length=N+1/\cX 4294967296 out/\Below w.heap.size w wr/\
  Nm.val 4294967296 (out.take k)+d*4294967296^k=Nm.val 4294967296 (a.take k)+Nm.val 4294967296 (b.take k)
theorem aFF {wr:World}{out:LN}(c0:0<=v)(c1:v<=1)(o:k<w+1)(e:dQ wr n.heap.size out)(g:out.length=w+1)(f:cX 4294967296 out)(d:Below n.heap.size n wr)(i:cX 4294967296 a)(j:cX 4294967296 b)
  (h:Nm.val 4294967296 (out.take k)+v*4294967296^k=Nm.val 4294967296 (a.take k)+Nm.val 4294967296 (b.take k)) (l:x=v+Nm.at' a k+Nm.at' b k):
  uI n a b w (.int .u64 (x/4294967296)) (.int .i64 ((k:Int)+1)) (wr.setCell ⟨n.heap.size,k,none⟩ (.int .u32 (x%4294967296))):=by
 have a0:=i.at' (by decide) k;have b0:=j.at' (by decide) k;refine⟨k+1,x/4294967296,out.set k (x%4294967296),by simp,rfl,by omega,by omega,by omega,e.set _ _,by simpa using g,f.set _ (by omega) (by omega),d.setCell (by simp) _,?_⟩;rw[Nm.Vl (by omega)];exact Nm.aOF (by rw[l5];omega) h l
theorem aJm (w:World)(a b:LN)(u v:Value)(H:Lims w a u)(I:Lims w b v)(af:a.length<=10000000000)(ag:b.length<=10000000000)(F:cX 4294967296 a)(A:cX 4294967296 b)(ai:(a.length:Int)<b.length):
  Calls prog 93 #[u,v] w (cZ w λC=>Nm.Good 4294967296 C/\Nm.val 4294967296 C=Nm.val 4294967296 a+Nm.val 4294967296 b):=by
 obtain⟨ao,ab,rfl,U⟩:=H.shape;obtain⟨bo,aa,rfl,T⟩:=I.shape;have J:=run_make_row' (P:=prog) 64 130 (.int .u32 0) 4 underlying64 kO rfl .i64 .i64 (b.length+1) (by omega) (by omega);rw[show((b.length+1:Nat):Int)=(b.length:Int)+1 by omega]at J;have W:=hid H;have M:=hid I;have D:=hid F;have GB:=hid A;clear H I F A
 go_enter func93,ntmps93
 go_wp2_with fail
 go_loopw [7,8] (λc i wr=>uI w a b b.length c i wr) (λ_ i _=>b.length+1-(intOf i).toNat)
 case atStart=>exact⟨0,0,n4 (b.length+1) 0,rfl,rfl,by omega,by omega,by omega,dQ.made w _,by simp,cX.lZ (by decide) _,aV (Below.refl _ _) (n8 _) _,rfl⟩
 case round=>
  obtain⟨k,cc,out,rfl,rfl,c0,c1,hk,g,d,j,f,l⟩:=hrel
  by_cases ah:(k:Int)<(b.length:Int)+1
  .have k1:=g.cell k (by omega);have k2:=g.frozen k;have ST:=hid (λx hx=>aFF (x:=x) c0 c1 (by omega) g d j f D.out GB.out l hx);have a0:=D.out.at' (by decide) k;have b0:=GB.out.at' (by decide) k;have O:=hid d
   by_cases g1:(k:Int)<a.length
   .obtain⟨F,rfl,s⟩:=(W.out.below f).place (by omega);have x1:=s k (by omega);clear s
    by_cases g2:(k:Int)<b.length
    .obtain⟨A,rfl,p⟩:=(M.out.below f).place (by omega);have x2:=p k (by omega);clear p l d j f g;generalize Nm.at' a k=x at*;generalize Nm.at' b k=y at*;generalize Nm.at' out k=o at*;obtain⟨a1,a2⟩:=a0;obtain⟨b1,b2⟩:=b0
     go_wp2_with fail
     go_roundw
     case rel=>exact ST.out _ (by omega)
     case measure=>simp[intOf];omega
    .exfalso;omega
   .have z:=Nm.Fv (xs:=a) (i:=k) (by omega)
    by_cases g2:(k:Int)<b.length
    .obtain⟨A,rfl,p⟩:=(M.out.below f).place (by omega);have x2:=p k (by omega);clear p l d j f g;generalize Nm.at' a k=x at*;generalize Nm.at' b k=y at*;generalize Nm.at' out k=o at*;obtain⟨b1,b2⟩:=b0;have q:=hid z;clear z a0
     go_wp2_with fail
     go_roundw
     case rel=>exact ST.out _ (by have:=q.out;omega)
     case measure=>simp[intOf];omega
    .have S:=Nm.Fv (xs:=b) (i:=k) (by omega);clear l d j f g;generalize Nm.at' a k=x at*;generalize Nm.at' b k=y at*;generalize Nm.at' out k=o at*;have q:=hid z;have E:=hid S;clear z a0 S b0
     go_wp2_with fail
     go_roundw
     case rel=>
      have h:=ST.out cc (by have:=q.out;have:=E.out;omega)
      first
       |exact h
       |(rw[p7 c0 (by omega)]at h;exact h)
       |(rw[p7 c0 (by omega),p8 c0 (by omega)]at h;exact h)
     case measure=>simp[intOf];omega
  .obtain rfl:k=b.length+1:=by omega
   have Y:=hid (Nm.aK5 (by decide) d j (by omega) (by omega) D.out GB.out c0 l);have R:=hid (Cl wr out _ 0 (g.qW (by omega)) (by omega));rw[d]at R;have L:=wV out;rw[d]at L;have N:=hid (g.used (B:=w.heap.size) (by omega) (n8 _));rw[d]at N;have X:=hid j;have r:=hid f;clear l d j f g;generalize hn:(Nm.strip out).length=n at*;clear hn
   go_wp2_with fail
   refine(R.out).mono ?_;rintro e w1⟨rfl,rfl⟩
   go_wp2_with fail
   go_ret
   exact⟨_,Nm.strip out,rfl,⟨Cn X.out,by rw[Cq,Y.out]⟩,N.out,r.out⟩
theorem aJl (w:World)(a b:LN)(u v:Value)(H:Lims w a u)(I:Lims w b v)(ag:a.length<=10000000000)(ah:b.length<=10000000000)(E:cX 4294967296 a)(F:cX 4294967296 b)(aj:¬(a.length:Int)<b.length):
  Calls prog 93 #[u,v] w (cZ w λA=>Nm.Good 4294967296 A/\Nm.val 4294967296 A=Nm.val 4294967296 a+Nm.val 4294967296 b):=by
 obtain⟨ao,ad,rfl,T⟩:=H.shape;obtain⟨bo,ab,rfl,S⟩:=I.shape;have J:=run_make_row' (P:=prog) 64 130 (.int .u32 0) 4 underlying64 kO rfl .i64 .i64 (a.length+1) (by omega) (by omega);rw[show((a.length+1:Nat):Int)=(a.length:Int)+1 by omega]at J;have U:=hid H;have W:=hid I;have C:=hid E;have GB:=hid F;clear H I E F
 go_enter func93,ntmps93
 go_wp2_with fail
 go_loopw [7,8] (λc i wr=>uI w a b a.length c i wr) (λ_ i _=>a.length+1-(intOf i).toNat)
 case atStart=>exact⟨0,0,n4 (a.length+1) 0,rfl,rfl,by omega,by omega,by omega,dQ.made w _,by simp,cX.lZ (by decide) _,aV (Below.refl _ _) (n8 _) _,rfl⟩
 case round=>
  obtain⟨k,cc,out,rfl,rfl,c0,c1,hk,f,d,j,g,l⟩:=hrel
  by_cases ai:(k:Int)<(a.length:Int)+1
  .have k1:=f.cell k (by omega);have k2:=f.frozen k;have ST:=hid (λx hx=>aFF (x:=x) c0 c1 (by omega) f d j g C.out GB.out l hx);have a0:=C.out.at' (by decide) k;have b0:=GB.out.at' (by decide) k;have N:=hid d
   by_cases g1:(k:Int)<a.length
   .obtain⟨E,rfl,s⟩:=(U.out.below g).place (by omega);have x1:=s k (by omega);clear s
    by_cases g2:(k:Int)<b.length
    .obtain⟨F,rfl,z⟩:=(W.out.below g).place (by omega);have x2:=z k (by omega);clear z l d j g f;generalize Nm.at' a k=x at*;generalize Nm.at' b k=y at*;generalize Nm.at' out k=o at*;obtain⟨a1,a2⟩:=a0;obtain⟨b1,b2⟩:=b0
     go_wp2_with fail
     go_roundw
     case rel=>exact ST.out _ (by omega)
     case measure=>simp[intOf];omega
    .have r:=Nm.Fv (xs:=b) (i:=k) (by omega);clear l d j g f;generalize Nm.at' a k=x at*;generalize Nm.at' b k=y at*;generalize Nm.at' out k=o at*;obtain⟨a1,a2⟩:=a0;have p:=hid r;clear r b0
     go_wp2_with fail
     go_roundw
     case rel=>exact ST.out _ (by have:=p.out;omega)
     case measure=>simp[intOf];omega
   .have R:=Nm.Fv (xs:=a) (i:=k) (by omega)
    by_cases g2:(k:Int)<b.length
    .exfalso;omega
    .have r:=Nm.Fv (xs:=b) (i:=k) (by omega);clear l d j g f;generalize Nm.at' a k=x at*;generalize Nm.at' b k=y at*;generalize Nm.at' out k=o at*;have D:=hid R;have p:=hid r;clear R a0 r b0
     go_wp2_with fail
     go_roundw
     case rel=>
      have h:=ST.out cc (by have:=D.out;have:=p.out;omega)
      first
       |exact h
       |(rw[p7 c0 (by omega)]at h;exact h)
       |(rw[p7 c0 (by omega),p8 c0 (by omega)]at h;exact h)
     case measure=>simp[intOf];omega
  .obtain rfl:k=a.length+1:=by omega
   have Y:=hid (Nm.aK5 (by decide) d j (by omega) (by omega) C.out GB.out c0 l);have O:=hid (Cl wr out _ 0 (f.qW (by omega)) (by omega));rw[d]at O;have L:=wV out;rw[d]at L;have M:=hid (f.used (B:=w.heap.size) (by omega) (n8 _));rw[d]at M;have X:=hid j;have q:=hid g;clear l d j g f;generalize hn:(Nm.strip out).length=n at*;clear hn
   go_wp2_with fail
   refine(O.out).mono ?_;rintro e w1⟨rfl,rfl⟩
   go_wp2_with fail
   go_ret
   exact⟨_,Nm.strip out,rfl,⟨Cn X.out,by rw[Cq,Y.out]⟩,M.out,q.out⟩
theorem aE3 (w:World)(a b:LN)(u v:Value)(i:Lims w a u)(j:Lims w b v)(d:a.length<=10000000000)(e:b.length<=10000000000)(f:cX 4294967296 a)(g:cX 4294967296 b):
  Calls prog 93 #[u,v] w (cZ w λk=>Nm.Good 4294967296 k/\Nm.val 4294967296 k=Nm.val 4294967296 a+Nm.val 4294967296 b):=by
 by_cases h:(a.length:Int)<b.length
 .exact aJm w a b u v i j d e f g h
 .exact aJl w a b u v i j d e f g h
def Bv (w:World)(a b:LN)(c i:Value)(wr:World):Prop:=
 ∃(k:Nat) (d:Int) (out:LN),i=.int .i64 k/\c=.int .u64 d/\0<=d/\d<=1/\k<=a.length/\dQ wr w.heap.size out/\out.length=a.length/\cX 4294967296 out/\Below w.heap.size w wr/\
  Nm.val 4294967296 (out.take k)+Nm.val 4294967296 (b.take k)=Nm.val 4294967296 (a.take k)+d*4294967296^k
theorem aJ5 {wr:World}{out:LN}{c' d:Int}(c0:0<=c')(c1:c'<=1)(l:k<a.length)(f:dQ wr n.heap.size out)(h:out.length=a.length)(g:cX 4294967296 out)(e:Below n.heap.size n wr)
  (i:Nm.val 4294967296 (out.take k)+Nm.val 4294967296 (b.take k)=Nm.val 4294967296 (a.take k)+v*4294967296^k) (d0:0<=d) (d1:d<4294967296) (j:d=Nm.at' a k-Nm.at' b k-v+c'*4294967296):
  Bv n a b (.int .u64 c') (.int .i64 ((k:Int)+1)) (wr.setCell ⟨n.heap.size,k,none⟩ (.int .u32 d)):=by
 refine⟨k+1,c',out.set k d,by simp,rfl,c0,c1,by omega,f.set _ _,by simpa using h,g.set _ d0 d1,e.setCell (by simp) _,?_⟩;rw[Nm.Vl (by omega)];exact Nm.aN3 (by rw[l5];omega) i j
theorem Km (w:World)(a b:LN)(u v:Value)(I:Lims w a u)(J:Lims w b v)(ak:a.length<=10000000000)(L:b.length<=a.length)(F:cX 4294967296 a)(H:cX 4294967296 b)(A:Nm.val 4294967296 b<=Nm.val 4294967296 a):
  Calls prog 95 #[u,v] w (cZ w λN=>Nm.Good 4294967296 N/\Nm.val 4294967296 N=Nm.val 4294967296 a-Nm.val 4294967296 b):=by
 obtain⟨ao,aj,rfl,Y⟩:=I.shape;obtain⟨bo,ai,rfl,X⟩:=J.shape;have ap:=run_make_row' (P:=prog) 64 130 (.int .u32 0) 4 underlying64 kO rfl .i64 .i64 a.length (by omega) (by omega);have HA:=hid I;have HB:=hid J;have GA:=hid F;have GB:=hid H;have C:=hid A;clear I J F H A
 go_enter func95,ntmps95
 go_wp2_with fail
 go_loopw [6,7] (λc i wr=>Bv w a b c i wr) (λ_ i _=>a.length-(intOf i).toNat)
 case atStart=>exact⟨0,0,n4 a.length 0,rfl,rfl,by omega,by omega,by omega,dQ.made w _,by simp,cX.lZ (by decide) _,aV (Below.refl _ _) (n8 _) _,rfl⟩
 case round=>
  obtain⟨k,U,out,rfl,rfl,c0,c1,hk,f,g,j,h,l⟩:=hrel
  by_cases am:(k:Int)<a.length
  .have k1:=f.cell k (by omega);have k2:=f.frozen k;have ST:=hid (λT d D E d0 d1 hd=>aJ5 (c':=T) (d:=d) D E (by omega) f g j h l d0 d1 hd);have a0:=GA.out.at' (by decide) k;have b0:=GB.out.at' (by decide) k;have R:=hid g;obtain⟨F,rfl,r⟩:=(HA.out.below h).place (by omega);have x1:=r k (by omega);clear r
   by_cases g2:(k:Int)<b.length
   .obtain⟨H,rfl,s⟩:=(HB.out.below h).place (by omega);have x2:=s k (by omega);clear s l g j h f;generalize Nm.at' a k=x at*;generalize Nm.at' b k=y at*;generalize Nm.at' out k=o at*;obtain⟨a1,a2⟩:=a0;obtain⟨b1,b2⟩:=b0
    by_cases hc:x<U+y
    .go_wp2_with fail
     go_roundw
     case rel=>exact ST.out 1 _ (by omega) (by omega) (by omega) (by omega) (by omega)
     case measure=>simp[intOf];omega
    .go_wp2_with fail
     go_roundw
     case rel=>exact ST.out 0 _ (by omega) (by omega) (by omega) (by omega) (by omega)
     case measure=>simp[intOf];omega
   .have W:=Nm.Fv (xs:=b) (i:=k) (by omega);clear l g j h f;generalize Nm.at' a k=x at*;generalize Nm.at' b k=y at*;generalize Nm.at' out k=o at*;obtain⟨a1,a2⟩:=a0;have q:=hid W;clear W b0
    by_cases hc:x<U
    .go_wp2_with fail
     go_roundw
     case rel=>exact ST.out 1 _ (by omega) (by omega) (by omega) (by omega) (by have:=q.out;omega)
     case measure=>simp[intOf];omega
    .go_wp2_with fail
     go_roundw
     case rel=>exact ST.out 0 _ (by omega) (by omega) (by omega) (by omega) (by have:=q.out;omega)
     case measure=>simp[intOf];omega
  .obtain rfl:k=a.length:=by omega
   have z:(out.take a.length).length=a.length:=by rw[l5];omega
   have HE:=hid (Nm.aQd (by decide) rfl z (j.take _) c0 C.out L l);have HT:=hid (show out.take a.length=out from List.take_of_length_le (by omega));have S:=hid (Cl wr out _ 0 (f.qW (by omega)) (by omega));rw[g]at S;have M:=wV out;rw[g]at M;have O:=hid (f.used (B:=w.heap.size) (by omega) (n8 _));rw[g]at O;have HD:=hid j;have p:=hid h;clear l g j h f z;generalize hn:(Nm.strip out).length=n at*;clear hn
   go_wp2_with fail
   refine(S.out).mono ?_;rintro e w1⟨rfl,rfl⟩
   go_wp2_with fail
   go_ret
   exact⟨_,Nm.strip out,rfl,⟨Cn HD.out,by rw[Cq,<-HE.out.2,HT.out]⟩,O.out,p.out⟩
theorem Nm.Mz {j:Nat}(h:k≠j):Nm.at' (s.set k x) j=Nm.at' s j:=by
 unfold Nm.at';simp[List.getD,List.getElem?_set_ne h]
theorem Nm.aKp (n i:Nat):Nm.at' (n4 n 0) i=0:=by
 unfold Nm.at';rw[j9]
 cases h:(n4 n (0:Int))[i]? with
 |none=>rfl
 |some x=>have:=List.mem_of_getElem? h;rw[List.mem_replicate]at this;rw[this.2];rfl
def wP (w:World)(S L:LN)(i:Value)(wr:World):Prop:=
 ∃(k:Nat) (out:LN),i=.int .i64 k/\k<=S.length/\dQ wr w.heap.size out/\out.length=S.length+L.length/\cX 4294967296 out/\Below w.heap.size w wr/\Nm.val 4294967296 out=Nm.val 4294967296 (S.take k)*Nm.val 4294967296 L/\(∀t,k+L.length<=t->Nm.at' out t=0)
def Fe (w:World)(S L:LN)(i:Nat)(c b:Value)(wr:World):Prop:=
 ∃(j:Nat) (a:Int) (out:LN),b=.int .i64 j/\c=.int .u64 a/\0<=a/\a<4294967296/\j<=L.length/\dQ wr w.heap.size out/\out.length=S.length+L.length/\cX 4294967296 out/\Below w.heap.size w wr/\
  Nm.val 4294967296 out+a*4294967296^(i+j)=Nm.val 4294967296 (S.take i)*Nm.val 4294967296 L+Nm.at' S i*Nm.val 4294967296 (L.take j)*4294967296^i/\(∀t,i+L.length<=t->Nm.at' out t=0)
theorem aSg {out:LN}(d:k+b.length<out.length)(e:Nm.at' out (k+b.length)=0)(h:Nm.val 4294967296 out+v*4294967296^(k+b.length)=Nm.val 4294967296 (a.take k)*Nm.val 4294967296 b+Nm.at' a k*Nm.val 4294967296 (b.take b.length)*4294967296^k):
  Nm.val 4294967296 (out.set (k+b.length) v)=Nm.val 4294967296 (a.take (k+1))*Nm.val 4294967296 b:=by
 rw[l4]at h;rw[Nm.aPt _ _ _ _ d,e,Nm.yQ];generalize (4294967296:Int)^(k+b.length)=P at*;grind
theorem Yr (w:World)(a b:LN)(u v:Value)(W:Lims w a u)(Y:Lims w b v)(a7:a.length<=10000000000)(a8:b.length<=10000000000)(ga:cX 4294967296 a)(gb:cX 4294967296 b):
  Calls prog 92 #[u,v] w (cZ w λxs=>Nm.Good 4294967296 xs/\Nm.val 4294967296 xs=Nm.val 4294967296 a*Nm.val 4294967296 b):=by
 obtain⟨ao,a3,rfl,av⟩:=W.shape;obtain⟨bo,az,rfl,au⟩:=Y.shape;have ak:=run_make_row' (P:=prog) 64 130 (.int .u32 0) 4 underlying64 kO rfl .i64 .i64 (a.length+b.length) (by omega) (by omega);rw[show((a.length+b.length:Nat):Int)=(a.length:Int)+b.length by omega]at ak
 by_cases a6:(b.length:Int)<a.length
 .have T:=hid Y;have J:=hid W;have GS:=hid gb;have GL:=hid ga;clear W Y ga gb
  go_enter func92,ntmps92
  go_wp2_with fail
  go_loopw [8] (λi wr=>wP w b a i wr) (λi _=>b.length-(intOf i).toNat)
  case atStart=>exact⟨0,n4 (a.length+b.length) 0,rfl,n9 _,dQ.made w _,by simp;try omega,cX.lZ (by decide) _,aV (Below.refl _ _) (n8 _) _,by rw[aGk];simp[Nm.val],λt _=>Nm.aKp _ _⟩
  case round=>
   obtain⟨k,out,rfl,hk,d,h,p,l,r,z⟩:=hrel;have HV:=hid r;have L:=hid h;have E:=hid p;have A:=hid l;have I:=hid d;have N:=hid z;have hs:=d.lt
   by_cases aj:(k:Int)<b.length
   .obtain⟨g,rfl,_⟩:=T.out.place (by omega)
    obtain⟨wo,R⟩:∃wo:World,wo=wr:=⟨_,rfl⟩
    subst R;have x1:=(T.out.below A.out).oA k (by omega);clear r h p l d z;have a0:=GS.out.at' (by decide) k
    have i5:(k:Int)+a.length<=(a.length:Int)+b.length:=by omega
    have i6:IntKind.i64.wrap ((k:Int)+a.length)=(k:Int)+a.length:=by rw[IntKind.wrap_i64];omega
    have i7:((k:Int)+a.length).toNat=k+a.length:=by omega
    have i8:k+a.length-k=a.length:=by omega
    have i9:(0:Int)<=(k:Int)+a.length:=by omega
    have ap:(k:Int)<=(k:Int)+a.length:=by omega
    have aq:k+a.length<=a.length+b.length:=by omega
    have ar:k<=k+a.length:=by omega
    go_wp2_with fail
    go_loopw [11,12] (λc j wr=>Fe w b a k c j wr) (λ_ j _=>a.length-(intOf j).toNat)
    case atStart=>
     refine⟨0,0,out,rfl,rfl,by omega,by omega,by omega,I.out,L.out,E.out,A.out,?_,N.out⟩;rw[HV.out];simp[Nm.val]
    case round=>
     obtain⟨j,H,f,rfl,rfl,c0,c1,hj,d,h,p,l,r,z⟩:=hrel;have am:=d.lt
     by_cases gg:(j:Int)<a.length
     .have D:k+j<f.length:=by rw[h];omega
      obtain⟨g2,rfl,_⟩:=J.out.place (by omega);have y1:=(J.out.below l).oA j (by omega);have x2:=d.cell (k+j) D;have x3:=d.frozen (k+j);have b0:=GL.out.at' (by decide) j;have S:=p.at' (by decide) (k+j);have C:=aIx (x:=H+Nm.at' f (k+j)+Nm.at' b k*Nm.at' a j) (by decide) c0 c1 S.1 S.2 a0.1 a0.2 b0.1 b0.2 rfl;have ST:=hid (aKQ (x:=H+Nm.at' f (k+j)+Nm.at' b k*Nm.at' a j) D r rfl)
      have F:Hid (∀X q,X=H+Nm.at' f (k+j)+Nm.at' b k*Nm.at' a j->Fe w b a k (.int .u64 (X/4294967296)) (.int .i64 ((j:Int)+1)) ((wr.drewN q).setCell ⟨w.heap.size,k+j,none⟩ (.int .u32 (X%4294967296)))):=by
       rintro X q rfl;refine⟨j+1,_,f.set (k+j) ((H+Nm.at' f (k+j)+Nm.at' b k*Nm.at' a j)%4294967296),by simp,rfl,C.2.1,C.2.2.1,by omega,(show dQ (wr.drewN q) w.heap.size f from d).set _ _,by simpa using h,p.set _ (by omega) (by omega),(below_drewN l q).setCell (by simp) _,ST.out,?_⟩;intro t ht;rw[Nm.Mz (by omega)];exact z t ht
      clear r h p l d z ST;generalize Nm.at' b k=x at*;generalize Nm.at' a j=y at*;generalize Nm.at' f (k+j)=o at*;obtain⟨a1,a2⟩:=a0;obtain⟨b1,b2⟩:=b0;obtain⟨o1,o2⟩:=S;obtain⟨k0,k1,k2,k3⟩:=C;have p0:0<=x*y:=p9 a1 b1;have p1:x*y<=4294967295*4294967295:=q7 (by omega) (by omega) b1 (by omega)
      go_wp2_with fail
      go_quiet (fail)
      go_wp2_with fail
      go_roundw
      case rel=>exact F.out (H+(x*y+o)) _ (by rw[q8 (x*y) o,q9])
      case measure=>simp[intOf];omega
     .obtain rfl:j=a.length:=by omega
      have D:k+a.length<f.length:=by rw[h];omega
      have M:=hid (aSg D (z _ (n8 _)) r);have x2:=d.cell (k+a.length) D;have x3:=d.frozen (k+a.length)
      have F:Hid (wP w b a (.int .i64 ((k:Int)+1)) (wr.setCell ⟨w.heap.size,k+a.length,none⟩ (.int .u32 H))):=by
       refine⟨k+1,f.set (k+a.length) H,by simp,by omega,d.set _ _,by simpa using h,p.set _ c0 c1,l.setCell (by simp) _,M.out,?_⟩;intro t ht;rw[Nm.Mz (by omega)];exact z t (by omega)
      have i1:(k:Int)+a.length<(a.length:Int)+b.length:=by omega
      clear r h p l d z M;generalize Nm.at' f (k+a.length)=o at*
      go_wp2_with fail
      go_roundw
      case rel=>exact F.out
      case measure=>simp[intOf];omega
   .obtain rfl:k=b.length:=by omega
    have HE:=hid (show Nm.val 4294967296 out=Nm.val 4294967296 b*Nm.val 4294967296 a by rw[r,l4]);have U:=hid (Cl wr out _ 0 (d.qW (by omega)) (by omega))
    have s:out.length=a.length+b.length:=by omega
    rw[s]at U;have O:=wV out;rw[s]at O;have J:=hid (d.used (B:=w.heap.size) (by omega) (n8 _));rw[s]at J;clear r h p l d z s;generalize hn:(Nm.strip out).length=n at*;clear hn
    go_wp2_with fail
    refine(U.out).mono ?_;rintro e w1⟨rfl,rfl⟩
    go_wp2_with fail
    go_ret
    exact⟨_,Nm.strip out,rfl,⟨Cn E.out,by rw[Cq,HE.out];exact o9 _ _⟩,J.out,A.out⟩
 .have T:=hid W;have J:=hid Y;have GS:=hid ga;have GL:=hid gb;clear W Y ga gb
  go_enter func92,ntmps92
  go_wp2_with fail
  go_loopw [8] (λi wr=>wP w a b i wr) (λi _=>a.length-(intOf i).toNat)
  case atStart=>exact⟨0,n4 (a.length+b.length) 0,rfl,n9 _,dQ.made w _,by simp;try omega,cX.lZ (by decide) _,aV (Below.refl _ _) (n8 _) _,by rw[aGk];simp[Nm.val],λt _=>Nm.aKp _ _⟩
  case round=>
   obtain⟨k,out,rfl,hk,d,h,p,l,r,z⟩:=hrel;have HV:=hid r;have L:=hid h;have E:=hid p;have A:=hid l;have I:=hid d;have N:=hid z;have hs:=d.lt
   by_cases aj:(k:Int)<a.length
   .obtain⟨g,rfl,_⟩:=T.out.place (by omega)
    obtain⟨wo,R⟩:∃wo:World,wo=wr:=⟨_,rfl⟩
    subst R;have x1:=(T.out.below A.out).oA k (by omega);clear r h p l d z;have a0:=GS.out.at' (by decide) k
    have i5:(k:Int)+b.length<=(a.length:Int)+b.length:=by omega
    have i6:IntKind.i64.wrap ((k:Int)+b.length)=(k:Int)+b.length:=by rw[IntKind.wrap_i64];omega
    have i7:((k:Int)+b.length).toNat=k+b.length:=by omega
    have i8:k+b.length-k=b.length:=by omega
    have i9:(0:Int)<=(k:Int)+b.length:=by omega
    have ap:(k:Int)<=(k:Int)+b.length:=by omega
    have aq:k+b.length<=a.length+b.length:=by omega
    have ar:k<=k+b.length:=by omega
    go_wp2_with fail
    go_loopw [11,12] (λc j wr=>Fe w a b k c j wr) (λ_ j _=>b.length-(intOf j).toNat)
    case atStart=>
     refine⟨0,0,out,rfl,rfl,by omega,by omega,by omega,I.out,L.out,E.out,A.out,?_,N.out⟩;rw[HV.out];simp[Nm.val]
    case round=>
     obtain⟨j,H,f,rfl,rfl,c0,c1,hj,d,h,p,l,r,z⟩:=hrel;have am:=d.lt
     by_cases gg:(j:Int)<b.length
     .have D:k+j<f.length:=by rw[h];omega
      obtain⟨g2,rfl,_⟩:=J.out.place (by omega);have y1:=(J.out.below l).oA j (by omega);have x2:=d.cell (k+j) D;have x3:=d.frozen (k+j);have b0:=GL.out.at' (by decide) j;have S:=p.at' (by decide) (k+j);have C:=aIx (x:=H+Nm.at' f (k+j)+Nm.at' a k*Nm.at' b j) (by decide) c0 c1 S.1 S.2 a0.1 a0.2 b0.1 b0.2 rfl;have ST:=hid (aKQ (x:=H+Nm.at' f (k+j)+Nm.at' a k*Nm.at' b j) D r rfl)
      have F:Hid (∀X q,X=H+Nm.at' f (k+j)+Nm.at' a k*Nm.at' b j->Fe w a b k (.int .u64 (X/4294967296)) (.int .i64 ((j:Int)+1)) ((wr.drewN q).setCell ⟨w.heap.size,k+j,none⟩ (.int .u32 (X%4294967296)))):=by
       rintro X q rfl;refine⟨j+1,_,f.set (k+j) ((H+Nm.at' f (k+j)+Nm.at' a k*Nm.at' b j)%4294967296),by simp,rfl,C.2.1,C.2.2.1,by omega,(show dQ (wr.drewN q) w.heap.size f from d).set _ _,by simpa using h,p.set _ (by omega) (by omega),(below_drewN l q).setCell (by simp) _,ST.out,?_⟩;intro t ht;rw[Nm.Mz (by omega)];exact z t ht
      clear r h p l d z ST;generalize Nm.at' a k=x at*;generalize Nm.at' b j=y at*;generalize Nm.at' f (k+j)=o at*;obtain⟨a1,a2⟩:=a0;obtain⟨b1,b2⟩:=b0;obtain⟨o1,o2⟩:=S;obtain⟨k0,k1,k2,k3⟩:=C;have p0:0<=x*y:=p9 a1 b1;have p1:x*y<=4294967295*4294967295:=q7 (by omega) (by omega) b1 (by omega)
      go_wp2_with fail
      go_quiet (fail)
      go_wp2_with fail
      go_roundw
      case rel=>exact F.out (H+(x*y+o)) _ (by rw[q8 (x*y) o,q9])
      case measure=>simp[intOf];omega
     .obtain rfl:j=b.length:=by omega
      have D:k+b.length<f.length:=by rw[h];omega
      have M:=hid (aSg D (z _ (n8 _)) r);have x2:=d.cell (k+b.length) D;have x3:=d.frozen (k+b.length)
      have F:Hid (wP w a b (.int .i64 ((k:Int)+1)) (wr.setCell ⟨w.heap.size,k+b.length,none⟩ (.int .u32 H))):=by
       refine⟨k+1,f.set (k+b.length) H,by simp,by omega,d.set _ _,by simpa using h,p.set _ c0 c1,l.setCell (by simp) _,M.out,?_⟩;intro t ht;rw[Nm.Mz (by omega)];exact z t (by omega)
      have i1:(k:Int)+b.length<(a.length:Int)+b.length:=by omega
      clear r h p l d z M;generalize Nm.at' f (k+b.length)=o at*
      go_wp2_with fail
      go_roundw
      case rel=>exact F.out
      case measure=>simp[intOf];omega
   .obtain rfl:k=a.length:=by omega
    have HE:=hid (show Nm.val 4294967296 out=Nm.val 4294967296 a*Nm.val 4294967296 b by rw[r,l4]);have U:=hid (Cl wr out _ 0 (d.qW (by omega)) (by omega))
    have s:out.length=a.length+b.length:=by omega
    rw[s]at U;have O:=wV out;rw[s]at O;have J:=hid (d.used (B:=w.heap.size) (by omega) (n8 _));rw[s]at J;clear r h p l d z s;generalize hn:(Nm.strip out).length=n at*;clear hn
    go_wp2_with fail
    refine(U.out).mono ?_;rintro e w1⟨rfl,rfl⟩
    go_wp2_with fail
    go_ret
    exact⟨_,Nm.strip out,rfl,⟨Cn E.out,by rw[Cq,HE.out]⟩,J.out,A.out⟩
theorem wY {o:Obj}(a:Obj)(h:n.heap[k]?=some o):(n.alloc a).heap[k]?=some o:=by rw[Below.heap_alloc _ _ _ (fJ h)];exact h
structure Yo (w w2:World) (B:Nat) (z:Int) (p q:Value):Prop where
 c0:((w2.setCell ⟨B,0,none⟩ p).setCell ⟨B,1,none⟩ q).cell? ⟨B,0,none⟩=some p
 c1:((w2.setCell ⟨B,0,none⟩ p).setCell ⟨B,1,none⟩ q).cell? ⟨B,1,none⟩=some q
 num:WhoAt ((w2.setCell ⟨B,0,none⟩ p).setCell ⟨B,1,none⟩ q) z (.agg #[p,q])
 below:Below w.heap.size w ((w2.setCell ⟨B,0,none⟩ p).setCell ⟨B,1,none⟩ q)
theorem uQ {b:World}{x g p q:Value}(h:b.heap[w]?=some (.cells #[x,g] 66 (0,0)))(i:WhoAt b v (.agg #[p,q]))(f:Below n.heap.size n b)(e:n.heap.size<=w):Yo n b w v p q:=by
 have a:=sF h (o:=0) p;have d:=sF a (o:=1) q;exact⟨aX d rfl,aX d rfl,(i.other h (by decide) p).other a (by decide) q,(f.setCell e _).setCell e _⟩
theorem Au {b:World}{x g p q:Value}(h:b.heap[w]?=some (.cells #[x,g] 66 (0,0)))(e:WhoAt b v (.agg #[p,q]))(d:Below n.heap.size n b)(a:n.heap.size<=w):b.frozen? ⟨w,0,none⟩=false/\b.frozen? ⟨w,1,none⟩=false/\b.cell? ⟨w,0,none⟩=some x/\b.cell? ⟨w,1,none⟩=some g/\
  ((b.setCell ⟨w,0,none⟩ p).setCell ⟨w,1,none⟩ q).cell? ⟨w,0,none⟩=some p/\((b.setCell ⟨w,0,none⟩ p).setCell ⟨w,1,none⟩ q).cell? ⟨w,1,none⟩=some q/\Hid (WhoAt ((b.setCell ⟨w,0,none⟩ p).setCell ⟨w,1,none⟩ q) v (.agg #[p,q]))/\Hid (Below n.heap.size n ((b.setCell ⟨w,0,none⟩ p).setCell ⟨w,1,none⟩ q)):=
 have F:=uQ h e d a
 ⟨jY h,jY h,aX h rfl,aX h rfl,F.c0,F.c1,F.num,F.below⟩
def kW (w:World)(a b c d:Value):World:=((w.alloc (.cells #[a,b] 66)).alloc (.cells #[c,d] 66)).alloc (.cells #[.bool false,.slice none 0 0] 66)
theorem Kr (w:World)(a b c d:Value):Below w.heap.size w (kW w a b c d).drew:=(aV (aV (aV (Below.refl _ _) (n8 _) _) (by simp) _) (by simp;omega) _).trans ((Ad _).mono (by simp[kW];omega))
theorem zM (w:World)(a b c d:Value):(kW w a b c d).drew.heap.size=w.heap.size+3:=by simp[kW]
theorem Nt (w:World)(a b c d:Value):(kW w a b c d).drew.heap[w.heap.size]?=some (.cells #[a,b] 66 (0,0)):=wY _ (wY _ (wX _ _))
theorem Ut (w:World)(a b c d:Value):(kW w a b c d).drew.heap[w.heap.size+1]?=some (.cells #[c,d] 66 (0,0)):=by
 have:=wY (.cells #[.bool false,.slice none 0 0] 66) (wX (w.alloc (.cells #[a,b] 66)) (.cells #[c,d] 66));rw[s4]at this;exact this
theorem aGX (w:World)(a b c d:Value):(kW w a b c d).drew.heap[w.heap.size+2]?=some (.cells #[.bool false,.slice none 0 0] 66 (0,0)):=by
 have:=wX ((w.alloc (.cells #[a,b] 66)).alloc (.cells #[c,d] 66)) (.cells #[.bool false,.slice none 0 0] 66);rw[s4,s4]at this;exact this
theorem pF (w:World)(a b c d:Value):Below w.heap.size w (kW w a b c d):=aV (aV (aV (Below.refl _ _) (n8 _) _) (by simp) _) (by simp;omega) _
theorem yJ (w:World)(a b c d:Value):(kW w a b c d).heap.size=w.heap.size+3:=by simp[kW]
theorem Nc (w:World)(a b c d:Value):(kW w a b c d).heap[w.heap.size]?=some (.cells #[a,b] 66 (0,0)):=Nt w a b c d
theorem Kn (w:World)(a b c d:Value):(kW w a b c d).heap[w.heap.size+1]?=some (.cells #[c,d] 66 (0,0)):=Ut w a b c d
theorem Cp (w:World)(a b c d:Value):(kW w a b c d).heap[w.heap.size+2]?=some (.cells #[.bool false,.slice none 0 0] 66 (0,0)):=aGX w a b c d
theorem tX {z:Int}{v:Value}{i:Bool}(a:Lims n xs v)(d:Nm.Good 4294967296 xs)(hv:Nm.val 4294967296 xs=z.natAbs)(b:i=decide (z<0)):WhoAt n z (.agg #[.bool i,v]):=⟨xs,v,by rw[b],a,d,hv⟩
theorem aUq (n:Int)(w:World)(y:-9223372036854775808<=n)(x:n<9223372036854775808):Calls prog 47 #[.int .i64 n] w (bZ w n):=by
 have r:Hid (∀W N,N=(n.natAbs:Int)->Calls prog 62 #[.int .u64 N] W (cZ W λb=>Nm.Good 4294967296 b/\Nm.val 4294967296 b=(n.natAbs:Int)/\b.length<=2)):=by
  rintro W N rfl;exact Tq _ W (by omega) (by omega)
 obtain⟨s,f⟩:∃s,s=decide (n<0):=⟨_,rfl⟩
 have i:(n<0/\s=true)\/(¬n<0/\s=false):=by
  by_cases h:n<0
  .exact Or.inl ⟨h,by rw[f];simpa using h⟩
  .exact Or.inr ⟨h,by rw[f];simpa using h⟩
 have k:=hid f;clear f
 rcases i with⟨hc,rfl⟩|⟨hc,rfl⟩
 all_goals
  go_enter func47,ntmps47
  go_wp2_with fail
  refine(r.out _ _ (by omega)).mono ?_;rintro e I⟨H,b,rfl,⟨u,hv,_⟩,g,d⟩;have j:=d.size;rw[s4]at j;obtain⟨o1,c1,rfl,_⟩:=g.shape;have a:=cY (by rw[s4];omega) (wX w (.cells #[.bool false,.slice none 0 0] 66)) d;have l:=tX (z:=n) (g.bO (n9 _)) u (by omega) k.out;have o:=(aV (Below.refl w.heap.size w) (n8 _) (.cells #[.bool false,.slice none 0 0] 66)).trans (d.mono (by rw[s4];omega));obtain⟨C,D,E,F,A,B,q,p⟩:=Au a l o (by omega);clear l o a;clear d g k
  go_wp2_with fail
  exact bodyPost_ret (v:=.agg #[.bool _,.slice o1 b.length c1]) (by simp[results,results47,go_sem,A,B]) rfl ⟨_,rfl,q.out,p.out⟩
theorem Ov (a:Nm.Good 4294967296 s)(hv:Nm.val 4294967296 s=v.natAbs):s=[]↔v=0:=by
 have:=Nm.Gb (by decide) a;rw[hv]at this;rw[<-this];omega
theorem aGn (w:World)(z:Int)(v:Value)(h:WhoAt w z v):Calls prog 66 #[v] w λe j=>e=.returned (.int .i64 (Nm.cmp z 0))/\Below w.heap.size w j:=by
 obtain⟨b,k,f,rfl,g,d,hv⟩:=h.open;have a:=Ov d hv;clear g d hv h
 rcases Int.lt_trichotomy z 0 with h0|h0|h0
 .have i:((b.length:Int)==0)=false:=by
   simp only[beq_eq_false_iff_ne,ne_eq];intro h;have:=a.1 (n5 (by omega));omega
  rw[jC h0,decide_eq_true h0];clear a
  go_enter func66,ntmps66
  go_wp2_with fail
  go_ret
  exact⟨rfl,aV (Below.refl _ _) (n8 _) _⟩
 .subst h0;have:=a.2 rfl;subst this;rw[jB rfl];clear a
  go_enter func66,ntmps66
  go_wp2_with fail
  go_ret
  exact⟨rfl,aV (Below.refl _ _) (n8 _) _⟩
 .have i:((b.length:Int)==0)=false:=by
   simp only[beq_eq_false_iff_ne,ne_eq];intro h;have:=a.1 (n5 (by omega));omega
  rw[hO h0,decide_eq_false (by omega)];clear a
  go_enter func66,ntmps66
  go_wp2_with fail
  go_ret
  exact⟨rfl,aV (Below.refl _ _) (n8 _) _⟩
theorem aLD (w:World)(z:Int)(v:Value)(h:WhoAt w z v):Calls prog 67 #[v] w (bZ w (-z)):=by
 obtain⟨d,i,b,rfl,n,j,hv⟩:=h.open;have o:=Ov j hv;have g:=hid n;have f:=hid j;have k:=hid hv;clear n j hv h
 by_cases a:z<0
 .rw[decide_eq_true a]
  go_enter func67,ntmps67
  go_wp2_with fail
  refine bodyPost_ret (v:=.agg #[.bool false,.slice i d.length b]) (by simp[results,results67,go_sem]) rfl ⟨_,rfl,tX ((g.out.alloc _).alloc _) f.out (by rw[k.out];omega) (by symm;simp;omega),aV (aV (Below.refl _ _) (n8 _) _) (by simp) _⟩
 .rw[decide_eq_false a]
  by_cases l:z=0
  .have e:=o.2 l;subst e
   go_enter func67,ntmps67
   go_wp2_with fail
   refine bodyPost_ret (v:=.agg #[.bool false,.slice i 0 b]) (by simp[results,results67,go_sem]) rfl ⟨_,rfl,tX (xs:=[]) ((g.out.alloc _).alloc _) f.out rfl rfl,aV (aV (Below.refl _ _) (n8 _) _) (by simp) _⟩
  .have q:(0:Int)<d.length:=by
    rcases Nat.eq_zero_or_pos d.length with h|h
    .exact absurd (o.1 (n5 h)) l
    .omega
   have p:0<d.length:=by omega
   go_enter func67,ntmps67
   go_wp2_with fail
   refine bodyPost_ret (v:=.agg #[.bool true,.slice i d.length b]) (by simp[results,results67,go_sem,p]) rfl ⟨_,rfl,tX ((g.out.alloc _).alloc _) f.out (by rw[k.out];omega) (by symm;simp;omega),aV (aV (Below.refl _ _) (n8 _) _) (by simp) _⟩
theorem aGo (w:World)(z:Int)(v:Value)(h:WhoAt w z v):Calls prog 96 #[v] w (bZ w (z.natAbs:Int)):=by
 obtain⟨j,i,a,rfl,b,d,hv⟩:=h.open;have f:=hid b;have e:=hid d;have g:=hid hv;clear b d hv h;generalize decide (z<0)=k at*
 go_enter func96,ntmps96
 go_wp2_with fail
 refine bodyPost_ret (v:=.agg #[.bool false,.slice i j.length a]) (by simp[results,results96,go_sem]) rfl ⟨_,rfl,tX ((f.out.alloc _).alloc _) e.out (by rw[g.out];simp) (by symm;simp),aV (aV (Below.refl _ _) (n8 _) _) (by simp) _⟩
end Go.Proofs.YtpdflaaamaokbaaGreatDoor
