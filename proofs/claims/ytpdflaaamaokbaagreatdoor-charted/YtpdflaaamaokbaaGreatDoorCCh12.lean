import Derived.Test.YtpdflaaamaokbaaGreatDoorCCh11
import Derived.Test.YtpdflaaamaokbaaGreatDoorCCh04
set_option linter.all false
set_option maxRecDepth 100000
set_option maxHeartbeats 2000000
namespace Go.Proofs.YtpdflaaamaokbaaGreatDoor
open List renaming length_eq_zero_iff->j8,mem_cons->j9,not_mem_nil->k8,getElem?_append_right->k9,getElem?_map->l4,mem_singleton->l5,getElem?_eq_some_iff->l7,getElem?_append_left->l8,getElem?_set_ne->l9,getElem?_eq_getElem->n4,getD_eq_getElem?_getD->n5,range->n6,mem_range->n7,all_eq_true->n8
open _root_.Array renaming getD_eq_getD_getElem?->n9,getElem?_eq_some_iff->o8,getElem?_eq_getElem->o9,getElem?_setIfInBounds->p7,getElem?_eq_none->p8,getElem?_toList->p9,replicate->q7
open Option renaming bind_some->q8,map_eq_some_iff->q9,bind_eq_some_iff->s4
open Nat renaming lt_trans->s8,zero_add->s9,le_refl->u7,zero_le->u9,le_trans->w9,strongRecOn->z6,ble->z7,le_of_ble_eq_true->z8
open Go.Region renaming ready->A0,wanted->A5
open Option.some renaming inj->A6,injEq->A7
open Prod.mk renaming injEq->A8
open Or renaming inr->A9
open Rf (V jM Pm)
open Go.Proofs.Tryz
open Go.RowKit
namespace Ab
def b5 (kd:Int)(fst fur:Value)(a:LB):bL:=ext (.sint .i64 kd::.lit fst::.lit fur::a.map .lit) 223
def Yk (cols:LN)(lv nv:Value)(k:Int)(a:bL):Spec:=λf _ ν id b d=>bif f==174 then (match d with
 | [.one (.ptr 5 0),.one (.sint .i64 m)]=>(b 5).map λB=>(cols.map (λz=>(z,1)),.val (.one (.ptr id 0)),[m=k,B=a],some ⟨.sbool false::bH true ν.length 8++[.lit aB,.sint .i64 0,.lit lv,.sint .i64 0,.lit aB,.sint .i64 0,.lit aI,.sint .i64 0,.lit nv,.sint .i64 k],120,true,false,false⟩)
 |_=>none)else none
theorem aJI {φ:LI}{ν:LV}{w:World}:∀(a b:LB),All2 (relC Z φ ν w) (a.map .lit) b->b=a
 | [],[],_=>rfl
 | [],_::_,h=>h.elim
 |_::_,[],h=>h.elim
 |x::a,y::b,⟨d,e⟩=>by rw[aJI a b e,d.1]
theorem aJJ {φ:LI}{ν:LV}{w:World}:∀(a:LB),(∀x∈a,One x)->All2 (relC Z φ ν w) (a.map .lit) a
 | [],_=>trivial
 |x::a,h=>⟨⟨rfl,h x (by simp)⟩,aJJ a λy b=>h y (by simp[b])⟩
variable {w:World}{nb:Nat}{fst:Value}{a:LB}{zs:LN}
theorem aWz {ψ:LI}{kd k:Int}{fur:Value}(v:ψ 5=some (nb,0))(hx:Hold true w zs a)(h8:zs.length=8)(hb:∀z∈zs,Bits 1 z)(o1:One fst)(o2:One fur)(hf:kd≠10->(gM kd k).natAbs<1000000000000000000/\(gN kd k).natAbs<1000000000000000000):SpecOk Z w ψ (Yk (if kd=10 then zs else lD kd k) (if 0<k then fur else fst) (aA nb) k (b5 kd fst fur a)):=by
 intro f dd ν id bx vs ay r p au h;unfold Yk at h
 cases i:f==174 with
 |false=>rw[i]at h;cases h
 |true=>
  rw[i]at h
  have:f=174:=by simpa using i
  subst this;refine⟨(bD func174 rfl rfl).en,λhp X S φ w1 ys u _ M F P=>?_⟩;simp only[cond_true]at h;split at h
  .rename_i m;obtain⟨B,hB,h⟩:=bU h;cases h
   match ys,P with
   | [y1,y2],⟨h1,D,_⟩=>
   have hm:m=k:=hp (m=k) (by simp);have E:B=b5 kd fst fur a:=hp (B=b5 kd fst fur a) (by simp);have D:y2=.int .i64 m:=D;rw[uG (u 5 _ v) h1,D,hm];obtain⟨k',o,U,W,b,Y,g2,g3,g4⟩:=F 5 B hB;rw[u 5 _ v]at Y;cases Y;have s:U=[]:=j8.1 g3;subst s;rw[E]at g4 g2
   match W,g4 with
   |u1::u2::u3::W,⟨x,y,A,C⟩=>
   have x:u1=.int .i64 kd:=x;have y:u2=fst:=y.1;have A:u3=fur:=A.1;have C:=aJI a W C;subst x y A C;refine(aMc (w:=w1) (nb:=nb) (kd:=kd) (k:=k) (post:=b) g2 (nD M hx) h8 hb o1 o2 hf).mono ?_;rintro e w'⟨mm,rfl,q,I,L⟩;obtain⟨l,n1,n2⟩:=L.ex
   have H:(if kd=10 then zs else lD kd k).length=8:=by split;exact h8;rfl
   refine⟨_,rfl,q,rfl,λe=>(by cases e),mm,0,[],_,[],I,by simpa using n1,rfl,?_,⟨mm,0,pE _ _ _,rfl⟩,λ_=>⟨rfl,rfl⟩⟩
   have g:∀z∈(if kd=10 then zs else lD kd k),Bits 1 z:=by
    split
    .exact hb
    .rename_i J;obtain⟨f1,f2⟩:=hf J
     have d:∀z:Int,z.natAbs<1000000000000000000->Bits 1 z:=λz n=>wZ (N:=60) (by decide) (s8 n (by decide))
     intro z n;simp only[lD,j9,k8,or_false]at n
     rcases n with rfl|rfl|rfl|rfl|rfl|rfl|rfl|rfl
     all_goals first|exact d _ f1|exact d _ f2|exact d _ (by decide)
   have O:All2 (relC Z φ X w') (bH true ν.length 8) l:=by
    rw[<-H]
    refine tV _ l ν.length X n2 g λj z n=>S _ _ ?_
    rw[k9 (by omega),show ν.length+j-ν.length=j by omega,l4,n];rfl
   have T:One (if 0<k then u3 else u2):=by split<;>assumption
   exact All2.append (show All2 (relC Z φ X w') (.sbool false::bH true ν.length 8) (.bool false::l)from⟨rfl,O⟩) ⟨⟨rfl,rfl⟩,rfl,⟨rfl,T⟩,rfl,⟨rfl,rfl⟩,rfl,⟨rfl,rfl⟩,rfl,⟨rfl,rfl⟩,rfl,trivial⟩
  .cases h
section
variable (p0 q0 p1 q1 p2 q2 p3 q3 c0 c1 c2 c3 c4 c5 c6 c7:Int) (hs:Bool) (uns mt lr rr pl c kd:Int) (lp cst gv fst fur lv nv x0 x1 x2 x3 x4 x5 x6 x7 x8 x9 x10 x11 x12 x13 x14 x15:Value)
def nvB:AC->AC->bL:=λrp nv=>⟨Mh hs uns mt lr rr pl (.lit lp) rp (.lit cst) nv (.lit gv),120,false,false,false⟩
theorem bAJ:(run Z (fI (Yk [c0,c1,c2,c3,c4,c5,c6,c7] lv nv (IntKind.i64.wrap (pl+1)) (b5 kd fst fur [x0,x1,x2,x3,x4,x5,x6,x7,x8,x9,x10,x11,x12,x13,x14,x15])) (aE tN)) bW (aL Z (fI (Yk [c0,c1,c2,c3,c4,c5,c6,c7] lv nv (IntKind.i64.wrap (pl+1)) (b5 kd fst fur [x0,x1,x2,x3,x4,x5,x6,x7,x8,x9,x10,x11,x12,x13,x14,x15])) (aE tN))) (nH (aG 61)) 400 [.code (aF f150),.top f150] (sW [p0,q0,p1,q1,p2,q2,p3,q3] hs uns mt lr rr pl c (.lit lp) (.lit aB) (.lit cst) (.ptr 5 0) (.lit gv) [(5,b5 kd fst fur [x0,x1,x2,x3,x4,x5,x6,x7,x8,x9,x10,x11,x12,x13,x14,x15])] (nG 66))).bind (eF (fF [0,6,17,5] [] 22 []) (fF [0,6,17,5] [0,1,36,37] 22 []))
  = some (.need [IntKind.i64.wrap (pl+1)=IntKind.i64.wrap (pl+1),b5 kd fst fur [x0,x1,x2,x3,x4,x5,x6,x7,x8,x9,x10,x11,x12,x13,x14,x15]=b5 kd fst fur [x0,x1,x2,x3,x4,x5,x6,x7,x8,x9,x10,x11,x12,x13,x14,x15]] (.stp (eH (aG 61) f150)
   ⟨slot [(0,P0),(1,P6),(36,.val (.agg [.ptr 17 0,.sint .i64 rr])),(37,P6)] 0 68,[(0,nvB hs uns mt lr rr pl lp cst gv (.ptr 17 0) (.ptr 5 0)),(6,tZ c),(17,⟨.sbool false::bH true 8 8++[.lit aB,.sint .i64 0,.lit lv,.sint .i64 0,.lit aB,.sint .i64 0,.lit aI,.sint .i64 0,.lit nv,.sint .i64 (IntKind.i64.wrap (pl+1))],120,true,false,false⟩),(5,b5 kd fst fur [x0,x1,x2,x3,x4,x5,x6,x7,x8,x9,x10,x11,x12,x13,x14,x15])],22,[(p0,10),(q0,10),(p1,10),(q1,10),(p2,10),(q2,10),(p3,10),(q3,10),(c0,1),(c1,1),(c2,1),(c3,1),(c4,1),(c5,1),(c6,1),(c7,1)],[0]⟩)):=by kernel_rfl
end
theorem Fb (h:a.length=16):∃x0 x1 x2 x3 x4 x5 x6 x7 x8 x9 x10 x11 x12 x13 x14 x15,a=[x0,x1,x2,x3,x4,x5,x6,x7,x8,x9,x10,x11,x12,x13,x14,x15]:=by
 match a,h with
 | [x0,x1,x2,x3,x4,x5,x6,x7,x8,x9,x10,x11,x12,x13,x14,x15],_=>exact⟨x0,x1,x2,x3,x4,x5,x6,x7,x8,x9,x10,x11,x12,x13,x14,x15,rfl⟩
section
variable {w:World} {k fb:Nat} {p0 q0 p1 q1 p2 q2 p3 q3:Int} {hs:Bool} {uns mt lr rr pl c:Int} {lp rp gv cv nv:Value} {R:EW}
theorem aGq (h:Pos2 w k fb [p0,q0,p1,q1,p2,q2,p3,q3] hs uns mt lr rr pl c lp aB gv cv nv){kd:Int}{fur:Value}{q:LN}(J:nv=aA nb)(n:w.heap[nb]?=some (.cells (.int .i64 kd::fst::fur::a).toArray 223 (0,0)))(g:Hold true w q a)(h8:q.length=8)(H:∀z∈q,Bits 1 z)(o1:One fst)(o2:One fur)(hf:kd≠10->(gM kd (IntKind.i64.wrap (pl+1))).natAbs<1000000000000000000/\(gN kd (IntKind.i64.wrap (pl+1))).natAbs<1000000000000000000)
  (P:∀p m,Chg w p [k]->w.heap.size<=m->Pos2 p k fb [p0,q0,p1,q1,p2,q2,p3,q3] hs uns mt lr rr pl c lp (aA m) gv cv nv->NodeAt p m (if kd=10 then q else lD kd (IntKind.i64.wrap (pl+1))) false 0 0 0 0 (IntKind.i64.wrap (pl+1)) (if 0<IntKind.i64.wrap (pl+1)then fur else fst) aB aI aB (aA nb)->Calls prog 61 #[.agg #[aA m,.int .i64 rr],aA fb] p λe w2=>∃U,e=.returned (.int .i64 U)/\Kl w2 k fb U R):
  Calls prog 150 #[aA k,aA fb] w R:=by
 obtain⟨n1,n2⟩:=h.aUh n (by decide) (by decide);have S:=Ny q a g;rw[h8]at S;have A:∀x∈a,One x:=Kx (C:=Z) (φ:=λ_=>none) (ν:=q.map λz=>(z,1)) (w:=w) (tV q a 0 _ g H λj z d=>by rw[s9,l4,d];rfl);have M:=aWz (ψ:=phW k fb (ph1 5 nb)) (nb:=nb) (kd:=kd) (k:=IntKind.i64.wrap (pl+1)) (fst:=fst) (fur:=fur) rfl g h8 H o1 o2 hf;obtain⟨c0,c1,c2,c3,c4,c5,c6,c7,u⟩:=eight (zs:=if kd=10 then q else lD kd (IntKind.i64.wrap (pl+1))) (by split;exact h8;rfl);rw[u]at M P;obtain⟨x0,x1,x2,x3,x4,x5,x6,x7,x8,x9,x10,x11,x12,x13,x14,x15,rfl⟩:=Fb S;have F:=bD func150 rfl rfl
 have L:=h.Ev (exφ:=ph1 5 nb) (ex:=[(5,b5 kd fst fur [x0,x1,x2,x3,x4,x5,x6,x7,x8,x9,x10,x11,x12,x13,x14,x15])]) (rpC:=.lit aB) (cvC:=.lit cv) (nvC:=.ptr 5 0) ⟨rfl,rfl⟩ ⟨rfl,h.o4⟩ ⟨nb,0,rfl,J⟩ (by
  intro b B hB;have:=nE hB;simp only[j9,k8,or_false,A8]at this;obtain⟨rfl,rfl⟩:=this
  exact⟨rfl,rfl,rfl,nb,0,rfl,n1,n2,[],.int .i64 kd::fst::fur::[x0,x1,x2,x3,x4,x5,x6,x7,x8,x9,x10,x11,x12,x13,x14,x15],[],n,rfl,rfl,⟨rfl,o1⟩,⟨rfl,o2⟩,aJJ _ A⟩) (by
  intro b k' o r;unfold ph1 at r;split at r
  .cases r;exact gZ n
  .cases r) (nG 66)
 have I:∀b x,phW k fb (ph1 5 nb) b=some x->[0,6,17,5].contains b=true:=Wo rfl rfl λb x e=>by
  unfold ph1 at e;split at e
  .subst_vars;rfl
  .cases e
 refine pM F (φ:=phW k fb (ph1 5 nb)) (vs:=[.one (.ptr 0 0),.one (.ptr 6 0)]) (args:=[aA k,aA fb]) (by kernel_rfl) ⟨⟨k,0,rfl,rfl⟩,⟨fb,0,rfl,rfl⟩,trivial⟩ L ?_
 refine cC (Oz M (dL jO)) rS I (jI I) (bAJ p0 q0 p1 q1 p2 q2 p3 q3 c0 c1 c2 c3 c4 c5 c6 c7 hs uns mt lr rr pl c kd lp cv gv fst fur (if 0<IntKind.i64.wrap (pl+1)then fur else fst) (aA nb) x0 x1 x2 x3 x4 x5 x6 x7 x8 x9 x10 x11 x12 x13 x14 x15) (λ_ _=>False)
  (λks s=>ks=eH (aG 61) f150/\s=⟨slot [(0,P0),(1,P6),(36,.val (.agg [.ptr 17 0,.sint .i64 rr])),(37,P6)] 0 68,[(0,nvB hs uns mt lr rr pl lp cv gv (.ptr 17 0) (.ptr 5 0)),(6,tZ c),(17,⟨.sbool false::bH true 8 8++[.lit aB,.sint .i64 0,.lit (if 0<IntKind.i64.wrap (pl+1)then fur else fst),.sint .i64 0,.lit aB,.sint .i64 0,.lit aI,.sint .i64 0,.lit (aA nb),.sint .i64 (IntKind.i64.wrap (pl+1))],120,true,false,false⟩),(5,b5 kd fst fur [x0,x1,x2,x3,x4,x5,x6,x7,x8,x9,x10,x11,x12,x13,x14,x15])],22,[(p0,10),(q0,10),(p1,10),(q1,10),(p2,10),(q2,10),(p3,10),(q3,10),(c0,1),(c1,1),(c2,1),(c3,1),(c4,1),(c5,1),(c6,1),(c7,1)],[0]⟩)
  ⟨λx g=>by simp at g;exact g,rfl,rfl⟩ (λ_ _ _ _ _ h=>h.elim) ?_
 rintro ks s⟨rfl,rfl⟩;refine⟨by kernel_rfl,λa9 ag a1 p N l=>?_⟩;obtain⟨m,ys,k1,k2,k3,k4⟩:=zN l.wd (b:=17) rfl rfl rfl
 have Y:Chg w p [k]:=⟨l.wd.on,λj hj hn=>l.wd.low j hj λb H o e=>by
  simp only[l5]at H;subst H;rw[l.wd.base 0 (k,0) rfl]at e;cases e
  exact hn (by simp)⟩
 have v:NodeAt p m [c0,c1,c2,c3,c4,c5,c6,c7] false 0 0 0 0 (IntKind.i64.wrap (pl+1)) (if 0<IntKind.i64.wrap (pl+1)then fur else fst) aB aI aB (aA nb):=by
  refine aOi (j:=8) k3 k2 rfl ?_ (λx g=>g) (λx g=>g.1) (λx g=>g) (λx g=>g.1) (λx g=>g) (λx g=>g.1) (λx g=>g) (λx g=>g.1) (λx g=>g) (λx g=>g.1) (λx g=>g);intro i z d;refine⟨1,?_⟩
  match i,d with
  |0,d=>cases d;rfl
  |1,d=>cases d;rfl
  |2,d=>cases d;rfl
  |3,d=>cases d;rfl
  |4,d=>cases d;rfl
  |5,d=>cases d;rfl
  |6,d=>cases d;rfl
  |7,d=>cases d;rfl
  |i+8,d=>simp at d
 have aa:Pos2 p k fb [p0,q0,p1,q1,p2,q2,p3,q3] hs uns mt lr rr pl c lp (aA m) gv cv nv:=by
  obtain ⟨⟨ba,af,ax,am,ae,g1,⟨e1,g2⟩,⟨kr,be,e2,g3⟩,⟨e3,g4⟩,⟨e4,g5⟩,⟨kn,on,e5,g6⟩⟩,g7⟩:=aOV (ns:=[]) l.wd (hs:=hs) (uns:=uns) (mt:=mt) (lr:=lr) (rr:=rr) (pl:=pl) (c:=c) (lpC:=.lit lp) (rpC:=.ptr 17 0) (gvC:=.lit gv) (cvC:=.lit cv) (nvC:=.ptr 5 0) rfl rfl (h.nd.shape h.h8) (Zf h.fu) (zs:=[p0,q0,p1,q1,p2,q2,p3,q3]) rfl (by
   intro i z d;refine⟨10,?_⟩
   match i,d with
   |0,d=>cases d;rfl
   |1,d=>cases d;rfl
   |2,d=>cases d;rfl
   |3,d=>cases d;rfl
   |4,d=>cases d;rfl
   |5,d=>cases d;rfl
   |6,d=>cases d;rfl
   |7,d=>cases d;rfl
   |i+8,d=>simp at d)
  rw[k1]at e2;cases e2;rw[l.wd.base 5 (nb,0) rfl]at e5;cases e5
  have W:af=aA m:=by rw[g3];rfl
  have X:ae=nv:=by rw[g6,J];rfl
  rw[e1,W,e3,e4,X]at g1;exact⟨g1,g7,h.bits,rfl,h.o1,rfl,h.o3,h.o4,h.o5⟩
 refine qI (f:=61) (vs:=[.agg [.ptr 17 0,.sint .i64 rr],.one (.ptr 6 0)]) (dst:=some 38) (ks2:=eE (aG 61) f150) (by kernel_rfl) (bD func61 rfl rfl).en (by kernel_rfl) (N ag [] p) l ?_;intro us ab
 match us,ab with
 | [y,y2],⟨⟨zz,hy,d⟩,ad,_⟩=>
 match zz,d with
 | [z1,z2],⟨D,E,_⟩=>
 have D:z1=aA m:=uG (ν:=[]) (w:=p) k1 D;have E:z2=.int .i64 rr:=E;rw[uG (l.wd.base 6 (fb,0) rfl) ad,hy,D,E];refine(P p m Y k4 aa v).mono ?_;rintro e w2⟨U,rfl,hA⟩;exact⟨_,rfl,λT a2 O=>aJ0 l (by kernel_rfl) (by kernel_rfl) (l.wd.base 0 (k,0) rfl) (l.wd.base 6 (fb,0) rfl) hA T O⟩
end
open Rf (Nd Inv aY)
section
variable {w w1:World} {b0 fb m nb:Nat} {own own':Nat->Option Own} {at1 at2:NN} {i:Nat} {n n1 mN:Nd} {s:Rf.St} {rho:NN} {c:Nat}{d:Nd}
theorem Hr {j:List Nd}{w a:Nat}{s:LN}{v:Int}{b u x y:V}(f:NodeAt w1 (at2 w) s false 0 0 0 0 v (aA (at2 a)) aB aI aB (aA nb))(h8:s.length=8)(f1:mN.pos=true)(f2:mN.aP=false)(f3:mN.t=[b,u,x,y])(p:mN.args=[a])(q:mN.read=[0])(o:mN.out=[])(E:mN.told=Rf.one)(z:mN.dR=[Rf.one])(M:mN.nest=true)(D:j[a]?=some d)(C:d.dR[0]?=some Rf.one)(g:∃cs:LB,w1.heap[nb]?=some (.cells cs.toArray 223 (0,0)))(l:jA w1 b0 own' at2 w mN nb v)(k:Pg.eN mN.t (cE s))(B:own' (at2 w)=some (.nd w))(A:b0<=at2 w):cH w1 b0 own' at2 j w mN:=by
 obtain⟨O,T,P,U,R,W,S,X,rfl⟩:=eight h8;refine⟨⟨O,T,P,U,R,W,S,X,0,v,aI,aB,aA nb,⟨?_,Or.inl ⟨rfl,o⟩,λe=>?_,λ_=>rfl,λe=>?_,λ_=>⟨nb,rfl,g,λ_ _=>l⟩⟩,mN.t,?_,k⟩,⟨by rw[z,o];rfl,by rw[z];rfl,by rw[z,o,E];rfl,λr Y mm h=>by rw[o]at h;simp at h⟩,B,A,λe=>by rw[f2]at e;cases e⟩
 .have F:lArg mN=some a:=by unfold lArg;rw[f3,p];rfl
  have H:rArg mN=none:=by unfold rArg;rw[f3,p];rfl
  have I:hV mN=0:=by unfold hV;rw[f3,q];rfl
  have J:gC mN=0:=by unfold gC;rw[f3,q];rfl
  have L:fL mN=0:=by unfold fL;rw[f2];rfl
  rw[F,H,I,J,L,f1];exact f
 .rw[f3]at e;cases e
 .rw[M]at e;cases e
 .rw[f3];exact Pg.aIe f3 p q D C E
theorem aMB {j:List Nd}{w x:Nat}{p:Bool}(k:p=true)(a:NodeAt w1 (at2 w) [1,0,0,0,0,0,0,1] false 0 0 0 0 0 (aA (at2 x)) (aA (at2 x)) aI aB aB)(f:j[x]?=some d)(b:d.dR[0]?=some Rf.one)(h:own' (at2 w)=some (.nd w))(g:b0<=at2 w):cH w1 b0 own' at2 j w (Rf.two .mul p p x x):=by
 subst k;refine⟨⟨1,0,0,0,0,0,0,1,0,0,aI,aB,aB,⟨a,Or.inl ⟨rfl,rfl⟩,λe=>(by cases e),λ_=>rfl,λ_=>rfl,λe=>(by cases e)⟩,Rf.Kind.mul.cols,Pg.Yt rfl rfl rfl f b f b rfl,?_⟩,Pg.HC.fresh _ _ _,h,g,λe=>by cases e⟩;exact .El (e:=1) (by decide) (Pg.gV _).symm (Pg.gV _).symm (Pg.gV _).symm (Pg.gV _).symm
theorem aLB (h:Net w b0 own at1 fb s)(hI:Inv s.nodes rho c)(S:s.nodes[i]?=some n){a0 r0:Nat}{q f x r:V}(W:n.t=[q,f,x,r])(ha:n.args=[a0])(hr:n.read=[r0])(L:n.nest=true){p:Nat}{new E:List Nd}(B:n1={n with args:=n.args++[p],read:=n.read++[0]})(M:E=(s.nodes++new).set i n1){v z p1 y p2 A p3 H mt pl:Int}{gv g u:Value}{l:List V}{b:Option (Nat×Nat)}{I nn:FF}(U:Seen w b0 own at1 s.nodes i n v z p1 y p2 A p3 H mt pl gv g u l b I nn)(F:Chg w w1 [at1 i])(ag:Pos2 w1 (at1 i) fb [v,z,p1,y,p2,A,p3,H] (!n.pos) (fL n) mt (hV n) (gC n) pl s.clock (eV at1 (lArg n)) (aA m) gv g u)
  (O:∀a,a<s.nodes.length->at2 a=at1 a) (aa:at2 p=m)  (aq:E[p]?=some d) (ap:d.dR[0]?=some Rf.one) (D:∀k o,k<w.heap.size->own k=some o->o≠.pd i->own' k=some o) (T:∀k,k<w.heap.size->own k=none->own' k=none) (ae:∀j mm,(s.nodes++new)[j]?=some mm->s.nodes.length<=j->cH w1 b0 own' at2 E j mm):
  Kept w w1 own own' fb/\Net w1 b0 own' at2 fb ⟨E,s.clock⟩:=by
 have hi:=(l7.1 S).1;have hN:=hI.at' i n S;have ad:Pg.Go s.nodes (s.nodes++new):=Pg.Go.more _ _
 have ar:(s.nodes++new)[i]?=some n:=by rw[l8 hi];exact S
 have ab:Pg.Go s.nodes E:=by
  rw[M];exact ad.trans (yL ar (by rw[B]) (by rw[B]) (by rw[B]))
 have N:=(h.nd i n S).own
 have Y:zF w own i [at1 i]:=by
  intro k R cs ty mm J;simp at R;subst R;obtain⟨xs,h1,_⟩:=U.bS.nd.ex;rw[J]at h1;exact Or.inl ⟨(Obj.cells.inj (A6 h1)).2.1,N⟩
 have C:=O i hi;refine⟨Kept.Ps F (λk R bf af=>?_) T,h.step (i:=i) hI (λj X L=>?_) ab F Y D O (ag.fu) λj mm X av=>?_⟩
 .simp at R;subst R;rw[N]at af;cases af
 .rw[M,l9 (λe=>L e.symm),l8 X]
 .by_cases P:j=i
  .subst P;rw[M,List.getElem?_set_self (by simp;omega)]at X;cases X
   have au:∀nb:Nat,(∃cs:LB,w.heap[nb]?=some (.cells cs.toArray 223 (0,0)))->∃cs:LB,w1.heap[nb]?=some (.cells cs.toArray 223 (0,0)):=by
    rintro nb⟨cs,J⟩;refine⟨cs,F.at J ?_⟩;intro R
    rcases Y nb R _ _ _ J with⟨e,_⟩|⟨e,_⟩|e<;>exact absurd e (by decide)
   refine⟨⟨v,z,p1,y,p2,A,p3,H,mt,pl,gv,g,u,⟨?_,?_,λe=>?_,λ_=>U.bS.oL (by rw[W];simp),?_⟩,l,?_,U.Gw⟩,(h.nd j n S).hc.of (by rw[B]) (by rw[B]) (by rw[B]),by rw[C];exact D _ _ U.bS.nd.lt N (by intro e;cases e),by rw[C];exact(h.nd j n S).lo,by rw[B];exact(h.nd j n S).So⟩
   .have f1:lArg n1=lArg n:=by unfold lArg;rw[B,ha];simp[W]
    have f2:rArg n1=some p:=by unfold rArg;rw[B,ha];simp[W]
    have f3:hV n1=hV n:=by unfold hV;rw[B,hr];simp[W]
    have f4:gC n1=gC n:=by unfold gC;rw[B,hr];simp[W]
    have f5:fL n1=fL n:=by rw[B];rfl
    have f6:n1.pos=n.pos:=by rw[B]
    have f7:eV at2 (lArg n)=eV at1 (lArg n):=by
     cases e:lArg n with
     |none=>rfl
     |some a=>simp only[eV];rw[O a (aN2 hN a e)]
    rw[f1,f2,f3,f4,f5,f6,f7,C];show NodeAt w1 (at1 j) _ _ _ _ _ _ _ _ (aA (at2 p)) _ _ _;rw[aa];exact ag.nd
   .rw[B]
    rcases U.bS.Aw with⟨g1,g2⟩|⟨g',al,ai,g1,g2,g3,g4,g5,g6⟩
    .exact Or.inl ⟨g1,g2⟩
    .refine A9 ⟨g',al,ai,g1,F.at g2 ?_,g3,g4,D _ _ (gZ g2) g5 (by intro e;cases e),g6⟩;intro hm;simp at hm;subst hm;rw[N]at g5;cases g5
   .rw[B]at e;simp only at e;rw[W]at e;cases e
   .refine⟨λe=>?_,λe=>?_⟩
    .rw[B]at e;simp only at e;rw[L]at e;cases e
    .obtain⟨nb,k1,k2,_⟩:=U.bS.nst.2 L;refine⟨nb,k1,au nb k2,λ_ hl=>?_⟩;rw[B,ha]at hl;simp at hl
   .rw[B];exact Pg.aIg W ha hr (ab.corners U.Cx) aq ap
  .rcases av with e|e
   .exact absurd e P
   .refine ae j mm ?_ e;rw[M,l9 (λe=>P e.symm)]at X;exact X
end
variable {n:Nd}
theorem xD {ns a:List Nd}(h:Rf.more ns n=some a):a=ns++[n]:=by
 unfold Rf.more at h;split at h
 .cases h;rfl
 .cases h
def Mc (len m:Nat)(at1:NN):NN:=λj=>if j<len then at1 j else m
def atB (len pb m:Nat)(at1:NN):NN:=λj=>if j<len then at1 j else if j=len then pb else m
def oO (m:Nat)(o:Own)(own:Nat->Option Own):Nat->Option Own:=λk=>if k=m then some o else own k
variable {a:Nat}
theorem Du {len m:Nat}{at1:NN}(h:a<len):Mc len m at1 a=at1 a:=by unfold Mc;rw[if_pos h]
theorem Pq {len m:Nat}{at1:NN}(h:len<=a):Mc len m at1 a=m:=by unfold Mc;rw[if_neg (by omega)]
variable {pb:Nat}
theorem Wx {len m:Nat}{at1:NN}(h:a<len):atB len pb m at1 a=at1 a:=by unfold atB;rw[if_pos h]
theorem Pn {len m:Nat}{at1:NN}:atB len pb m at1 len=pb:=by unfold atB;rw[if_neg (by omega),if_pos rfl]
theorem Po {len m:Nat}{at1:NN}(h:len<a):atB len pb m at1 a=m:=by unfold atB;rw[if_neg (by omega),if_neg (by omega)]
theorem Wj {m:Nat}{o:Own}{own:Nat->Option Own}:oO m o own m=some o:=by unfold oO;rw[if_pos rfl]
variable {k:Nat}
theorem Dr {m:Nat}{o:Own}{own:Nat->Option Own}(h:k≠m):oO m o own k=own k:=by unfold oO;rw[if_neg h]
structure Nst (w:World) (b0:Nat) (own:Nat->Option Own) (at':NN) (i:Nat) (n:Nd) (nb:Nat) (pl:Int) (xs:LB) (zs:LN) (fst fur:Value):Prop where
 bS:w.heap[nb]?=some (.cells (.int .i64 (aH n.op)::fst::fur::xs).toArray 223 (0,0))
 hold:Hold true w zs xs
 len:zs.length=8
 bits:∀z∈zs,Bits 1 z
 root:n.op=.sqrt->∃a,n.args[0]?=some a/\fst=aA (at' a)/\fur=aA (at' a)/\Pg.eN n.t (cE zs)
 fn:n.op≠.sqrt->pl=n.k/\∃ x,n.x=some x/\fst=aA (at' x)/\(n.op=.fK->fur=aA (at' x))/\(n.op≠.fK->(∀ s,n.fA=some s->fur=aA (at' s))/\
   (n.fA=none->∃pb,fur=aA pb/\own pb=some (.pd i)/\b0<=pb/\NodeAt w pb [1,0,0,0,0,0,0,1] false 0 0 0 0 0 (aA (at' x)) (aA (at' x)) aI aB aB))
variable {i:Nat}{v:Int}
theorem Nst.of {b0:Nat}{own:Nat->Option Own}{at':NN}(h:jA w b0 own at' i n nb v):∃b d fst a,Nst w b0 own at' i n nb v b d fst a:=by
 obtain⟨b,d,fst,a,e,f,g,j,k,l⟩:=h;exact⟨b,d,fst,a,e,f,g,j,k,l⟩
variable {g:Value}
theorem Nst.Er {b0:Nat}{own:Nat->Option Own}{at':NN}{o:LB}{s:LN}(h:Nst w b0 own at' i n nb v o s fst g):One fst/\One g:=by
 by_cases l:n.op=.sqrt
 .obtain⟨a,_,b,d,_⟩:=h.root l;rw[b,d];exact⟨rfl,rfl⟩
 .obtain⟨_,x,_,b,d,j⟩:=h.fn l;refine⟨by rw[b];rfl,?_⟩
  by_cases f:n.op=.fK
  .rw[d f];rfl
  .cases k:n.fA with
   |none=>obtain⟨pb,e,_⟩:=(j f).2 k;rw[e];rfl
   |some sq=>rw[(j f).1 sq k];rfl
theorem aJH {op:Rf.Op}(h:Rf.fn op)(a:op≠.sqrt):aH op≠10/\((aH op=11/\op=.exp)\/(aH op=12/\op=.fK)\/(aH op=13/\op=.atan)):=by
 rcases h with e|e|e|e
 .exact absurd e a
 .subst e;exact⟨by decide,Or.inl ⟨rfl,rfl⟩⟩
 .subst e;exact⟨by decide,A9 (Or.inl ⟨rfl,rfl⟩)⟩
 .subst e;exact⟨by decide,A9 (A9 ⟨rfl,rfl⟩)⟩
theorem Vn {op:Rf.Op}(h:Rf.fn op)(f:op≠.sqrt)(e:k<=3001):cE (lD (aH op) (k:Int))=[(0,0),((Rf.shape op k).1,0),(0,1),(0,(Rf.shape op k).2)]/\(gM (aH op) k).natAbs<1000000000000000000/\(gN (aH op) k).natAbs<1000000000000000000:=by
 obtain⟨_,d⟩:=aJH h f;obtain⟨a,b⟩:=aRy (k:=k) (by omega) d;obtain⟨b1,b2,_,_⟩:=Rf.Zo op e;unfold lD cE;rw[a,b];refine⟨rfl,?_,?_⟩
 .exact s8 (show _<2^24 from b1) (by decide)
 .exact s8 (show _<2^24 from b2) (by decide)
section
variable {w w1:World} {b0 fb m nb:Nat} {own:Nat->Option Own} {at1:NN} {i:Nat} {n n1 mN:Nd} {s:Rf.St} {rho:NN} {c:Nat}{l:List V}{b:Option (Nat×Nat)}{I nn:FF}
theorem Ck (h:Net w b0 own at1 fb s)(aq:b0<=w.heap.size)(hI:Inv s.nodes rho c)(W:s.nodes[i]?=some n){a0 r0:Nat}{p f x q:V}(ht:n.t=[p,f,x,q])(E:n.args=[a0])(hr:n.read=[r0])(Y:n.nest=true){j:List Nd}(N:n1={n with args:=n.args++[s.nodes.length],read:=n.read++[0]})(D:j=(s.nodes++[mN]).set i n1){z p1 y e A p3 H mt pl:Int}{gv u:Value}(hs:Seen w b0 own at1 s.nodes i n v z p1 y e A p3 H mt pl gv g u l b I nn)(P:Chg w w1 [at1 i])(hm:w.heap.size<=m)(ab:Pos2 w1 (at1 i) fb [v,z,p1,y,e,A,p3,H] (!n.pos) (fL n) mt (hV n) (gC n) pl s.clock (eV at1 (lArg n)) (aA m) gv g u)
   (B:a<s.nodes.length)  {M:Int} {v' u' x' y':V} (C:NodeAt w1 m zs false 0 0 0 0 M (aA (at1 a)) aB aI aB (aA nb)) (h8:zs.length=8) (f1:mN.pos=true) (f2:mN.aP=false) (f3:mN.t=[v',u',x',y']) (f4:mN.args=[a]) (f5:mN.read=[0]) (f6:mN.out=[]) (f7:mN.told=Rf.one) (f8:mN.dR=[Rf.one]) (f9:mN.nest=true) (F:∃cs:LB,w1.heap[nb]?=some (.cells cs.toArray 223 (0,0))) (L:jA w1 b0 (oO m (.nd s.nodes.length) own) (Mc s.nodes.length m at1) s.nodes.length mN nb M) (J:Pg.eN mN.t (cE zs)):
  ∃r at2,Kept w w1 own r fb/\Net w1 b0 r at2 fb ⟨j,s.clock⟩/\(∀a,a<s.nodes.length->at2 a=at1 a)/\at2 s.nodes.length=m:=by
 have hi:=(l7.1 W).1
 have X:(s.nodes++[mN])[i]?=some n:=by rw[l8 hi];exact W
 have S:Pg.Go s.nodes j:=by
  rw[D];exact(Pg.Go.more _ _).trans (yL X (by rw[N]) (by rw[N]) (by rw[N]))
 have R:j[s.nodes.length]?=some mN:=by
  rw[D,l9 (by omega),k9 (u7 _)];simp
 obtain⟨xa,g1,_,g3,_⟩:=S.at' a _ (n4 B);have ad:=g3 0 _ (h.nd a _ (n4 B)).hc.fst
 obtain ⟨k1,k2⟩:=aLB h hI W ht E hr Y N D hs P ab (at2:=Mc s.nodes.length m at1) (own':=oO m (.nd s.nodes.length) own) (λa E=>Du E) (Pq (u7 _)) R (by rw [f8];rfl) (λk o hk ho _=>by rw [Dr (by omega)];exact ho) (λk hk ho=>by rw [Dr (by omega)];exact ho) (by
  intro d mm O ar;have U:=(l7.1 O).1
  have T:d=s.nodes.length:=by simp at U;omega
  subst T;rw[k9 (u7 _)]at O;simp at O;subst O;refine Hr (a:=a) ?_ h8 f1 f2 f3 f4 f5 f6 f7 f8 f9 g1 ad F L J ?_ ?_
  .rw[Pq (u7 _),Du B];exact C
  .rw[Pq (u7 _)];exact Wj
  .rw[Pq (u7 _)];omega)
 exact⟨_,_,k1,k2,λa E=>Du E,Pq (u7 _)⟩
theorem Tg (h:Net w b0 own at1 fb s)(a7:b0<=w.heap.size)(hI:Inv s.nodes rho c)(hn:s.nodes[i]?=some n){a0 r0:Nat}{q f x r:V}(ht:n.t=[q,f,x,r])(R:n.args=[a0])(hr:n.read=[r0])(aj:n.nest=true){j:List Nd}{p:Nat}{E:Bool}(ap:E=true)(e1:n1={n with args:=n.args++[s.nodes.length+1],read:=n.read++[0]})(al:j=(s.nodes++[Rf.two .mul E E p p]++[mN]).set i n1){z p1 y p2 A p3 H mt pl:Int}{gv u:Value}(hs:Seen w b0 own at1 s.nodes i n v z p1 y p2 A p3 H mt pl gv g u l b I nn)(J:Chg w w1 [at1 i])(hm:w.heap.size<=m)(am:Pos2 w1 (at1 i) fb [v,z,p1,y,p2,A,p3,H] (!n.pos) (fL n) mt (hV n) (gC n) pl s.clock (eV at1 (lArg n)) (aA m) gv g u)
  (M:p<s.nodes.length) (D:own pb=some (.pd i)) (W:b0<=pb) (F:NodeAt w pb [1,0,0,0,0,0,0,1] false 0 0 0 0 0 (aA (at1 p)) (aA (at1 p)) aI aB aB)  {Y:Int} {v' u' x' y':V} (N:NodeAt w1 m zs false 0 0 0 0 Y (aA pb) aB aI aB (aA nb)) (h8:zs.length=8) (f1:mN.pos=true) (f2:mN.aP=false) (f3:mN.t=[v',u',x',y']) (f4:mN.args=[s.nodes.length]) (f5:mN.read=[0]) (f6:mN.out=[]) (f7:mN.told=Rf.one) (f8:mN.dR=[Rf.one]) (f9:mN.nest=true) (S:∃cs:LB,w1.heap[nb]?=some (.cells cs.toArray 223 (0,0))) (U:jA w1 b0 (oO m (.nd (s.nodes.length+1)) (oO pb (.nd s.nodes.length) own)) (atB s.nodes.length pb m at1) (s.nodes.length+1) mN nb Y) (T:Pg.eN mN.t (cE zs)):
  ∃C at2,Kept w w1 own C fb/\Net w1 b0 C at2 fb ⟨j,s.clock⟩/\(∀a,a<s.nodes.length->at2 a=at1 a)/\at2 (s.nodes.length+1)=m:=by
 have hi:=(l7.1 hn).1
 have B:j=(s.nodes++[Rf.two .mul E E p p,mN]).set i n1:=by rw[al];simp
 have ai:(s.nodes++[Rf.two .mul E E p p,mN])[i]?=some n:=by rw[l8 hi];exact hn
 have af:Pg.Go s.nodes j:=by
  rw[B];exact(Pg.Go.more _ _).trans (yL ai (by rw[e1]) (by rw[e1]) (by rw[e1]))
 have ad:j[s.nodes.length]?=some (Rf.two .mul E E p p):=by
  rw[B,l9 (by omega),k9 (u7 _)];simp
 have ae:j[s.nodes.length+1]?=some mN:=by
  rw[B,l9 (by omega),k9 (by omega)];simp
 obtain⟨xa,g1,_,g3,_⟩:=af.at' p _ (n4 M);have aq:=g3 0 _ (h.nd p _ (n4 M)).hc.fst;have P:=F.lt
 have ao:pb ∉ [at1 i]:=by
  intro e;simp at e;subst e;rw[(h.nd i n hn).own]at D;cases D
 have X:NodeAt w1 pb [1,0,0,0,0,0,0,1] false 0 0 0 0 0 (aA (at1 p)) (aA (at1 p)) aI aB aB:=F.aT J.on (J.low pb P ao)
 obtain⟨k1,k2⟩:=aLB h hI hn ht R hr aj e1 B hs J am (at2:=atB s.nodes.length pb m at1) (own':=oO m (.nd (s.nodes.length+1)) (oO pb (.nd s.nodes.length) own)) (λa R=>Wx R) (Po (by omega)) ae (by rw[f8];rfl)
  (λk o hk O ak=>by
   rw[Dr (by omega),Dr (λe=>by rw[e,D]at O;cases O;exact ak rfl)];exact O)
  (λk hk O=>by rw [Dr (by omega),Dr (λe=>by rw [e,D] at O;cases O)];exact O) (by
  intro d mm L a8;have ah:=(l7.1 L).1
  have ag:d=s.nodes.length\/d=s.nodes.length+1:=by simp at ah;omega
  rcases ag with rfl|rfl
  .rw[k9 (u7 _)]at L;simp at L;subst L;refine aMB ap ?_ g1 aq ?_ ?_
   .rw[Pn,Wx M];exact X
   .rw[Pn,Dr (by omega)];exact Wj
   .rw[Pn];exact W
  .rw[k9 (by omega)]at L;simp at L;subst L;refine Hr (a:=s.nodes.length) ?_ h8 f1 f2 f3 f4 f5 f6 f7 f8 f9 ad rfl S U T ?_ ?_
   .rw[Po (by omega),Pn];exact N
   .rw[Po (by omega)];exact Wj
   .rw[Po (by omega)];omega)
 exact⟨_,_,k1,k2,λa R=>Wx R,Po (by omega)⟩
end
section
variable {w w1:World} {b0 fb m nb:Nat} {own:Nat->Option Own} {at1:NN} {i:Nat} {n n1:Nd} {s:Rf.St} {rho:NN} {c:Nat}
theorem aSi (h:k<=3000):IntKind.i64.wrap ((k:Int)+1)=((k+1:Nat):Int):=by
 rw[Uo (by omega) (by omega)];simp
variable {d:List Nd×Nat}
theorem aRe (h:Net w b0 own at1 fb s)(X:b0<=w.heap.size)(bo:c<=3000)(hI:Inv s.nodes rho c)(hn:s.nodes[i]?=some n){a0 r0:Nat}{o f x p:V}(ht:n.t=[o,f,x,p])(ha:n.args=[a0])(hr:n.read=[r0])(aa:n.nest=true)(ok:jM s.nodes rho c i n a0)(M:Rf.deeper s.nodes n=some d)(e1:n1={n with args:=n.args++[d.2],read:=n.read++[0]}){j:List Nd}(az:Rf.put d.1 i n1=some j){z p1 y p2 A p3 H mt pl:Int}{gv u:Value}{l:List V}{b:Option (Nat×Nat)}{I nn:FF}(hs:Seen w b0 own at1 s.nodes i n v z p1 y p2 A p3 H mt pl gv g u l b I nn)
  {xs:LB}  {R:Value} (r:Nst w b0 own at1 i n nb pl xs zs fst R) (T:Chg w w1 [at1 i]) (hm:w.heap.size<=m) (ad:Pos2 w1 (at1 i) fb [v,z,p1,y,p2,A,p3,H] (!n.pos) (fL n) mt (hV n) (gC n) pl s.clock (eV at1 (lArg n)) (aA m) gv g u)
  (B:NodeAt w1 m (if aH n.op=10 then zs else lD (aH n.op) (IntKind.i64.wrap (pl+1))) false 0 0 0 0 (IntKind.i64.wrap (pl+1)) (if 0<IntKind.i64.wrap (pl+1)then R else fst) aB aI aB (aA nb)):
  ∃ae at2,Kept w w1 own ae fb/\Net w1 b0 ae at2 fb ⟨j,s.clock⟩/\(∀a,a<s.nodes.length->at2 a=at1 a)/\at2 d.2=m:=by
 have hN:=hI.at' i n hn;have ab:=(Cu az).1
 have au:nb ∉ [at1 i]:=by
  intro e;simp at e;subst e;obtain⟨ys,h1,_⟩:=hs.bS.nd.ex;rw[r.bS]at h1;exact absurd (Obj.cells.inj (A6 h1)).2.1 (by decide)
 have C:=T.at r.bS au;have O:=nD T.on r.hold;have U:a0<s.nodes.length:=(hN.arg 0 a0 (by rw[ha];rfl)).1;unfold Rf.deeper at M
 by_cases E:n.op=.sqrt
 .rw[if_pos E,ha]at M;simp only[List.getElem?_cons_zero,q8]at M;obtain⟨Jy,D,S⟩:=q9.1 M;have F:=xD D;subst F;subst S;obtain⟨a,ag,N,P,L⟩:=r.root E;rw[ha]at ag;simp at ag;subst ag;rw[if_pos (by rw[E];rfl),show(if 0<IntKind.i64.wrap (pl+1)then R else fst)=aA (at1 a0) by split;exact P;exact N]at B;refine Ck h X hI hn ht ha hr aa e1 ab hs T hm ad U B r.len rfl rfl ht rfl rfl rfl rfl rfl rfl ⟨_,C⟩ ?_ L;refine⟨xs,zs,fst,R,C,O,r.len,r.bits,λ_=>⟨a0,rfl,by rw[Du U];exact N,by rw[Du U];exact P,L⟩,λe=>absurd E e⟩
 .rw[if_neg E]at M;obtain⟨a9,xx,hx,N,aq,J⟩:=r.fn E;obtain⟨base,ck,r1,r2,r3,r4,r5,r6⟩:=ok.ex;obtain⟨bu,g1,g2,g3,g4,g5⟩:=r6 E;rw[hx]at g1;cases g1;have hk:=hN.ku;have ap:=ok.op;obtain⟨bb,_⟩:=aJH ap E;rw[a9,aSi (by omega),if_neg bb,if_pos (by omega)]at B;obtain⟨ah,_,_⟩:=Vn ap E (k:=n.k+1) (by omega)
  have L:∀(a x:Nat) (sq:FF),Pg.eN (Rf.eR n.op (n.k+1) a x sq).t (cE (lD (aH n.op) ((n.k+1:Nat):Int))):=by
   intro a x sq;rw[ah];exact .El (e:=1) (by decide) (Pg.gV _).symm (Pg.gV _).symm (Pg.gV _).symm (Pg.gV _).symm
  rw[hx,q8]at M;unfold Rf.nest at M
  by_cases W:n.op=.fK
  .rw[if_neg (by rw[W];simp)]at M;obtain⟨Jy,D,S⟩:=q9.1 M;have F:=xD D;subst F;subst S;rw[aq W]at B;refine Ck h X hI hn ht ha hr aa e1 ab hs T hm ad g2 B rfl rfl rfl rfl rfl rfl rfl rfl rfl rfl ⟨_,C⟩ ?_ (L _ _ _);refine⟨xs,zs,fst,R,C,O,r.len,r.bits,λe=>absurd e E,λ_=>⟨rfl,xx,rfl,by rw[Du g2];exact N,λ_=>by rw[Du g2];exact aq W,λe=>absurd W e⟩⟩
  .rw[if_pos ⟨by omega,W⟩]at M
   cases hq:n.fA with
   |some sq=>
    rw[hq]at M;simp only at M;obtain⟨Jy,D,S⟩:=q9.1 M;have F:=xD D;subst F;subst S;have a2:=(g5 sq hq).1;rw[(J W).1 sq hq]at B;refine Ck h X hI hn ht ha hr aa e1 ab hs T hm ad a2 B rfl rfl rfl rfl rfl rfl rfl rfl rfl rfl ⟨_,C⟩ ?_ (L _ _ _);refine⟨xs,zs,fst,R,C,O,r.len,r.bits,λe=>absurd e E,λ_=>⟨rfl,xx,rfl,by rw[Du g2];exact N,λe=>absurd e W,λ_=>⟨λs' e=>?_,λe=>(by cases e)⟩⟩⟩;cases e;rw[Du a2];exact(J W).1 sq hq
   |none=>
    rw[hq]at M;simp only at M;obtain⟨nx,a8,M⟩:=s4.1 M;obtain⟨Jy,D,M⟩:=s4.1 M;obtain⟨bi,Y,S⟩:=q9.1 M;have F:=xD D;subst F;have ai:=xD Y;subst ai;subst S;obtain⟨pb,P,av,ax,ay⟩:=(J W).2 hq;rw[P]at B
    have ba:nx.pos=true:=by
     obtain⟨q,z1,z2⟩:=g4;rw[a8]at z1;cases z1;exact z2
    refine Tg h X hI hn ht ha hr aa ba e1 ab hs T hm ad g2 av ax ay B rfl rfl rfl rfl rfl rfl rfl rfl rfl rfl ⟨_,C⟩ ?_ (L _ _ _);refine⟨xs,zs,fst,R,C,O,r.len,r.bits,λe=>absurd e E,λ_=>⟨rfl,xx,rfl,by rw[Wx g2];exact N,λe=>absurd e W,λ_=>⟨λs' e=>?_,λe=>(by cases e)⟩⟩⟩;cases e;rw[Pn];exact P
theorem Lp (h:Net w b0 own at1 fb s){x:Nd}(e:s.nodes[a]?=some x):∃cs:LB,w.heap[at1 a]?=some (.cells cs.toArray 120 (0,0)):=by
 obtain⟨j,o,p1,p,k,q,p3,r,mt,l,gv,f,g,d,_⟩:=(h.nd a x e).ex;obtain⟨u,b,_⟩:=d.nd.ex;exact⟨_,b⟩
variable {x:Rf.St×Option Int}{y:Rf.St×Bool}
theorem aK9 {f:Nat}(hS:nX f)(P:gY)(h:Net w b0 own at1 fb s)(q:b0<=w.heap.size)(z:s.clock=(c:Int))(k:c<=3000)(L:Inv s.nodes rho c)(M:s.nodes[i]?=some n)(hf:c+rho i+1<=f){r W:Nat}(p:n.args[W]?=some a)(B:n.read[W]?=some r)(E:(∃v u,n.t=[v,u]/\W=0)\/(∃v u x y,n.t=[v,u,x,y]/\n.args.length=2/\W=1))(T:n.aP=true->W=0)(hx:Rf.sym f s a r=some x)(hy:(match x.2 with|none=>some (x.1,false)|some _=>Rf.after x.1 i W)=some y):
  Calls prog 150 #[aA (at1 i),aA fb] w λe w'=>∃b,e=.returned (.bool b)/\uB w b0 own at1 fb s.nodes.length y (.returned (.bool b)) w':=by
 have O:=L.at' i n M;obtain⟨la,ra⟩:=O.arg W a p;have d:s.nodes[a]?=some s.nodes[a]:=n4 la;obtain⟨x0,J,o⟩:=Rf.total f s a r rho c z k L _ d (O.rd W a r _ p B d) (by omega);rw[hx]at J;cases J
 have F:∀v,x.2=some v->∃n',x.1.nodes[a]?=some n'/\n'.out[r]?=some v:=λv e=>Pm f s a r x.1 v (by rw[hx];cases x;simp only at e;rw[e])
 obtain⟨p0,q0,p1,q1,p2,q2,p3,q3,mt,pl,gv,cv,nv,l,g,cc,nn,Y⟩:=h.seen L M
 obtain⟨C,U⟩:rArg n=some a/\gC n=r:=by
  rcases E with⟨v,u,H,rfl⟩|⟨v,u,x',y',H,hl,rfl⟩
  .exact⟨by unfold rArg;rw[H];exact p,by unfold gC;rw[H];simp[n5,B]⟩
  .exact⟨by unfold rArg;rw[H];exact p,by unfold gC;rw[H];simp[n5,B]⟩
 have I:∀w1,Chg w w1 []->Calls prog 61 #[.agg #[eV at1 (rArg n),.int .i64 (gC n)],aA fb] w1 λe w2=>∃N,e=.returned (.int .i64 N)/\Kl w2 (at1 i) fb N λe w'=>∃b,e=.returned (.bool b)/\uB w b0 own at1 fb s.nodes.length y (.returned (.bool b)) w':=by
  intro w1 c1;rw[C,U];refine(Zq hS h q z k L d (O.rd W a r _ p B d) (by omega) hx w1 c1).mono ?_;rintro e w2⟨N,rfl,rfl,D⟩;exact⟨_,rfl,aIN (f:=f) P h q k M p B ra E T hy D o F⟩
 have j:=h.tA Y
 cases A:n.nest with
 |false=>exact aHA j (Y.bS.nst.1 A) I
 |true=>
  obtain⟨nb,S,R,_⟩:=Y.bS.nst.2 A
  have X:eV at1 (rArg n)=aA (at1 a):=by rw[C];rfl
  exact aHB j S X R (Lp h d) (Xi h M d (λe=>by rw[e]at ra;omega)) I
theorem aTk {f:Nat}(hS:nX f)(al:gY)(h:Net w b0 own at1 fb s)(M:b0<=w.heap.size)(ao:s.clock=(c:Int))(A:c<=3000)(hI:Inv s.nodes rho c)(hn:s.nodes[i]?=some n){a0 p:Nat}{v u x' y':V}(ht:n.t=[v,u,x',y'])(o:n.args=[a0])(H:n.read=[p])(S:n.nest=true)(ax:n.aP=false)(ok:jM s.nodes rho c i n a0)(hd:Rf.deeper s.nodes n=some d)(I:n1={n with args:=n.args++[d.2],read:=n.read++[0]}){k:Rf.St}(W:Rf.put d.1 i n1=some k.nodes)(j:k.clock=(c:Int)){P:NN}(C:Inv k.nodes P c)(B:Rf.gX s.nodes rho i k.nodes P)(R:k.nodes[i]?=some n1)(hf:c+rho i+1<=f)(hx:Rf.sym f k d.2 0=some x)(hy:(match x.2 with|none=>some (x.1,false)|some _=>Rf.after x.1 i 1)=some y):
  Calls prog 150 #[aA (at1 i),aA fb] w λe w'=>∃b,e=.returned (.bool b)/\uB w b0 own at1 fb s.nodes.length y (.returned (.bool b)) w':=by
 have hN:=hI.at' i n hn;have hi:=(l7.1 hn).1;have ak:=C.at' i n1 R
 have ha:n1.args[1]?=some d.2:=by rw[I,o];rfl
 have hr:n1.read[1]?=some 0:=by rw[I,H];rfl
 obtain⟨la,ra⟩:=ak.arg 1 d.2 ha;have ab:k.nodes[d.2]?=some k.nodes[d.2]:=n4 la;have a9:P i=rho i:=B.agree i hi;obtain⟨xo,ad,F⟩:=Rf.total f k d.2 0 P c j A C _ ab (u9 _) (by omega);rw[hx]at ad;cases ad
 have Y:∀v,x.2=some v->∃n',x.1.nodes[d.2]?=some n'/\n'.out[0]?=some v:=λv e=>Pm f k d.2 0 x.1 v (by rw[hx];cases x;simp only at e;rw[e])
 obtain⟨p0,q0,p1,q1,p2,q2,p3,q3,mt,pl,gv,cv,nv,l,g,cc,nn,hs⟩:=h.seen hI hn;obtain⟨nb,ar,_,T⟩:=hs.bS.nst.2 S;obtain⟨xs,zs,fst,bp,a⟩:=Nst.of (T (by rw[ht];rfl) (by rw[o];rfl));obtain⟨o1,o2⟩:=a.Er
 have ay:rArg n=none:=by unfold rArg;rw[ht,o];rfl
 have az:gC n=0:=by unfold gC;rw[ht,H];rfl
 have U:=h.tA hs;have r:=U;rw[ay]at r;have bz:=hN.ku;refine aGq (nb:=nb) r ar a.bS a.hold a.len a.bits o1 o2 ?_ ?_
 .intro O
  have X:n.op≠.sqrt:=λe=>O (by rw[e];rfl)
  rw[(a.fn X).1,aSi (by omega)];exact(Vn ok.op X (by omega)).2
 .intro w1 m am hm au E;obtain⟨ae,at2,hk,q,J,L⟩:=aRe h M A hI hn ht o H S ok hd I W hs a am hm au E
  have a3:(⟨k.nodes,s.clock⟩:Rf.St)=k:=by
   cases k;simp only at j ⊢;rw[ao,j]
  rw[a3]at q;rw[<-L,az];have N:b0<=w1.heap.size:=w9 M hk.on.size;refine(Zq hS q N j A C ab (u9 _) (by omega) hx w1 (Chg.refl w1)).mono ?_;rintro e w2⟨cd,rfl,rfl,z⟩;refine⟨_,rfl,?_⟩;have hA:=aIN (f:=f) al q N A R ha hr ra (A9 ⟨v,u,x',y',by rw[I];exact ht,by rw[I,o];rfl,rfl⟩) (λe=>by rw[I]at e;simp only at e;rw[ax]at e;cases e) hy z F Y;rw[J i hi]at hA
  have conv:∀{e:Ending} {w':World},(∃b,e=.returned (.bool b)/\uB w1 b0 ae at2 fb k.nodes.length y (.returned (.bool b)) w')->∃b,e=.returned (.bool b)/\uB w b0 own at1 fb s.nodes.length y (.returned (.bool b)) w':=by
   rintro e w'⟨b,he,hb,z⟩;exact⟨b,he,hb,kM.after hk J B.le.len z⟩
  refine⟨λD w3 c3=>conv (hA.none D w3 c3),λD=>?_⟩;obtain⟨p0,q0,p1,q1,p2,q2,p3,q3,a2,a5,mt,lr,rr,pl,c',lp,rp,gv,cv,nv,t1,t2,t3,t4,t5,t6,t7,t8⟩:=hA.some D;refine⟨p0,q0,p1,q1,p2,q2,p3,q3,a2,a5,mt,lr,rr,pl,c',lp,rp,gv,cv,nv,t1,t2,t3,t4,t5,t6,λaq w3 c3=>conv (t7 aq w3 c3),λap=>?_⟩;obtain⟨z1,z2⟩:=t8 ap;refine⟨z1,λw3 c3 av=>(z2 w3 c3 av).mono ?_⟩;rintro e w4⟨vv,rfl,hF⟩;exact⟨vv,rfl,λw5 c5=>conv (hF w5 c5)⟩
end
section
variable {w:World} {b0 fb:Nat} {own:Nat->Option Own} {at1:NN} {i:Nat} {n:Nd} {s:Rf.St} {rho:NN} {c:Nat}
theorem aTi {f:Nat}(hS:nX f)(J:gY)(h:Net w b0 own at1 fb s)(ap:b0<=w.heap.size)(p:s.clock=(c:Int))(o:c<=3000)(B:Inv s.nodes rho c)(E:s.nodes[i]?=some n)(hf:c+rho i+1<=f)(ho:Rf.nextP s.nodes n=some none){y:Rf.St×Bool}(M:Rf.reads (Rf.sym f) s i n=some y):
  ∀w1,Chg w w1 []->Calls prog 132 #[aA (at1 i),aA fb] w1 (uB w b0 own at1 fb s.nodes.length y):=by
 intro w1 c1;have h1:=h.still B c1;have hN:=B.at' i n E
 have conv:∀{P:World} {e:Ending} {z:World},Chg w P []->uB P b0 own at1 fb s.nodes.length y e z->uB w b0 own at1 fb s.nodes.length y e z:=by
  rintro P e z c2⟨he,Y⟩;exact⟨he,kM.after (Kept.still c2) (λ_ _=>rfl) (u7 _) Y⟩
 by_cases ht:n.t=[]
 .exact(aVE h1 p o B E ht M).mono λe z A=>conv c1 A
 .obtain⟨sd,s1,H,n1,a,r,e1,e2,e3,e4,e5,e6,O,S,e9,R,hcase⟩:=Rf.aGe p o B E ht ho;have T:=e4.at' i n1 e6;obtain⟨la,ra⟩:=T.arg sd a O;have ab:s1.nodes[a]?=some s1.nodes[a]:=n4 la;have a9:H i=rho i:=e5.agree i (l7.1 E).1;obtain⟨x,hx,_⟩:=Rf.total f s1 a r H c e3 o e4 _ ab (T.rd sd a r _ O S ab) (by omega);unfold Rf.reads at M;rw[if_neg ht,e1,q8,e2,q8,e6,q8,O,q8,S,q8,hx,q8]at M;obtain⟨p0,q0,p1,q1,p2,q2,p3,q3,mt,pl,gv,cv,nv,l,g,cc,nn,hs⟩:=h1.seen B E;refine aIJ (b:=decide (n.t.length=4/\sd=0)) (by rw[<-hs.bS.oL ht];exact(hs.bS.nd.cell rfl).1) ?_;refine(hs.reads hN e1).mono ?_;rintro e P⟨rfl,c2⟩;have I:=c1.trans c2;have h2:=h.still B I;have D:b0<=P.heap.size:=w9 ap I.on.size
  have C:∀{e:Ending} {z:World},(∃b,e=.returned (.bool b)/\uB P b0 own at1 fb s.nodes.length y (.returned (.bool b)) z)->∃b,e=.returned (.bool b)/\uB w b0 own at1 fb s.nodes.length y (.returned (.bool b)) z:=by
   rintro e z⟨b,he,U⟩;exact⟨b,he,conv I U⟩
  refine⟨rfl,λU=>?_,λU=>?_⟩
  .obtain⟨h4,N⟩:=of_decide_eq_true U;subst N
   rcases hcase with⟨v,u,L,_⟩|⟨v,u,x',y',q,k,_,rfl,rfl,hp⟩|⟨a0,v,u,x',y',_,_,N,_⟩
   .rw[L]at h4;cases h4
   .exact(aTb hS h2 D p o B E hf q hp O S hx M).mono λe z A=>C A
   .cases N
  .have W:=of_decide_eq_false U
   rcases hcase with⟨v,u,L,ha,N,rfl,rfl⟩|⟨v,u,x',y',q,k,be,rfl,rfl,hp⟩|⟨a0,v,u,x',y',q,ao,N,ax,hp,ok,av,r0,d,A,hd,dR,au,X⟩
   .subst N
    exact(aK9 hS J h2 D p o B E hf O S (Or.inl ⟨v,u,L,rfl⟩) R hx M).mono λe z A=>C A
   .have az:sd=1:=by
     rw[q]at W;simp at W;omega
    subst az
    have ar:n1.args.length=2:=by
     cases hN.shp with
     |fH F j _ _=>rw[j]at k;simp at k
     |gQ v F j _ _=>rw[j]at k;simp at k
     |kR v u a F j _=>rw[j]at k;simp at k
     |bin a b v u x y F j _=>rw[j];rfl
     |nest a v u x y F j _ _ _=>rw[j]at k;simp at k
    exact(aK9 hS J h2 D p o B E hf O S (A9 ⟨v,u,x',y',q,ar,rfl⟩) R hx M).mono λe z A=>C A
   .subst N ax dR
    exact(aTk hS J h2 D p o B E q ao A av hp ok hd au X e3 e4 e5 e6 hf hx M).mono λe z A=>C A
theorem aWB (am:gY)(f:Nat):nX f:=by
 induction f using z6 with
 |ind f ih=>
  intro w b0 fb own at1 s rho c i j n x h ap aq a6 hI hn hj hf hx;have hi:=(l7.1 hn).1
  have ba:j<=3000:=by have:=(hI.at' i n hn).iX;omega
  refine aIX (m:=f) (J:=λ(m:Nat) (w':World)=>∃(q:Nat->Option Own) (at2:NN) (L:Rf.St) (r:NN) (U:Nat) (C:Nd),Kept w w' own q fb/\Net w' b0 q at2 fb L/\(∀a,a<s.nodes.length->at2 a=at1 a)/\L.clock=(U:Int)/\U<=c/\Inv L.nodes r U/\L.nodes[i]?=some C/\j<=C.out.length/\s.nodes.length<=L.nodes.length/\U+r i+2<=m/\m<=f/\Rf.sym m L i j=some x) (by omega) ⟨?_⟩ ⟨own,at1,s,rho,c,n,Kept.still (Chg.refl w),h,λ_ _=>rfl,aq,u7 _,hI,hn,hj,u7 _,hf,u7 _,hx⟩;rintro m w'⟨q,at2,L,r,U,C,hk,p,M,B,a5,A,z,a9,Y,bb,bc,b⟩
  obtain⟨S,rfl⟩:∃S,m=S+1:=⟨m-1,by omega⟩
  have al:=A.at' i C z;obtain⟨p0,q0,p1,q1,p2,q2,p3,q3,mt,pl,gv,cv,nv,l,g,cc,nn,hs⟩:=p.seen A z;have E:=M i hi;have o:=(hs.bS.nd.cell rfl).2;rw[E]at o;have be:=al.iX;rw[Rf.aLl,z,q8]at b
  cases d:C.out[j]? with
  |some v=>
   rw[d]at b;simp only at b;cases b;have D:=(l7.1 d).1
   rcases hs.bS.Aw with⟨T,W⟩|⟨g',k,af,T,W,g3,g4,g5,g6⟩
   .rw[W]at D;simp at D
   .refine⟨_,C.out.length,k,⟨gv,o,T⟩,by omega,A9 ⟨D,g',code v,rfl,?_,rfl,?_⟩⟩
    .refine aX W ?_;rw[List.getElem?_toArray,l8 (by simpa using D),l4,d];rfl
    .exact⟨q,hk,λ_=>⟨at2,p,M⟩⟩
  |none=>
   rw[d]at b;simp only at b;obtain⟨y,hy,b⟩:=s4.1 b;obtain⟨s2,b2,ad,ae⟩:=Rf.aQP (f:=S) B (by omega) A z (by omega);rw[hy]at ad;cases ad;have au:C.out.length<=j:=List.getElem?_eq_none_iff.1 d
   have O:∃gb k,gv=.slice gb C.out.length k:=by
    rcases hs.bS.Aw with⟨T,W⟩|⟨g',k,af,T,_⟩
    .exact⟨none,0,by rw[T,W];rfl⟩
    .exact⟨_,k,T⟩
   obtain⟨gb,k,ar⟩:=O;refine⟨gb,C.out.length,k,⟨gv,o,ar⟩,by omega,Or.inl ⟨au,?_⟩⟩;have F:b0<=w'.heap.size:=w9 ap hk.on.size;rw[<-E];refine(aS5 (f:=S) p F B (by omega) A z hy (λe=>?_) (λaa w1 c1=>?_)).mono ?_
   .obtain⟨u,c2,_,_,ak,_⟩:=ae e;exact⟨u,c2,ak⟩
   .have ax:Rf.reads (Rf.sym S) L i C=some (s2,b2):=by
     unfold Rf.step1 at hy;rw[aa,q8]at hy;exact hy
    exact aTi (ih S (by omega)) am p F B (by omega) A z (by omega) aa ax w1 c1
   .rintro e w2⟨rfl,H⟩;refine⟨b2,rfl,λhb=>?_,λhb=>?_⟩
    .subst hb;obtain⟨u,c2,k1,k2,k3,k4,n2,k5,k6⟩:=ae rfl;obtain⟨I,N,P⟩:=H;obtain⟨ai,R,X⟩:=P rfl;simp only[if_true]at b;have a1:u i=r i:=k4.agree i (by omega);exact⟨S,by omega,I,ai,s2,u,c2,n2,hk.trans N,R,λa ha=>(X a (by omega)).trans (M a ha),k2,by omega,k3,k5,by omega,w9 Y k4.le.len,by omega,by omega,b⟩
    .subst hb;simp only[Bool.false_eq_true,if_false,A7]at b;subst b;obtain⟨I,N,_⟩:=H;exact⟨rfl,kM.no (hk.trans N)⟩
end
variable {n:World}{Q:AW}
theorem aUs {P:Program}{o:Oper}{a:Act}{K k:LL}{l:AW}(g:∀a n,K a n->k a n)(j:∀e a n,e≠.normal->Q e a n->l e a n)(h:o.wp P a n K Q):o.wp P a n k l:=by
 unfold Oper.wp at*;generalize (execOp a.eval o).run P n=r at*
 cases r with
 |ok b s=>
  cases b<;>simp only[Oper.upon]at h ⊢
  case value v=>exact g _ _ h
  case skip=>exact g _ _ h
  case defer d=>exact g _ _ h
  case enter f args=>
   refine Calls.mono h λe u i=>?_
   cases e with
   |returned v=>exact g _ _ i
   |panicked c=>exact j _ _ _ (by simp) i
   |outgrown=>
    obtain⟨p,y,q⟩:=i;exact⟨p,y,j _ _ _ (by simp) q⟩
  case row row args=>exact Rows.mono h λ_ _ i=>g _ _ i
 |halt x s=>
  cases x<;>simp only[Oper.upon]at h ⊢
  case panic v=>exact j _ _ _ (by simp) h
def sM (ops:Array Oper)(j:Nat):Bool:=
 let M:=masks [] ops.toList
 (n6 j).all (λi=>(M.getD j 0).testBit i)&&(n6 ops.size).all (λi=>z7 i j||(M.getD i 0).testBit (i-1))&&ops.toList.all (λo=>o.guard.isNone)&&ops.toList.zipIdx.all (λx=>x.1.after.toList.all λe=>Nat.blt e.on x.2)
def pC (n m:Nat):Array Bool:=(Array.range n).map λi=>decide (i<m)
theorem Hz (n m i:Nat)(d:Bool)(hi:i<n):(pC n m).getD i d=decide (i<m):=by
 unfold pC;simp[n9,hi]
variable {ops:Array Oper}
theorem aLO {m:Nat}(h:∀(i:Nat) (o:Oper),ops[i]?=some o->∀e∈o.after,e.on<i):qG ops λi=>(pC ops.size m).getD i false:=by
 intro i o hi b e d _;have a:=(o8.1 b).1;have f:=h i o b e d;simp only at hi ⊢;rw[Hz _ _ _ _ a]at hi;rw[Hz _ _ _ _ (by omega)];simp at hi ⊢;omega
theorem aKq {P:Program}{ops:Array Oper}{w:Nat}{Q:AW}(s:∀i,i<ops.size->w<i->((masks [] ops.toList).getD i 0).testBit (i-1)=true)(p:∀(i:Nat) (o:Oper),ops[i]?=some o->∀e∈o.after,e.on<i):∀(fuel m:Nat) (a:Act) (b:World),m+fuel=ops.size->w<=m->wpOps P ops Q ((n6 ops.size).drop m) a b->wpAny P .any ops Q fuel (pC ops.size m) a b
 |0,m,a,b,D,B,h=>by
  have e:(n6 ops.size).drop m=[]:=by simp;omega
  rw[e]at h;refine⟨?_,h⟩;apply List.eq_nil_iff_forall_not_mem.2;intro i hi;obtain⟨k,o,n,_⟩:=mem_ready.1 hi;have d:=(o8.1 n).1;rw[Hz _ _ _ _ d]at k;simp at k;omega
 |fuel+1,m,a,b,D,B,h=>by
  have g:m<ops.size:=by omega
  have f:m∈A0 .any ops (pC ops.size m):=by
   refine mem_ready.2 ⟨by rw[Hz _ _ _ _ g];simp,ops[m],o9 g,λe A _=>?_⟩;have:=p m ops[m] (o9 g) e A;rw[Hz _ _ _ _ (by omega)]
   simpa using this
  refine⟨λl=>(by rw[l]at f;cases f),λi hi=>?_⟩;obtain⟨k,o,n,z⟩:=mem_ready.1 hi;have d:=(o8.1 n).1;rw[Hz _ _ _ _ d]at k
  have q:i=m:=by
   by_cases C:m<i
   .have:=Mw (aLO (m:=m) p) i o n z (i-1) (s i d (by omega));rw[Hz _ _ _ _ (by omega)]at this;simp at this;omega
   .simp at k;omega
  subst q
  have e:(n6 ops.size).drop i=i::(n6 ops.size).drop (i+1):=by
   rw[List.drop_eq_getElem_cons (by simpa using d)];simp
  rw[e,wpOps_cons]at h;refine wpOp_mono ?_ h;intro v F y
  have E:(pC ops.size i).setIfInBounds i true=pC ops.size (i+1):=by
   apply Array.ext_getElem?;intro x;rw[p7];unfold pC
   by_cases u:i=x
   .subst u;simp[d]
   .rw[if_neg u]
    by_cases r:x<ops.size
    .simp[r];omega
    .rw[p8 (by simp;omega),p8 (by simp;omega)]
  rw[E];exact aKq s p fuel (i+1) v F (by omega) (by omega) y
variable {w:Nat}
theorem aJD (hi:i<w):(ops.extract 0 w)[i]?=ops[i]?:=by
 rw[Array.getElem?_extract];simp;omega
theorem aPJ {P:Program}{Q':AW}(a0:w<ops.size)(ab:∀i,i<w->((masks [] ops.toList).getD w 0).testBit i=true)(hM:∀i,i<ops.size->w<i->((masks [] ops.toList).getD i 0).testBit (i-1)=true)(Y:∀(i:Nat) (o:Oper),ops[i]?=some o->∀e∈o.after,e.on<i)(hG:∀(i:Nat) (o:Oper),ops[i]?=some o->o.guard=none)
  (hQ:∀e a b,e≠.normal->Q' e a b->Q e a b) (hT:∀a b,Q' .normal a b->wpAny P .any ops Q (ops.size-w) (pC ops.size w) a b):
  ∀(fuel:Nat) (f l:Array Bool) (a:Act) (b:World),f.size=w->l.size=ops.size->(∀i,i<w->l.getD i false=f.getD i false)->(∀i,w<=i->i<ops.size->l.getD i false=false)->((n6 w).filter λi=>!f.getD i false).length=fuel->qG ops (λi=>l.getD i false)->wpAny P .any (ops.extract 0 w) Q' fuel f a b->wpAny P .any ops Q (fuel+(ops.size-w)) l a b:=by
 intro fuel
 induction fuel with
 |zero=>
  intro f l a b T hs g p U z h
  have R:∀i,i<w->f.getD i false=true:=by
   intro i hi
   cases hv:f.getD i false with
   |true=>rfl
   |false=>
    have:i∈(n6 w).filter λi=>!f.getD i false:=by simp[hi,<-n9,hv]
    rw[j8.1 U]at this;cases this
  have hl:l=pC ops.size w:=by
   apply Array.ext
   .simp[pC,hs]
   .intro i D h2
    have H:i<ops.size:=by omega
    have W:l[i]=l.getD i false:=by simp[n9,D]
    rw[W]
    by_cases hi:i<w
    .rw[g i hi,R i hi];simp[pC,hi]
    .rw[p i (by omega) H];simp[pC,hi]
  rw[hl,s9];exact hT a b h.2
 |succ fuel ih=>
  intro f l a b T hs g p U z h
  have v:∃i,i<w/\f.getD i false=false:=by
   have ai:((n6 w).filter λi=>!f.getD i false)≠[]:=by intro e;rw[e]at U;simp at U
   obtain⟨i,r,e⟩:=List.exists_cons_of_ne_nil ai
   have hi:i∈(n6 w).filter λi=>!f.getD i false:=by rw[e];simp
   rw[List.mem_filter,n7]at hi;exact⟨i,hi.1,by simpa using hi.2⟩
  have d:∀(x:Array Bool) (i:Nat),i<x.size->x.getD i true=x.getD i false:=by
   intro x i hi;simp[n9,hi]
  have aj:∀i,i∈A0 .any ops l->i<w/\i∈A0 .any (ops.extract 0 w) f:=by
   intro i hi;obtain⟨D,o,q,E⟩:=mem_ready.1 hi;have H:=(o8.1 q).1
   have k:i<w:=by
    by_cases ae:i<w
    .exact ae
    .exfalso
     by_cases u:i=w
     .subst u;obtain⟨x,A,N⟩:=v;have:=Mw z i o q E x (ab x A);rw[g x A,N]at this;cases this
     .have:=Mw z i o q E (i-1) (hM i H (by omega));rw[p (i-1) (by omega) (by omega)]at this;cases this
   refine⟨k,mem_ready.2 ⟨?_,o,by rw[aJD k];exact q,λe u F=>?_⟩⟩
   .rw[d f i (by omega),<-g i k,<-d l i (by omega)];exact D
   .have:=E e u F;have M:=Y i o q e u;rw[<-g e.on (by omega)];exact this
  have aq:∀i,i∈A0 .any (ops.extract 0 w) f->i∈A0 .any ops l:=by
   intro i hi;obtain⟨D,o,q,E⟩:=mem_ready.1 hi
   have k:i<w:=by
    have:=(o8.1 q).1;simp at this;omega
   rw[aJD k]at q;refine mem_ready.2 ⟨?_,o,q,λe u F=>?_⟩
   .rw[d l i (by omega),g i k,<-d f i (by omega)];exact D
   .have M:=Y i o q e u;rw[g e.on (by omega)];exact E e u F
  rw[show fuel+1+(ops.size-w)=(fuel+(ops.size-w))+1 by omega];refine⟨λS=>?_,λi hi=>?_⟩
  .exfalso
   have O:∀n,n<w->f.getD n false=false->False:=by
    intro n
    induction n using z6 with
    |ind n al=>
     intro ag ah;have ho:ops[n]?=some (ops[n]'(by omega)):=o9 (by omega)
     have B:n∈A0 .any ops l:=by
      refine mem_ready.2 ⟨?_,_,ho,λe u F=>?_⟩
      .rw[d l n (by omega),g n ag];exact ah
      .have M:=Y n _ ho e u
       cases hv:l.getD e.on false with
       |true=>rfl
       |false=>
        rw[g e.on (by omega)]at hv;exact(al e.on M (by omega) hv).elim
     rw[S]at B;cases B
   obtain⟨x,A,N⟩:=v;exact O x A N
  .obtain⟨k,ad⟩:=aj i hi;have s:=h.2 i ad;obtain⟨D,o,q,E⟩:=mem_ready.1 hi
   have aa:f.getD i false=false:=by
    rw[<-g i k,<-d l i (by omega)];exact D
   have J:∀a b,wpAny P .any (ops.extract 0 w) Q' fuel (f.setIfInBounds i true) a b->wpAny P .any ops Q (fuel+(ops.size-w)) (l.setIfInBounds i true) a b:=by
    intro a' w' h'
    have C:∀(x:Array Bool),i<x.size->(λm=>(x.setIfInBounds i true).getD m false)=λm=>x.getD m false||m==i:=by
     intro x hx;funext m
     by_cases I:m=i
     .subst I;simp[hx,p7]
     .rw[getD_set_ne false (Ne.symm I)];simp[I]
    have sA:=C f (by omega);have sl:=C l (by omega);refine ih (f.setIfInBounds i true) (l.setIfInBounds i true) a' w' (by simpa using T) (by simpa using hs) ?_ ?_ ?_ ?_ h'
    .intro m I;have W:=congrFun sA m;have X:=congrFun sl m;rw[W,X,g m I]
    .intro m I af;have X:=congrFun sl m;rw[X,p m I af];simp;omega
    .have:=Ze (λm=>f.getD m false) i aa (n6 w) List.nodup_range (by simpa using k)
     have e:(λm=>!(f.setIfInBounds i true).getD m false)=λm=>!(f.getD m false||m==i):=by
      funext m;exact congrArg Bool.not (congrFun sA m)
     rw[e];omega
    .rw[sl];intro x o' hx L e u F;simp only[Bool.or_eq_true,beq_iff_eq]at hx ⊢
     rcases hx with hx|hx
     .exact Or.inl (z x o' hx L e u F)
     .subst hx;rw[q]at L;cases L;exact Or.inl (E e u F)
   unfold wpOp at s ⊢;rw[aJD k,q]at s;rw[q];simp only at s ⊢
   have hw:∀y,A5 o y=true:=by
    intro y;unfold A5;rw[hG i o q]
   rw[if_pos (hw _)]at s ⊢
   rcases s with s|⟨q1,q2⟩
   .exact Or.inl (aUs J hQ s)
   .obtain⟨a2,w2,h2⟩:=q2;exact A9 ⟨q1,a2,w2,hQ _ _ _ (by simp) h2⟩
variable {q φ:LI}
theorem La {L:fE}{sp:Spec}(S:L.P.follows .mixedOrders=true)(B:SpecOk L n q sp)(z:w<ops.size)(g:sM ops w=true){s I:AS}{p:List Prop}(O:aL L sp (ops.extract 0 w) s=some (I,p))(T:Holds p){a:Act}{b:World}{id:Nat}(U:Rep L n q φ s a b)
  (N:∀r k l,Rep L n q r I k l->wpOps L.P ops Q ((n6 ops.size).drop w) k l):(Code.region id ops true).wp L.P Q a b:=by
 unfold sM at g;simp only[Bool.and_eq_true]at g;obtain⟨⟨⟨b1,b2⟩,J⟩,b4⟩:=g
 have x:∀i,i<w->((masks [] ops.toList).getD w 0).testBit i=true:=λi hi=>n8.1 b1 i (n7.2 hi)
 have H:∀i,i<ops.size->w<i->((masks [] ops.toList).getD i 0).testBit (i-1)=true:=by
  intro i hi R;have:=n8.1 b2 i (n7.2 hi)
  rcases Bool.or_eq_true _ _▸this with h|h
  .have:=z8 h;omega
  .exact h
 have M:∀(i:Nat) (o:Oper),ops[i]?=some o->o.guard=none:=by
  intro i o v
  have u:o∈ops.toList:=by rw[<-p9]at v;exact List.mem_of_getElem? v
  have:=n8.1 J o u
  simpa using this
 have F:∀(i:Nat) (o:Oper),ops[i]?=some o->∀e∈o.after,e.on<i:=by
  intro i o v e y;have:=n8.1 b4 (o,i) (Tx (by rw[p9];exact v));simp only[n8]at this;exact Nat.blt_eq▸this e (by simpa using y)
 refine wp_region_any S ?_
 have E:=aIj (Q:=λe k l=>e=.normal/\wpOps L.P ops Q ((n6 ops.size).drop w) k l) B O T U λr k l _ A=>⟨rfl,N r k l A⟩
 have D:(ops.extract 0 w).size=w:=by simp;omega
 rw[D]at E
 have f:∀d i,(q7 d false).getD i false=false:=by
  intro d i;rw[n9]
  by_cases hi:i<d
  .simp[hi]
  .rw[p8 (by simp;omega)];rfl
 have:=aPJ (P:=L.P) (Q:=Q) (Q':=λe k l=>e=.normal/\wpOps L.P ops Q ((n6 ops.size).drop w) k l) z x H F M (λe a b y h=>absurd h.1 y) (λk l h=>aKq H F (ops.size-w) w k l (by omega) (u7 _) h.2) w (q7 w false) (q7 ops.size false) a _ (by simp) (by simp) (λi _=>by rw[f,f]) (λi _ _=>f _ _) ?_ ?_ E
 .rw[show w+(ops.size-w)=ops.size by omega]at this;exact this
 .have:((n6 w).filter λi=>!(q7 w false).getD i false)=n6 w:=by
   apply List.filter_eq_self.2;intro i _;rw[f];rfl
  rw[this];simp
 .intro i o hi;have hi:(q7 ops.size false).getD i false=true:=hi;rw[f]at hi;cases hi
theorem aQJ {L:fE}{w:World}{s z:AS}(h:RepW L n q φ s w)(Y:z.next=s.next)(O:z.nums=s.nums)(X:z.dirty=s.dirty)(l:∀b a,look z.boxes b=some a->∃B,look s.boxes b=some B/\a={B with cs:=a.cs}/\a.cs.length=B.cs.length/\∀A,All2 (relC L φ s.nums w) B.cs A->All2 (relC L φ s.nums w) a.cs A):RepW L n q φ z w:=by
 refine⟨?_,?_,?_,?_,?_,h.lt,?_,h.on,h.base,?_⟩
 .intro b a g;obtain⟨B,f,d,j,E⟩:=l b a g;obtain⟨k,o,P,A,y,k1,k2,k3,k4⟩:=h.box b B f;rw[O];exact⟨k,o,P,A,y,k1,by rw[d];exact k2,k3,E A k4⟩
 .intro b a k o g v u;obtain⟨B,f,d,j,E⟩:=l b a g;rw[d]at v;exact h.own b B k o f v u
 .intro b R B a k o o' g M u N;obtain⟨D,f,d,j,_⟩:=l b B g;obtain⟨T,I,p,J,_⟩:=l R a M
  rcases h.inj b R D T k o o' f I u N with e|⟨F,H,U,W⟩
  .exact Or.inl e
  .refine A9 ⟨by rw[d];exact F,by rw[p];exact H,by rw[d,p];exact U,?_⟩;intro x
   have i:D.tip=true:=by rw[d]at x;exact x
   rw[j,J];exact W i
 .intro b a g x;obtain⟨B,f,d,j,E⟩:=l b a g
  have i:B.tip=true:=by rw[d]at x;exact x
  rw[d];exact h.tip b B f i
 .intro b r;exact h.fresh b (by rw[Y]at r;exact r)
 .rw[X];exact h.low
 .intro b a k o g v S u;obtain⟨B,f,d,j,E⟩:=l b a g;rw[d]at v S;obtain⟨F,H⟩:=h.qD b B k o f v S u;refine⟨F,?_⟩;rw[j,d];exact H
def sK (p:Oper->Bool):List (K (List AT))->Bool
 |.code (.region _ ops true)::_=>ops.any p
 |_=>false
def qB (p:Oper->Bool):Code->List (K (List AT))->Option (Nat×Array Oper×List (K (List AT)))
 |.region id ops true,d=>bif ops.any p then some (id,ops,d)else none
 |.seq a b,d=>match qB p a (.code b::d)with|some r=>some r|none=>qB p b d
 |.block id b,d=>qB p b (.bS id::d)
 |.cond _ a b,d=>match qB p a d with|some r=>some r|none=>qB p b d
 |_,_=>none
def xQ (p:Oper->Bool)(fn:Func):Nat×Array Oper×List (K (List AT)):=(qB p (aF fn) [.top fn]).getD (0,#[],[])
noncomputable def sR:Nat×Array Oper×List (K (List AT)):=xQ (aG 190) f175
section
variable (p0 q0 p1 q1 p2 q2 p3 q3:Int) (hs:Bool) (uns mt lr rr pl c:Int) (lp rp cst nst gv:Value)
def yV (a:List AT):AS:=⟨a,[(0,Ff (.sbool hs::bH true 0 8++[.lit cst,.sint .i64 mt,.lit lp,.sint .i64 lr,.lit rp,.sint .i64 rr,.lit gv,.int .i64 uns,.lit nst,.sint .i64 pl]) 120),(6,tZ c)],7,[p0,q0,p1,q1,p2,q2,p3,q3].map λz=>(z,10),[]⟩
abbrev Yi:List AT:=P0::List.replicate 45 .gG
theorem bAM:(run Z (aE tN) bW (aL Z (aE tN)) (sK (aG 190)) 400 [.code (aF f175),.top f175] (yV p0 q0 p1 q1 p2 q2 p3 q3 hs 0 mt lr rr pl c lp rp cst nst gv Yi)).bind (eF (fF [0,6] [] 7 []) (fF [0,6] [0] 7 []))
  = some (.ret (.tup []) (yV p0 q0 p1 q1 p2 q2 p3 q3 hs 0 mt lr rr pl c lp rp cst nst gv (slot [] 0 46))):=by kernel_rfl
theorem Sv (h:uns=10\/uns=11\/uns=12\/uns=13):(run Z (aE tN) bW (aL Z (aE tN)) (sK (aG 190)) 400 [.code (aF f175),.top f175] (yV p0 q0 p1 q1 p2 q2 p3 q3 hs uns mt lr rr pl c lp rp cst nst gv Yi)).bind (eF (fF [0,6] [] 7 []) (fF [0,6] [0] 7 []))
  = some (.br (!iD uns p0 q0 p1 q1) (.ret (.tup []) (yV p0 q0 p1 q1 p2 q2 p3 q3 hs uns mt lr rr pl c lp rp cst nst gv (slot [] 0 46))) (.stp (.code (.region sR.1 sR.2.1 true)::sR.2.2) (yV p0 q0 p1 q1 p2 q2 p3 q3 hs uns mt lr rr pl c lp rp cst nst gv (slot [(0,P0)] 0 46)))):=by
 rcases h with rfl|rfl|rfl|rfl<;>kernel_rfl
noncomputable def seS:AS:=((aL Z (aE tN) (sR.2.1.extract 0 14) (yV p0 q0 p1 q1 p2 q2 p3 q3 hs uns mt lr rr pl c lp rp cst nst gv (slot [(0,P0)] 0 46))).getD (⟨[],[],0,[],[]⟩,[])).1
theorem bAN:aL Z (aE tN) (sR.2.1.extract 0 14) (yV p0 q0 p1 q1 p2 q2 p3 q3 hs uns mt lr rr pl c lp rp cst nst gv (slot [(0,P0)] 0 46))=some (seS p0 q0 p1 q1 p2 q2 p3 q3 hs uns mt lr rr pl c lp rp cst nst gv,[]):=by kernel_rfl
theorem aWu:sM sR.2.1 14=true/\14<sR.2.1.size/\(n6 sR.2.1.size).drop 14=[14,15]:=by
 have e:sR.2.1.size=16:=by kernel_rfl
 exact⟨by kernel_rfl,by rw[e];decide,by rw[e];rfl⟩
theorem bAO (v y1 y2 y3 y4 x y z A B a b d e f g h i j l n o p q r s u:Value):(run Z (aE tN) bW (aL Z (aE tN)) (λ_=>false) 400 (.ops sR.2.1 [15]::sR.2.2) (sW [p0,q0,p1,q1,p2,q2,p3,q3] hs uns mt lr rr pl c (.lit lp) (.lit rp) (.lit cst) (.lit nst) (.lit gv) [(1,ext ([v,y1,y2,y3,y4,x,y,z,A,B,a,b,d,e,f,g,h,i,j,l,n,o,p,q,r,s,u].map .lit) 120)] (slot [(0,P0),(40,.val (.one (.ptr 1 0)))] 0 46))).bind (eF (fF [0,6,1] [] 7 []) (fF [0,6,1] [] 7 []))
  = some (.ret (.tup []) ⟨slot [] 0 46,[(0,Ff ([v,y1,y2,y3,y4,x,y,z,A,B,a,b,d,e,f,g,h,i,j,l,n,o,p,q,r,s,u].map .lit) 120),(6,tZ c),(1,ext ([v,y1,y2,y3,y4,x,y,z,A,B,a,b,d,e,f,g,h,i,j,l,n,o,p,q,r,s,u].map .lit) 120)],7,[],[0]⟩):=by kernel_rfl
end
theorem aRp {R:AC->Value->Prop}:∀{cs a:List AC} {b:LB},All2 (λc d=>∀x,R c x->R d x) cs a->All2 R cs b->All2 R a b
 | [],[],[],_,_=>trivial
 | [],[],_::_,_,h=>h.elim
 | [],_::_,_,h,_=>h.elim
 |_::_,[],_,h,_=>h.elim
 |_::_,_::_,[],_,h=>h.elim
 |_::_,_::_,y::_,⟨g,i⟩,⟨e,f⟩=>⟨g y e,aRp i f⟩
theorem aNK {w:World}{fb:Nat}{p0 q0 p1 q1 p2 q2 p3 q3:Int}{hs:Bool}{uns mt lr rr pl c:Int}{lp rp gv cv nv:Value}(h:Pos2 w k fb [p0,q0,p1,q1,p2,q2,p3,q3] hs uns mt lr rr pl c lp rp gv cv nv)(a:List AT):RepW Z w (phW k fb λ_=>none) (phW k fb λ_=>none) (yV p0 q0 p1 q1 p2 q2 p3 q3 hs uns mt lr rr pl c lp rp cv nv gv a) w:=by
 refine aQJ (h.rep a) rfl rfl rfl ?_;intro b f d;have:=nE d;simp only[yV,j9,k8,or_false,A8]at this
 rcases this with⟨rfl,rfl⟩|⟨rfl,rfl⟩
 .refine⟨_,rfl,rfl,rfl,λe h=>aRp ?_ h⟩;exact⟨λ_ h=>h,λ_ h=>h,λ_ h=>h,λ_ h=>h,λ_ h=>h,λ_ h=>h,λ_ h=>h,λ_ h=>h,λ_ h=>h,λ_ h=>h,λ_ h=>h,λ_ h=>h,λ_ h=>h,λ_ h=>h,λ_ h=>h,λ_ h=>h,λ_ h=>h,λ_ h=>h,λ_ h=>h,λ_ h=>h,λ_ h=>h,λ_ h=>h,λ_ h=>h,λ_ h=>h,λ_ h=>h,λ_ h=>h,λ_ h=>h,trivial⟩
 .exact⟨_,rfl,rfl,rfl,λe h=>h⟩
section
variable {w:World} {k fb:Nat} {p0 q0 p1 q1 p2 q2 p3 q3:Int} {hs:Bool} {uns mt lr rr pl c:Int} {lp rp gv cv nv:Value}
theorem aGg (h:Pos2 w k fb [p0,q0,p1,q1,p2,q2,p3,q3] hs uns mt lr rr pl c lp rp gv cv nv)(b:uns=0\/((uns=10\/uns=11\/uns=12\/uns=13)/\iD uns p0 q0 p1 q1=false)):Calls prog 175 #[aA k] w λe f=>∃v,e=.returned v/\Chg w f []:=by
 have F:=bD func175 rfl rfl;refine pM F (φ:=phW k fb λ_=>none) (vs:=[.one (.ptr 0 0)]) (args:=[aA k]) (s:=yV p0 q0 p1 q1 p2 q2 p3 q3 hs uns mt lr rr pl c lp rp cv nv gv Yi) (by kernel_rfl) ⟨⟨k,0,rfl,rfl⟩,trivial⟩ (aNK h _) ?_
 rcases b with rfl|⟨b,g⟩
 .refine cC (dL jO) rS (pO rfl rfl) (jI (pO rfl rfl)) (bAM p0 q0 p1 q1 p2 q2 p3 q3 hs mt lr rr pl c lp rp cv nv gv) (λr s=>s.dirty=[]) (λ_ _=>False) rfl ?_ (λ_ _ h=>h.elim);rintro r s φ v f a _ _ d;exact⟨v,rfl,rK d a⟩
 .refine cC (dL jO) rS (pO rfl rfl) (jI (pO rfl rfl)) (Sv p0 q0 p1 q1 p2 q2 p3 q3 hs uns mt lr rr pl c lp rp cv nv gv b) (λr s=>s.dirty=[]) (λ_ _=>False) ⟨λ_=>rfl,λe=>by rw[g]at e;cases e⟩ ?_ (λ_ _ h=>h.elim);rintro r s φ v f a _ _ d;exact⟨v,rfl,rK d a⟩
theorem bA8 {a:LB}(h:a.length=27):∃y y1 y2 y3 y4 z A B C D b d e f g i j l n o p q r s u v x,a=[y,y1,y2,y3,y4,z,A,B,C,D,b,d,e,f,g,i,j,l,n,o,p,q,r,s,u,v,x]:=by
 match a,h with
 | [y,y1,y2,y3,y4,z,A,B,C,D,b,d,e,f,g,i,j,l,n,o,p,q,r,s,u,v,x],_=>exact⟨y,y1,y2,y3,y4,z,A,B,C,D,b,d,e,f,g,i,j,l,n,o,p,q,r,s,u,v,x,rfl⟩
theorem aIU (h:Pos2 w k fb [p0,q0,p1,q1,p2,q2,p3,q3] hs uns mt lr rr pl c lp rp gv cv nv)(hu:uns=10\/uns=11\/uns=12\/uns=13)(he:iD uns p0 q0 p1 q1=true){R:World->Prop}
  (aj:∀w1 xs,Chg w w1 []->Hold true w1 [p1,q1] xs->Calls prog 190 #[.int .i64 uns,rp,.agg xs.toArray] w1 λe p=>∃m,∃ys:LB,e=.returned (aA m)/\m≠k/\p.heap[m]?=some (.cells ys.toArray 120 (0,0))/\ys.length=27/\(∀y∈ys,One y)/\Pos2 p k fb [p0,q0,p1,q1,p2,q2,p3,q3] hs uns mt lr rr pl c lp rp gv cv nv/\∀w3,Chg p w3 [k]->w3.heap[k]?=some (.cells ys.toArray 120 (0,0))->R w3):
  Calls prog 175 #[aA k] w λe w'=>∃v,e=.returned v/\R w':=by
 have F:=bD func175 rfl rfl;refine pM F (φ:=phW k fb λ_=>none) (vs:=[.one (.ptr 0 0)]) (args:=[aA k]) (s:=yV p0 q0 p1 q1 p2 q2 p3 q3 hs uns mt lr rr pl c lp rp cv nv gv Yi) (by kernel_rfl) ⟨⟨k,0,rfl,rfl⟩,trivial⟩ (aNK h _) ?_;refine cC (dL jO) rS (pO rfl rfl) (jI (pO rfl rfl)) (Sv p0 q0 p1 q1 p2 q2 p3 q3 hs uns mt lr rr pl c lp rp cv nv gv hu) (λ_ _=>False) (λks s=>ks=.code (.region sR.1 sR.2.1 true)::sR.2.2/\s=yV p0 q0 p1 q1 p2 q2 p3 q3 hs uns mt lr rr pl c lp rp cv nv gv (slot [(0,P0)] 0 46)) ⟨λe=>(by rw[he]at e;cases e),λ_=>⟨rfl,rfl⟩⟩ (λ_ _ _ _ _ h=>h.elim) ?_;rintro ks s⟨rfl,rfl⟩
 have ag:noFr sR.2.2=true:=by kernel_rfl
 refine⟨by kernel_rfl,λbk ax a1 w1 ak bc=>?_⟩;obtain⟨bb,bj,bd⟩:=aWu
 match bk,ak ax [] w1 with
 |.code cc::ap,⟨a6,al⟩=>
 subst a6;show(Code.region sR.1 sR.2.1 true).wp Z.P _ a1 w1;refine La mixed (dL jO) bj bb (bAN p0 q0 p1 q1 p2 q2 p3 q3 hs uns mt lr rr pl c lp rp cv nv gv) gJ bc ?_;intro bo a2 p i;rw[bd];have c2:Chg w p []:=rK i.wd (by kernel_rfl);show gD Z.P _ (.ops sR.2.1 [14,15]::ap) .normal a2 p;refine qI (f:=190) (vs:=[.one (.int .i64 uns),.one (.lit rp),.agg (bH true 2 2)]) (dst:=some 40) (ks:=.ops sR.2.1 [14,15]::sR.2.2) (ks2:=.ops sR.2.1 [15]::sR.2.2) (by kernel_rfl) (bD func190 rfl rfl).en (by simpa[noFr]using ag) (φ1:=bo) (ν1:=[]) (w1:=p) ⟨rfl,rfl,SR.any ag al⟩ i ?_;intro us bg
 match us,bg with
 | [u1,u2,u3],⟨aa,ab,⟨xs,bf,bh⟩,_⟩=>
 have aa:u1=.int .i64 uns:=aa;have ab:u2=rp:=ab.1;rw[aa,ab,bf]
 have hH:Hold true p [p1,q1] xs:=Ld [p1,q1] 2 xs bh (by
  intro j z n
  have hn:(seS p0 q0 p1 q1 p2 q2 p3 q3 hs uns mt lr rr pl c lp rp cv nv gv).nums=[p0,q0,p1,q1,p2,q2,p3,q3].map λz=>(z,10):=by kernel_rfl
  rw[hn];refine⟨10,?_⟩
  match j,n with
  |0,n=>cases n;rfl
  |1,n=>cases n;rfl
  |j+2,n=>simp at n)
 refine(aj p xs c2 hH).mono ?_;rintro e w3⟨m,ys,rfl,a9,hm,ao,bi,a,hR⟩;refine⟨_,rfl,λaq b6 am=>?_⟩
 have a8:m≠fb:=by
  rintro rfl;have hy:=a.fu;rw[hm]at hy;exact absurd (Obj.cells.inj (A6 hy)).2.1 (by decide)
 obtain⟨y0,y1,y2,y3,y4,y5,y6,y7,y8,y9,q,u,A,C,D,E,H,I,J,L,M,N,O,S,T,U,W,rfl⟩:=bA8 ao
 have ah:∀b x,phW k fb (ph1 1 m) b=some x->[0,6,1].contains b=true:=Wo rfl rfl λb x e=>by
  unfold ph1 at e;split at e
  .subst_vars;rfl
  .cases e
 have Y:=a.Ev (exφ:=ph1 1 m) (ex:=[(1,ext ([y0,y1,y2,y3,y4,y5,y6,y7,y8,y9,q,u,A,C,D,E,H,I,J,L,M,N,O,S,T,U,W].map .lit) 120)]) (rpC:=.lit rp) (cvC:=.lit cv) (nvC:=.lit nv) ⟨rfl,a.o2⟩ ⟨rfl,a.o4⟩ ⟨rfl,a.o5⟩ (by
  intro b B hB;have:=nE hB;simp only[j9,k8,or_false,A8]at this;obtain⟨rfl,rfl⟩:=this
  exact⟨rfl,rfl,rfl,m,0,rfl,a9,a8,[],_,[],(show w3.heap[m]?=some (.cells ([]++[y0,y1,y2,y3,y4,y5,y6,y7,y8,y9,q,u,A,C,D,E,H,I,J,L,M,N,O,S,T,U,W]++[]).toArray 120 (0,0)) by simpa using hm),rfl,aJJ _ bi⟩) (by
  intro b k' o d;unfold ph1 at d;split at d
  .cases d;exact gZ hm
  .cases d) (slot [(0,P0),(40,.val (.one (.ptr 1 0)))] 0 46)
 have be:=pK (kb:=[0,6]) (kt:=[0]) (dst:=some 40) (r:=.val (.one (.ptr 1 0))) (v:=aA m) i Y (by kernel_rfl) (by
  intro b hb
  have d:b=0\/b=6:=by simpa using hb
  rcases d with rfl|rfl
  .rw[i.wd.base 0 (k,0) rfl];rfl
  .rw[i.wd.base 6 (fb,0) rfl];rfl) ⟨m,0,rfl,rfl⟩
 refine cC (dL jO) rS ah (jI ah) (bAO p0 q0 p1 q1 p2 q2 p3 q3 hs uns mt lr rr pl c lp rp cv nv gv y0 y1 y2 y3 y4 y5 y6 y7 y8 y9 q u A C D E H I J L M N O S T U W) (λr s=>s.dirty=[0]/\look s.boxes 0=some (Ff ([y0,y1,y2,y3,y4,y5,y6,y7,y8,y9,q,u,A,C,D,E,H,I,J,L,M,N,O,S,T,U,W].map .lit) 120)) (λ_ _=>False) ⟨rfl,rfl⟩ ?_ (λ_ _ h=>h.elim) aq _ _ _ (am _ _ _) be;rintro r s ci v w5⟨hd,l0⟩ _ _ g;refine⟨v,rfl,hR w5 ⟨g.on,λj hj hn=>g.low j hj λb hb o e=>?_⟩ ?_⟩
 .rw[hd]at hb;simp only[l5]at hb;subst hb;rw[g.base 0 (k,0) rfl]at e;cases e;exact hn (by simp)
 .obtain⟨k',o,bn,zs,ar,g1,g2,g3,g4⟩:=g.box 0 _ l0;rw[g.base 0 (k,0) rfl]at g1;cases g1;have ai:bn=[]:=j8.1 g3;subst ai;have n:=aJI _ zs g4;subst n;have l:=g.on.shape (a.nd.shape a.h8);unfold World.shape? at l;rw[g2]at l;simp only[A7,A8,List.size_toArray,List.nil_append,List.length_append]at l;have X:ar=[]:=j8.1 (by have:=l.2;simp at this;omega);subst X;rw[g2];rfl
end
theorem aPY {a z:Int}(b:0<z):(a/z).natAbs<=a.natAbs:=by
 rcases Int.lt_or_le a 0 with h|h
 .have d:a<=a/z:=by
   have:=Int.mul_le_mul_of_nonneg_left (show(1:Int)<=z by omega) (show(0:Int)<=-a by omega);rw[Int.le_ediv_iff_mul_le b]
   have e:a*z=-(-a*z):=by rw[Int.neg_mul];omega
   rw[e];omega
  have f:a/z<0:=Int.ediv_neg_of_neg_of_pos h b;omega
 .have d:a/z<=a:=Int.ediv_le_self _ h;have f:0<=a/z:=Int.ediv_nonneg h (by omega);omega
theorem aJK {t b:Int}(d:0<aK t b):(lowT t b).natAbs<=t.natAbs/\(lowB t b).natAbs<=b.natAbs:=by
 have k:∀x:Int,(x/aK t b).natAbs<=x.natAbs:=λx=>aPY d
 have a:∀x:Int,(-x/aK t b).natAbs<=x.natAbs:=λx=>by have:=k (-x);simpa using this
 unfold lowT lowB;constructor
 .cases decide (Nm.cmp b 0<0)<;>simp only[cond_true,cond_false]
  .cases (Nm.cmp b 0==0)<;>simp only[cond_true,cond_false]
   .exact k t
   .cases decide (Nm.cmp t 0<0)<;>simp only[cond_true,cond_false]
    .exact k t
    .exact a t
  .exact a t
 .cases decide (Nm.cmp b 0<0)<;>simp only[cond_true,cond_false]
  .cases (Nm.cmp b 0==0)<;>simp only[cond_true,cond_false]
   .exact k b
   .cases decide (Nm.cmp t 0<0)<;>simp only[cond_true,cond_false]
    .exact k b
    .exact a b
  .exact a b
def Bd:List Nat->Nat
 | [n,m]=>bif z7 n m then m else n
 |_=>40
theorem aTd:bI Z 49 (hY true xS sV Bd [40,40]):=by
 refine aLp aRF ?_ ?_
 .intro l out h p _;exact⟨h,p⟩
 .intro l ns out h i o a;clear a;unfold xS at h;split at h
  .rename_i t b;cases h;have g:0<aK t b:=i _ (by simp[sV]);obtain⟨q,r⟩:=aJK g
   match ns,o with
   | [n,m],⟨d,e,_⟩=>
   have j:n<=Bd [n,m]/\m<=Bd [n,m]:=by
    simp only[Bd]
    cases f:z7 n m with
    |true=>simp only[cond_true];exact⟨z8 f,u7 _⟩
    |false=>
     simp only[cond_false];refine⟨u7 _,?_⟩
     have:¬n<=m:=λh=>by rw[Nat.ble_eq_true_of_le h]at f;cases f
     omega
   intro z k;simp only[j9,k8,or_false]at k
   have up:∀{x y:Int} {u:Nat},x.natAbs<=y.natAbs->Bits u y->Bits u x:=λd e=>Nat.lt_of_le_of_lt d e
   rcases k with rfl|rfl
   .exact eI (up q (d t (by simp))) j.1
   .exact eI (up r (e b (by simp))) j.2
  .cases h
noncomputable def tS:List (FuncId×TE):=(49,hY true xS sV Bd [40,40])::tN
theorem nP:cV Z tS:=⟨aTd,jO⟩
end Ab
end Go.Proofs.YtpdflaaamaokbaaGreatDoor
