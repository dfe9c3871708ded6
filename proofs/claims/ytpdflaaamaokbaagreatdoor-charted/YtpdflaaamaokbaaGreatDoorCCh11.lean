import Derived.Test.YtpdflaaamaokbaaGreatDoorCCh10
set_option linter.all false
set_option maxRecDepth 100000
set_option maxHeartbeats 2000000
namespace Go.Proofs.YtpdflaaamaokbaaGreatDoor
open List renaming getElem?_eq_some_iff->j8,getElem?_set_self->j9,getElem?_append_left->k8,getD_eq_getElem?_getD->k9,length_eq_zero_iff->l4,replicate->l5,getElem?_map->l7
open Option.some renaming inj->l8,injEq->l9
open Go.Obj.cells renaming inj->n4
open Or renaming inr->n5
open Nat renaming lt_of_lt_of_le->n6,le_trans->n7,zero_add->n8
open Option renaming bind_some->n9,map_some->o8
open Pg (eN iR rd2 sc iA wC)
open Go.Proofs.Tryz
open Go.RowKit
namespace Ab
noncomputable def uU (a b c d p0 q0 p1 q1 p2 q2 p3 q3:Int):LN:=[p0*a+p2*c,q0*a+q2*c,p1*a+p3*c,q1*a+q3*c,p0*b+p2*d,q0*b+q2*d,p1*b+p3*d,q1*b+q3*d]
noncomputable def kK (a b c d p0 q0 p1 q1 p2 q2 p3 q3:Int):LN:=[p0*a+p1*c,q0*a+q1*c,p0*b+p1*d,q0*b+q1*d,p2*a+p3*c,q2*a+q3*c,p2*b+p3*d,q2*b+q3*d]
def Yj (a b c d mt:Int):Spec:=λf _ ν _ _ e=>bif f==167 then (match e with
 | [.one (.ptr 4 0),.one (.sint .i64 n)]=>some ([(a,2),(b,2),(c,2),(d,2)],.val (.agg (bH true ν.length 4)),[n=mt],none)
 |_=>none)else none
section
variable (p0 q0 p1 q1 p2 q2 p3 q3:Int) (hs:Bool) (uns mt lr rr pl c cd:Int) (lp rp cst nst gv gv2:Value)
noncomputable def wrS (a:LN)(u:Nat)(lr rr mt c:Int)(m:Nat):AS:=⟨slot [] 0 m,[(0,xX hs uns mt lr rr pl (.lit lp) (.lit rp) (.lit cst) (.lit nst) (.lit gv)),(6,tZ c)],7,a.map λz=>(z,u),[0,6,0]⟩
theorem bAA:(run Z (aE tN) bW (aL Z (aE tN)) (nH (aG 61)) 400 [.code (aF f149),.top f149] (mY p0 q0 p1 q1 p2 q2 p3 q3 hs uns mt lr rr pl c lp rp cst nst gv (nG 37))).bind (eF (fF [0,6] [] 7 []) (fF [0,6] [0,1,9,10] 7 []))
  = some (.stp (eH (aG 61) f149) (mY p0 q0 p1 q1 p2 q2 p3 q3 hs uns mt lr rr pl c lp rp cst nst gv (slot [(0,P0),(1,P6),(9,.val (.agg [.lit lp,.sint .i64 lr])),(10,P6)] 0 39))):=by kernel_rfl
theorem bAB:(run Z (aE tN) bW (aL Z (aE tN)) (λ_=>false) 400 (eE (aG 61) f149) (mY p0 q0 p1 q1 p2 q2 p3 q3 hs uns mt lr rr pl c lp rp cst nst gv (slot [(0,P0),(1,P6),(11,dP cd)] 0 39))).bind (eF (fF [0,6] [] 7 []) (fF [0,6] [] 7 []))
  = some (.br (decide (cd=0)) (.ret (.val (.one (.bool false))) (mY p0 q0 p1 q1 p2 q2 p3 q3 hs uns mt lr rr pl c lp rp cst nst gv (slot [] 0 39))) (.br (decide (c<1)) (.ret (.val (.one (.bool false))) (mY p0 q0 p1 q1 p2 q2 p3 q3 hs uns mt lr rr pl c lp rp cst nst gv (slot [] 0 39))) (.ret (.val (.one (.bool true))) (wrS hs uns pl lp rp cst nst gv (kZ (uU (fP cd) (fQ cd) (fR cd) (fS cd) p0 q0 p1 q1 p2 q2 p3 q3)) 19 (IntKind.i64.wrap (lr+1)) rr mt (IntKind.i64.wrap (c-1)) 39)))):=by kernel_rfl
theorem bAC:(run Z (aE tN) bW (aL Z (aE tN)) (λ_=>false) 400 (eE (aG 61) f149) ⟨slot [(11,.val (.one (.int .i64 0)))] 0 39,[],0,[],[]⟩).bind (eF (fF [] [] 0 []) (fF [] [] 0 []))=some (.ret (.val (.one (.bool false))) ⟨slot [] 0 39,[],0,[],[]⟩):=by kernel_rfl
theorem bAz (a b d e:Int):(run Z (fI (Yj a b d e mt) (aE tN)) bW (aL Z (fI (Yj a b d e mt) (aE tN))) (λ_=>false) 400 [.code (aF f147),.top f147] (sW [p0,q0,p1,q1,p2,q2,p3,q3] hs uns mt lr rr pl c (.lit lp) (.lit rp) (.ptr 4 0) (.lit nst) (.lit gv) [(4,ext [] 161)] (nG 33))).bind (eF (fF [0,6,4] [] 7 []) (fF [0,6,4] [] 7 []))
  = some (.br (decide (c<1)) (.ret (.val (.one (.bool false))) (sW [p0,q0,p1,q1,p2,q2,p3,q3] hs uns mt lr rr pl c (.lit lp) (.lit rp) (.ptr 4 0) (.lit nst) (.lit gv) [(4,ext [] 161)] (slot [] 0 35))) (.need [mt=mt] (.ret (.val (.one (.bool true))) ⟨slot [] 0 35,[(0,xX hs uns (IntKind.i64.wrap (mt+1)) lr rr pl (.lit lp) (.lit rp) (.ptr 4 0) (.lit nst) (.lit gv)),(6,tZ (IntKind.i64.wrap (c-1))),(4,ext [] 161)],7,(kZ (kK a b d e p0 q0 p1 q1 p2 q2 p3 q3)).map λz=>(z,19),[0,6,0]⟩))):=by kernel_rfl
end
theorem aHT {c:Int}(a:1<=c)(b:c<=3000):IntKind.i64.wrap (c-1)=c-1:=by
 unfold IntKind.wrap;simp[IntKind.bits,IntKind.signed];omega
theorem Uo {c:Int}(a:0<=c)(b:c<=1000000):IntKind.i64.wrap (c+1)=c+1:=by
 unfold IntKind.wrap;simp[IntKind.bits,IntKind.signed];omega
structure yZ (w2:World) (k fb:Nat) (cd:Int) (R:EW) (K:Int->Int->Int->Int->Int->Int->Int->Int->Bool->Int->Int->Int->Int->Int->Int->Value->Value->Value->Value->Value->Prop):Prop where
 none:cd=0->∀w3,Chg w2 w3 []->R (.returned (.bool false)) w3
 some:cd≠0->∃p0 q0 p1 q1 p2 q2 p3 q3 hs uns mt lr rr pl c lp rp gv cv nv,Pos2 w2 k fb [p0,q0,p1,q1,p2,q2,p3,q3] hs uns mt lr rr pl c lp rp gv cv nv/\c<=3000/\0<=lr/\lr<=1000000/\0<=rr/\rr<=1000000/\(c<1->∀w3,Chg w2 w3 []->R (.returned (.bool false)) w3)/\(1<=c->K p0 q0 p1 q1 p2 q2 p3 q3 hs uns mt lr rr pl c lp rp gv cv nv)
section
variable {w:World} {k fb:Nat} {p0 q0 p1 q1 p2 q2 p3 q3:Int} {hs:Bool} {uns mt lr rr pl c:Int} {lp rp gv cv nv:Value} {R:EW}
theorem aGp (h:Pos2 w k fb [p0,q0,p1,q1,p2,q2,p3,q3] hs uns mt lr rr pl c lp rp gv cv nv)
  (M:∀ C,Chg w C []->Calls prog 61 #[.agg #[lp,.int .i64 lr],aA fb] C λe i=>∃ cd,e=.returned (.int .i64 cd)/\
   yZ i k fb cd R λp0 q0 p1 q1 p2 q2 p3 q3 hs uns mt lr rr pl c lp rp gv cv nv=>(∀z∈kZ (uU (fP cd) (fQ cd) (fR cd) (fS cd) p0 q0 p1 q1 p2 q2 p3 q3),Bits 10 z)/\∀q,Chg i q [k,fb]->Pos2 q k fb (kZ (uU (fP cd) (fQ cd) (fR cd) (fS cd) p0 q0 p1 q1 p2 q2 p3 q3)) hs uns mt (lr+1) rr pl (c-1) lp rp gv cv nv->R (.returned (.bool true)) q):
  Calls prog 149 #[aA k,aA fb] w R:=by
 have F:=bD func149 rfl rfl;refine pM F (φ:=phW k fb λ_=>none) (vs:=[.one (.ptr 0 0),.one (.ptr 6 0)]) (args:=[aA k,aA fb]) (s:=mY p0 q0 p1 q1 p2 q2 p3 q3 hs uns mt lr rr pl c lp rp cv nv gv (nG 37)) (by kernel_rfl) ⟨⟨k,0,rfl,rfl⟩,⟨fb,0,rfl,rfl⟩,trivial⟩ (h.rep _) ?_;refine cC (dL jO) rS (pO rfl rfl) (jI (pO rfl rfl)) (bAA p0 q0 p1 q1 p2 q2 p3 q3 hs uns mt lr rr pl c lp rp cv nv gv) (λ_ _=>False) (λX s=>X=eH (aG 61) f149/\s=mY p0 q0 p1 q1 p2 q2 p3 q3 hs uns mt lr rr pl c lp rp cv nv gv (slot [(0,P0),(1,P6),(9,.val (.agg [.lit lp,.sint .i64 lr])),(10,P6)] 0 39)) ⟨rfl,rfl⟩ (λ_ _ _ _ _ h=>h.elim) ?_;rintro X s⟨rfl,rfl⟩;refine⟨by kernel_rfl,λaf S a1 C A a=>?_⟩;have c1:=rK a.wd rfl;refine qI (f:=61) (vs:=[.agg [.lit lp,.sint .i64 lr],.one (.ptr 6 0)]) (dst:=some 11) (ks2:=eE (aG 61) f149) (by kernel_rfl) (bD func61 rfl rfl).en (by kernel_rfl) (A S [] C) a ?_;intro ys P
 match ys,P with
 | [y,y2],⟨⟨zs,hy,hz⟩,O,_⟩=>
 match zs,hz with
 | [z1,z2],⟨o,p,_⟩=>
 have o:z1=lp:=o.1;have p:z2=.int .i64 lr:=p;rw[uG (a.wd.base 6 (fb,0) rfl) O,hy,o,p];refine(M C c1).mono ?_;rintro e i⟨cd,rfl,W⟩;refine⟨_,rfl,λg ab d=>?_⟩
 by_cases j:cd=0
 .subst j;have l:Rep Z i (λ_=>none) (λ_=>none) ⟨slot [(11,.val (.one (.int .i64 0)))] 0 39,[],0,[],[]⟩ (a1.put (some 11) (.int .i64 0)) i:=pK (kb:=[]) (kt:=[]) (dst:=some 11) (r:=.val (.one (.int .i64 0))) a (Vg _) (by kernel_rfl) (λb E=>by simp at E) rfl;refine cC (dL jO) rS (λb x e=>by cases e) (jI (λb x e=>by cases e)) bAC (λr s=>r=.val (.one (.bool false))/\s.dirty=[]) (λ_ _=>False) ⟨rfl,rfl⟩ ?_ (λ_ _ h=>h.elim) g _ _ _ (d _ _ _) l;rintro r s ap v w5⟨rfl,J⟩ hv _ N;rw[hv false (Or.inl rfl)];exact W.none rfl w5 (rK N J)
 .obtain⟨p0,q0,p1,q1,p2,q2,p3,q3,hs,uns,mt,lr,rr,pl,c,lp,rp,gv,cv,nv,U,I,l1,l2,_,_,L,B⟩:=W.some j
  have l:Rep Z i (phW k fb λ_=>none) (phW k fb λ_=>none) (mY p0 q0 p1 q1 p2 q2 p3 q3 hs uns mt lr rr pl c lp rp cv nv gv (slot [(0,P0),(1,P6),(11,dP cd)] 0 39)) (a1.put (some 11) (.int .i64 cd)) i:=by
   refine pK (kb:=[0,6]) (kt:=[0,1]) (dst:=some 11) (r:=dP cd) a (U.rep _) (by kernel_rfl) ?_ rfl;intro b E
   have H:b=0\/b=6:=by simpa using E
   rcases H with rfl|rfl
   .rw[a.wd.base 0 (k,0) rfl];rfl
   .rw[a.wd.base 6 (fb,0) rfl];rfl
  refine cC (dL jO) rS (pO rfl rfl) (jI (pO rfl rfl)) (bAB p0 q0 p1 q1 p2 q2 p3 q3 hs uns mt lr rr pl c cd lp rp cv nv gv)
   (λr s=>(r=.val (.one (.bool false))/\s.dirty=[]/\c<1)\/(r=.val (.one (.bool true))/\¬c<1/\s=wrS hs uns pl lp rp cv nv gv (kZ (uU (fP cd) (fQ cd) (fR cd) (fS cd) p0 q0 p1 q1 p2 q2 p3 q3)) 19 (IntKind.i64.wrap (lr+1)) rr mt (IntKind.i64.wrap (c-1)) 39))
   (λ_ _=>False) ⟨λe=>absurd (of_decide_eq_true e) j,λ_=>⟨λD=>Or.inl ⟨rfl,rfl,of_decide_eq_true D⟩,λD=>n5 ⟨rfl,of_decide_eq_false D,rfl⟩⟩⟩ ?_ (λ_ _ h=>h.elim) g _ _ _ (d _ _ _) l
  rintro r s ao v q(⟨rfl,J,T⟩|⟨rfl,T,rfl⟩) hv _ n
  .rw[hv false (Or.inl rfl)];exact L T q (rK n J)
  .rw[hv true (Or.inl rfl)];obtain⟨Y,hR⟩:=B (by omega);have u:Chg i q [k,fb]:=Px n rfl;have:=U.out n (zs':=kZ (uU (fP cd) (fQ cd) (fR cd) (fS cd) p0 q0 p1 q1 p2 q2 p3 q3)) (hs':=hs) (uns':=uns) (mt':=mt) (lr':=IntKind.i64.wrap (lr+1)) (rr':=rr) (pl':=pl) (c':=IntKind.i64.wrap (c-1)) (lp':=lp) (rp':=rp) (gv':=gv) (cv':=cv) (nv':=nv) rfl rfl rfl Oq Y;rw[aHT (by omega) I,Uo l1 l2]at this;exact hR q u this
end
variable {w:World}{q:LI}{mt:Int}
theorem aWx {cb:Nat}{a b c d:Int}(A:q 4=some (cb,0))(F:∀z∈[a,b,c,d],Bits 2 z)(i:∀W,On Z.bt w W->Calls prog 167 #[aA cb,.int .i64 mt] W λe w'=>∃l:LB,e=.returned (.agg l.toArray)/\Hold true w' [a,b,c,d] l/\Below W.heap.size W w'):SpecOk Z w q (Yj a b c d mt):=by
 intro f S ν id P T O r p L h;unfold Yj at h
 cases s:f==167 with
 |false=>rw[s]at h;cases h
 |true=>
  rw[s]at h
  have:f=167:=by simpa using s
  subst this;refine⟨(bD func167 rfl rfl).en,λJ N x φ M l y _ u H v=>?_⟩;simp only[cond_true]at h;split at h
  .rename_i n;cases h
   match l,v with
   | [x1,x2],⟨E,o,_⟩=>
   have I:n=mt:=J (n=mt) (by simp);have o:x2=.int .i64 n:=o;rw[uG (y 4 _ A) E,o,I];refine(i M u).mono ?_;rintro e w'⟨B,rfl,C,D⟩;refine⟨_,rfl,D,B,rfl,?_⟩
   refine tV [a,b,c,d] B ν.length N C F λj z g=>?_
   refine x _ _ ?_;rw[List.getElem?_append_right (by omega),show ν.length+j-ν.length=j by omega]
   match j,g with
   |0,g=>cases g;rfl
   |1,g=>cases g;rfl
   |2,g=>cases g;rfl
   |3,g=>cases g;rfl
   |j+4,g=>simp at g
  .cases h
section
variable {w w':World} {k fb:Nat} {zs:LN} {p0 q0 p1 q1 p2 q2 p3 q3:Int} {hs:Bool} {uns mt lr rr pl c:Int} {lp rp gv cv nv:Value} {R:EW}
theorem Pos2.Ev (h:Pos2 w k fb zs hs uns mt lr rr pl c lp rp gv cv nv){exφ:LI}{ex:List (Nat×bL)}{rpC cvC nvC:AC}(i:relC Z (phW k fb exφ) (zs.map λz=>(z,10)) w rpC rp)(hc:relC Z (phW k fb exφ) (zs.map λz=>(z,10)) w cvC cv)(g:relC Z (phW k fb exφ) (zs.map λz=>(z,10)) w nvC nv)
  (d:∀b B,look ex b=some B->B.own=false/\B.tip=false/\B.ro=true/\∃a o,phW k fb exφ b=some (a,o)/\a≠k/\a≠fb/\Seg Z (phW k fb exφ) (zs.map λz=>(z,10)) w a o B.ty B.cs) (e:∀b a o,exφ b=some (a,o)->a<w.heap.size) (f:List AT):RepW Z w (phW k fb exφ) (phW k fb exφ) (sW zs hs uns mt lr rr pl c (.lit lp) rpC cvC nvC (.lit gv) ex f) w:=
 aR0 (lpC:=.lit lp) (gvC:=.lit gv) h.nd h.h8 h.bits h.fu ⟨rfl,h.o1⟩ i ⟨rfl,h.o3⟩ hc g d e f
theorem Wo {f:NU}(a:f.contains 0=true)(d:f.contains 6=true)(e:∀b x,q b=some x->f.contains b=true):∀b x,phW k fb q b=some x->f.contains b=true:=by
 intro b x h;unfold phW at h;split at h
 .subst_vars;exact a
 .split at h
  .subst_vars;exact d
  .split at h
   .exact e b x h
   .cases h
def ph1 (i k:Nat):LI:=λb=>if b=i then some (k,0)else none
def ph2 (i k j m:Nat):LI:=λb=>if b=i then some (k,0)else if b=j then some (m,0)else none
theorem Pos2.aUh (h:Pos2 w k fb zs hs uns mt lr rr pl c lp rp gv cv nv){b:Nat}{cs:LB}{ty:TypeId}(d:w.heap[b]?=some (.cells cs.toArray ty (0,0)))(e:ty≠120)(f:ty≠109):b≠k/\b≠fb:=by
 constructor
 .rintro rfl;obtain⟨g,a,_⟩:=h.nd.ex;rw[d]at a;exact e (n4 (l8 a)).2.1
 .rintro rfl;have a:=h.fu;rw[d]at a;exact f (n4 (l8 a)).2.1
theorem aEh (h:Pos2 w k fb [p0,q0,p1,q1,p2,q2,p3,q3] hs uns mt lr rr pl c lp rp gv cv nv){f:Nat}(A:cv=aA f)(q:∃cs:LB,w.heap[f]?=some (.cells cs.toArray 161 (0,0)))(L:c<=3000)(N:0<=mt)(O:mt<=1000000)
  {v z n y:Int} (hb:∀d∈[v,z,n,y],Bits 2 d) (u:∀W,On Z.bt w W->Calls prog 167 #[aA f,.int .i64 mt] W λe w'=>∃xs:LB,e=.returned (.agg xs.toArray)/\Hold true w' [v,z,n,y] xs/\Below W.heap.size W w')
  (P:c<1->∀p,Chg w p []->R (.returned (.bool false)) p)
  (j:1<=c->∀d∈kZ (kK v z n y p0 q0 p1 q1 p2 q2 p3 q3),Bits 10 d)
  (E:1<=c->∀p,Chg w p [k,fb]->Pos2 p k fb (kZ (kK v z n y p0 q0 p1 q1 p2 q2 p3 q3)) hs uns (mt+1) lr rr pl (c-1) lp rp gv cv nv->R (.returned (.bool true)) p):
  Calls prog 147 #[aA k,aA fb] w R:=by
 obtain⟨cs,l⟩:=q;obtain⟨n1,n2⟩:=h.aUh l (by decide) (by decide);have F:=bD func147 rfl rfl
 have D:=h.Ev (exφ:=ph1 4 f) (ex:=[(4,ext [] 161)]) (rpC:=.lit rp) (cvC:=.ptr 4 0) (nvC:=.lit nv) ⟨rfl,h.o2⟩ ⟨f,0,rfl,A⟩ ⟨rfl,h.o5⟩ (by
  intro b B J;have:=nE J;simp at this;obtain⟨rfl,rfl⟩:=this
  exact⟨rfl,rfl,rfl,f,0,rfl,n1,n2,[],[],cs,l,rfl,trivial⟩) (by
  intro b k' o g;unfold ph1 at g;split at g
  .cases g;exact gZ l
  .cases g) (nG 33)
 have C:∀b x,phW k fb (ph1 4 f) b=some x->[0,6,4].contains b=true:=Wo rfl rfl λb x e=>by
  unfold ph1 at e;split at e
  .subst_vars;rfl
  .cases e
 refine pM F (φ:=phW k fb (ph1 4 f)) (vs:=[.one (.ptr 0 0),.one (.ptr 6 0)]) (args:=[aA k,aA fb]) (by kernel_rfl) ⟨⟨k,0,rfl,rfl⟩,⟨fb,0,rfl,rfl⟩,trivial⟩ D ?_
 refine cC (Oz (aWx (cb:=f) rfl hb u) (dL jO)) rS C (jI C) (bAz p0 q0 p1 q1 p2 q2 p3 q3 hs uns mt lr rr pl c lp rp nv gv v z n y)
  (λr s=>(r=.val (.one (.bool false))/\s.dirty=[]/\c<1)\/(r=.val (.one (.bool true))/\¬c<1/\s.dirty=[0,6,0]/\look s.boxes 0=some (xX hs uns (IntKind.i64.wrap (mt+1)) lr rr pl (.lit lp) (.lit rp) (.ptr 4 0) (.lit nv) (.lit gv))/\look s.boxes 6=some (tZ (IntKind.i64.wrap (c-1)))/\s.nums=(kZ (kK v z n y p0 q0 p1 q1 p2 q2 p3 q3)).map λd=>(d,19)))
  (λ_ _=>False) ⟨λe=>Or.inl ⟨rfl,rfl,of_decide_eq_true e⟩,λe=>⟨λx Y=>by simp at Y;exact Y,n5 ⟨rfl,of_decide_eq_false e,rfl,rfl,rfl,rfl⟩⟩⟩ ?_ (λ_ _ h=>h.elim)
 rintro r s au a w3(⟨rfl,M,X⟩|⟨rfl,X,M,l0,l6,ln⟩) hv _ i
 .rw[hv false (Or.inl rfl)];exact P X w3 (rK i M)
 .rw[hv true (Or.inl rfl)];have J:=j (by omega);obtain⟨⟨am,ar,ai,H,aq,T,⟨e1,g2⟩,⟨e2,g3⟩,⟨e3,g4⟩,⟨k4,o4,S,g5⟩,⟨e5,g6⟩⟩,U⟩:=aOV (ns:=[]) i l0 l6 (h.nd.shape h.h8) (Zf h.fu) (zs:=kZ (kK v z n y p0 q0 p1 q1 p2 q2 p3 q3)) rfl (by rw[ln];exact Oq);rw[i.base 4 (f,0) rfl]at S;cases S
  have I:H=cv:=by rw[g5,A];rfl
  rw[e1,e2,e3,e5,I,Uo N O]at T;rw[aHT (by omega) L]at U;exact E (by omega) w3 (Px i (by rw[M];rfl)) ⟨T,U,J,rfl,h.o1,h.o2,h.o3,h.o4,h.o5⟩
end
section
variable (p0 q0 p1 q1 p2 q2 p3 q3:Int) (hs:Bool) (uns mt lr rr pl c cd:Int) (lp rp cst nst gv gv2:Value)
def rrS (a:List AT):AS:=sW [p0,q0,p1,q1,p2,q2,p3,q3] hs uns mt lr rr pl c (.lit lp) (.ptr 2 0) (.lit cst) (.ptr 5 0) (.lit gv) [(2,ext [] 120),(5,ext [] 223)] a
theorem bAE:(run Z (aE tN) bW (aL Z (aE tN)) (nH (aG 61)) 400 [.code (aF f150),.top f150] (mY p0 q0 p1 q1 p2 q2 p3 q3 hs uns mt lr rr pl c lp rp cst aB gv (nG 66))).bind (eF (fF [0,6] [] 7 []) (fF [0,6] [0,1,36,37] 7 []))
  = some (.stp (eH (aG 61) f150) (mY p0 q0 p1 q1 p2 q2 p3 q3 hs uns mt lr rr pl c lp rp cst aB gv (slot [(0,P0),(1,P6),(36,.val (.agg [.lit rp,.sint .i64 rr])),(37,P6)] 0 68))):=by kernel_rfl
theorem bAF:(run Z (aE tN) bW (aL Z (aE tN)) (nH (aG 61)) 400 [.code (aF f150),.top f150] (rrS p0 q0 p1 q1 p2 q2 p3 q3 hs uns mt lr rr pl c lp cst gv (nG 66))).bind (eF (fF [0,6,2,5] [] 7 []) (fF [0,6,2,5] [0,1,36,37] 7 []))
  = some (.stp (eH (aG 61) f150) (rrS p0 q0 p1 q1 p2 q2 p3 q3 hs uns mt lr rr pl c lp cst gv (slot [(0,P0),(1,P6),(36,.val (.agg [.ptr 2 0,.sint .i64 rr])),(37,P6)] 0 68))):=by kernel_rfl
theorem bAG:(run Z (aE tN) bW (aL Z (aE tN)) (nH (aG 175)) 400 (eE (aG 61) f150) (mY p0 q0 p1 q1 p2 q2 p3 q3 hs uns mt lr rr pl c lp rp cst nst gv (slot [(0,P0),(1,P6),(38,dP cd)] 0 68))).bind (eF (fF [0,6] [] 7 []) (fF [0,6] [66] 7 []))
  = some (.br (decide (cd=0)) (.ret (.val (.one (.bool false))) (mY p0 q0 p1 q1 p2 q2 p3 q3 hs uns mt lr rr pl c lp rp cst nst gv (slot [] 0 68))) (.br (decide (c<1)) (.ret (.val (.one (.bool false))) (mY p0 q0 p1 q1 p2 q2 p3 q3 hs uns mt lr rr pl c lp rp cst nst gv (slot [] 0 68))) (.stp (eH (aG 175) f150) ⟨slot [(66,P0)] 0 68,[(0,xX hs uns mt lr (IntKind.i64.wrap (rr+1)) pl (.lit lp) (.lit rp) (.lit cst) (.lit nst) (.lit gv)),(6,tZ (IntKind.i64.wrap (c-1)))],7,(kZ (kK (fP cd) (fQ cd) (fR cd) (fS cd) p0 q0 p1 q1 p2 q2 p3 q3)).map λz=>(z,19),[0,6,0]⟩))):=by kernel_rfl
theorem bAH:(run Z (aE tN) bW (aL Z (aE tN)) (λ_=>false) 400 (eE (aG 175) f150) ⟨slot [] 0 68,[],0,[],[]⟩).bind (eF (fF [] [] 0 []) (fF [] [] 0 []))=some (.ret (.val (.one (.bool true))) ⟨slot [] 0 68,[],0,[],[]⟩):=by kernel_rfl
theorem bAI:(run Z (aE tN) bW (aL Z (aE tN)) (λ_=>false) 400 (eE (aG 61) f150) ⟨slot [(38,.val (.one (.int .i64 0)))] 0 68,[],0,[],[]⟩).bind (eF (fF [] [] 0 []) (fF [] [] 0 []))=some (.ret (.val (.one (.bool false))) ⟨slot [] 0 68,[],0,[],[]⟩):=by kernel_rfl
end
section
variable {w:World} {k fb:Nat} {p0 q0 p1 q1 p2 q2 p3 q3:Int} {hs:Bool} {uns mt lr rr pl c:Int} {lp rp gv cv nv:Value} {R:EW}
abbrev Kl (b:World)(k fb:Nat)(cd:Int)(R:EW):Prop:=yZ b k fb cd R λp0 q0 p1 q1 p2 q2 p3 q3 hs uns mt lr rr pl c lp rp gv cv nv=>(∀z∈kZ (kK (fP cd) (fQ cd) (fR cd) (fS cd) p0 q0 p1 q1 p2 q2 p3 q3),Bits 10 z)/\∀a,Chg b a [k,fb]->Pos2 a k fb (kZ (kK (fP cd) (fQ cd) (fR cd) (fS cd) p0 q0 p1 q1 p2 q2 p3 q3)) hs uns mt lr (rr+1) pl (c-1) lp rp gv cv nv->Calls prog 175 #[aA k] a λe f=>∃v,e=.returned v/\∀d,Chg f d []->R (.returned (.bool true)) d
theorem aJ0 {n:World}{C:LI}{N:AS}{a1:Act}{w1 J:World}{cd:Int}(A:Rep Z n q C N a1 w1)(S:putT (kP [] [] 0 N.tmps) (some 38) (.val (.one (.int .i64 0)))=slot [(38,.val (.one (.int .i64 0)))] 0 68)(T:putT (kP [0,6] [0,1] 0 N.tmps) (some 38) (dP cd)=slot [(0,P0),(1,P6),(38,dP cd)] 0 68)(W:C 0=some (k,0))(X:C 6=some (fb,0))(hA:Kl J k fb cd R):
  ∀a:List (K Act),(∀ag af ad,SR Z ag af ad (eE (aG 61) f150) a)->gD Z.P R a .normal (a1.put (some 38) (.int .i64 cd)) J:=by
 intro a g
 by_cases i:cd=0
 .subst i;have j:Rep Z J (λ_=>none) (λ_=>none) ⟨slot [(38,.val (.one (.int .i64 0)))] 0 68,[],0,[],[]⟩ (a1.put (some 38) (.int .i64 0)) J:=pK (kb:=[]) (kt:=[]) (dst:=some 38) (r:=.val (.one (.int .i64 0))) A (Vg _) S.symm (λb o=>by simp at o) rfl;refine cC (dL jO) rS (λb x e=>by cases e) (jI (λb x e=>by cases e)) bAI (λr s=>r=.val (.one (.bool false))/\s.dirty=[]) (λ_ _=>False) ⟨rfl,rfl⟩ ?_ (λ_ _ h=>h.elim) a _ _ _ (g _ _ _) j;rintro r s ah v w5⟨rfl,u⟩ hv _ l;rw[hv false (Or.inl rfl)];exact hA.none rfl w5 (rK l u)
 .obtain⟨p0,q0,p1,q1,p2,q2,p3,q3,hs,uns,mt,lr,rr,pl,c,lp,rp,gv,cv,nv,h2,O,_,_,l1,l2,U,E⟩:=hA.some i
  have j:Rep Z J (phW k fb λ_=>none) (phW k fb λ_=>none) (mY p0 q0 p1 q1 p2 q2 p3 q3 hs uns mt lr rr pl c lp rp cv nv gv (slot [(0,P0),(1,P6),(38,dP cd)] 0 68)) (a1.put (some 38) (.int .i64 cd)) J:=by
   refine pK (kb:=[0,6]) (kt:=[0,1]) (dst:=some 38) (r:=dP cd) A (h2.rep _) T.symm ?_ rfl;intro b o
   have M:b=0\/b=6:=by simpa using o
   rcases M with rfl|rfl
   .rw[W];rfl
   .rw[X];rfl
  refine cC (dL jO) rS (pO rfl rfl) (jI (pO rfl rfl)) (bAG p0 q0 p1 q1 p2 q2 p3 q3 hs uns mt lr rr pl c cd lp rp cv nv gv)
   (λr s=>r=.val (.one (.bool false))/\s.dirty=[]/\c<1)
   (λks s=>¬c<1/\ks=eH (aG 175) f150/\s=⟨slot [(66,P0)] 0 68,[(0,xX hs uns mt lr (IntKind.i64.wrap (rr+1)) pl (.lit lp) (.lit rp) (.lit cv) (.lit nv) (.lit gv)),(6,tZ (IntKind.i64.wrap (c-1)))],7,(kZ (kK (fP cd) (fQ cd) (fR cd) (fS cd) p0 q0 p1 q1 p2 q2 p3 q3)).map λz=>(z,19),[0,6,0]⟩)
   ⟨λe=>absurd (of_decide_eq_true e) i,λ_=>⟨λL=>⟨rfl,rfl,of_decide_eq_true L⟩,λL=>⟨of_decide_eq_false L,rfl,rfl⟩⟩⟩ ?_ ?_ a _ _ _ (g _ _ _) j
  .rintro r s I v H⟨rfl,u,h1⟩ hv _ aa;rw[hv false (Or.inl rfl)];exact U h1 H (rK aa u)
  .rintro ks s⟨h1,rfl,rfl⟩;refine⟨by kernel_rfl,λam I a3 H B d=>?_⟩;obtain⟨hB,hR⟩:=E (by omega);have p:Chg J H [k,fb]:=Px d.wd rfl;have hp:=h2.out d.wd (zs':=kZ (kK (fP cd) (fQ cd) (fR cd) (fS cd) p0 q0 p1 q1 p2 q2 p3 q3)) (hs':=hs) (uns':=uns) (mt':=mt) (lr':=lr) (rr':=IntKind.i64.wrap (rr+1)) (pl':=pl) (c':=IntKind.i64.wrap (c-1)) (lp':=lp) (rp':=rp) (gv':=gv) (cv':=cv) (nv':=nv) rfl rfl rfl Oq hB;rw[aHT (by omega) O,Uo l1 l2]at hp;refine qI (f:=175) (vs:=[.one (.ptr 0 0)]) (dst:=some 67) (ks2:=eE (aG 175) f150) (by kernel_rfl) (bD func175 rfl rfl).en (by kernel_rfl) (B I [] H) d ?_;intro ys ab
   match ys,ab with
   | [y],⟨hy,_⟩=>
   rw[uG (d.wd.base 0 (k,0) rfl) hy];refine(hR H p hp).mono ?_;rintro e w4⟨v,rfl,hF⟩;refine⟨_,rfl,λF ax D=>?_⟩;have Y:Rep Z w4 (λ_=>none) (λ_=>none) ⟨slot [] 0 68,[],0,[],[]⟩ (a3.put (some 67) v) w4:=pK (kb:=[]) (kt:=[]) (dst:=some 67) (r:=.top) d (Vg _) (by kernel_rfl) (λb o=>by simp at o) trivial;refine cC (dL jO) rS (λb x e=>by cases e) (jI (λb x e=>by cases e)) bAH (λr s=>r=.val (.one (.bool true))/\s.dirty=[]) (λ_ _=>False) ⟨rfl,rfl⟩ ?_ (λ_ _ h=>h.elim) F _ _ _ (D _ _ _) Y;rintro r s ah v w5⟨rfl,u⟩ hv _ l;rw[hv true (Or.inl rfl)];exact hF w5 (rK l u)
theorem aHA (h:Pos2 w k fb [p0,q0,p1,q1,p2,q2,p3,q3] hs uns mt lr rr pl c lp rp gv cv nv)(n:nv=aB)
  (o:∀l,Chg w l []->Calls prog 61 #[.agg #[rp,.int .i64 rr],aA fb] l λe v=>∃cd,e=.returned (.int .i64 cd)/\Kl v k fb cd R):
  Calls prog 150 #[aA k,aA fb] w R:=by
 subst n;have F:=bD func150 rfl rfl;refine pM F (φ:=phW k fb λ_=>none) (vs:=[.one (.ptr 0 0),.one (.ptr 6 0)]) (args:=[aA k,aA fb]) (s:=mY p0 q0 p1 q1 p2 q2 p3 q3 hs uns mt lr rr pl c lp rp cv aB gv (nG 66)) (by kernel_rfl) ⟨⟨k,0,rfl,rfl⟩,⟨fb,0,rfl,rfl⟩,trivial⟩ (h.rep _) ?_;refine cC (dL jO) rS (pO rfl rfl) (jI (pO rfl rfl)) (bAE p0 q0 p1 q1 p2 q2 p3 q3 hs uns mt lr rr pl c lp rp cv gv) (λ_ _=>False) (λu s=>u=eH (aG 61) f150/\s=mY p0 q0 p1 q1 p2 q2 p3 q3 hs uns mt lr rr pl c lp rp cv aB gv (slot [(0,P0),(1,P6),(36,.val (.agg [.lit rp,.sint .i64 rr])),(37,P6)] 0 68)) ⟨rfl,rfl⟩ (λ_ _ _ _ _ h=>h.elim) ?_;rintro u s⟨rfl,rfl⟩;refine⟨by kernel_rfl,λC r a1 l g a=>?_⟩;have c1:=rK a.wd rfl;refine qI (f:=61) (vs:=[.agg [.lit rp,.sint .i64 rr],.one (.ptr 6 0)]) (dst:=some 38) (ks2:=eE (aG 61) f150) (by kernel_rfl) (bD func61 rfl rfl).en (by kernel_rfl) (g r [] l) a ?_;intro D q
 match D,q with
 | [y,y2],⟨⟨I,A,B⟩,p,_⟩=>
 match I,B with
 | [E,H],⟨b,d,_⟩=>
 have b:E=rp:=b.1;have d:H=.int .i64 rr:=d;rw[uG (a.wd.base 6 (fb,0) rfl) p,A,b,d];refine(o l c1).mono ?_;rintro e v⟨cd,rfl,x⟩;exact⟨_,rfl,λj z i=>aJ0 a (by kernel_rfl) (by kernel_rfl) (a.wd.base 0 (k,0) rfl) (a.wd.base 6 (fb,0) rfl) x j i⟩
theorem aWn {i a p b:Nat}{f:NU}(d:f.contains i=true)(g:f.contains p=true):∀x y,ph2 i a p b x=some y->f.contains x=true:=by
 intro x y e;unfold ph2 at e;split at e
 .subst_vars;exact d
 .split at e
  .subst_vars;exact g
  .cases e
theorem aHB (h:Pos2 w k fb [p0,q0,p1,q1,p2,q2,p3,q3] hs uns mt lr rr pl c lp rp gv cv nv){n r:Nat}(H:nv=aA n)(v:rp=aA r)(E:∃cs:LB,w.heap[n]?=some (.cells cs.toArray 223 (0,0)))(I:∃cs:LB,w.heap[r]?=some (.cells cs.toArray 120 (0,0)))(L:r≠k)
  (M:∀p,Chg w p []->Calls prog 61 #[.agg #[rp,.int .i64 rr],aA fb] p λe T=>∃cd,e=.returned (.int .i64 cd)/\Kl T k fb cd R):
  Calls prog 150 #[aA k,aA fb] w R:=by
 obtain⟨cs,g⟩:=E;obtain⟨U,i⟩:=I;obtain⟨n1,n2⟩:=h.aUh g (by decide) (by decide)
 have J:r≠fb:=by
  rintro rfl;have D:=h.fu;rw[i]at D;exact absurd (n4 (l8 D)).2.1 (by decide)
 have F:=bD func150 rfl rfl
 have u:=h.Ev (exφ:=ph2 2 r 5 n) (ex:=[(2,ext [] 120),(5,ext [] 223)]) (rpC:=.ptr 2 0) (cvC:=.lit cv) (nvC:=.ptr 5 0) ⟨r,0,rfl,v⟩ ⟨rfl,h.o4⟩ ⟨n,0,rfl,H⟩ (by
  intro b B X;have:=nE X;simp at this
  rcases this with⟨rfl,rfl⟩|⟨rfl,rfl⟩
  .exact⟨rfl,rfl,rfl,r,0,rfl,L,J,[],[],U,i,rfl,trivial⟩
  .exact⟨rfl,rfl,rfl,n,0,rfl,n1,n2,[],[],cs,g,rfl,trivial⟩) (by
  intro b k' o d;unfold ph2 at d;split at d
  .cases d;exact gZ i
  .split at d
   .cases d;exact gZ g
   .cases d) (nG 66)
 have q:∀b x,phW k fb (ph2 2 r 5 n) b=some x->[0,6,2,5].contains b=true:=Wo rfl rfl (aWn rfl rfl);refine pM F (φ:=phW k fb (ph2 2 r 5 n)) (vs:=[.one (.ptr 0 0),.one (.ptr 6 0)]) (args:=[aA k,aA fb]) (by kernel_rfl) ⟨⟨k,0,rfl,rfl⟩,⟨fb,0,rfl,rfl⟩,trivial⟩ u ?_;refine cC (dL jO) rS q (jI q) (bAF p0 q0 p1 q1 p2 q2 p3 q3 hs uns mt lr rr pl c lp cv gv) (λ_ _=>False) (λS s=>S=eH (aG 61) f150/\s=rrS p0 q0 p1 q1 p2 q2 p3 q3 hs uns mt lr rr pl c lp cv gv (slot [(0,P0),(1,P6),(36,.val (.agg [.ptr 2 0,.sint .i64 rr])),(37,P6)] 0 68)) ⟨rfl,rfl⟩ (λ_ _ _ _ _ h=>h.elim) ?_;rintro S s⟨rfl,rfl⟩;refine⟨by kernel_rfl,λab P a1 p z a=>?_⟩;have c1:=rK a.wd rfl;refine qI (f:=61) (vs:=[.agg [.ptr 2 0,.sint .i64 rr],.one (.ptr 6 0)]) (dst:=some 38) (ks2:=eE (aG 61) f150) (by kernel_rfl) (bD func61 rfl rfl).en (by kernel_rfl) (z P [] p) a ?_;intro ys O
 match ys,O with
 | [y,y2],⟨⟨zs,D,hz⟩,N,_⟩=>
 match zs,hz with
 | [z1,z2],⟨j,l,_⟩=>
 have j:z1=rp:=(uG (ν:=[]) (w:=p) (a.wd.base 2 (r,0) rfl) j).trans v.symm;have l:z2=.int .i64 rr:=l;rw[uG (a.wd.base 6 (fb,0) rfl) N,D,j,l];refine(M p c1).mono ?_;rintro e T⟨cd,rfl,W⟩;exact⟨_,rfl,λC Y A=>aJ0 a (by kernel_rfl) (by kernel_rfl) (a.wd.base 0 (k,0) rfl) (a.wd.base 6 (fb,0) rfl) W C A⟩
end
open Rf (Nd Inv aY)
structure Kept (w w':World) (own own':Nat->Option Own) (fb:Nat):Prop where
 on:On Z.bt w w'
 low:∀k,k<w.heap.size->own k=none->k≠fb->w'.heap[k]?=w.heap[k]?
 own:∀k,k<w.heap.size->own k=none->own' k=none
theorem Kept.trans {a b c:World}{o1 o2 o3:Nat->Option Own}{fb:Nat}(h:Kept a b o1 o2 fb)(g:Kept b c o2 o3 fb):Kept a c o1 o3 fb:=by
 refine⟨h.on.trans g.on,λk d e f=>?_,λk d e=>g.own k (n6 d h.on.size) (h.own k d e)⟩;rw[g.low k (n6 d h.on.size) (h.own k d e) f,h.low k d e f]
theorem Kept.Ps {w':World}{own own':Nat->Option Own}{fb:Nat}{D:NU}(h:Chg w w' D)(b:∀k∈D,k<w.heap.size->own k=none->k=fb)(g:∀k,k<w.heap.size->own k=none->own' k=none):Kept w w' own own' fb:=
 ⟨h.on,λk a f d=>h.low k a λe=>d (b k e a f),g⟩
theorem Kept.still {w':World}{own:Nat->Option Own}{fb:Nat}(h:Chg w w' []):Kept w w' own own fb:=Kept.Ps h (λk a=>by cases a) λ_ _ e=>e
section
variable {w w' w'':World} {b0 fb:Nat} {own own':Nat->Option Own} {at1 at2:NN} {D:NU} {i:Nat} {n n':Nd} {s:Rf.St} {rho:NN} {c:Nat}
theorem aNX:zF w own i []:=λk a=>by cases a
theorem Net.still (h:Net w b0 own at1 fb s)(a:Inv s.nodes rho c)(hc:Chg w w' []):Net w' b0 own at1 fb s:=by
 refine h.step (i:=s.nodes.length) a (λ_ _ _=>rfl) (Pg.Go.refl _) hc aNX (λ_ _ _ e _=>e) (λ_ _=>rfl) (hc.at h.fuel (by simp)) ?_;intro j m b d;have:=(j8.1 b).1;omega
def kM (w:World)(b0:Nat)(own:Nat->Option Own)(at1:NN)(fb len:Nat)(ok:Bool)(b:Rf.St)(w':World):Prop:=∃own',Kept w w' own own' fb/\(ok=true->∃at2,Net w' b0 own' at2 fb b/\∀a,a<len->at2 a=at1 a)
theorem kM.no {len:Nat}{a:Rf.St}(h:Kept w w' own own' fb):kM w b0 own at1 fb len false a w':=⟨own',h,λe=>by cases e⟩
theorem kM.still {len:Nat}{ok:Bool}{b:Rf.St}(h:kM w b0 own at1 fb len ok b w')(a:ok=true->∃rho c,Inv b.nodes rho c)(hc:Chg w' w'' []):kM w b0 own at1 fb len ok b w'':=by
 obtain⟨own',d,f⟩:=h;refine⟨own',d.trans (Kept.still hc),λe=>?_⟩;obtain⟨at2,g,j⟩:=f e;obtain⟨rho,c,a⟩:=a e;exact⟨at2,g.still a hc,j⟩
theorem kM.after {len k:Nat}{ok:Bool}{d:Rf.St}{O:Nat->Option Own}{at':NN}(p:Kept w w' own O fb)(b:∀a,a<len->at' a=at1 a)(q:len<=k)(h:kM w' b0 O at' fb k ok d w''):kM w b0 own at1 fb len ok d w'':=by
 obtain⟨own',f,g⟩:=h;refine⟨own',p.trans f,λe=>?_⟩;obtain⟨at2,j,l⟩:=g e;exact⟨at2,j,λa o=>(l a (by omega)).trans (b a o)⟩
def nX (f:Nat):Prop:=∀(w:World) (b0 fb:Nat) (own:Nat->Option Own) (at1:NN) (s:Rf.St) (rho:NN) (c i j:Nat) (n:Nd) (x:Rf.St×Option Int),Net w b0 own at1 fb s->b0<=w.heap.size->s.clock=(c:Int)->c<=3000->Inv s.nodes rho c->s.nodes[i]?=some n->j<=n.out.length->c+rho i+2<=f->Rf.sym f s i j=some x->
 Calls prog 90 #[aA (at1 i),.int .i64 j,aA fb] w λe w'=>e=.returned (.int .i64 (eK x.2))/\kM w b0 own at1 fb s.nodes.length x.2.isSome x.1 w'
variable {l:List Rf.V}
theorem Net.tA (h:Net w b0 own at1 fb s){v z p1 y e A p3 H d:Int}{gv g u:Value}{a:Option (Nat×Nat)}{I f:FF}(b:Seen w b0 own at1 s.nodes i n v z p1 y e A p3 H mt d gv g u l a I f):Pos2 w (at1 i) fb [v,z,p1,y,e,A,p3,H] (!n.pos) (fL n) mt (hV n) (gC n) d s.clock (eV at1 (lArg n)) (eV at1 (rArg n)) gv g u:=by
 obtain⟨o1,o2,o3⟩:=b.bS.Er;exact⟨b.bS.nd,h.fuel,b.bits,rfl,Vd _,Vd _,o1,o2,o3⟩
variable {zs:LN}
theorem eight (h:zs.length=8):∃a b c d e f g h,zs=[a,b,c,d,e,f,g,h]:=by
 match zs,h with
 | [a,b,c,d,e,f,g,h],_=>exact⟨a,b,c,d,e,f,g,h,rfl⟩
theorem Ly (h8:zs.length=8)(h:eN l (cE zs)):eN l (cE (kZ zs)):=by
 obtain⟨b,f,p1,g,d,j,p3,k,rfl⟩:=eight h8;obtain⟨t,a,e⟩:=aNP b f p1 g d j p3 k;exact eN.over h a e
theorem aNR (h8:zs.length=8):(kZ zs).length=8:=by
 obtain⟨a,d,p1,e,b,f,p3,g,rfl⟩:=eight h8;rfl
theorem aQD (a b c d e g p1 h f j p3 k:Int):Pg.tC [(e,g),(p1,h),(f,j),(p3,k)] ⟨a,b,c,d⟩=cE (uU a b c d e g p1 h f j p3 k):=by
 unfold Pg.tC uU cE iR rd2 sc iA;simp[Int.mul_comm]
theorem aHz (a b c d e g p1 h f j p3 k:Int):Pg.oR [(e,g),(p1,h),(f,j),(p3,k)] ⟨a,b,c,d⟩=cE (kK a b c d e g p1 h f j p3 k):=by
 unfold Pg.oR kK cE iR rd2 sc iA;simp[Int.mul_comm]
theorem aS4 (v d f p1 g e h p3 j:Int):[(d,f),(p1,g),(e,h),(p3,j)].map (Rf.fG (Mt.sym v))=cE (lT (code v) d f p1 g e h p3 j):=by
 obtain⟨l,o,p,q⟩:=Vk v;unfold lT cE Rf.fG Mt.vG Mt.vH;rw[l,o,p,q];simp
 have k:∀a b x y:Int,a*x+-b*y=a*x-b*y:=λa b x y=>by rw[Int.neg_mul];omega
 simp only[k,and_self]
theorem aJq (v:Int):code v≠0:=by
 unfold code;split
 .decide
 .split
  .decide
  .split
   .decide
   .split
    .decide
    .split
     .decide
     .split<;>decide
theorem Net.pG (h:Net w b0 own at1 fb s)(J:Inv s.nodes rho c)(f:s.nodes[i]?=some n)(r:rZ n n')(B:Pg.HC n')(q:Pg.Go s.nodes (s.nodes.set i n'))(hc:Chg w w' D)(M:∀k∈D,k=at1 i\/k=fb\/(own k=some (.gv i)/\∀cs ty m,w.heap[k]?=some (.cells cs ty m)->ty=62)\/w.heap.size<=k)(a:∀k o,k<w.heap.size->own k=some o->own' k=some o)
  {v z p1 y O A p3 H mt d I cl:Int} {gv gv' u Y:Value} {zs':LN} (x:Blk w b0 own at1 i n v z p1 y O A p3 H mt I gv u Y) (C:n'.k=n.k/\d=mt\/n.t=[]/\n'.k=n.k+1/\d=mt+1)
  (E:Pos2 w' (at1 i) fb zs' (!n'.pos) (fL n') d (hV n') (gC n') I cl (eV at1 (lArg n')) (eV at1 (rArg n')) gv' u Y) (N:gE w' b0 own' i n'.out gv') {F:List Rf.V} (p:Rf.corners s.nodes n'=some F) (l:eN F (cE zs')):Net w' b0 own' at1 fb ⟨s.nodes.set i n',cl⟩:=by
 have j:zF w own i D:=by
  intro k C cs ty m b
  rcases M k C with rfl|rfl|⟨e,L⟩|e
  .obtain⟨xs,g,_⟩:=x.nd.ex;rw[b]at g;exact Or.inl ⟨(n4 (l8 g)).2.1,(h.nd i n f).own⟩
  .have g:=h.fuel;rw[b]at g;exact n5 (n5 (n4 (l8 g)).2.1)
  .exact n5 (Or.inl ⟨L cs ty m b,e⟩)
  .have:=gZ b;omega
 obtain⟨P,U,R,W,S,X,T,s3,rfl⟩:=eight E.h8;refine h.put J f q hc j a E.fu ⟨⟨P,U,R,W,S,X,T,s3,d,I,gv',u,Y,x.pG a r hc j J f C E.nd N,F,q.corners p,l⟩,B,a _ _ x.nd.lt (h.nd i n f).own,(h.nd i n f).lo,by rw[r.aP,r.t,r.nest];exact(h.nd i n f).So⟩
end
section
variable {w w' w'':World} {b0 fb:Nat} {own own':Nat->Option Own} {at1 at2:NN} {D:NU} {i:Nat} {n n':Nd} {s:Rf.St} {rho:NN} {c:Nat}
theorem Cu {ns a:List Nd}{m:Nd}(h:Rf.put ns i m=some a):a=ns.set i m/\i<ns.length:=by
 unfold Rf.put at h;split at h
 .rename_i b;cases h;exact⟨rfl,b.2⟩
 .cases h
theorem gE.row {out:LN}{gv:Value}(h:gE w b0 own i out gv):∃g,RowOf w 62 (out.map λc=>Value.int .i64 (code c)) gv g/\∀b,g=some b->own b=some (.gv i)/\b0<=b:=by
 rcases h with⟨f,j⟩|⟨g,d,a,f,j,k,l,o,p⟩
 .exact⟨none,Or.inl ⟨f,by rw[j];rfl,rfl⟩,λb e=>by cases e⟩
 .exact⟨some g,n5 ⟨g,d,a,rfl,by rw[f];simp,j,by simpa using k,by simpa using l⟩,λb e=>by cases e;exact⟨o,p⟩⟩
theorem gE.aWi {out:LN}{gv:Value}{b:Nat}(h:RowOf w 62 (out.map λc=>Value.int .i64 (code c)) gv (some b))(q:own b=some (.gv i))(p:b0<=b):gE w b0 own i out gv:=by
 rcases h with⟨_,_,e⟩|⟨g,d,a,f,j,k,l,o⟩
 .cases e
 .cases f;exact n5 ⟨b,d,a,by rw[j];simp,k,by simpa using l,by simpa using o,q,p⟩
theorem aS5 {f:Nat}(h:Net w b0 own at1 fb s)(be:b0<=w.heap.size)(Y:s.clock=(c:Int))(bf:c<=3000)(L:Inv s.nodes rho c)(B:s.nodes[i]?=some n){y:Rf.St×Bool}(C:Rf.step1 f s i n=some y)(a4:y.2=true->∃rho c,Inv y.1.nodes rho c)
  (hR:Rf.nextP s.nodes n=some none->∀S,Chg w S []->Calls prog 132 #[aA (at1 i),aA fb] S λe w'=>e=.returned (.bool y.2)/\kM w b0 own at1 fb s.nodes.length y.2 y.1 w'):
  Calls prog 113 #[aA (at1 i),aA fb] w λe w'=>e=.returned (.bool y.2)/\kM w b0 own at1 fb s.nodes.length y.2 y.1 w':=by
 have hN:=L.at' i n B;obtain⟨p0,q0,p1,q1,p2,q2,p3,q3,mt,pl,gv,cv,nv,l,g,cc,nn,hs⟩:=h.seen L B
 obtain⟨o,F⟩:∃o,Rf.nextP s.nodes n=some o:=by
  unfold Rf.nextP;split
  .exact⟨_,rfl⟩
  .exact Rf.sC L hN
 obtain⟨gO,J,q⟩:=hs.bS.Aw.row;have ae:=h.tA hs;have a7:=hN.iX;have bg:=C;unfold Rf.step1 at C;rw[F,n9]at C
 -- what is given
 have u:∀v,o=some v->1<=c->∃n',n'={n with out:=n.out++[v],told:=n.told.mul (Mt.sym v),dR:=n.dR++[n.told.mul (Mt.sym v)]}/\y=(⟨s.nodes.set i n',s.clock-1⟩,true)/\(∃E c',Inv (s.nodes.set i n') E c')/\Rf.corners s.nodes n'=some (l.map (Rf.fG (Mt.sym v)))/\eN (l.map (Rf.fG (Mt.sym v))) (cE (lT (code v) p0 q0 p1 q1 p2 q2 p3 q3)):=by
  intro v hv X;subst hv;simp only at C
  have hp:n.aP=false:=by
   unfold Rf.nextP at F
   cases a2:n.aP with
   |false=>rfl
   |true=>rw[a2]at F;simp at F
  unfold Rf.nextP at F;rw[hp]at F;simp only[Bool.false_eq_true,if_false]at F
  obtain⟨c0,rfl⟩:∃c0,c=c0+1:=⟨c-1,by omega⟩
  rw[if_neg (by rw[Y];omega)]at C;obtain⟨n',g1,g2,g3,g4⟩:=Rf.aHc L B hp F;unfold Rf.give at C;rw[g1,o8,o8]at C;have j:=(Cu g1).1;have hi:=(Cu g1).2
  have T:n'={n with out:=n.out++[v],told:=n.told.mul (Mt.sym v),dR:=n.dR++[n.told.mul (Mt.sym v)]}:=by
   have:=congrArg (λx=>x[i]?) j;simp only[j9 hi]at this;exact l8 this
  refine⟨n',T,(l8 C).symm,⟨rho,c0,g2⟩,?_,?_⟩
  .rw[T];exact Pg.aIb hs.Cx v _ _
  .rw[<-aS4];exact hs.Gw.fG _
 have M:eK o≠0->1<=s.clock->∀z∈kZ (lT (eK o) p0 q0 p1 q1 p2 q2 p3 q3),Bits 10 z:=by
  intro d X
  cases o with
  |none=>exact absurd rfl d
  |some v=>
   obtain⟨n',j,T,⟨E,c',W⟩,e4,e5⟩:=u v rfl (by omega);have hi:=(j8.1 B).1
   have N:Pg.Go s.nodes (s.nodes.set i n'):=Pg.Go.set B (by rw [j]) (by
    intro r m A;rw[j];simp only
    rw[k8 (j8.1 A).1];exact A) (by
    intro r m A;rw[j];simp only
    rw[k8 (j8.1 A).1];exact A)
   have az:(s.nodes.set i n')[i]?=some n':=j9 hi;have I:=Ly rfl e5;obtain⟨r0,s0,r1,s1,r2,s2,r3,s3,e8⟩:=eight (aNR (zs:=lT (code v) p0 q0 p1 q1 p2 q2 p3 q3) rfl);have e9:eK (some v)=code v:=rfl;rw[e9,e8];rw[e8]at I;exact nY (s:=⟨s.nodes.set i n',0⟩) W az (N.corners e4) I
 refine aL0 (cd:=eK o) (xs:=n.out.map λc=>Value.int .i64 (code c)) (g:=gO) ae (by rw[Y];omega) J (by simp;omega) ?_ ?_ ?_ M ?_
 .intro S c1;obtain⟨_,_,_,_,_,_,_,_,_,_,_,_,_,_,_,_,_,a3⟩:=(h.still L c1).seen L B;exact a3.next hN F
 .intro d S c1
  have a0:o=none:=by
   cases o with
   |none=>rfl
   |some v=>exact absurd d (aJq v)
  subst a0;refine(hR F S c1).mono ?_;rintro e w2⟨rfl,af⟩;exact⟨_,rfl,λw3 c3=>⟨rfl,af.still a4 c3⟩⟩
 .intro d ay S c1
  cases o with
  |none=>exact absurd rfl d
  |some v=>
   simp only at C;rw[if_pos (by omega)]at C;cases C;exact⟨rfl,kM.no (own':=own) (Kept.still c1)⟩
 .intro d X S U b H a1 R hb
  cases o with
  |none=>exact absurd rfl d
  |some v=>
   obtain⟨n',j,T,⟨E,c',W⟩,e4,e5⟩:=u v rfl (by omega);subst T;have hi:=(j8.1 B).1;have p:gO=some b\/w.heap.size<=b:=hb
   have ad:∀k o,k<w.heap.size->own k=some o->(λk=>if k=b then some (Own.gv i)else own k) k=some o:=by
    intro k o O P;simp only
    by_cases ab:k=b
    .subst ab;rw[if_pos rfl]
     rcases p with e|e
     .rw[(q k e).1]at P;exact P
     .omega
    .rw[if_neg ab];exact P
   have av:own (at1 i)=some (.nd i):=(h.nd i n B).own;refine⟨rfl,λk=>if k=b then some (Own.gv i)else own k,Kept.Ps H ?_ ?_,λ_=>⟨at1,?_,λ_ _=>rfl⟩⟩
   .intro k O ay a;simp at O
    rcases O with rfl|rfl|rfl
    .rw[av]at a;cases a
    .rfl
    .rcases p with e|e
     .rw[(q k e).1]at a;cases a
     .omega
   .intro k O a;show(if k=b then some (Own.gv i)else own k)=none;rw[if_neg]
    .exact a
    .rintro rfl
     rcases p with e|e
     .rw[(q k e).1]at a;cases a
     .omega
   .have N:Pg.Go s.nodes (s.nodes.set i n'):=Pg.Go.set B (by rw [j]) (by
     intro r m A;rw[j];simp only
     rw[k8 (j8.1 A).1];exact A) (by
     intro r m A;rw[j];simp only
     rw[k8 (j8.1 A).1];exact A)
    refine h.pG L B (n':=n') (by rw[j];exact⟨rfl,rfl,rfl,rfl,rfl,rfl,rfl,rfl,rfl,rfl,rfl⟩) (by rw[j];exact(h.nd i n B).hc.give v) N H ?_ ad hs.bS (Or.inl ⟨by rw[j],rfl⟩) (zs':=kZ (lT (code v) p0 q0 p1 q1 p2 q2 p3 q3)) (gv':=U) (by rw[j];exact a1) ?_ e4 (Ly rfl e5)
    .intro k O;simp at O
     rcases O with rfl|rfl|rfl
     .exact Or.inl rfl
     .exact n5 (Or.inl rfl)
     .rcases p with e|e
      .refine n5 (n5 (Or.inl ⟨(q k e).1,λcs ty m ax=>?_⟩));subst e;obtain⟨ds,aa⟩:=J.ty;rw[ax]at aa;exact(n4 (l8 aa)).2.1
      .exact n5 (n5 (n5 e))
    .rw[j];simp only;refine gE.aWi (b:=b) (by rw[List.map_append];exact R) (by simp) ?_
     rcases p with e|e
     .exact(q b e).2
     .omega
end
section
variable {w w' w'':World} {b0 fb:Nat} {own own':Nat->Option Own} {at1 at2:NN} {D:NU} {i:Nat} {n n':Nd} {s:Rf.St} {rho:NN} {c:Nat}
abbrev uB (w:World)(b0:Nat)(own:Nat->Option Own)(at1:NN)(fb len:Nat)(y:Rf.St×Bool)(e:Ending)(w':World):Prop:=e=.returned (.bool y.2)/\kM w b0 own at1 fb len y.2 y.1 w'
theorem yL {ns:List Nd}(e:ns[i]?=some n)(a:n'.pos=n.pos)(b:n'.dR=n.dR)(d:n'.out=n.out):Pg.Go ns (ns.set i n'):=Pg.Go.set e a (λr m h=>by rw[b];exact h) (λr m h=>by rw[d];exact h)
theorem Pp (h:Net w b0 own at1 fb s)(f:s.nodes[i]?=some n)(hc:Chg w w' [at1 i,fb]):Kept w w' own own fb:=by
 refine Kept.Ps hc ?_ λ_ _ e=>e
 intro k b d a;simp at b
 rcases b with rfl|rfl
 .rw[(h.nd i n f).own]at a;cases a
 .rfl
variable {y:Rf.St×Bool}
theorem aVE {f:Nat}(h:Net w b0 own at1 fb s)(ag:s.clock=(c:Int))(a9:c<=3000)(W:Inv s.nodes rho c)(p:s.nodes[i]?=some n)(M:n.t=[])(hy:Rf.reads (Rf.sym f) s i n=some y):
  Calls prog 132 #[aA (at1 i),aA fb] w (uB w b0 own at1 fb s.nodes.length y):=by
 have hN:=W.at' i n p;have hi:=(j8.1 p).1;obtain⟨p0,q0,p1,q1,p2,q2,p3,q3,mt,pl,gv,cv,nv,l,g,cc,nn,v⟩:=h.seen W p;obtain⟨z,cb,I,q⟩:=v.bS.fH M;have bb:=hN.ku;obtain⟨B,N,O,P,S,J,r,ah,F⟩:=q.mat n.k (by omega);unfold Rf.reads at hy;rw[if_pos M,r,n9]at hy;obtain⟨bf,u,A⟩:=Option.map_eq_some_iff.1 hy;have aj:=(Cu u).1;subst aj;have L:=h.tA v
 have x:1<=s.clock->∃n',n'={n with part:=n.part.mul (wC B ⟨N,O,P,S⟩),k:=n.k+1}/\y=(⟨s.nodes.set i n',s.clock-1⟩,true)/\(∃o Y,Inv (s.nodes.set i n') o Y)/\∃X,Rf.corners s.nodes n'=some X/\eN X (cE (kK N O P S p0 q0 p1 q1 p2 q2 p3 q3)):=by
  intro j
  obtain⟨c0,rfl⟩:∃c0,c=c0+1:=⟨c-1,by omega⟩
  obtain⟨m,n2,m1,m2,m3,m4,m5⟩:=Rf.aJt W p M;rw[r]at m1;cases m1;rw[u]at m2;have E:=m3;rw[<-(l8 m2)]at E;obtain⟨pp,qq,hl,H⟩:=Pg.aIf (ns:=s.nodes) M v.Cx (wC B ⟨N,O,P,S⟩) (n.k+1);refine⟨_,rfl,?_,⟨rho,c0,E⟩,_,H,?_⟩
  .rw[<-A];congr 1;exact decide_eq_true (by omega)
  .rw[<-aHz];have a:=v.Gw;rw[hl]at a;exact a.Kd _ J
 refine aIK (cb:=cb) (by rw[<-I];exact(v.bS.nd.cell rfl).1) ?_;refine(aEh (R:=λe w'=>∃b,e=.returned (.bool b)/\uB w b0 own at1 fb s.nodes.length y (.returned (.bool b)) w') L I q.bS (by rw[ag];omega) (by rw[z];omega) (by rw[z];omega) ah (by rw[z];exact F) ?_ ?_ ?_)
 .intro j w1 c1;refine⟨false,rfl,?_,?_⟩
  .rw[<-A];simp only;rw[decide_eq_false (by omega)]
  .have:y.2=false:=by
    rw[<-A];exact decide_eq_false (by omega)
   rw[this];exact kM.no (Kept.still (own:=own) c1)
 .intro j;obtain⟨n',d,e2,⟨o,Y,C⟩,X,e4,e5⟩:=x j;have ai:(s.nodes.set i n')[i]?=some n':=j9 hi;have a:=Ly rfl e5;obtain⟨r0,s0,r1,s1,r2,s2,r3,s3,e8⟩:=eight (aNR (zs:=kK N O P S p0 q0 p1 q1 p2 q2 p3 q3) rfl);rw[e8];rw[e8]at a;exact nY (s:=⟨s.nodes.set i n',0⟩) C ai ((yL (n':=n') p (by rw[d]) (by rw[d]) (by rw[d])).corners e4) a
 .intro j w1 c1 ak;obtain⟨n',d,e2,⟨o,Y,C⟩,X,e4,e5⟩:=x j;subst e2;refine⟨true,rfl,rfl,own,Pp h p c1,λ_=>⟨at1,?_,λ_ _=>rfl⟩⟩;refine h.pG W p (n':=n') (own':=own) (by rw[d];exact⟨rfl,rfl,rfl,rfl,rfl,rfl,rfl,rfl,rfl,rfl,rfl⟩) ((h.nd i n p).hc.of (by rw[d]) (by rw[d]) (by rw[d])) (yL p (by rw[d]) (by rw[d]) (by rw[d])) c1 ?_ (λ_ _ _ e=>e) v.bS (n5 ⟨M,by rw[d],rfl⟩) (zs':=kZ (kK N O P S p0 q0 p1 q1 p2 q2 p3 q3)) (gv':=gv) (by rw[d];exact ak) ?_ e4 (Ly rfl e5)
  .intro k hk;simp at hk
   rcases hk with rfl|rfl
   .exact Or.inl rfl
   .exact n5 (Or.inl rfl)
  .rw[d];obtain⟨gO,a1,ba⟩:=v.bS.Aw.row
   rcases v.bS.Aw with⟨g1,U⟩|⟨g',aa,T,g1,U,g3,g4,g5,g6⟩
   .exact Or.inl ⟨g1,U⟩
   .refine n5 ⟨g',aa,T,g1,c1.at U ?_,g3,g4,g5,g6⟩;intro hm;simp at hm
    rcases hm with rfl|rfl
    .rw[(h.nd i n p).own]at g5;cases g5
    .have:=h.fuel;rw[U]at this;exact absurd (n4 (l8 this)).2.1 (by decide)
variable {x:Rf.St×Option Int}
theorem Zq {f:Nat}(y:nX f)(h:Net w b0 own at1 fb s)(j:b0<=w.heap.size)(l:s.clock=(c:Int))(k:c<=3000)(v:Inv s.nodes rho c){a r:Nat}{d:Nd}(o:s.nodes[a]?=some d)(A:r<=d.out.length)(z:c+rho a+2<=f)(B:Rf.sym f s a r=some x):
  ∀p,Chg w p []->Calls prog 61 #[.agg #[aA (at1 a),.int .i64 r],aA fb] p λe q=>∃u,e=.returned (.int .i64 u)/\u=eK x.2/\kM w b0 own at1 fb s.nodes.length x.2.isSome x.1 q:=by
 intro p c1
 refine aFc λq c2=>?_
 have b:=c1.trans c2;refine(y q b0 fb own at1 s rho c a r d x (h.still v b) (n7 j b.on.size) l k v o A z B).mono ?_;rintro e C⟨rfl,g⟩;exact⟨_,rfl,_,rfl,rfl,kM.after (Kept.still b) (λ_ _=>rfl) (Nat.le_refl _) g⟩
theorem aRo {T:World}{a r p:Nat}(h:Net w b0 own at1 fb s)(hn:s.nodes[i]?=some n)(aj:c<=3000)(H:kM w b0 own at1 fb s.nodes.length x.2.isSome x.1 T)(B:Rf.eQ s rho c a r x)(ra:rho a<rho i)(I:∀v,x.2=some v->∃n',x.1.nodes[a]?=some n'/\n'.out[r]?=some v)
  (U:(match x.2 with|none=>some (x.1,false)|some _=>Rf.after x.1 i p)=some y)
  {K:Int->Int->Int->Int->Int->Int->Int->Int->Bool->Int->Int->Int->Int->Int->Int->Value->Value->Value->Value->Value->Prop}
  (hK:∀v d at2 o c2 W L O p1 P M R p3 S mt N gv C J l g X nn,x.2=some v->Kept w T own d fb->Net T b0 d at2 fb x.1->(∀a,a<s.nodes.length->at2 a=at1 a)->x.1.clock=((c2+1:Nat):Int)->c2+1<=c->Inv x.1.nodes o (c2+1)->x.1.nodes[i]?=some n->x.1.nodes[a]?=some W->W.out[r]?=some v->Seen T b0 d at2 x.1.nodes i n L O p1 P M R p3 S mt N gv C J l g X nn->Rf.gX s.nodes rho a x.1.nodes o->K L O p1 P M R p3 S (!n.pos) (fL n) mt (hV n) (gC n) N x.1.clock (eV at2 (lArg n)) (eV at2 (rArg n)) gv C J):
  yZ T (at1 i) fb (eK x.2) (λe w'=>∃b,e=.returned (.bool b)/\uB w b0 own at1 fb s.nodes.length y (.returned (.bool b)) w') K:=by
 obtain⟨d,f,F⟩:=H;refine⟨λq w3 c3=>?_,λq=>?_⟩
 .have u:x.2=none:=by
   cases u:x.2 with
   |none=>rfl
   |some v=>rw[u]at q;exact absurd q (aJq v)
  rw[u]at U;cases U;exact⟨false,rfl,rfl,kM.no (f.trans (Kept.still c3))⟩
 .obtain⟨v,u⟩:∃v,x.2=some v:=by
   cases u:x.2 with
   |none=>rw[u]at q;exact absurd rfl q
   |some v=>exact⟨v,rfl⟩
  obtain⟨at2,k,E⟩:=F (by rw[u];rfl);obtain⟨o,c2,y1,y2,y3,y4,n',y5,y6⟩:=B.ex v u;obtain⟨W,k1,k2⟩:=I v u;have hi:=(j8.1 hn).1;have z:x.1.nodes[i]?=some n:=y4.same i n hn ra;have Y:=y3.at' i n z;obtain⟨L,O,p1,P,M,R,p3,S,mt,N,gv,C,J,l,g,X,nn,hs⟩:=k.seen y3 z;rw[u]at U;obtain⟨ab,ah⟩:=Rf.Yv z U
  have hu:∀j,n.read.getD j 0<=1000000:=by
   intro j;rw[k9]
   cases e:n.read[j]? with
   |none=>simp
   |some r=>have:=Y.jE r (List.mem_of_getElem? e);simp;omega
  have al:hV n<=1000000:=by unfold hV;split;exact hu 0;omega
  have am:gC n<=1000000:=by
   unfold gC;split
   .exact hu 1
   .split
    .exact hu 0
    .omega
  have A:=k.tA hs;rw[E i hi]at A;refine⟨L,O,p1,P,M,R,p3,S,_,_,mt,_,_,N,_,_,_,gv,C,J,A,by rw[y2];omega,by omega,by omega,by omega,by omega,λaa w3 c3=>?_,λak=>?_⟩
  .have:=ab aa;refine⟨false,rfl,by rw[this],?_⟩;rw[this];exact kM.no (f.trans (Kept.still c3))
  .obtain⟨c3,rfl⟩:∃c3,c2=c3+1:=⟨c2-1,by omega⟩
   exact hK v d at2 o c3 W L O p1 P M R p3 S mt N gv C J l g X nn u f k E y2 y1 y3 z k1 k2 hs y4
end
section
variable {w w2:World} {b0 fb:Nat} {own own2:Nat->Option Own} {at1 at2:NN} {i:Nat} {n:Nd} {s s2:Rf.St} {rho rho2:NN} {c c2:Nat}
theorem gE.Pp {out:LN}{gv:Value}(h:gE w b0 own i out gv)(a:Net w b0 own at1 fb s)(q:s.nodes[i]?=some n)(c1:Chg w w2 [at1 i,fb]):gE w2 b0 own i out gv:=by
 rcases h with⟨f,d⟩|⟨k,e,b,f,d,l,o,g,p⟩
 .exact Or.inl ⟨f,d⟩
 .refine n5 ⟨k,e,b,f,c1.at d ?_,l,o,g,p⟩;intro j;simp at j
  rcases j with rfl|rfl
  .rw[(a.nd i n q).own]at g;cases g
  .have:=a.fuel;rw[d]at this;exact absurd (n4 (l8 this)).2.1 (by decide)
variable {a r:Nat}
theorem aK7 {w:Nat}{d:Nd}{v:Int}(j:Net w2 b0 own2 at2 fb s2)(E:Inv s2.nodes rho2 (c2+1))(p:s2.nodes[i]?=some n){z S p1 T A R p3 U L:Int}{gv g u:Value}{l:List Rf.V}{b:Option (Nat×Nat)}{I P:FF}(H:Seen w2 b0 own2 at2 s2.nodes i n z S p1 T A R p3 U mt L gv g u l b I P)(M:n.args[w]?=some a)(O:n.read[w]?=some r)(C:s2.nodes[a]?=some d)(hv:d.out[r]?=some v){y:LN}{J:List Rf.V}(h8:y.length=8)(o:Rf.corners s2.nodes {n with read:=Rf.bump n.read w}=some J)(h:eN J (cE y)):
  (∀f∈kZ y,Bits 10 f)/\Inv (s2.nodes.set i {n with read:=Rf.bump n.read w}) rho2 c2/\∀B,Chg w2 B [at2 i,fb]->Pos2 B (at2 i) fb (kZ y) (!n.pos) (fL n) mt (hV {n with read:=Rf.bump n.read w}) (gC {n with read:=Rf.bump n.read w}) L (s2.clock-1) (eV at2 (lArg n)) (eV at2 (rArg n)) gv g u->Net B b0 own2 at2 fb ⟨s2.nodes.set i {n with read:=Rf.bump n.read w},s2.clock-1⟩:=by
 have hi:=(j8.1 p).1;have q:=Rf.aQE E p M O C (j8.1 hv).1;have x:Pg.Go s2.nodes (s2.nodes.set i {n with read:=Rf.bump n.read w}):=yL p rfl rfl rfl;refine⟨?_,q,λB c3 N=>?_⟩
 .have h:=Ly h8 h;obtain⟨X,s0,Y,s1,r2,W,r3,s3,D⟩:=eight (aNR h8);rw[D];rw[D]at h;exact nY (s:=⟨s2.nodes.set i {n with read:=Rf.bump n.read w},0⟩) q (j9 hi) (x.corners o) h
 .refine j.pG E p (n':={n with read:=Rf.bump n.read w}) (own':=own2) ⟨rfl,rfl,rfl,rfl,rfl,rfl,rfl,rfl,rfl,rfl,rfl⟩ ((j.nd i n p).hc.of rfl rfl rfl) x c3 ?_ (λ_ _ _ e=>e) H.bS (Or.inl ⟨rfl,rfl⟩) (zs':=kZ y) (gv':=gv) N (H.bS.Aw.Pp j p c3) o (Ly h8 h);intro k F;simp at F
  rcases F with rfl|rfl
  .exact Or.inl rfl
  .exact n5 (Or.inl rfl)
variable {v u:Rf.V}
theorem aQc {x y:Rf.V}(d:n.t=[v,u,x,y])(a:n.read[0]?=some r):(hV {n with read:=Rf.bump n.read 0}:Int)=hV n+1/\gC {n with read:=Rf.bump n.read 0}=gC n:=by
 unfold hV gC;simp only[d]
 cases b:n.read with
 |nil=>rw[b]at a;simp at a
 |cons e f=>simp[Rf.bump]
theorem aQA {x y:Rf.V}(b:n.t=[v,u,x,y])(a:n.read[1]?=some r):(gC {n with read:=Rf.bump n.read 1}:Int)=gC n+1/\hV {n with read:=Rf.bump n.read 1}=hV n:=by
 unfold hV gC;simp only[b]
 match hd:n.read with
 | []=>rw[hd]at a;simp at a
 | [_]=>rw[hd]at a;simp at a
 |r0::d::e=>simp[Rf.bump]
theorem aQ7 (d:n.t=[v,u])(a:n.read[0]?=some r):(gC {n with read:=Rf.bump n.read 0}:Int)=gC n+1/\hV {n with read:=Rf.bump n.read 0}=hV n:=by
 unfold hV gC;simp only[d]
 cases b:n.read with
 |nil=>rw[b]at a;simp at a
 |cons e f=>simp[Rf.bump]
variable {y:Rf.St×Bool}
theorem aTb {f:Nat}(hS:nX f)(h:Net w b0 own at1 fb s)(Y:b0<=w.heap.size)(H:s.clock=(c:Int))(z:c<=3000)(P:Inv s.nodes rho c)(R:s.nodes[i]?=some n)(hf:c+rho i+1<=f){x' y':Rf.V}(S:n.t=[v,u,x',y'])(hp:n.aP=false)(D:n.args[0]?=some a)(E:n.read[0]?=some r){x:Rf.St×Option Int}(hx:Rf.sym f s a r=some x)(hy:(match x.2 with|none=>some (x.1,false)|some _=>Rf.after x.1 i 0)=some y):
  Calls prog 149 #[aA (at1 i),aA fb] w λe w'=>∃b,e=.returned (.bool b)/\uB w b0 own at1 fb s.nodes.length y (.returned (.bool b)) w':=by
 have W:=P.at' i n R;have hi:=(j8.1 R).1;obtain⟨la,ra⟩:=W.arg 0 a D;have o:s.nodes[a]?=some s.nodes[a]:=List.getElem?_eq_getElem la;obtain⟨x0,O,B⟩:=Rf.total f s a r rho c H z P _ o (W.rd 0 a r _ D E o) (by omega);rw[hx]at O;cases O
 have N:∀v,x.2=some v->∃n',x.1.nodes[a]?=some n'/\n'.out[r]?=some v:=λv e=>Rf.Pm f s a r x.1 v (by rw[hx];cases x;simp only at e;rw[e])
 obtain⟨p0,q0,p1,q1,p2,q2,p3,q3,mt,pl,gv,cv,nv,l,g,cc,nn,hs⟩:=h.seen P R
 have aa:lArg n=some a:=by unfold lArg;rw[S];exact D
 have ab:hV n=r:=by unfold hV;rw[S];simp[k9,E]
 refine aGp (h.tA hs) λw1 c1=>?_
 rw[aa,ab];refine(Zq hS h Y H z P o (W.rd 0 a r _ D E o) (by omega) hx w1 c1).mono ?_;rintro e w2⟨cd,rfl,rfl,M⟩;refine⟨_,rfl,aRo h R z M B ra N hy ?_⟩;intro v own2 at2 rho2 c2 xa p0 q0 p1 q1 p2 q2 p3 q3 mt pl gv cv nv l g cc nn hv hk j F I au U A k q C ai;have ae:=(j.nd a xa k).hc;obtain⟨pp,qq,ss,tt,hl,J⟩:=Pg.aIc S C.Cx D k E q ae;have p:=C.Gw;rw[hl]at p;have d:=p.tC (Mt.sym v);obtain⟨h1,h2,h3,h4⟩:=Vk v
 have e0:Mt.sym v=⟨fP (code v),fQ (code v),fR (code v),fS (code v)⟩:=by rw[h1,h2,h3,h4]
 rw[e0,aQD,<-e0]at d;obtain⟨k1,k2,k3⟩:=aK7 j U A C D E k q rfl J d
 have T:eK x.2=code v:=by rw[hv];rfl
 rw[T];refine⟨k1,λw3 c3 L=>?_⟩;rw[hv]at hy;obtain⟨a2,t1,t2⟩:=(Rf.Yv A hy).2 (by rw[I];omega);unfold Rf.settle at t1;rw[if_neg (by simp[hp])]at t1;cases t1;subst t2;have X:=F i hi;rw[<-X]at c3 L;obtain⟨b1,b2⟩:=aQc S E;refine⟨true,rfl,rfl,own2,hk.trans (Pp j A c3),λ_=>⟨at2,k3 w3 c3 ?_,F⟩⟩;rw[b1,b2];exact L
def gY:Prop:=∀(w:World) (b0 fb:Nat) (own:Nat->Option Own) (at1:NN) (s:Rf.St) (rho:NN) (c i:Nat) (n:Nd) (a:List Nd),Net w b0 own at1 fb s->b0<=w.heap.size->c<=3000->Inv s.nodes rho c->s.nodes[i]?=some n->Rf.settle s.nodes i n=some a->
 Calls prog 175 #[aA (at1 i)] w λe b=>∃v,e=.returned v/\kM w b0 own at1 fb s.nodes.length true ⟨a,s.clock⟩ b
theorem Xi (h:Net w b0 own at1 fb s){x:Nd}(f:s.nodes[i]?=some n)(g:s.nodes[a]?=some x)(b:a≠i):at1 a≠at1 i:=by
 intro e;have d:=(h.nd a x g).own;rw[e,(h.nd i n f).own]at d;cases d;exact b rfl
theorem aIN {f:Nat}(af:gY)(h:Net w b0 own at1 fb s)(ag:b0<=w.heap.size)(ah:c<=3000)(hn:s.nodes[i]?=some n){W:Nat}(ha:n.args[W]?=some a)(I:n.read[W]?=some r)(ra:rho a<rho i)(ak:(∃v u,n.t=[v,u]/\W=0)\/(∃v u x y,n.t=[v,u,x,y]/\n.args.length=2/\W=1))(aj:n.aP=true->W=0){x:Rf.St×Option Int}(X:(match x.2 with|none=>some (x.1,false)|some _=>Rf.after x.1 i W)=some y)(R:kM w b0 own at1 fb s.nodes.length x.2.isSome x.1 w2)(F:Rf.eQ s rho c a r x)(S:∀v,x.2=some v->∃n',x.1.nodes[a]?=some n'/\n'.out[r]?=some v):
  Kl w2 (at1 i) fb (eK x.2) λe w'=>∃b,e=.returned (.bool b)/\uB w b0 own at1 fb s.nodes.length y (.returned (.bool b)) w':=by
 have hi:=(j8.1 hn).1;refine aRo h hn ah R F ra S X ?_;intro v own2 at2 rho2 c2 xa p0 q0 p1 q1 p2 q2 p3 q3 mt pl gv cv nv l g cc nn hv hk A M C a4 J z o p B O;have U:=(A.nd a xa o).hc;obtain⟨h1,h2,h3,h4⟩:=Vk v
 have e0:Mt.sym v=⟨fP (code v),fQ (code v),fR (code v),fS (code v)⟩:=by rw[h1,h2,h3,h4]
 have ad:eK x.2=code v:=by rw[hv];rfl
 rw[ad]
 obtain⟨l',k,j,b1,b2⟩:∃l',Rf.corners x.1.nodes {n with read:=Rf.bump n.read W}=some l'/\eN l' (cE (kK (fP (code v)) (fQ (code v)) (fR (code v)) (fS (code v)) p0 q0 p1 q1 p2 q2 p3 q3))/\(gC {n with read:=Rf.bump n.read W}:Int)=gC n+1/\hV {n with read:=Rf.bump n.read W}=hV n:=by
  have j:=B.Gw
  rcases ak with⟨v',u',T,rfl⟩|⟨v',u',x',y',T,D,rfl⟩
  .obtain⟨pp,qq,hl,k⟩:=Pg.aJx T B.Cx ha o I p U;rw[hl]at j;have d:=j.Br (Mt.sym v);rw[e0,aHz,<-e0]at d;exact⟨_,k,d,aQ7 T I⟩
  .obtain⟨pp,qq,ss,tt,hl,k⟩:=Pg.aG9 T D B.Cx ha o I p U;rw[hl]at j;have d:=j.oR (Mt.sym v);rw[e0,aHz,<-e0]at d;exact⟨_,k,d,aQA T I⟩
 obtain⟨k1,k2,k3⟩:=aK7 A J z B ha I o p rfl k j;refine⟨k1,λw3 c3 P=>?_⟩;rw[hv]at X;obtain⟨am,t1,t2⟩:=(Rf.Yv z X).2 (by rw[C];omega);have L:=M i hi;rw[<-L]at c3 P;have E:=k3 w3 c3 (by rw[b1,b2];exact P)
 have D:x.1.nodes.length=(x.1.nodes.set i {n with read:=Rf.bump n.read W}).length:=by simp
 have q:=hk.trans (Pp A z c3);rw[<-L];refine(af w3 b0 fb own2 at2 _ rho2 c2 i {n with read:=Rf.bump n.read W} am E (n7 ag q.on.size) (by omega) k2 (j9 (j8.1 z).1) t1).mono ?_;rintro e w4⟨vv,rfl,H⟩;refine⟨vv,rfl,λw5 c5=>⟨true,rfl,by rw[t2],?_⟩⟩;obtain⟨s3,b3,z1,z2⟩:=Rf.Zv C J (by omega) z ha I o (j8.1 p).1 aj;simp only at X;rw[X]at z1;cases z1
 have ae:b3=true->∃rho c,Inv s3.nodes rho c:=λe=>by
  obtain⟨Y,c',_,_,h',_⟩:=z2 e;exact⟨Y,c',h'⟩
 cases t2
 have N:s.nodes.length<=(x.1.nodes.set i {n with read:=Rf.bump n.read W}).length:=by
  rw[<-D];exact O.le.len
 exact(kM.after q M N H).still ae c5
end
variable {n:World}{φ:LI}
theorem zN {s:AS}(j:RepW Z n q φ s w){b:Nat}{B:bL}(i:look s.boxes b=some B)(u:B.own=true)(y:B.ro=false):∃k,∃f:LB,φ b=some (k,0)/\w.heap[k]?=some (.cells f.toArray B.ty (0,0))/\All2 (relC Z φ s.nums w) B.cs f/\n.heap.size<=k:=by
 obtain⟨k,o,l,f,e,h,p,x,r⟩:=j.box b B i;obtain⟨v,g⟩:=j.qD b B k o i u y h;subst v;have d:l=[]:=l4.1 x;subst d;unfold World.shape? at g;rw[p]at g;simp only[l9,Prod.mk.injEq,List.size_toArray,List.nil_append,List.length_append,true_and]at g;have z:=r.len;have a:e=[]:=l4.1 (by omega);subst a;exact⟨k,f,h,by simpa using p,r,j.own b B k 0 i u h⟩
theorem aOi {ν:LV}{k j:Nat}{c0 c1 c2 c3 c4 l o p q u d:AC}{a:LB}{s:LN}{J:Bool}{v r F E:Int}{lp rp gv Y D:Value}(h:All2 (relC Z φ ν n) (c0::bH true j 8++[c1,c2,c3,c4,l,o,p,q,u,d]) a)(B:n.heap[k]?=some (.cells a.toArray 120 (0,0)))(h8:s.length=8)(hz:∀(i:Nat) (z:Int),s[i]?=some z->∃b,ν[j+i]?=some (z,b))
  (P:∀x,relC Z φ ν n c0 x->x=.bool J) (R:∀x,relC Z φ ν n c1 x->x=Y) (g:∀x,relC Z φ ν n c2 x->x=.int .i64 mt) (S:∀x,relC Z φ ν n c3 x->x=lp) (T:∀x,relC Z φ ν n c4 x->x=.int .i64 r) (U:∀x,relC Z φ ν n l x->x=rp) (W:∀x,relC Z φ ν n o x->x=.int .i64 F) (X:∀x,relC Z φ ν n p x->x=gv) (e8:∀x,relC Z φ ν n q x->x=.int .i64 v) (e9:∀x,relC Z φ ν n u x->x=D) (A:∀x,relC Z φ ν n d x->x=.int .i64 E):NodeAt n k s J v mt r F E lp rp gv Y D:=by
 have C:=h.len
 match a,h,B,C with
 |y::a,⟨hy,H⟩,B,C=>
  have I:a.length=26:=by simp[bH]at C;omega
  have e:a=a.take 16++a.drop 16:=(List.take_append_drop 16 a).symm
  have ga:All2 (relC Z φ ν n) (bH true j 8) (a.take 16):=by
   have:=H.take 16
   simpa[bH]using this
  have f:All2 (relC Z φ ν n) [c1,c2,c3,c4,l,o,p,q,u,d] (a.drop 16):=H.drop 16;have hold:Hold true n s (a.take 16):=Ld s j _ (by rw[h8];exact ga) hz
  match hd:a.drop 16,f with
  | [a0,a1,a2,a3,a4,a5,a6,a7,a8,a9],f=>
   obtain⟨b0,b1,b2,L,b4,b5,b6,M,N,O,_⟩:=f;refine⟨a.take 16,?_,hold⟩
   have g:a=a.take 16++[Y,.int .i64 mt,lp,.int .i64 r,rp,.int .i64 F,gv,.int .i64 v,D,.int .i64 E]:=by
    rw[<-R _ b0,<-g _ b1,<-S _ b2,<-T _ L,<-U _ b4,<-W _ b5,<-X _ b6,<-e8 _ M,<-e9 _ N,<-A _ O,<-hd];exact e
   rw[B,P _ hy];generalize a.take 16=t at g;subst g;rfl
theorem Tj {sp:Spec}{g:XW}{R:EW}(l:SpecOk Z n q sp)(A:bQ Z g){f:NU}{w:Nat}{J:NU}(E:∀b x,q b=some x->f.contains b=true){d:Nat}{F:List (K (List AT))}{s:AS}{M:XT}
  (Y:(run Z sp g (aL Z sp) (λ_=>false) d F s).bind (eF (fF f [] w J) (fF f [] w J))=some M) (G:AT->AS->Prop) (B:M.ok G λ_ _=>False)
  (U:∀r u j v y,G r u->(∀b i,r=.val (.one (.ptr b i))->f.contains b=true->∃k o,j b=some (k,o)/\v=.pointer (some ⟨k,o+i,none⟩))->RepW Z n q j u y->R (.returned v) y):
  ∀(h:List (K Act)) (φ:LI) (a:Act) (e:World),SR Z φ s.nums e F h->Rep Z n q φ s a e->gD Z.P R h .normal a e:=by
 intro h φ a e C X;obtain⟨tr,S,T⟩:=aS Y;refine vC l A (rJ mixed l) _ _ ?_ ?_ d F s tr S (Lj T B) h φ a e C X
 .rintro aa u⟨L,p,H,I,z⟩;exact z.elim
 .rintro r u j v y⟨L,p,H,I,z⟩ hv D;refine U r L _ v y z ?_ (aJS H I E D);rintro b i rfl W;obtain⟨k,o,N,O⟩:=hv;refine⟨k,o,?_,O⟩;unfold rst;rw[W];exact N
noncomputable def bX:XW:=λf=>bif f==188 then some f188 else none
theorem aW2:bQ Z bX:=by
 intro f fn h;unfold bX at h
 cases a:f==188 with
 |true=>
  rw[a]at h;cases h
  have:f=188:=by simpa using a
  subst this;exact⟨(bD func188 rfl rfl).at',(bD func188 rfl rfl).en⟩
 |false=>rw[a]at h;cases h
section
variable (p0 q0 p1 q1 p2 q2 p3 q3 kd k:Int) (fst fur:Value)
def Sj (cs b:LN)(a:Value):AS:=⟨slot [] 0 25,[(7,⟨.bool false::bH true 0 8++[.lit aB,.int .i64 0,.lit a,.int .i64 0,.lit aB,.int .i64 0,.lit aI,.int .i64 0,.ptr 5 0,.sint .i64 k],120,true,false,false⟩),(5,ext (.sint .i64 kd::.lit fst::.lit fur::bH true 8 8) 223)],8,(cs++b).map λz=>(z,1),[]⟩
def lD (kd k:Int):LN:=[0,0,gM kd k,0,0,1,0,gN kd k]
theorem aQo:(run Z (aE tN) bX (aL Z (aE tN)) (λ_=>false) 400 [.code (aF f174),.top f174] ⟨.val (.one (.ptr 5 0))::.val (.one (.sint .i64 k))::l5 23 .gG,[(5,ext (.sint .i64 kd::.lit fst::.lit fur::bH true 0 8) 223)],6,[p0,q0,p1,q1,p2,q2,p3,q3].map λz=>(z,1),[]⟩).bind (eF (fF [7,5] [] 8 []) (fF [7,5] [] 8 []))
  = some (.br (decide (0<k)) (.br (decide (kd=10)) (.ret (.val (.one (.ptr 7 0))) (Sj kd k fst fur [p0,q0,p1,q1,p2,q2,p3,q3] [p0,q0,p1,q1,p2,q2,p3,q3] fur)) (.need [(gM kd k).natAbs<1000000000000000000] (.need [(gN kd k).natAbs<1000000000000000000] (.ret (.val (.one (.ptr 7 0))) (Sj kd k fst fur (lD kd k) [p0,q0,p1,q1,p2,q2,p3,q3] fur)))))
   (.br (decide (kd=10)) (.ret (.val (.one (.ptr 7 0))) (Sj kd k fst fur [p0,q0,p1,q1,p2,q2,p3,q3] [p0,q0,p1,q1,p2,q2,p3,q3] fst)) (.need [(gM kd k).natAbs<1000000000000000000] (.need [(gN kd k).natAbs<1000000000000000000] (.ret (.val (.one (.ptr 7 0))) (Sj kd k fst fur (lD kd k) [p0,q0,p1,q1,p2,q2,p3,q3] fst)))))):=by kernel_rfl
end
theorem aMc {nb:Nat}{kd k:Int}{fst fur:Value}{A post:LB}{C:LN}(h:w.heap[nb]?=some (.cells (.int .i64 kd::fst::fur::A++post).toArray 223 (0,0)))(d:Hold true w C A)(h8:C.length=8)(D:∀z∈C,Bits 1 z)(o1:One fst)(o2:One fur)(p:kd≠10->(gM kd k).natAbs<1000000000000000000/\(gN kd k).natAbs<1000000000000000000):
  Calls prog 174 #[aA nb,.int .i64 k] w λe y=>∃m,e=.returned (aA m)/\Below w.heap.size w y/\w.heap.size<=m/\NodeAt y m (if kd=10 then C else lD kd k) false 0 0 0 0 k (if 0<k then fur else fst) aB aI aB (aA nb):=by
 obtain⟨p0,q0,p1,q1,p2,q2,p3,q3,rfl⟩:=eight h8;have F:=bD func174 rfl rfl
 have n:RepW Z w (ph1 5 nb) (ph1 5 nb) ⟨.val (.one (.ptr 5 0))::.val (.one (.sint .i64 k))::l5 23 .gG,[(5,ext (.sint .i64 kd::.lit fst::.lit fur::bH true 0 8) 223)],6,[p0,q0,p1,q1,p2,q2,p3,q3].map λz=>(z,1),[]⟩ w:=by
  refine rQ rfl ?_ ?_ ?_
  .intro b B L;have:=nE L;simp at this;obtain⟨rfl,rfl⟩:=this;refine⟨rfl,rfl,rfl,nb,0,rfl,[],.int .i64 kd::fst::fur::A,post,h,rfl,rfl,⟨rfl,o1⟩,⟨rfl,o2⟩,?_⟩
   exact tV [p0,q0,p1,q1,p2,q2,p3,q3] A 0 _ d D λj z u=>by rw[n8,l7,u];rfl
  .intro b D;have:6<=b:=D;unfold ph1;rw[if_neg (by omega)]
  .intro b S o g;unfold ph1 at g;split at g
   .cases g;exact gZ h
   .cases g
 have E:∀b x,ph1 5 nb b=some x->[7,5].contains b=true:=λb x e=>by
  unfold ph1 at e;split at e
  .subst_vars;rfl
  .cases e
 refine pM F (φ:=ph1 5 nb) (vs:=[.one (.ptr 5 0),.one (.sint .i64 k)]) (args:=[aA nb,.int .i64 k]) (by kernel_rfl) ⟨⟨nb,0,rfl,rfl⟩,rfl,trivial⟩ n ?_;refine Tj (dL jO) aW2 E (aQo p0 q0 p1 q1 p2 q2 p3 q3 kd k fst fur) (λr s=>r=.val (.one (.ptr 7 0))/\s=Sj kd k fst fur (if kd=10 then [p0,q0,p1,q1,p2,q2,p3,q3]else lD kd k) [p0,q0,p1,q1,p2,q2,p3,q3] (if 0<k then fur else fst)) ?_ ?_
 .have q:∀{a:Prop},a->Holds [a]:=λM x d=>by simp at d;rw[d];exact M
  refine⟨λl=>⟨λf=>⟨rfl,?_⟩,λf=>⟨q (p (of_decide_eq_false f)).1,q (p (of_decide_eq_false f)).2,rfl,?_⟩⟩,λl=>⟨λf=>⟨rfl,?_⟩,λf=>⟨q (p (of_decide_eq_false f)).1,q (p (of_decide_eq_false f)).2,rfl,?_⟩⟩⟩
  .rw[if_pos (of_decide_eq_true l),if_pos (of_decide_eq_true f)]
  .rw[if_pos (of_decide_eq_true l),if_neg (of_decide_eq_false f)]
  .rw[if_neg (of_decide_eq_false l),if_pos (of_decide_eq_true f)]
  .rw[if_neg (of_decide_eq_false l),if_neg (of_decide_eq_false f)]
 .rintro r s φ v y⟨rfl,rfl⟩ hv J;obtain⟨m,o,H,I⟩:=hv 7 0 rfl rfl;obtain⟨T,U,k1,O,P,R⟩:=zN J (b:=7) rfl rfl rfl;rw[H]at k1;cases k1;refine⟨m,by rw[I];rfl,RepF.below J rfl,R,?_⟩
  have N:(if kd=10 then [p0,q0,p1,q1,p2,q2,p3,q3]else lD kd k).length=8:=by split<;>rfl
  refine aOi P O N ?_ (λx d=>d) (λx d=>d.1) (λx d=>d) (λx d=>d.1) (λx d=>d) (λx d=>d.1) (λx d=>d) (λx d=>d.1) (λx d=>d) ?_ (λx d=>d)
  .intro i z u;refine⟨1,?_⟩;rw[n8];show(((if kd=10 then [p0,q0,p1,q1,p2,q2,p3,q3]else lD kd k)++[p0,q0,p1,q1,p2,q2,p3,q3]).map λz=>(z,1))[i]?=_;rw[l7,k8 (j8.1 u).1,u];rfl
  .intro x d;exact uG (ν:=[]) (w:=y) (J.base 5 (nb,0) rfl) d
end Ab
end Go.Proofs.YtpdflaaamaokbaaGreatDoor
