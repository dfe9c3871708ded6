import Derived.Test.YtkmojpfpfoaloaaGreatDoorCNe10
set_option linter.all false
set_option maxRecDepth 100000
set_option maxHeartbeats 2000000
namespace Go.Proofs.YtkmojpfpfoaloaaGreatDoor
open Go.Proofs.Tryz
open Go.RowKit
namespace Ab
noncomputable def kV:List Int->List Int
 | [a,b,c,d,e,f,g,h]=>let t:=tw8 a b c d e f g h
  [hv t a,hv t b,hv t c,hv t d,hv t e,hv t f,hv t g,hv t h]
 |_=>[]
noncomputable def lN (cd p0 q0 p1 q1 p2 q2 p3 q3:Int):List Int:=[iN cd*p0-iL cd*q0,iK cd*q0-iM cd*p0,iN cd*p1-iL cd*q1,iK cd*q1-iM cd*p1,iN cd*p2-iL cd*q2,iK cd*q2-iM cd*p2,iN cd*p3-iL cd*q3,iK cd*q3-iM cd*p3]
section
variable (p0 q0 p1 q1 p2 q2 p3 q3:Int) (hs:Bool) (uns mt lr rr pl c cd:Int) (lp rp cst nst gv gv2:Value)
def mM (a:List AT):AS:=sW [p0,q0,p1,q1,p2,q2,p3,q3] hs uns mt lr rr pl c (.lit lp) (.lit rp) (.lit cst) (.lit nst) (.lit gv) [] a
noncomputable def Qi:AS:=⟨slot [(27,P0),(31,litT gv),(33,.val (.one (.slc 19 0 1 1)))] 0 37,[(0,xR hs uns mt lr rr pl (.lit lp) (.lit rp) (.lit cst) (.lit nst) (.lit gv)),(6,tY (IntKind.i64.wrap (c-1))),(19,⟨[.sint .i64 cd],55,true,true,true⟩)],20,(kV (lN cd p0 q0 p1 q1 p2 q2 p3 q3)).map fun z=>(z,19),[6,0]⟩
theorem aUW:(run Z (aE tN) bW (aO Z (aE tN)) (mX (aG 98)) 400 [.code (aF f83),.top f83] (mM p0 q0 p1 q1 p2 q2 p3 q3 hs uns mt lr rr pl c lp rp cst nst gv (mW 35))).bind (eD (fG [0,6] [] 7 []) (fG [0,6] [0,1,6] 7 []))
  = some (.stp (eF (aG 98) f83) (mM p0 q0 p1 q1 p2 q2 p3 q3 hs uns mt lr rr pl c lp rp cst nst gv (slot [(0,P0),(1,P6),(6,P0)] 0 37))):=by kernel_rfl
theorem aUX:(run Z (aE tN) bW (aO Z (aE tN)) (mX (fun o=>aG 99 o||sV o)) 400 (fQ (aG 98) f83) (mM p0 q0 p1 q1 p2 q2 p3 q3 hs uns mt lr rr pl c lp rp cst nst gv (slot [(0,P0),(1,P6),(7,dJ cd)] 0 37))).bind (eD (fG [0,6] [] 7 []) (Jf [0,6,19] [27,31,33] 20 [0,6] [10,11] 7))
  = some (.br (decide (cd=0)) (.stp (eF (aG 99) f83) (mM p0 q0 p1 q1 p2 q2 p3 q3 hs uns mt lr rr pl c lp rp cst nst gv (slot [(10,P0),(11,P6)] 0 37))) (.br (decide (c<1)) (.ret (.val (.one (.bool false))) (mM p0 q0 p1 q1 p2 q2 p3 q3 hs uns mt lr rr pl c lp rp cst nst gv (slot [] 0 37))) (.stp (eF sV f83) (Qi p0 q0 p1 q1 p2 q2 p3 q3 hs uns mt lr rr pl c cd lp rp cst nst gv)))):=by kernel_rfl
theorem aUY:(run Z (aE tN) bW (aO Z (aE tN)) (fun _=>false) 400 (fQ sV f83) (mM p0 q0 p1 q1 p2 q2 p3 q3 hs uns mt lr rr pl c lp rp cst nst gv (slot [(27,P0),(34,litT gv2)] 0 37))).bind (eD (fG [0,6] [] 7 []) (fG [0,6] [] 7 []))
  = some (.ret (.val (.one (.bool true))) ⟨slot [] 0 37,[(0,xR hs uns mt lr rr pl (.lit lp) (.lit rp) (.lit cst) (.lit nst) (.lit gv2)),(6,tY c)],7,[(p0,10),(q0,10),(p1,10),(q1,10),(p2,10),(q2,10),(p3,10),(q3,10)],[0]⟩):=by kernel_rfl
theorem aUZ (b:Bool):(run Z (aE tN) bW (aO Z (aE tN)) (fun _=>false) 400 (fQ (aG 99) f83) ⟨slot [(12,.val (.one (.sbool b)))] 0 37,[],0,[],[]⟩).bind (eD (fG [] [] 0 []) (fG [] [] 0 []))
  = some (.ret (.val (.one (.sbool b))) ⟨slot [] 0 37,[],0,[],[]⟩):=by kernel_rfl
end
variable {k fb:Nat}{d:List Nat}
theorem pF (a:d.contains 0=true)(e:d.contains 6=true):∀b x,phW k fb (fun _=>none) b=some x->d.contains b=true:=by
 intro b x h;unfold phW at h;split at h
 ·subst_vars;exact a
 ·split at h
  ·subst_vars;exact e
  ·split at h<;>cases h
variable {w':World}{q I:Nat->Option (Nat×Nat)}
theorem rE {w:World}{s:AS}(d:RepW Z w q I s w')(e:s.dirty=[]):Chg w w' []:=⟨d.on,fun j f _=>d.low j f fun b a=>by rw[e]at a;cases a⟩
theorem Ti {w:World}(a:List AT):RepW Z w (fun _=>none) (fun _=>none) ⟨a,[],0,[],[]⟩ w:=
 aOf rfl (fun b B h=>by simp[look]at h) (fun b e B d k o f h=>by simp[look]at h) (fun _ _=>rfl) (fun b k o h=>by cases h)
structure Pos2 (w:World) (k fb:Nat) (zs:List Int) (hs:Bool) (uns mt lr rr pl c:Int) (lp rp gv cv nv:Value):Prop where
 nd:NodeAt w k zs hs uns mt lr rr pl lp rp gv cv nv
 fu:w.heap[fb]?=some (.cells #[.int .i64 c] 84 (0,0))
 bits:∀z∈zs,Bits 10 z
 h8:zs.length=8
 o1:One lp
 o2:One rp
 o3:One gv
 o4:One cv
 o5:One nv
section
variable {w w':World} {k fb:Nat} {zs:List Int} {hs:Bool} {uns mt lr rr pl c:Int} {lp rp gv cv nv:Value}
theorem Pos2.rep (h:Pos2 w k fb zs hs uns mt lr rr pl c lp rp gv cv nv)(a:List AT):RepW Z w (phW k fb fun _=>none) (phW k fb fun _=>none) (sW zs hs uns mt lr rr pl c (.lit lp) (.lit rp) (.lit cv) (.lit nv) (.lit gv) [] a) w:=
 aRc (lpC:=.lit lp) (rpC:=.lit rp) (gvC:=.lit gv) (cvC:=.lit cv) (nvC:=.lit nv) h.nd h.h8 h.bits h.fu ⟨rfl,h.o1⟩ ⟨rfl,h.o2⟩ ⟨rfl,h.o3⟩ ⟨rfl,h.o4⟩ ⟨rfl,h.o5⟩ (fun b B e=>by simp[look]at e) (fun b d o e=>by cases e) a
theorem Pos2.aT (h:Pos2 w k fb zs hs uns mt lr rr pl c lp rp gv cv nv)(hc:Chg w w' []):Pos2 w' k fb zs hs uns mt lr rr pl c lp rp gv cv nv:=
 ⟨h.nd.aT hc.on (hc.low _ h.nd.lt (by simp)),hc.at h.fu (by simp),h.bits,h.h8,h.o1,h.o2,h.o3,h.o4,h.o5⟩
theorem Pos2.out (h:Pos2 w k fb zs hs uns mt lr rr pl c lp rp gv cv nv){s:AS}(u:RepW Z w (phW k fb fun _=>none) q s w'){zs':List Int}{hs':Bool}{uns' mt' lr' rr' pl' c':Int}{lp' rp' gv' cv' nv':Value}(o:look s.boxes 0=some (xR hs' uns' mt' lr' rr' pl' (.lit lp') (.lit rp') (.lit cv') (.lit nv') (.lit gv')))(p:look s.boxes 6=some (tY c'))(h8:zs'.length=8)(v:∀(j:Nat) (z:Int),zs'[j]?=some z->∃b,s.nums[j]?=some (z,b))(r:∀z∈zs',Bits 10 z):Pos2 w' k fb zs' hs' uns' mt' lr' rr' pl' c' lp' rp' gv' cv' nv':=by
 obtain⟨⟨x,A,gv2,a,y,d,⟨rfl,e⟩,⟨rfl,f⟩,⟨rfl,g⟩,⟨rfl,i⟩,⟨rfl,l⟩⟩,n⟩:=aOl (ns:=[]) u o p (h.nd.shape h.h8) (Xu h.fu) h8 v;exact⟨d,n,r,h8,e,f,g,i,l⟩
end
variable {zs:List Int}
theorem Mr {w:Nat}:∀(j:Nat) (z:Int),zs[j]?=some z->∃b,(zs.map fun z=>(z,w))[j]?=some (z,b):=fun j z h=>⟨w,by rw[List.getElem?_map,h];rfl⟩
variable {w:World}{e:TypeId}{i:List Value}{M:Option Nat}
theorem RowOf.aT {v:Value}(h:RowOf w e i v M)(hc:Chg w w' d)(q:∀b,M=some b->b∉d):RowOf w' e i v M:=by
 rcases h with h|⟨b,f,a,j,l,n,o,p⟩
 ·exact Or.inl h
 ·exact Or.inr ⟨b,f,a,j,l,hc.at n (q b j),o,p⟩
theorem RowOf.ty {z:Value}{b:Nat}(h:RowOf w e i z (some b)):∃cs:List Value,w.heap[b]?=some (.cells cs.toArray e (0,0)):=by
 rcases h with⟨_,_,e⟩|⟨j,d,a,f,l,g,n,o⟩
 ·cases e
 ·cases f;exact⟨_,g⟩
theorem RowOf.one {v:Value}(h:RowOf w e i v M):One v:=by
 rcases h with⟨rfl,_⟩|⟨d,b,a,f,rfl,j,l,n⟩<;>rfl
theorem aKX:∃i d,Z.P.info? 55=some i/\i.bytes<=1000000/\(∀w,(zeroValue 55).run Z.P w=.ok d w)/\d.cells.size=1:=by
 have h:(Z.P.info? 55).map (fun i=>(i.bytes,i.zero))=some (8,some (.int .i64 0)):=by kernel_rfl
 obtain⟨i,b,a⟩:=Option.map_eq_some_iff.1 h;simp only[Prod.mk.injEq]at a;obtain⟨e,f⟩:=a;exact⟨i,.int .i64 0,b,by rw[e];decide,fun w=>by simp[zeroValue,typeInfo,b,f],rfl⟩
variable {mt:Int}{gv:Value}
theorem aLz {p0 q0 p1 q1 p2 q2 p3 q3:Int}{hs:Bool}{uns lr rr pl c cd:Int}{lp rp cv nv:Value}{xs:List Value}{g:Option Nat}{R:Ending->World->Prop}(h:Pos2 w k fb [p0,q0,p1,q1,p2,q2,p3,q3] hs uns mt lr rr pl c lp rp gv cv nv)(bu:c<=3000)(S:RowOf w 55 xs gv g)(ar:xs.length<=99999)
  (ab:∀l,Chg w l []->Calls prog 98 #[aA k] l fun e w'=>e=.returned (.int .i64 cd)/\Chg l w' [])
  (aa:cd=0->∀l,Chg w l []->Calls prog 99 #[aA k,aA fb] l fun e w'=>∃b,e=.returned (.bool b)/\∀w2,Chg w' w2 []->R (.returned (.bool b)) w2)
  (bb:cd≠0->c<1->∀l,Chg w l []->R (.returned (.bool false)) l)
  (X:cd≠0->1<=c->∀z∈kV (lN cd p0 q0 p1 q1 p2 q2 p3 q3),Bits 10 z)
  (ay:cd≠0->1<=c->∀l T b,Chg w l [k,fb,b]->Pos2 l k fb (kV (lN cd p0 q0 p1 q1 p2 q2 p3 q3)) hs uns mt lr rr pl (c-1) lp rp T cv nv->RowOf l 55 (xs++[.int .i64 cd]) T (some b)->(g=some b\/w.heap.size<=b)->R (.returned (.bool true)) l):
  Calls prog 83 #[aA k,aA fb] w R:=by
 have F:=bI func83 rfl rfl;refine pC F (φ:=phW k fb fun _=>none) (vs:=[.one (.ptr 0 0),.one (.ptr 6 0)]) (args:=[aA k,aA fb]) (s:=mM p0 q0 p1 q1 p2 q2 p3 q3 hs uns mt lr rr pl c lp rp cv nv gv (mW 35)) (by kernel_rfl) ⟨⟨k,0,rfl,rfl⟩,⟨fb,0,rfl,rfl⟩,trivial⟩ (h.rep _) ?_;refine cE (dH jQ) rK (pF rfl rfl) (jK (pF rfl rfl)) (aUW p0 q0 p1 q1 p2 q2 p3 q3 hs uns mt lr rr pl c lp rp cv nv gv) (fun _ _=>False) (fun ks s=>ks=eF (aG 98) f83/\s=mM p0 q0 p1 q1 p2 q2 p3 q3 hs uns mt lr rr pl c lp rp cv nv gv (slot [(0,P0),(1,P6),(6,P0)] 0 37)) ⟨rfl,rfl⟩ (fun _ _ _ _ _ h=>h.elim) ?_;rintro ks s⟨rfl,rfl⟩;refine⟨by kernel_rfl,fun b8 bi a1 l av p=>?_⟩;have c1:=rE p.wd rfl;refine qC (f:=98) (vs:=[.one (.ptr 0 0)]) (dst:=some 7) (ks2:=fQ (aG 98) f83) (by kernel_rfl) (bI func98 rfl rfl).en (by kernel_rfl) (av bi [] l) p ?_;intro ys af
 match ys,af with
 | [y],⟨q,_⟩=>
 rw[uC (p.wd.base 0 (k,0) rfl) q];refine(ab l c1).mono ?_;rintro e w2⟨rfl,c2⟩;refine⟨_,rfl,fun az bx ax=>?_⟩;have n:=c1.trans c2;have h2:=h.aT n
 have be:Rep Z w2 (phW k fb fun _=>none) (phW k fb fun _=>none) (mM p0 q0 p1 q1 p2 q2 p3 q3 hs uns mt lr rr pl c lp rp cv nv gv (slot [(0,P0),(1,P6),(7,dJ cd)] 0 37)) (a1.put (some 7) (.int .i64 cd)) w2:=by
  refine oZ (kb:=[0,6]) (kt:=[0,1]) (dst:=some 7) (r:=dJ cd) p (h2.rep _) (by kernel_rfl) ?_ rfl;intro b U
  have W:b=0\/b=6:=by simpa using U
  rcases W with rfl|rfl
  ·rw[p.wd.base 0 (k,0) rfl];rfl
  ·rw[p.wd.base 6 (fb,0) rfl];rfl
 refine cE (dH jQ) rK (pF rfl rfl) (aVb (pF rfl rfl) (pF rfl rfl)) (aUX p0 q0 p1 q1 p2 q2 p3 q3 hs uns mt lr rr pl c cd lp rp cv nv gv)
  (fun r s=>r=.val (.one (.bool false))/\s.dirty=[]/\cd≠0/\c<1)
  (fun ks s=>(cd=0/\ks=eF (aG 99) f83/\s=mM p0 q0 p1 q1 p2 q2 p3 q3 hs uns mt lr rr pl c lp rp cv nv gv (slot [(10,P0),(11,P6)] 0 37))\/(cd≠0/\¬c<1/\ks=eF sV f83/\s=Qi p0 q0 p1 q1 p2 q2 p3 q3 hs uns mt lr rr pl c cd lp rp cv nv gv))
  ⟨fun e=>Or.inl ⟨of_decide_eq_true e,rfl,rfl⟩,fun e=>⟨fun e2=>⟨rfl,rfl,of_decide_eq_false e,of_decide_eq_true e2⟩,fun e2=>Or.inr ⟨of_decide_eq_false e,of_decide_eq_false e2,rfl,rfl⟩⟩⟩ ?_ ?_ az _ _ _ (ax _ _ _) be
 ·rintro r s N v J⟨rfl,hd,h0,h1⟩ hv _ bg;rw[hv false (Or.inl rfl)];exact bb h0 h1 J (n.trans (rE bg hd))
 ·rintro ks s(⟨h0,rfl,rfl⟩|⟨h0,h1,rfl,rfl⟩)
  ·refine⟨by kernel_rfl,fun a0 N a3 J E a=>?_⟩;have c3:=n.trans (rE a.wd rfl);refine qC (f:=99) (vs:=[.one (.ptr 0 0),.one (.ptr 6 0)]) (dst:=some 12) (ks2:=fQ (aG 99) f83) (by kernel_rfl) (bI func99 rfl rfl).en (by kernel_rfl) (E N [] J) a ?_;intro ys af
   match ys,af with
   | [y,z],⟨q,hz,_⟩=>
   rw[uC (a.wd.base 0 (k,0) rfl) q,uC (a.wd.base 6 (fb,0) rfl) hz];refine(aa h0 J c3).mono ?_;rintro e M⟨b,rfl,hR⟩;refine⟨_,rfl,fun I ba H=>?_⟩;have ad:Rep Z M (fun _=>none) (fun _=>none) ⟨slot [(12,.val (.one (.sbool b)))] 0 37,[],0,[],[]⟩ (a3.put (some 12) (.bool b)) M:=oZ (kb:=[]) (kt:=[]) (dst:=some 12) (r:=.val (.one (.sbool b))) a (Ti _) (by kernel_rfl) (fun b U=>by simp at U) rfl;refine cE (dH jQ) rK (fun b x e=>by cases e) (jK (fun b x e=>by cases e)) (aUZ b) (fun r s=>r=.val (.one (.sbool b))/\s.dirty=[]) (fun _ _=>False) ⟨rfl,rfl⟩ ?_ (fun _ _ h=>h.elim) I _ _ _ (H _ _ _) ad;rintro r s bj v w5⟨rfl,hd⟩ hv _ L;rw[hv b (Or.inr rfl)];exact hR w5 (rE L hd)
  ·refine⟨by kernel_rfl,fun a0 N a3 J E a=>?_⟩
   have am:1<=c:=by omega
   have hB:=X h0 am
   have bh:IntKind.i64.wrap (c-1)=c-1:=by
    unfold IntKind.wrap;simp[IntKind.bits,IntKind.signed];omega
   have A:Chg w2 J [k,fb]:=Oq a.wd rfl
   have d:Pos2 J k fb (kV (lN cd p0 q0 p1 q1 p2 q2 p3 q3)) hs uns mt lr rr pl (c-1) lp rp gv cv nv:=by
    have:=h2.out a.wd (zs':=kV (lN cd p0 q0 p1 q1 p2 q2 p3 q3)) (hs':=hs) (uns':=uns) (mt':=mt) (lr':=lr) (rr':=rr) (pl':=pl) (c':=IntKind.i64.wrap (c-1)) (lp':=lp) (rp':=rp) (gv':=gv) (cv':=cv) (nv':=nv) rfl rfl rfl Mr hB;rw[bh]at this;exact this
   have aq:∀b,g=some b->b ∉ [k,fb]:=by
    intro b U C;subst U;obtain⟨cs,ao⟩:=S.ty;simp at C
    rcases C with rfl|rfl
    ·obtain⟨ys,q,_⟩:=h.nd.ex;rw[ao]at q;exact absurd (Obj.cells.inj (Option.some.inj q)).2.1 (by decide)
    ·have q:=h.fu;rw[ao]at q;exact absurd (Obj.cells.inj (Option.some.inj q)).2.1 (by decide)
   have ae:RowOf J 55 xs gv g:=(S.aT n (fun _ _=>by simp)).aT A aq;refine aOX (t:=51) (t':=51) (ty:=51) (sv:=litT gv) (xv:=.val (.one (.slc 19 0 1 1))) (dst:=some 34) (ks2:=fQ sV f83) (by kernel_rfl) (by kernel_rfl) (E N [] J) a ?_;rintro v1 v2⟨bf,_⟩⟨k',o,a8,e',m,x1,x2,x3,x4,x5⟩;rw[bf];obtain⟨k2,o2,cb,ys,bq,y1,y2,y3,y4⟩:=a.wd.box 19 ⟨[.sint .i64 cd],55,true,true,true⟩ rfl;rw[x1]at y1;cases y1;subst y3
   match ys,y4 with
   | [y],⟨q,_⟩=>
   have q:y=.int .i64 cd:=q;subst q;obtain⟨i,zv,i1,i2,i3,i4⟩:=aKX;obtain⟨v',M,b,a1,a2,al,a4,a5⟩:=aMv (bt:=Z.bt) (P:=Z.P) (t:=51) (t':=51) (ty:=51) (e:=55) rfl rfl (by kernel_rfl) i1 i2 i3 i4 (by decide) ae (xv:=v2) (xc:=a8) y2 (by rw[x2];simp) rfl ar;refine⟨v',M,a1,fun I ba H=>?_⟩
   have Y:b ∉ [k,fb]:=by
    rcases al with e|e
    ·exact aq b e
    ·intro C;simp at C;have l1:=d.nd.lt;have l2:=gU d.fu
     rcases C with rfl|rfl<;>omega
   have B:Chg J M [b]:=⟨a4,fun j hj hn=>a5 j hj (by simpa using hn)⟩
   have au:Pos2 M k fb (kV (lN cd p0 q0 p1 q1 p2 q2 p3 q3)) hs uns mt lr rr pl (c-1) lp rp gv cv nv:=by
    refine⟨d.nd.aT a4 (B.low _ d.nd.lt ?_),B.at d.fu ?_,d.bits,d.h8,d.o1,d.o2,d.o3,d.o4,d.o5⟩
    ·intro C;simp at C;exact Y (by simp[C])
    ·intro C;simp at C;exact Y (by simp[C])
   have ad:Rep Z M (phW k fb fun _=>none) (phW k fb fun _=>none) (sW (kV (lN cd p0 q0 p1 q1 p2 q2 p3 q3)) hs uns mt lr rr pl (c-1) (.lit lp) (.lit rp) (.lit cv) (.lit nv) (.lit gv) [] (slot [(27,P0),(34,litT v')] 0 37)) (a3.put (some 34) v') M:=by
    refine oZ (kb:=[0,6]) (kt:=[27]) (dst:=some 34) (r:=litT v') a (au.rep _) (by kernel_rfl) ?_ ⟨rfl,a2.one⟩;intro b U
    have W:b=0\/b=6:=by simpa using U
    rcases W with rfl|rfl
    ·rw[a.wd.base 0 (k,0) rfl];rfl
    ·rw[a.wd.base 6 (fb,0) rfl];rfl
   refine cE (dH jQ) rK (pF rfl rfl) (jK (pF rfl rfl)) (aUY _ _ _ _ _ _ _ _ hs uns mt lr rr pl (c-1) lp rp cv nv gv v') (fun r s=>r=.val (.one (.bool true))/\s.dirty=[0]/\look s.boxes 0=some (xR hs uns mt lr rr pl (.lit lp) (.lit rp) (.lit cv) (.lit nv) (.lit v'))/\look s.boxes 6=some (tY (c-1))/\s.nums=(kV (lN cd p0 q0 p1 q1 p2 q2 p3 q3)).map fun z=>(z,10)) (fun _ _=>False) ⟨rfl,rfl,rfl,rfl,rfl⟩ ?_ (fun _ _ h=>h.elim) I _ _ _ (H _ _ _) ad;rintro r s bj v w5⟨rfl,hd,l0,l6,ln⟩ hv _ L;rw[hv true (Or.inl rfl)];have O:Chg M w5 [k,fb]:=Oq L (by rw[hd];rfl);have bc:=au.out L l0 l6 rfl (by rw[ln];exact Mr) hB
   have wk:∀{u v:World} {D:List Nat},Chg u v D->(∀x∈D,x∈[k,fb,b])->Chg u v [k,fb,b]:=fun h hh=>h.bU hh
   refine ay h0 am w5 v' b ((((wk n (by simp)).trans (wk A (by simp)))).trans ((wk B (by simp)).trans (wk O (by simp)))) bc (a2.aT O ?_) ?_
   ·intro b' e;cases e;exact Y
   ·rcases al with e|e
    ·exact Or.inl e
    ·exact Or.inr (Nat.le_trans (Nat.le_trans n.on.size A.on.size) e)
noncomputable def uQ (a b c d p0 q0 p1 q1 p2 q2 p3 q3:Int):List Int:=[p0*a+p2*c,q0*a+q2*c,p1*a+p3*c,q1*a+q3*c,p0*b+p2*d,q0*b+q2*d,p1*b+p3*d,q1*b+q3*d]
noncomputable def kJ (a b c d p0 q0 p1 q1 p2 q2 p3 q3:Int):List Int:=[p0*a+p1*c,q0*a+q1*c,p0*b+p1*d,q0*b+q1*d,p2*a+p3*c,q2*a+q3*c,p2*b+p3*d,q2*b+q3*d]
def Wq (a b c d mt:Int):Spec:=fun f _ ν _ _ e=>bif f==146 then (match e with
 | [.one (.ptr 4 0),.one (.sint .i64 n)]=>some ([(a,2),(b,2),(c,2),(d,2)],.val (.agg (bH true ν.length 4)),[n=mt],none)
 |_=>none)else none
section
variable (p0 q0 p1 q1 p2 q2 p3 q3:Int) (hs:Bool) (uns mt lr rr pl c cd:Int) (lp rp cst nst gv gv2:Value)
noncomputable def wrS (a:List Int)(u:Nat)(lr rr mt c:Int)(m:Nat):AS:=⟨slot [] 0 m,[(0,xR hs uns mt lr rr pl (.lit lp) (.lit rp) (.lit cst) (.lit nst) (.lit gv)),(6,tY c)],7,a.map fun z=>(z,u),[0,6,0]⟩
theorem aYF:(run Z (aE tN) bW (aO Z (aE tN)) (mX (aG 45)) 400 [.code (aF f120),.top f120] (mM p0 q0 p1 q1 p2 q2 p3 q3 hs uns mt lr rr pl c lp rp cst nst gv (mW 37))).bind (eD (fG [0,6] [] 7 []) (fG [0,6] [0,1,9,10] 7 []))
  = some (.stp (eF (aG 45) f120) (mM p0 q0 p1 q1 p2 q2 p3 q3 hs uns mt lr rr pl c lp rp cst nst gv (slot [(0,P0),(1,P6),(9,.val (.agg [.lit lp,.sint .i64 lr])),(10,P6)] 0 39))):=by kernel_rfl
theorem aYG:(run Z (aE tN) bW (aO Z (aE tN)) (fun _=>false) 400 (fQ (aG 45) f120) (mM p0 q0 p1 q1 p2 q2 p3 q3 hs uns mt lr rr pl c lp rp cst nst gv (slot [(0,P0),(1,P6),(11,dJ cd)] 0 39))).bind (eD (fG [0,6] [] 7 []) (fG [0,6] [] 7 []))
  = some (.br (decide (cd=0)) (.ret (.val (.one (.bool false))) (mM p0 q0 p1 q1 p2 q2 p3 q3 hs uns mt lr rr pl c lp rp cst nst gv (slot [] 0 39))) (.br (decide (c<1)) (.ret (.val (.one (.bool false))) (mM p0 q0 p1 q1 p2 q2 p3 q3 hs uns mt lr rr pl c lp rp cst nst gv (slot [] 0 39))) (.ret (.val (.one (.bool true))) (wrS hs uns pl lp rp cst nst gv (kV (uQ (iK cd) (iL cd) (iM cd) (iN cd) p0 q0 p1 q1 p2 q2 p3 q3)) 19 (IntKind.i64.wrap (lr+1)) rr mt (IntKind.i64.wrap (c-1)) 39)))):=by kernel_rfl
theorem aYH:(run Z (aE tN) bW (aO Z (aE tN)) (fun _=>false) 400 (fQ (aG 45) f120) ⟨slot [(11,.val (.one (.int .i64 0)))] 0 39,[],0,[],[]⟩).bind (eD (fG [] [] 0 []) (fG [] [] 0 []))=some (.ret (.val (.one (.bool false))) ⟨slot [] 0 39,[],0,[],[]⟩):=by kernel_rfl
theorem aYE (a b d e:Int):(run Z (fJ (Wq a b d e mt) (aE tN)) bW (aO Z (fJ (Wq a b d e mt) (aE tN))) (fun _=>false) 400 [.code (aF f118),.top f118] (sW [p0,q0,p1,q1,p2,q2,p3,q3] hs uns mt lr rr pl c (.lit lp) (.lit rp) (.ptr 4 0) (.lit nst) (.lit gv) [(4,ext [] 132)] (mW 33))).bind (eD (fG [0,6,4] [] 7 []) (fG [0,6,4] [] 7 []))
  = some (.br (decide (c<1)) (.ret (.val (.one (.bool false))) (sW [p0,q0,p1,q1,p2,q2,p3,q3] hs uns mt lr rr pl c (.lit lp) (.lit rp) (.ptr 4 0) (.lit nst) (.lit gv) [(4,ext [] 132)] (slot [] 0 35))) (.need [mt=mt] (.ret (.val (.one (.bool true))) ⟨slot [] 0 35,[(0,xR hs uns (IntKind.i64.wrap (mt+1)) lr rr pl (.lit lp) (.lit rp) (.ptr 4 0) (.lit nst) (.lit gv)),(6,tY (IntKind.i64.wrap (c-1))),(4,ext [] 132)],7,(kV (kJ a b d e p0 q0 p1 q1 p2 q2 p3 q3)).map fun z=>(z,19),[0,6,0]⟩))):=by kernel_rfl
end
theorem Zf {c:Int}(a:1<=c)(b:c<=3000):IntKind.i64.wrap (c-1)=c-1:=by
 unfold IntKind.wrap;simp[IntKind.bits,IntKind.signed];omega
theorem Ts {c:Int}(a:0<=c)(b:c<=1000000):IntKind.i64.wrap (c+1)=c+1:=by
 unfold IntKind.wrap;simp[IntKind.bits,IntKind.signed];omega
structure yS (w2:World) (k fb:Nat) (cd:Int) (R:Ending->World->Prop) (K:Int->Int->Int->Int->Int->Int->Int->Int->Bool->Int->Int->Int->Int->Int->Int->Value->Value->Value->Value->Value->Prop):Prop where
 none:cd=0->∀w3,Chg w2 w3 []->R (.returned (.bool false)) w3
 some:cd≠0->∃p0 q0 p1 q1 p2 q2 p3 q3 hs uns mt lr rr pl c lp rp gv cv nv,Pos2 w2 k fb [p0,q0,p1,q1,p2,q2,p3,q3] hs uns mt lr rr pl c lp rp gv cv nv/\c<=3000/\0<=lr/\lr<=1000000/\0<=rr/\rr<=1000000/\(c<1->∀w3,Chg w2 w3 []->R (.returned (.bool false)) w3)/\(1<=c->K p0 q0 p1 q1 p2 q2 p3 q3 hs uns mt lr rr pl c lp rp gv cv nv)
section
variable {w:World} {k fb:Nat} {p0 q0 p1 q1 p2 q2 p3 q3:Int} {hs:Bool} {uns mt lr rr pl c:Int} {lp rp gv cv nv:Value} {R:Ending->World->Prop}
theorem aGd (h:Pos2 w k fb [p0,q0,p1,q1,p2,q2,p3,q3] hs uns mt lr rr pl c lp rp gv cv nv)
  (M:∀ C,Chg w C []->Calls prog 45 #[.agg #[lp,.int .i64 lr],aA fb] C fun e i=>∃ cd,e=.returned (.int .i64 cd)/\
   yS i k fb cd R fun p0 q0 p1 q1 p2 q2 p3 q3 hs uns mt lr rr pl c lp rp gv cv nv=>(∀z∈kV (uQ (iK cd) (iL cd) (iM cd) (iN cd) p0 q0 p1 q1 p2 q2 p3 q3),Bits 10 z)/\∀q,Chg i q [k,fb]->Pos2 q k fb (kV (uQ (iK cd) (iL cd) (iM cd) (iN cd) p0 q0 p1 q1 p2 q2 p3 q3)) hs uns mt (lr+1) rr pl (c-1) lp rp gv cv nv->R (.returned (.bool true)) q):
  Calls prog 120 #[aA k,aA fb] w R:=by
 have F:=bI func120 rfl rfl;refine pC F (φ:=phW k fb fun _=>none) (vs:=[.one (.ptr 0 0),.one (.ptr 6 0)]) (args:=[aA k,aA fb]) (s:=mM p0 q0 p1 q1 p2 q2 p3 q3 hs uns mt lr rr pl c lp rp cv nv gv (mW 37)) (by kernel_rfl) ⟨⟨k,0,rfl,rfl⟩,⟨fb,0,rfl,rfl⟩,trivial⟩ (h.rep _) ?_;refine cE (dH jQ) rK (pF rfl rfl) (jK (pF rfl rfl)) (aYF p0 q0 p1 q1 p2 q2 p3 q3 hs uns mt lr rr pl c lp rp cv nv gv) (fun _ _=>False) (fun X s=>X=eF (aG 45) f120/\s=mM p0 q0 p1 q1 p2 q2 p3 q3 hs uns mt lr rr pl c lp rp cv nv gv (slot [(0,P0),(1,P6),(9,.val (.agg [.lit lp,.sint .i64 lr])),(10,P6)] 0 39)) ⟨rfl,rfl⟩ (fun _ _ _ _ _ h=>h.elim) ?_;rintro X s⟨rfl,rfl⟩;refine⟨by kernel_rfl,fun af S a1 C A a=>?_⟩;have c1:=rE a.wd rfl;refine qC (f:=45) (vs:=[.agg [.lit lp,.sint .i64 lr],.one (.ptr 6 0)]) (dst:=some 11) (ks2:=fQ (aG 45) f120) (by kernel_rfl) (bI func45 rfl rfl).en (by kernel_rfl) (A S [] C) a ?_;intro ys P
 match ys,P with
 | [y,y2],⟨⟨zs,hy,hz⟩,O,_⟩=>
 match zs,hz with
 | [z1,z2],⟨o,p,_⟩=>
 have o:z1=lp:=o.1;have p:z2=.int .i64 lr:=p;rw[uC (a.wd.base 6 (fb,0) rfl) O,hy,o,p];refine(M C c1).mono ?_;rintro e i⟨cd,rfl,W⟩;refine⟨_,rfl,fun g ab d=>?_⟩
 by_cases j:cd=0
 ·subst j;have l:Rep Z i (fun _=>none) (fun _=>none) ⟨slot [(11,.val (.one (.int .i64 0)))] 0 39,[],0,[],[]⟩ (a1.put (some 11) (.int .i64 0)) i:=oZ (kb:=[]) (kt:=[]) (dst:=some 11) (r:=.val (.one (.int .i64 0))) a (Ti _) (by kernel_rfl) (fun b E=>by simp at E) rfl;refine cE (dH jQ) rK (fun b x e=>by cases e) (jK (fun b x e=>by cases e)) aYH (fun r s=>r=.val (.one (.bool false))/\s.dirty=[]) (fun _ _=>False) ⟨rfl,rfl⟩ ?_ (fun _ _ h=>h.elim) g _ _ _ (d _ _ _) l;rintro r s ap v w5⟨rfl,J⟩ hv _ N;rw[hv false (Or.inl rfl)];exact W.none rfl w5 (rE N J)
 ·obtain⟨p0,q0,p1,q1,p2,q2,p3,q3,hs,uns,mt,lr,rr,pl,c,lp,rp,gv,cv,nv,U,I,l1,l2,_,_,L,B⟩:=W.some j
  have l:Rep Z i (phW k fb fun _=>none) (phW k fb fun _=>none) (mM p0 q0 p1 q1 p2 q2 p3 q3 hs uns mt lr rr pl c lp rp cv nv gv (slot [(0,P0),(1,P6),(11,dJ cd)] 0 39)) (a1.put (some 11) (.int .i64 cd)) i:=by
   refine oZ (kb:=[0,6]) (kt:=[0,1]) (dst:=some 11) (r:=dJ cd) a (U.rep _) (by kernel_rfl) ?_ rfl;intro b E
   have H:b=0\/b=6:=by simpa using E
   rcases H with rfl|rfl
   ·rw[a.wd.base 0 (k,0) rfl];rfl
   ·rw[a.wd.base 6 (fb,0) rfl];rfl
  refine cE (dH jQ) rK (pF rfl rfl) (jK (pF rfl rfl)) (aYG p0 q0 p1 q1 p2 q2 p3 q3 hs uns mt lr rr pl c cd lp rp cv nv gv)
   (fun r s=>(r=.val (.one (.bool false))/\s.dirty=[]/\c<1)\/(r=.val (.one (.bool true))/\¬c<1/\s=wrS hs uns pl lp rp cv nv gv (kV (uQ (iK cd) (iL cd) (iM cd) (iN cd) p0 q0 p1 q1 p2 q2 p3 q3)) 19 (IntKind.i64.wrap (lr+1)) rr mt (IntKind.i64.wrap (c-1)) 39))
   (fun _ _=>False) ⟨fun e=>absurd (of_decide_eq_true e) j,fun _=>⟨fun D=>Or.inl ⟨rfl,rfl,of_decide_eq_true D⟩,fun D=>Or.inr ⟨rfl,of_decide_eq_false D,rfl⟩⟩⟩ ?_ (fun _ _ h=>h.elim) g _ _ _ (d _ _ _) l
  rintro r s ao v q(⟨rfl,J,T⟩|⟨rfl,T,rfl⟩) hv _ n
  ·rw[hv false (Or.inl rfl)];exact L T q (rE n J)
  ·rw[hv true (Or.inl rfl)];obtain⟨Y,hR⟩:=B (by omega);have u:Chg i q [k,fb]:=Oq n rfl;have:=U.out n (zs':=kV (uQ (iK cd) (iL cd) (iM cd) (iN cd) p0 q0 p1 q1 p2 q2 p3 q3)) (hs':=hs) (uns':=uns) (mt':=mt) (lr':=IntKind.i64.wrap (lr+1)) (rr':=rr) (pl':=pl) (c':=IntKind.i64.wrap (c-1)) (lp':=lp) (rp':=rp) (gv':=gv) (cv':=cv) (nv':=nv) rfl rfl rfl Mr Y;rw[Zf (by omega) I,Ts l1 l2]at this;exact hR q u this
end
theorem aVu {cb:Nat}{a b c d:Int}(A:q 4=some (cb,0))(F:∀z∈[a,b,c,d],Bits 2 z)(i:∀W,On Z.bt w W->Calls prog 146 #[aA cb,.int .i64 mt] W fun e w'=>∃l:List Value,e=.returned (.agg l.toArray)/\bD true w' [a,b,c,d] l/\Below W.heap.size W w'):SpecOk Z w q (Wq a b c d mt):=by
 intro f S ν id P T O r p L h;unfold Wq at h
 cases s:f==146 with
 |false=>rw[s]at h;cases h
 |true=>
  rw[s]at h
  have:f=146:=by simpa using s
  subst this;refine⟨(bI func146 rfl rfl).en,fun J N x φ M l y _ u H v=>?_⟩;simp only[cond_true]at h;split at h
  ·rename_i n;cases h
   match l,v with
   | [x1,x2],⟨E,o,_⟩=>
   have I:n=mt:=J (n=mt) (by simp);have o:x2=.int .i64 n:=o;rw[uC (y 4 _ A) E,o,I];refine(i M u).mono ?_;rintro e w'⟨B,rfl,C,D⟩;refine⟨_,rfl,D,B,rfl,?_⟩
   refine tU [a,b,c,d] B ν.length N C F fun j z g=>?_
   refine x _ _ ?_;rw[List.getElem?_append_right (by omega),show ν.length+j-ν.length=j by omega]
   match j,g with
   |0,g=>cases g;rfl
   |1,g=>cases g;rfl
   |2,g=>cases g;rfl
   |3,g=>cases g;rfl
   |j+4,g=>simp at g
  ·cases h
section
variable {w w':World} {k fb:Nat} {zs:List Int} {p0 q0 p1 q1 p2 q2 p3 q3:Int} {hs:Bool} {uns mt lr rr pl c:Int} {lp rp gv cv nv:Value} {R:Ending->World->Prop}
theorem Pos2.Ed (h:Pos2 w k fb zs hs uns mt lr rr pl c lp rp gv cv nv){exφ:Nat->Option (Nat×Nat)}{ex:List (Nat×bO)}{rpC cvC nvC:AC}(i:relC Z (phW k fb exφ) (zs.map fun z=>(z,10)) w rpC rp)(hc:relC Z (phW k fb exφ) (zs.map fun z=>(z,10)) w cvC cv)(g:relC Z (phW k fb exφ) (zs.map fun z=>(z,10)) w nvC nv)
  (d:∀b B,look ex b=some B->B.own=false/\B.tip=false/\B.ro=true/\∃a o,phW k fb exφ b=some (a,o)/\a≠k/\a≠fb/\Seg Z (phW k fb exφ) (zs.map fun z=>(z,10)) w a o B.ty B.cs) (e:∀b a o,exφ b=some (a,o)->a<w.heap.size) (f:List AT):RepW Z w (phW k fb exφ) (phW k fb exφ) (sW zs hs uns mt lr rr pl c (.lit lp) rpC cvC nvC (.lit gv) ex f) w:=
 aRc (lpC:=.lit lp) (gvC:=.lit gv) h.nd h.h8 h.bits h.fu ⟨rfl,h.o1⟩ i ⟨rfl,h.o3⟩ hc g d e f
theorem Vb (a:d.contains 0=true)(e:d.contains 6=true)(f:∀b x,q b=some x->d.contains b=true):∀b x,phW k fb q b=some x->d.contains b=true:=by
 intro b x h;unfold phW at h;split at h
 ·subst_vars;exact a
 ·split at h
  ·subst_vars;exact e
  ·split at h
   ·exact f b x h
   ·cases h
def ph1 (i k:Nat):Nat->Option (Nat×Nat):=fun b=>if b=i then some (k,0)else none
def ph2 (i k j m:Nat):Nat->Option (Nat×Nat):=fun b=>if b=i then some (k,0)else if b=j then some (m,0)else none
theorem Pos2.aTh (h:Pos2 w k fb zs hs uns mt lr rr pl c lp rp gv cv nv){b:Nat}{cs:List Value}{ty:TypeId}(d:w.heap[b]?=some (.cells cs.toArray ty (0,0)))(e:ty≠98)(f:ty≠84):b≠k/\b≠fb:=by
 constructor
 ·rintro rfl;obtain⟨g,a,_⟩:=h.nd.ex;rw[d]at a;exact e (Obj.cells.inj (Option.some.inj a)).2.1
 ·rintro rfl;have a:=h.fu;rw[d]at a;exact f (Obj.cells.inj (Option.some.inj a)).2.1
theorem aD9 (h:Pos2 w k fb [p0,q0,p1,q1,p2,q2,p3,q3] hs uns mt lr rr pl c lp rp gv cv nv){d:Nat}(A:cv=aA d)(u:∃cs:List Value,w.heap[d]?=some (.cells cs.toArray 132 (0,0)))(L:c<=3000)(N:0<=mt)(O:mt<=1000000)
  {v p l j:Int} (hb:∀z∈[v,p,l,j],Bits 2 z) (y:∀W,On Z.bt w W->Calls prog 146 #[aA d,.int .i64 mt] W fun e w'=>∃xs:List Value,e=.returned (.agg xs.toArray)/\bD true w' [v,p,l,j] xs/\Below W.heap.size W w')
  (P:c<1->∀q,Chg w q []->R (.returned (.bool false)) q)
  (i:1<=c->∀z∈kV (kJ v p l j p0 q0 p1 q1 p2 q2 p3 q3),Bits 10 z)
  (E:1<=c->∀q,Chg w q [k,fb]->Pos2 q k fb (kV (kJ v p l j p0 q0 p1 q1 p2 q2 p3 q3)) hs uns (mt+1) lr rr pl (c-1) lp rp gv cv nv->R (.returned (.bool true)) q):
  Calls prog 118 #[aA k,aA fb] w R:=by
 obtain⟨cs,n⟩:=u;obtain⟨n1,n2⟩:=h.aTh n (by decide) (by decide);have F:=bI func118 rfl rfl
 have D:=h.Ed (exφ:=ph1 4 d) (ex:=[(4,ext [] 132)]) (rpC:=.lit rp) (cvC:=.ptr 4 0) (nvC:=.lit nv) ⟨rfl,h.o2⟩ ⟨d,0,rfl,A⟩ ⟨rfl,h.o5⟩ (by
  intro b B J;have:=mU J;simp at this;obtain⟨rfl,rfl⟩:=this
  exact⟨rfl,rfl,rfl,d,0,rfl,n1,n2,[],[],cs,n,rfl,trivial⟩) (by
  intro b k' o f;unfold ph1 at f;split at f
  ·cases f;exact gU n
  ·cases f) (mW 33)
 have C:∀b x,phW k fb (ph1 4 d) b=some x->[0,6,4].contains b=true:=Vb rfl rfl fun b x e=>by
  unfold ph1 at e;split at e
  ·subst_vars;rfl
  ·cases e
 refine pC F (φ:=phW k fb (ph1 4 d)) (vs:=[.one (.ptr 0 0),.one (.ptr 6 0)]) (args:=[aA k,aA fb]) (by kernel_rfl) ⟨⟨k,0,rfl,rfl⟩,⟨fb,0,rfl,rfl⟩,trivial⟩ D ?_
 refine cE (Oa (aVu (cb:=d) rfl hb y) (dH jQ)) rK C (jK C) (aYE p0 q0 p1 q1 p2 q2 p3 q3 hs uns mt lr rr pl c lp rp nv gv v p l j)
  (fun r s=>(r=.val (.one (.bool false))/\s.dirty=[]/\c<1)\/(r=.val (.one (.bool true))/\¬c<1/\s.dirty=[0,6,0]/\look s.boxes 0=some (xR hs uns (IntKind.i64.wrap (mt+1)) lr rr pl (.lit lp) (.lit rp) (.ptr 4 0) (.lit nv) (.lit gv))/\look s.boxes 6=some (tY (IntKind.i64.wrap (c-1)))/\s.nums=(kV (kJ v p l j p0 q0 p1 q1 p2 q2 p3 q3)).map fun z=>(z,19)))
  (fun _ _=>False) ⟨fun e=>Or.inl ⟨rfl,rfl,of_decide_eq_true e⟩,fun e=>⟨fun x Y=>by simp at Y;exact Y,Or.inr ⟨rfl,of_decide_eq_false e,rfl,rfl,rfl,rfl⟩⟩⟩ ?_ (fun _ _ h=>h.elim)
 rintro r s au a w3(⟨rfl,M,X⟩|⟨rfl,X,M,l0,l6,ln⟩) hv _ g
 ·rw[hv false (Or.inl rfl)];exact P X w3 (rE g M)
 ·rw[hv true (Or.inl rfl)];have J:=i (by omega);obtain⟨⟨am,ar,ai,H,aq,T,⟨e1,g2⟩,⟨e2,g3⟩,⟨e3,g4⟩,⟨k4,o4,S,g5⟩,⟨e5,g6⟩⟩,U⟩:=aOl (ns:=[]) g l0 l6 (h.nd.shape h.h8) (Xu h.fu) (zs:=kV (kJ v p l j p0 q0 p1 q1 p2 q2 p3 q3)) rfl (by rw[ln];exact Mr);rw[g.base 4 (d,0) rfl]at S;cases S
  have I:H=cv:=by rw[g5,A];rfl
  rw[e1,e2,e3,e5,I,Ts N O]at T;rw[Zf (by omega) L]at U;exact E (by omega) w3 (Oq g (by rw[M];rfl)) ⟨T,U,J,rfl,h.o1,h.o2,h.o3,h.o4,h.o5⟩
end
section
variable (p0 q0 p1 q1 p2 q2 p3 q3:Int) (hs:Bool) (uns mt lr rr pl c cd:Int) (lp rp cst nst gv gv2:Value)
def rrS (a:List AT):AS:=sW [p0,q0,p1,q1,p2,q2,p3,q3] hs uns mt lr rr pl c (.lit lp) (.ptr 2 0) (.lit cst) (.ptr 5 0) (.lit gv) [(2,ext [] 98),(5,ext [] 206)] a
theorem aYJ:(run Z (aE tN) bW (aO Z (aE tN)) (mX (aG 45)) 400 [.code (aF f121),.top f121] (mM p0 q0 p1 q1 p2 q2 p3 q3 hs uns mt lr rr pl c lp rp cst aB gv (mW 66))).bind (eD (fG [0,6] [] 7 []) (fG [0,6] [0,1,36,37] 7 []))
  = some (.stp (eF (aG 45) f121) (mM p0 q0 p1 q1 p2 q2 p3 q3 hs uns mt lr rr pl c lp rp cst aB gv (slot [(0,P0),(1,P6),(36,.val (.agg [.lit rp,.sint .i64 rr])),(37,P6)] 0 68))):=by kernel_rfl
theorem aYK:(run Z (aE tN) bW (aO Z (aE tN)) (mX (aG 45)) 400 [.code (aF f121),.top f121] (rrS p0 q0 p1 q1 p2 q2 p3 q3 hs uns mt lr rr pl c lp cst gv (mW 66))).bind (eD (fG [0,6,2,5] [] 7 []) (fG [0,6,2,5] [0,1,36,37] 7 []))
  = some (.stp (eF (aG 45) f121) (rrS p0 q0 p1 q1 p2 q2 p3 q3 hs uns mt lr rr pl c lp cst gv (slot [(0,P0),(1,P6),(36,.val (.agg [.ptr 2 0,.sint .i64 rr])),(37,P6)] 0 68))):=by kernel_rfl
theorem aYL:(run Z (aE tN) bW (aO Z (aE tN)) (mX (aG 154)) 400 (fQ (aG 45) f121) (mM p0 q0 p1 q1 p2 q2 p3 q3 hs uns mt lr rr pl c lp rp cst nst gv (slot [(0,P0),(1,P6),(38,dJ cd)] 0 68))).bind (eD (fG [0,6] [] 7 []) (fG [0,6] [66] 7 []))
  = some (.br (decide (cd=0)) (.ret (.val (.one (.bool false))) (mM p0 q0 p1 q1 p2 q2 p3 q3 hs uns mt lr rr pl c lp rp cst nst gv (slot [] 0 68))) (.br (decide (c<1)) (.ret (.val (.one (.bool false))) (mM p0 q0 p1 q1 p2 q2 p3 q3 hs uns mt lr rr pl c lp rp cst nst gv (slot [] 0 68))) (.stp (eF (aG 154) f121) ⟨slot [(66,P0)] 0 68,[(0,xR hs uns mt lr (IntKind.i64.wrap (rr+1)) pl (.lit lp) (.lit rp) (.lit cst) (.lit nst) (.lit gv)),(6,tY (IntKind.i64.wrap (c-1)))],7,(kV (kJ (iK cd) (iL cd) (iM cd) (iN cd) p0 q0 p1 q1 p2 q2 p3 q3)).map fun z=>(z,19),[0,6,0]⟩))):=by kernel_rfl
theorem aYM:(run Z (aE tN) bW (aO Z (aE tN)) (fun _=>false) 400 (fQ (aG 154) f121) ⟨slot [] 0 68,[],0,[],[]⟩).bind (eD (fG [] [] 0 []) (fG [] [] 0 []))=some (.ret (.val (.one (.bool true))) ⟨slot [] 0 68,[],0,[],[]⟩):=by kernel_rfl
theorem aYN:(run Z (aE tN) bW (aO Z (aE tN)) (fun _=>false) 400 (fQ (aG 45) f121) ⟨slot [(38,.val (.one (.int .i64 0)))] 0 68,[],0,[],[]⟩).bind (eD (fG [] [] 0 []) (fG [] [] 0 []))=some (.ret (.val (.one (.bool false))) ⟨slot [] 0 68,[],0,[],[]⟩):=by kernel_rfl
end
section
variable {w:World} {k fb:Nat} {p0 q0 p1 q1 p2 q2 p3 q3:Int} {hs:Bool} {uns mt lr rr pl c:Int} {lp rp gv cv nv:Value} {R:Ending->World->Prop}
abbrev Js (b:World)(k fb:Nat)(cd:Int)(R:Ending->World->Prop):Prop:=yS b k fb cd R fun p0 q0 p1 q1 p2 q2 p3 q3 hs uns mt lr rr pl c lp rp gv cv nv=>(∀z∈kV (kJ (iK cd) (iL cd) (iM cd) (iN cd) p0 q0 p1 q1 p2 q2 p3 q3),Bits 10 z)/\∀a,Chg b a [k,fb]->Pos2 a k fb (kV (kJ (iK cd) (iL cd) (iM cd) (iN cd) p0 q0 p1 q1 p2 q2 p3 q3)) hs uns mt lr (rr+1) pl (c-1) lp rp gv cv nv->Calls prog 154 #[aA k] a fun e f=>∃v,e=.returned v/\∀d,Chg f d []->R (.returned (.bool true)) d
theorem Zx {n:World}{N:AS}{a1:Act}{w1 D:World}{cd:Int}(A:Rep Z n q I N a1 w1)(S:putT (kN [] [] 0 N.tmps) (some 38) (.val (.one (.int .i64 0)))=slot [(38,.val (.one (.int .i64 0)))] 0 68)(T:putT (kN [0,6] [0,1] 0 N.tmps) (some 38) (dJ cd)=slot [(0,P0),(1,P6),(38,dJ cd)] 0 68)(W:I 0=some (k,0))(X:I 6=some (fb,0))(hA:Js D k fb cd R):
  ∀a:List (K Act),(∀ag af ad,SR Z ag af ad (fQ (aG 45) f121) a)->fZ Z.P R a .normal (a1.put (some 38) (.int .i64 cd)) D:=by
 intro a g
 by_cases i:cd=0
 ·subst i;have j:Rep Z D (fun _=>none) (fun _=>none) ⟨slot [(38,.val (.one (.int .i64 0)))] 0 68,[],0,[],[]⟩ (a1.put (some 38) (.int .i64 0)) D:=oZ (kb:=[]) (kt:=[]) (dst:=some 38) (r:=.val (.one (.int .i64 0))) A (Ti _) S.symm (fun b o=>by simp at o) rfl;refine cE (dH jQ) rK (fun b x e=>by cases e) (jK (fun b x e=>by cases e)) aYN (fun r s=>r=.val (.one (.bool false))/\s.dirty=[]) (fun _ _=>False) ⟨rfl,rfl⟩ ?_ (fun _ _ h=>h.elim) a _ _ _ (g _ _ _) j;rintro r s ah v w5⟨rfl,u⟩ hv _ l;rw[hv false (Or.inl rfl)];exact hA.none rfl w5 (rE l u)
 ·obtain⟨p0,q0,p1,q1,p2,q2,p3,q3,hs,uns,mt,lr,rr,pl,c,lp,rp,gv,cv,nv,h2,O,_,_,l1,l2,U,E⟩:=hA.some i
  have j:Rep Z D (phW k fb fun _=>none) (phW k fb fun _=>none) (mM p0 q0 p1 q1 p2 q2 p3 q3 hs uns mt lr rr pl c lp rp cv nv gv (slot [(0,P0),(1,P6),(38,dJ cd)] 0 68)) (a1.put (some 38) (.int .i64 cd)) D:=by
   refine oZ (kb:=[0,6]) (kt:=[0,1]) (dst:=some 38) (r:=dJ cd) A (h2.rep _) T.symm ?_ rfl;intro b o
   have M:b=0\/b=6:=by simpa using o
   rcases M with rfl|rfl
   ·rw[W];rfl
   ·rw[X];rfl
  refine cE (dH jQ) rK (pF rfl rfl) (jK (pF rfl rfl)) (aYL p0 q0 p1 q1 p2 q2 p3 q3 hs uns mt lr rr pl c cd lp rp cv nv gv)
   (fun r s=>r=.val (.one (.bool false))/\s.dirty=[]/\c<1)
   (fun ks s=>¬c<1/\ks=eF (aG 154) f121/\s=⟨slot [(66,P0)] 0 68,[(0,xR hs uns mt lr (IntKind.i64.wrap (rr+1)) pl (.lit lp) (.lit rp) (.lit cv) (.lit nv) (.lit gv)),(6,tY (IntKind.i64.wrap (c-1)))],7,(kV (kJ (iK cd) (iL cd) (iM cd) (iN cd) p0 q0 p1 q1 p2 q2 p3 q3)).map fun z=>(z,19),[0,6,0]⟩)
   ⟨fun e=>absurd (of_decide_eq_true e) i,fun _=>⟨fun L=>⟨rfl,rfl,of_decide_eq_true L⟩,fun L=>⟨of_decide_eq_false L,rfl,rfl⟩⟩⟩ ?_ ?_ a _ _ _ (g _ _ _) j
  ·rintro r s J v H⟨rfl,u,h1⟩ hv _ aa;rw[hv false (Or.inl rfl)];exact U h1 H (rE aa u)
  ·rintro ks s⟨h1,rfl,rfl⟩;refine⟨by kernel_rfl,fun am J a3 H B d=>?_⟩;obtain⟨hB,hR⟩:=E (by omega);have p:Chg D H [k,fb]:=Oq d.wd rfl;have hp:=h2.out d.wd (zs':=kV (kJ (iK cd) (iL cd) (iM cd) (iN cd) p0 q0 p1 q1 p2 q2 p3 q3)) (hs':=hs) (uns':=uns) (mt':=mt) (lr':=lr) (rr':=IntKind.i64.wrap (rr+1)) (pl':=pl) (c':=IntKind.i64.wrap (c-1)) (lp':=lp) (rp':=rp) (gv':=gv) (cv':=cv) (nv':=nv) rfl rfl rfl Mr hB;rw[Zf (by omega) O,Ts l1 l2]at hp;refine qC (f:=154) (vs:=[.one (.ptr 0 0)]) (dst:=some 67) (ks2:=fQ (aG 154) f121) (by kernel_rfl) (bI func154 rfl rfl).en (by kernel_rfl) (B J [] H) d ?_;intro ys ab
   match ys,ab with
   | [y],⟨hy,_⟩=>
   rw[uC (d.wd.base 0 (k,0) rfl) hy];refine(hR H p hp).mono ?_;rintro e w4⟨v,rfl,hF⟩;refine⟨_,rfl,fun F ax C=>?_⟩;have Y:Rep Z w4 (fun _=>none) (fun _=>none) ⟨slot [] 0 68,[],0,[],[]⟩ (a3.put (some 67) v) w4:=oZ (kb:=[]) (kt:=[]) (dst:=some 67) (r:=.top) d (Ti _) (by kernel_rfl) (fun b o=>by simp at o) trivial;refine cE (dH jQ) rK (fun b x e=>by cases e) (jK (fun b x e=>by cases e)) aYM (fun r s=>r=.val (.one (.bool true))/\s.dirty=[]) (fun _ _=>False) ⟨rfl,rfl⟩ ?_ (fun _ _ h=>h.elim) F _ _ _ (C _ _ _) Y;rintro r s ah v w5⟨rfl,u⟩ hv _ l;rw[hv true (Or.inl rfl)];exact hF w5 (rE l u)
theorem aHn (h:Pos2 w k fb [p0,q0,p1,q1,p2,q2,p3,q3] hs uns mt lr rr pl c lp rp gv cv nv)(n:nv=aB)
  (o:∀l,Chg w l []->Calls prog 45 #[.agg #[rp,.int .i64 rr],aA fb] l fun e v=>∃cd,e=.returned (.int .i64 cd)/\Js v k fb cd R):
  Calls prog 121 #[aA k,aA fb] w R:=by
 subst n;have F:=bI func121 rfl rfl;refine pC F (φ:=phW k fb fun _=>none) (vs:=[.one (.ptr 0 0),.one (.ptr 6 0)]) (args:=[aA k,aA fb]) (s:=mM p0 q0 p1 q1 p2 q2 p3 q3 hs uns mt lr rr pl c lp rp cv aB gv (mW 66)) (by kernel_rfl) ⟨⟨k,0,rfl,rfl⟩,⟨fb,0,rfl,rfl⟩,trivial⟩ (h.rep _) ?_;refine cE (dH jQ) rK (pF rfl rfl) (jK (pF rfl rfl)) (aYJ p0 q0 p1 q1 p2 q2 p3 q3 hs uns mt lr rr pl c lp rp cv gv) (fun _ _=>False) (fun u s=>u=eF (aG 45) f121/\s=mM p0 q0 p1 q1 p2 q2 p3 q3 hs uns mt lr rr pl c lp rp cv aB gv (slot [(0,P0),(1,P6),(36,.val (.agg [.lit rp,.sint .i64 rr])),(37,P6)] 0 68)) ⟨rfl,rfl⟩ (fun _ _ _ _ _ h=>h.elim) ?_;rintro u s⟨rfl,rfl⟩;refine⟨by kernel_rfl,fun C r a1 l g a=>?_⟩;have c1:=rE a.wd rfl;refine qC (f:=45) (vs:=[.agg [.lit rp,.sint .i64 rr],.one (.ptr 6 0)]) (dst:=some 38) (ks2:=fQ (aG 45) f121) (by kernel_rfl) (bI func45 rfl rfl).en (by kernel_rfl) (g r [] l) a ?_;intro D q
 match D,q with
 | [y,y2],⟨⟨I,A,B⟩,p,_⟩=>
 match I,B with
 | [E,H],⟨b,d,_⟩=>
 have b:E=rp:=b.1;have d:H=.int .i64 rr:=d;rw[uC (a.wd.base 6 (fb,0) rfl) p,A,b,d];refine(o l c1).mono ?_;rintro e v⟨cd,rfl,x⟩;exact⟨_,rfl,fun j z i=>Zx a (by kernel_rfl) (by kernel_rfl) (a.wd.base 0 (k,0) rfl) (a.wd.base 6 (fb,0) rfl) x j i⟩
theorem aVl {i a p b:Nat}(f:d.contains i=true)(g:d.contains p=true):∀x y,ph2 i a p b x=some y->d.contains x=true:=by
 intro x y e;unfold ph2 at e;split at e
 ·subst_vars;exact f
 ·split at e
  ·subst_vars;exact g
  ·cases e
theorem aHo (h:Pos2 w k fb [p0,q0,p1,q1,p2,q2,p3,q3] hs uns mt lr rr pl c lp rp gv cv nv){n r:Nat}(H:nv=aA n)(v:rp=aA r)(E:∃cs:List Value,w.heap[n]?=some (.cells cs.toArray 206 (0,0)))(I:∃cs:List Value,w.heap[r]?=some (.cells cs.toArray 98 (0,0)))(L:r≠k)
  (M:∀p,Chg w p []->Calls prog 45 #[.agg #[rp,.int .i64 rr],aA fb] p fun e T=>∃cd,e=.returned (.int .i64 cd)/\Js T k fb cd R):
  Calls prog 121 #[aA k,aA fb] w R:=by
 obtain⟨cs,g⟩:=E;obtain⟨U,i⟩:=I;obtain⟨n1,n2⟩:=h.aTh g (by decide) (by decide)
 have J:r≠fb:=by
  rintro rfl;have D:=h.fu;rw[i]at D;exact absurd (Obj.cells.inj (Option.some.inj D)).2.1 (by decide)
 have F:=bI func121 rfl rfl
 have u:=h.Ed (exφ:=ph2 2 r 5 n) (ex:=[(2,ext [] 98),(5,ext [] 206)]) (rpC:=.ptr 2 0) (cvC:=.lit cv) (nvC:=.ptr 5 0) ⟨r,0,rfl,v⟩ ⟨rfl,h.o4⟩ ⟨n,0,rfl,H⟩ (by
  intro b B X;have:=mU X;simp at this
  rcases this with⟨rfl,rfl⟩|⟨rfl,rfl⟩
  ·exact⟨rfl,rfl,rfl,r,0,rfl,L,J,[],[],U,i,rfl,trivial⟩
  ·exact⟨rfl,rfl,rfl,n,0,rfl,n1,n2,[],[],cs,g,rfl,trivial⟩) (by
  intro b k' o d;unfold ph2 at d;split at d
  ·cases d;exact gU i
  ·split at d
   ·cases d;exact gU g
   ·cases d) (mW 66)
 have q:∀b x,phW k fb (ph2 2 r 5 n) b=some x->[0,6,2,5].contains b=true:=Vb rfl rfl (aVl rfl rfl);refine pC F (φ:=phW k fb (ph2 2 r 5 n)) (vs:=[.one (.ptr 0 0),.one (.ptr 6 0)]) (args:=[aA k,aA fb]) (by kernel_rfl) ⟨⟨k,0,rfl,rfl⟩,⟨fb,0,rfl,rfl⟩,trivial⟩ u ?_;refine cE (dH jQ) rK q (jK q) (aYK p0 q0 p1 q1 p2 q2 p3 q3 hs uns mt lr rr pl c lp cv gv) (fun _ _=>False) (fun S s=>S=eF (aG 45) f121/\s=rrS p0 q0 p1 q1 p2 q2 p3 q3 hs uns mt lr rr pl c lp cv gv (slot [(0,P0),(1,P6),(36,.val (.agg [.ptr 2 0,.sint .i64 rr])),(37,P6)] 0 68)) ⟨rfl,rfl⟩ (fun _ _ _ _ _ h=>h.elim) ?_;rintro S s⟨rfl,rfl⟩;refine⟨by kernel_rfl,fun ab P a1 p z a=>?_⟩;have c1:=rE a.wd rfl;refine qC (f:=45) (vs:=[.agg [.ptr 2 0,.sint .i64 rr],.one (.ptr 6 0)]) (dst:=some 38) (ks2:=fQ (aG 45) f121) (by kernel_rfl) (bI func45 rfl rfl).en (by kernel_rfl) (z P [] p) a ?_;intro ys O
 match ys,O with
 | [y,y2],⟨⟨zs,D,hz⟩,N,_⟩=>
 match zs,hz with
 | [z1,z2],⟨j,l,_⟩=>
 have j:z1=rp:=(uC (ν:=[]) (w:=p) (a.wd.base 2 (r,0) rfl) j).trans v.symm;have l:z2=.int .i64 rr:=l;rw[uC (a.wd.base 6 (fb,0) rfl) N,D,j,l];refine(M p c1).mono ?_;rintro e T⟨cd,rfl,W⟩;exact⟨_,rfl,fun C Y A=>Zx a (by kernel_rfl) (by kernel_rfl) (a.wd.base 0 (k,0) rfl) (a.wd.base 6 (fb,0) rfl) W C A⟩
end
open Rf (Nd Inv aZ)
structure Kept (w w':World) (own own':Nat->Option Own) (fb:Nat):Prop where
 on:On Z.bt w w'
 low:∀k,k<w.heap.size->own k=none->k≠fb->w'.heap[k]?=w.heap[k]?
 own:∀k,k<w.heap.size->own k=none->own' k=none
theorem Kept.trans {a b c:World}{o1 o2 o3:Nat->Option Own}{fb:Nat}(h:Kept a b o1 o2 fb)(g:Kept b c o2 o3 fb):Kept a c o1 o3 fb:=by
 refine⟨h.on.trans g.on,fun k d e f=>?_,fun k d e=>g.own k (Nat.lt_of_lt_of_le d h.on.size) (h.own k d e)⟩;rw[g.low k (Nat.lt_of_lt_of_le d h.on.size) (h.own k d e) f,h.low k d e f]
theorem Kept.Ow {own own':Nat->Option Own}{D:List Nat}(h:Chg w w' D)(b:∀k∈D,k<w.heap.size->own k=none->k=fb)(g:∀k,k<w.heap.size->own k=none->own' k=none):Kept w w' own own' fb:=
 ⟨h.on,fun k a f d=>h.low k a fun e=>d (b k e a f),g⟩
theorem Kept.still {own:Nat->Option Own}(h:Chg w w' []):Kept w w' own own fb:=Kept.Ow h (fun k a=>by cases a) fun _ _ e=>e
section
variable {w w' w'':World} {b0 fb:Nat} {own own':Nat->Option Own} {at1 at2:Nat->Nat} {D:List Nat} {i:Nat} {n n':Nd} {s:Rf.St} {rho:Nat->Nat} {c:Nat}
theorem aNr:yX w own i []:=fun k a=>by cases a
theorem Net.still (h:Net w b0 own at1 fb s)(a:Inv s.nodes rho c)(hc:Chg w w' []):Net w' b0 own at1 fb s:=by
 refine h.step (i:=s.nodes.length) a (fun _ _ _=>rfl) (Pg.Go.refl _) hc aNr (fun _ _ _ e _=>e) (fun _ _=>rfl) (hc.at h.fuel (by simp)) ?_;intro j m b d;have:=(List.getElem?_eq_some_iff.1 b).1;omega
def kK (w:World)(b0:Nat)(own:Nat->Option Own)(at1:Nat->Nat)(fb len:Nat)(ok:Bool)(b:Rf.St)(w':World):Prop:=∃own',Kept w w' own own' fb/\(ok=true->∃at2,Net w' b0 own' at2 fb b/\∀a,a<len->at2 a=at1 a)
theorem kK.no {len:Nat}{a:Rf.St}(h:Kept w w' own own' fb):kK w b0 own at1 fb len false a w':=⟨own',h,fun e=>by cases e⟩
theorem kK.still {len:Nat}{ok:Bool}{b:Rf.St}(h:kK w b0 own at1 fb len ok b w')(a:ok=true->∃rho c,Inv b.nodes rho c)(hc:Chg w' w'' []):kK w b0 own at1 fb len ok b w'':=by
 obtain⟨own',d,f⟩:=h;refine⟨own',d.trans (Kept.still hc),fun e=>?_⟩;obtain⟨at2,g,j⟩:=f e;obtain⟨rho,c,a⟩:=a e;exact⟨at2,g.still a hc,j⟩
theorem kK.after {len:Nat}{ok:Bool}{d:Rf.St}{H:Nat->Option Own}{at':Nat->Nat}(p:Kept w w' own H fb)(b:∀a,a<len->at' a=at1 a)(q:len<=k)(h:kK w' b0 H at' fb k ok d w''):kK w b0 own at1 fb len ok d w'':=by
 obtain⟨own',f,g⟩:=h;refine⟨own',p.trans f,fun e=>?_⟩;obtain⟨at2,j,l⟩:=g e;exact⟨at2,j,fun a o=>(l a (by omega)).trans (b a o)⟩
def nL (f:Nat):Prop:=∀(w:World) (b0 fb:Nat) (own:Nat->Option Own) (at1:Nat->Nat) (s:Rf.St) (rho:Nat->Nat) (c i j:Nat) (n:Nd) (x:Rf.St×Option Int),Net w b0 own at1 fb s->b0<=w.heap.size->s.clock=(c:Int)->c<=3000->Inv s.nodes rho c->s.nodes[i]?=some n->j<=n.out.length->c+rho i+2<=f->Rf.sym f s i j=some x->
 Calls prog 66 #[aA (at1 i),.int .i64 j,aA fb] w fun e w'=>e=.returned (.int .i64 (eI x.2))/\kK w b0 own at1 fb s.nodes.length x.2.isSome x.1 w'
variable {l:List Rf.V}
theorem Net.sY (h:Net w b0 own at1 fb s){v x p1 j o C p3 d b:Int}{f u:Value}{g:Option (Nat×Nat)}{e:Option Nat}(a:Seen w b0 own at1 s.nodes i n v x p1 j o C p3 d mt b gv f u l g M e):Pos2 w (at1 i) fb [v,x,p1,j,o,C,p3,d] (!n.pos) (fL n) mt (gX n) (fY n) b s.clock (eS at1 (lArg n)) (eS at1 (rArg n)) gv f u:=by
 obtain⟨o1,o2,o3⟩:=a.cD.Dz;exact⟨a.cD.nd,h.fuel,a.bits,rfl,Tf _,Tf _,o1,o2,o3⟩
theorem eight (h:zs.length=8):∃a b c d e f g h,zs=[a,b,c,d,e,f,g,h]:=by
 match zs,h with
 | [a,b,c,d,e,f,g,h],_=>exact⟨a,b,c,d,e,f,g,h,rfl⟩
theorem Kw (h8:zs.length=8)(h:Pg.eL l (cH zs)):Pg.eL l (cH (kV zs)):=by
 obtain⟨b,f,p1,g,d,j,p3,k,rfl⟩:=eight h8;obtain⟨t,a,e⟩:=aNj b f p1 g d j p3 k;exact Pg.eL.over h a e
theorem aNl (h8:zs.length=8):(kV zs).length=8:=by
 obtain⟨a,d,p1,e,b,f,p3,g,rfl⟩:=eight h8;rfl
theorem aPT (a b c d e g p1 h f j p3 k:Int):Pg.tA [(e,g),(p1,h),(f,j),(p3,k)] ⟨a,b,c,d⟩=cH (uQ a b c d e g p1 h f j p3 k):=by
 unfold Pg.tA uQ cH Pg.iJ Pg.rd2 Pg.sc Pg.hV;simp[Int.mul_comm]
theorem Zk (a b c d e g p1 h f j p3 k:Int):Pg.oG [(e,g),(p1,h),(f,j),(p3,k)] ⟨a,b,c,d⟩=cH (kJ a b c d e g p1 h f j p3 k):=by
 unfold Pg.oG kJ cH Pg.iJ Pg.rd2 Pg.sc Pg.hV;simp[Int.mul_comm]
theorem aR9 (v d f p1 g e h p3 j:Int):[(d,f),(p1,g),(e,h),(p3,j)].map (Rf.fH (Mt.sym v))=cH (lN (code v) d f p1 g e h p3 j):=by
 obtain⟨l,o,p,q⟩:=Tm v;unfold lN cH Rf.fH Mt.vD Mt.vE;rw[l,o,p,q];simp
 have k:∀a b x y:Int,a*x+-b*y=a*x-b*y:=fun a b x y=>by rw[Int.neg_mul];omega
 simp only[k,and_self]
theorem Zs (v:Int):code v≠0:=by
 unfold code;split
 ·decide
 ·split
  ·decide
  ·split
   ·decide
   ·split
    ·decide
    ·split
     ·decide
     ·split<;>decide
theorem Net.oW (h:Net w b0 own at1 fb s)(L:Inv s.nodes rho c)(g:s.nodes[i]?=some n)(z:rR n n')(B:Pg.HC n')(y:Pg.Go s.nodes (s.nodes.set i n'))(hc:Chg w w' D)(N:∀k∈D,k=at1 i\/k=fb\/(own k=some (.gv i)/\∀cs ty m,w.heap[k]?=some (.cells cs ty m)->ty=55)\/w.heap.size<=k)(b:∀k a,k<w.heap.size->own k=some a->own' k=some a)
  {v x p1 j o C p3 P mt f I cl:Int} {gv gv' u J:Value} {zs':List Int} (A:Blk w b0 own at1 i n v x p1 j o C p3 P mt I gv u J) (E:n'.k=n.k/\f=mt\/n.t=[]/\n'.k=n.k+1/\f=mt+1)
  (F:Pos2 w' (at1 i) fb zs' (!n'.pos) (fL n') f (gX n') (fY n') I cl (eS at1 (lArg n')) (eS at1 (rArg n')) gv' u J) (O:gB w' b0 own' i n'.out gv') {H:List Rf.V} (r:Rf.corners s.nodes n'=some H) (q:Pg.eL H (cH zs')):Net w' b0 own' at1 fb ⟨s.nodes.set i n',cl⟩:=by
 have p:yX w own i D:=by
  intro k E cs ty m d
  rcases N k E with rfl|rfl|⟨e,M⟩|e
  ·obtain⟨xs,l,_⟩:=A.nd.ex;rw[d]at l;exact Or.inl ⟨(Obj.cells.inj (Option.some.inj l)).2.1,(h.nd i n g).own⟩
  ·have l:=h.fuel;rw[d]at l;exact Or.inr (Or.inr (Obj.cells.inj (Option.some.inj l)).2.1)
  ·exact Or.inr (Or.inl ⟨M cs ty m d,e⟩)
  ·have:=gU d;omega
 obtain⟨R,W,S,X,T,Y,U,s3,rfl⟩:=eight F.h8;refine h.put L g y hc p b F.fu ⟨⟨R,W,S,X,T,Y,U,s3,f,I,gv',u,J,A.oW b z hc p L g E F.nd O,H,y.corners r,q⟩,B,b _ _ A.nd.lt (h.nd i n g).own,(h.nd i n g).lo,by rw[z.aR,z.t,z.nest];exact(h.nd i n g).Qw⟩
end
section
variable {w w' w'':World} {b0 fb:Nat} {own own':Nat->Option Own} {at1 at2:Nat->Nat} {D:List Nat} {i:Nat} {n n':Nd} {s:Rf.St} {rho:Nat->Nat} {c:Nat}
theorem Ch {ns a:List Nd}{m:Nd}(h:Rf.put ns i m=some a):a=ns.set i m/\i<ns.length:=by
 unfold Rf.put at h;split at h
 ·rename_i b;cases h;exact⟨rfl,b.2⟩
 ·cases h
theorem gB.row {out:List Int}(h:gB w b0 own i out gv):∃g,RowOf w 55 (out.map fun c=>Value.int .i64 (code c)) gv g/\∀b,g=some b->own b=some (.gv i)/\b0<=b:=by
 rcases h with⟨f,j⟩|⟨g,d,a,f,j,k,l,o,p⟩
 ·exact⟨none,Or.inl ⟨f,by rw[j];rfl,rfl⟩,fun b e=>by cases e⟩
 ·exact⟨some g,Or.inr ⟨g,d,a,rfl,by rw[f];simp,j,by simpa using k,by simpa using l⟩,fun b e=>by cases e;exact⟨o,p⟩⟩
theorem gB.aVg {out:List Int}{b:Nat}(h:RowOf w 55 (out.map fun c=>Value.int .i64 (code c)) gv (some b))(q:own b=some (.gv i))(p:b0<=b):gB w b0 own i out gv:=by
 rcases h with⟨_,_,e⟩|⟨g,d,a,f,j,k,l,o⟩
 ·cases e
 ·cases f;exact Or.inr ⟨b,d,a,by rw[j];simp,k,by simpa using l,by simpa using o,q,p⟩
theorem aSa {f:Nat}(h:Net w b0 own at1 fb s)(be:b0<=w.heap.size)(Y:s.clock=(c:Int))(bf:c<=3000)(L:Inv s.nodes rho c)(B:s.nodes[i]?=some n){y:Rf.St×Bool}(C:Rf.step1 f s i n=some y)(a4:y.2=true->∃rho c,Inv y.1.nodes rho c)
  (hR:Rf.nextP s.nodes n=some none->∀S,Chg w S []->Calls prog 99 #[aA (at1 i),aA fb] S fun e w'=>e=.returned (.bool y.2)/\kK w b0 own at1 fb s.nodes.length y.2 y.1 w'):
  Calls prog 83 #[aA (at1 i),aA fb] w fun e w'=>e=.returned (.bool y.2)/\kK w b0 own at1 fb s.nodes.length y.2 y.1 w':=by
 have hN:=L.at' i n B;obtain⟨p0,q0,p1,q1,p2,q2,p3,q3,mt,pl,gv,cv,nv,l,g,cc,nn,hs⟩:=h.seen L B
 obtain⟨o,F⟩:∃o,Rf.nextP s.nodes n=some o:=by
  unfold Rf.nextP;split
  ·exact⟨_,rfl⟩
  ·exact Rf.pO L hN
 obtain⟨gO,J,q⟩:=hs.cD.Ag.row;have ae:=h.sY hs;have a7:=hN.iV;have bg:=C;unfold Rf.step1 at C;rw[F,Option.bind_some]at C
 -- what is given
 have u:∀v,o=some v->1<=c->∃n',n'={n with out:=n.out++[v],told:=n.told.mul (Mt.sym v),dP:=n.dP++[n.told.mul (Mt.sym v)]}/\y=(⟨s.nodes.set i n',s.clock-1⟩,true)/\(∃E c',Inv (s.nodes.set i n') E c')/\Rf.corners s.nodes n'=some (l.map (Rf.fH (Mt.sym v)))/\Pg.eL (l.map (Rf.fH (Mt.sym v))) (cH (lN (code v) p0 q0 p1 q1 p2 q2 p3 q3)):=by
  intro v hv X;subst hv;simp only at C
  have hp:n.aR=false:=by
   unfold Rf.nextP at F
   cases a2:n.aR with
   |false=>rfl
   |true=>rw[a2]at F;simp at F
  unfold Rf.nextP at F;rw[hp]at F;simp only[Bool.false_eq_true,if_false]at F
  obtain⟨c0,rfl⟩:∃c0,c=c0+1:=⟨c-1,by omega⟩
  rw[if_neg (by rw[Y];omega)]at C;obtain⟨n',g1,g2,g3,g4⟩:=Rf.Yn L B hp F;unfold Rf.give at C;rw[g1,Option.map_some,Option.map_some]at C;have j:=(Ch g1).1;have hi:=(Ch g1).2
  have T:n'={n with out:=n.out++[v],told:=n.told.mul (Mt.sym v),dP:=n.dP++[n.told.mul (Mt.sym v)]}:=by
   have:=congrArg (fun x=>x[i]?) j;simp only[List.getElem?_set_self hi]at this;exact Option.some.inj this
  refine⟨n',T,(Option.some.inj C).symm,⟨rho,c0,g2⟩,?_,?_⟩
  ·rw[T];exact Pg.aHX hs.Ck v _ _
  ·rw[<-aR9];exact hs.Gb.fH _
 have M:eI o≠0->1<=s.clock->∀z∈kV (lN (eI o) p0 q0 p1 q1 p2 q2 p3 q3),Bits 10 z:=by
  intro d X
  cases o with
  |none=>exact absurd rfl d
  |some v=>
   obtain⟨n',j,T,⟨E,c',W⟩,e4,e5⟩:=u v rfl (by omega);have hi:=(List.getElem?_eq_some_iff.1 B).1
   have N:Pg.Go s.nodes (s.nodes.set i n'):=Pg.Go.set B (by rw [j]) (by
    intro r m A;rw[j];simp only
    rw[List.getElem?_append_left (List.getElem?_eq_some_iff.1 A).1];exact A) (by
    intro r m A;rw[j];simp only
    rw[List.getElem?_append_left (List.getElem?_eq_some_iff.1 A).1];exact A)
   have az:(s.nodes.set i n')[i]?=some n':=List.getElem?_set_self hi;have I:=Kw rfl e5;obtain⟨r0,s0,r1,s1,r2,s2,r3,s3,e8⟩:=eight (aNl (zs:=lN (code v) p0 q0 p1 q1 p2 q2 p3 q3) rfl);have e9:eI (some v)=code v:=rfl;rw[e9,e8];rw[e8]at I;exact nO (s:=⟨s.nodes.set i n',0⟩) W az (N.corners e4) I
 refine aLz (cd:=eI o) (xs:=n.out.map fun c=>Value.int .i64 (code c)) (g:=gO) ae (by rw[Y];omega) J (by simp;omega) ?_ ?_ ?_ M ?_
 ·intro S c1;obtain⟨_,_,_,_,_,_,_,_,_,_,_,_,_,_,_,_,_,a3⟩:=(h.still L c1).seen L B;exact a3.next hN F
 ·intro d S c1
  have a0:o=none:=by
   cases o with
   |none=>rfl
   |some v=>exact absurd d (Zs v)
  subst a0;refine(hR F S c1).mono ?_;rintro e w2⟨rfl,af⟩;exact⟨_,rfl,fun w3 c3=>⟨rfl,af.still a4 c3⟩⟩
 ·intro d ay S c1
  cases o with
  |none=>exact absurd rfl d
  |some v=>
   simp only at C;rw[if_pos (by omega)]at C;cases C;exact⟨rfl,kK.no (own':=own) (Kept.still c1)⟩
 ·intro d X S U b H a1 R hb
  cases o with
  |none=>exact absurd rfl d
  |some v=>
   obtain⟨n',j,T,⟨E,c',W⟩,e4,e5⟩:=u v rfl (by omega);subst T;have hi:=(List.getElem?_eq_some_iff.1 B).1;have p:gO=some b\/w.heap.size<=b:=hb
   have ad:∀k o,k<w.heap.size->own k=some o->(fun k=>if k=b then some (Own.gv i)else own k) k=some o:=by
    intro k o O P;simp only
    by_cases ab:k=b
    ·subst ab;rw[if_pos rfl]
     rcases p with e|e
     ·rw[(q k e).1]at P;exact P
     ·omega
    ·rw[if_neg ab];exact P
   have av:own (at1 i)=some (.nd i):=(h.nd i n B).own;refine⟨rfl,fun k=>if k=b then some (Own.gv i)else own k,Kept.Ow H ?_ ?_,fun _=>⟨at1,?_,fun _ _=>rfl⟩⟩
   ·intro k O ay a;simp at O
    rcases O with rfl|rfl|rfl
    ·rw[av]at a;cases a
    ·rfl
    ·rcases p with e|e
     ·rw[(q k e).1]at a;cases a
     ·omega
   ·intro k O a;show(if k=b then some (Own.gv i)else own k)=none;rw[if_neg]
    ·exact a
    ·rintro rfl
     rcases p with e|e
     ·rw[(q k e).1]at a;cases a
     ·omega
   ·have N:Pg.Go s.nodes (s.nodes.set i n'):=Pg.Go.set B (by rw [j]) (by
     intro r m A;rw[j];simp only
     rw[List.getElem?_append_left (List.getElem?_eq_some_iff.1 A).1];exact A) (by
     intro r m A;rw[j];simp only
     rw[List.getElem?_append_left (List.getElem?_eq_some_iff.1 A).1];exact A)
    refine h.oW L B (n':=n') (by rw[j];exact⟨rfl,rfl,rfl,rfl,rfl,rfl,rfl,rfl,rfl,rfl,rfl⟩) (by rw[j];exact(h.nd i n B).hc.give v) N H ?_ ad hs.cD (Or.inl ⟨by rw[j],rfl⟩) (zs':=kV (lN (code v) p0 q0 p1 q1 p2 q2 p3 q3)) (gv':=U) (by rw[j];exact a1) ?_ e4 (Kw rfl e5)
    ·intro k O;simp at O
     rcases O with rfl|rfl|rfl
     ·exact Or.inl rfl
     ·exact Or.inr (Or.inl rfl)
     ·rcases p with e|e
      ·refine Or.inr (Or.inr (Or.inl ⟨(q k e).1,fun cs ty m ax=>?_⟩));subst e;obtain⟨ds,aa⟩:=J.ty;rw[ax]at aa;exact(Obj.cells.inj (Option.some.inj aa)).2.1
      ·exact Or.inr (Or.inr (Or.inr e))
    ·rw[j];simp only;refine gB.aVg (b:=b) (by rw[List.map_append];exact R) (by simp) ?_
     rcases p with e|e
     ·exact(q b e).2
     ·omega
end
section
variable {w w' w'':World} {b0 fb:Nat} {own own':Nat->Option Own} {at1 at2:Nat->Nat} {D:List Nat} {i:Nat} {n n':Nd} {s:Rf.St} {rho:Nat->Nat} {c:Nat}
abbrev uA (w:World)(b0:Nat)(own:Nat->Option Own)(at1:Nat->Nat)(fb len:Nat)(y:Rf.St×Bool)(e:Ending)(w':World):Prop:=e=.returned (.bool y.2)/\kK w b0 own at1 fb len y.2 y.1 w'
theorem yE {ns:List Nd}(e:ns[i]?=some n)(a:n'.pos=n.pos)(b:n'.dP=n.dP)(d:n'.out=n.out):Pg.Go ns (ns.set i n'):=Pg.Go.set e a (fun r m h=>by rw[b];exact h) (fun r m h=>by rw[d];exact h)
theorem Om (h:Net w b0 own at1 fb s)(f:s.nodes[i]?=some n)(hc:Chg w w' [at1 i,fb]):Kept w w' own own fb:=by
 refine Kept.Ow hc ?_ fun _ _ e=>e
 intro k b d a;simp at b
 rcases b with rfl|rfl
 ·rw[(h.nd i n f).own]at a;cases a
 ·rfl
theorem aUD {f:Nat}(h:Net w b0 own at1 fb s)(ag:s.clock=(c:Int))(a9:c<=3000)(W:Inv s.nodes rho c)(p:s.nodes[i]?=some n)(M:n.t=[]){y:Rf.St×Bool}(hy:Rf.reads (Rf.sym f) s i n=some y):
  Calls prog 99 #[aA (at1 i),aA fb] w (uA w b0 own at1 fb s.nodes.length y):=by
 have hN:=W.at' i n p;have hi:=(List.getElem?_eq_some_iff.1 p).1;obtain⟨p0,q0,p1,q1,p2,q2,p3,q3,mt,pl,gv,cv,nv,l,g,cc,nn,v⟩:=h.seen W p;obtain⟨z,cb,I,q⟩:=v.cD.fI M;have bb:=hN.ku;obtain⟨B,N,O,P,S,J,r,ah,F⟩:=q.mat n.k (by omega);unfold Rf.reads at hy;rw[if_pos M,r,Option.bind_some]at hy;obtain⟨bf,u,A⟩:=Option.map_eq_some_iff.1 hy;have aj:=(Ch u).1;subst aj;have L:=h.sY v
 have x:1<=s.clock->∃n',n'={n with part:=n.part.mul (Pg.wB B ⟨N,O,P,S⟩),k:=n.k+1}/\y=(⟨s.nodes.set i n',s.clock-1⟩,true)/\(∃o Y,Inv (s.nodes.set i n') o Y)/\∃X,Rf.corners s.nodes n'=some X/\Pg.eL X (cH (kJ N O P S p0 q0 p1 q1 p2 q2 p3 q3)):=by
  intro j
  obtain⟨c0,rfl⟩:∃c0,c=c0+1:=⟨c-1,by omega⟩
  obtain⟨m,n2,m1,m2,m3,m4,m5⟩:=Rf.aJb W p M;rw[r]at m1;cases m1;rw[u]at m2;have E:=m3;rw[<-(Option.some.inj m2)]at E;obtain⟨pp,qq,hl,H⟩:=Pg.aH1 (ns:=s.nodes) M v.Ck (Pg.wB B ⟨N,O,P,S⟩) (n.k+1);refine⟨_,rfl,?_,⟨rho,c0,E⟩,_,H,?_⟩
  ·rw[<-A];congr 1;exact decide_eq_true (by omega)
  ·rw[<-Zk];have a:=v.Gb;rw[hl]at a;exact a.Jl _ J
 refine aIv (cb:=cb) (by rw[<-I];exact(v.cD.nd.cell rfl).1) ?_;refine(aD9 (R:=fun e w'=>∃b,e=.returned (.bool b)/\uA w b0 own at1 fb s.nodes.length y (.returned (.bool b)) w') L I q.cD (by rw[ag];omega) (by rw[z];omega) (by rw[z];omega) ah (by rw[z];exact F) ?_ ?_ ?_)
 ·intro j w1 c1;refine⟨false,rfl,?_,?_⟩
  ·rw[<-A];simp only;rw[decide_eq_false (by omega)]
  ·have:y.2=false:=by
    rw[<-A];exact decide_eq_false (by omega)
   rw[this];exact kK.no (Kept.still (own:=own) c1)
 ·intro j;obtain⟨n',d,e2,⟨o,Y,C⟩,X,e4,e5⟩:=x j;have ai:(s.nodes.set i n')[i]?=some n':=List.getElem?_set_self hi;have a:=Kw rfl e5;obtain⟨r0,s0,r1,s1,r2,s2,r3,s3,e8⟩:=eight (aNl (zs:=kJ N O P S p0 q0 p1 q1 p2 q2 p3 q3) rfl);rw[e8];rw[e8]at a;exact nO (s:=⟨s.nodes.set i n',0⟩) C ai ((yE (n':=n') p (by rw[d]) (by rw[d]) (by rw[d])).corners e4) a
 ·intro j w1 c1 ak;obtain⟨n',d,e2,⟨o,Y,C⟩,X,e4,e5⟩:=x j;subst e2;refine⟨true,rfl,rfl,own,Om h p c1,fun _=>⟨at1,?_,fun _ _=>rfl⟩⟩;refine h.oW W p (n':=n') (own':=own) (by rw[d];exact⟨rfl,rfl,rfl,rfl,rfl,rfl,rfl,rfl,rfl,rfl,rfl⟩) ((h.nd i n p).hc.of (by rw[d]) (by rw[d]) (by rw[d])) (yE p (by rw[d]) (by rw[d]) (by rw[d])) c1 ?_ (fun _ _ _ e=>e) v.cD (Or.inr ⟨M,by rw[d],rfl⟩) (zs':=kV (kJ N O P S p0 q0 p1 q1 p2 q2 p3 q3)) (gv':=gv) (by rw[d];exact ak) ?_ e4 (Kw rfl e5)
  ·intro k hk;simp at hk
   rcases hk with rfl|rfl
   ·exact Or.inl rfl
   ·exact Or.inr (Or.inl rfl)
  ·rw[d];obtain⟨gO,a1,ba⟩:=v.cD.Ag.row
   rcases v.cD.Ag with⟨g1,U⟩|⟨g',aa,T,g1,U,g3,g4,g5,g6⟩
   ·exact Or.inl ⟨g1,U⟩
   ·refine Or.inr ⟨g',aa,T,g1,c1.at U ?_,g3,g4,g5,g6⟩;intro hm;simp at hm
    rcases hm with rfl|rfl
    ·rw[(h.nd i n p).own]at g5;cases g5
    ·have:=h.fuel;rw[U]at this;exact absurd (Obj.cells.inj (Option.some.inj this)).2.1 (by decide)
variable {x:Rf.St×Option Int}
theorem Xo {f:Nat}(v:nL f)(h:Net w b0 own at1 fb s)(g:b0<=w.heap.size)(k:s.clock=(c:Int))(j:c<=3000)(u:Inv s.nodes rho c){a r:Nat}{y:Nd}(l:s.nodes[a]?=some y)(A:r<=y.out.length)(z:c+rho a+2<=f)(B:Rf.sym f s a r=some x):
  ∀o,Chg w o []->Calls prog 45 #[.agg #[aA (at1 a),.int .i64 r],aA fb] o fun e p=>∃q,e=.returned (.int .i64 q)/\q=eI x.2/\kK w b0 own at1 fb s.nodes.length x.2.isSome x.1 p:=by
 intro o c1
 refine aEY fun p c2=>?_
 have b:=c1.trans c2;refine(v p b0 fb own at1 s rho c a r y x (h.still u b) (Nat.le_trans g b.on.size) k j u l A z B).mono ?_;rintro e C⟨rfl,d⟩;exact⟨_,rfl,_,rfl,rfl,kK.after (Kept.still b) (fun _ _=>rfl) (Nat.le_refl _) d⟩
theorem aQJ {T:World}{a r p:Nat}{y:Rf.St×Bool}(h:Net w b0 own at1 fb s)(hn:s.nodes[i]?=some n)(aj:c<=3000)(H:kK w b0 own at1 fb s.nodes.length x.2.isSome x.1 T)(B:Rf.eN s rho c a r x)(ra:rho a<rho i)(I:∀v,x.2=some v->∃n',x.1.nodes[a]?=some n'/\n'.out[r]?=some v)
  (U:(match x.2 with|none=>some (x.1,false)|some _=>Rf.after x.1 i p)=some y)
  {K:Int->Int->Int->Int->Int->Int->Int->Int->Bool->Int->Int->Int->Int->Int->Int->Value->Value->Value->Value->Value->Prop}
  (hK:∀v d at2 o c2 W L O p1 P M R p3 S mt N gv C J l g X nn,x.2=some v->Kept w T own d fb->Net T b0 d at2 fb x.1->(∀a,a<s.nodes.length->at2 a=at1 a)->x.1.clock=((c2+1:Nat):Int)->c2+1<=c->Inv x.1.nodes o (c2+1)->x.1.nodes[i]?=some n->x.1.nodes[a]?=some W->W.out[r]?=some v->Seen T b0 d at2 x.1.nodes i n L O p1 P M R p3 S mt N gv C J l g X nn->Rf.gN s.nodes rho a x.1.nodes o->K L O p1 P M R p3 S (!n.pos) (fL n) mt (gX n) (fY n) N x.1.clock (eS at2 (lArg n)) (eS at2 (rArg n)) gv C J):
  yS T (at1 i) fb (eI x.2) (fun e w'=>∃b,e=.returned (.bool b)/\uA w b0 own at1 fb s.nodes.length y (.returned (.bool b)) w') K:=by
 obtain⟨d,f,F⟩:=H;refine⟨fun q w3 c3=>?_,fun q=>?_⟩
 ·have u:x.2=none:=by
   cases u:x.2 with
   |none=>rfl
   |some v=>rw[u]at q;exact absurd q (Zs v)
  rw[u]at U;cases U;exact⟨false,rfl,rfl,kK.no (f.trans (Kept.still c3))⟩
 ·obtain⟨v,u⟩:∃v,x.2=some v:=by
   cases u:x.2 with
   |none=>rw[u]at q;exact absurd rfl q
   |some v=>exact⟨v,rfl⟩
  obtain⟨at2,k,E⟩:=F (by rw[u];rfl);obtain⟨o,c2,y1,y2,y3,y4,n',y5,y6⟩:=B.ex v u;obtain⟨W,k1,k2⟩:=I v u;have hi:=(List.getElem?_eq_some_iff.1 hn).1;have z:x.1.nodes[i]?=some n:=y4.same i n hn ra;have Y:=y3.at' i n z;obtain⟨L,O,p1,P,M,R,p3,S,mt,N,gv,C,J,l,g,X,nn,hs⟩:=k.seen y3 z;rw[u]at U;obtain⟨ab,ah⟩:=Rf.Xc z U
  have hu:∀j,n.read.getD j 0<=1000000:=by
   intro j;rw[List.getD_eq_getElem?_getD]
   cases e:n.read[j]? with
   |none=>simp
   |some r=>have:=Y.jE r (List.mem_of_getElem? e);simp;omega
  have al:gX n<=1000000:=by unfold gX;split;exact hu 0;omega
  have am:fY n<=1000000:=by
   unfold fY;split
   ·exact hu 1
   ·split
    ·exact hu 0
    ·omega
  have A:=k.sY hs;rw[E i hi]at A;refine⟨L,O,p1,P,M,R,p3,S,_,_,mt,_,_,N,_,_,_,gv,C,J,A,by rw[y2];omega,by omega,by omega,by omega,by omega,fun aa w3 c3=>?_,fun ak=>?_⟩
  ·have:=ab aa;refine⟨false,rfl,by rw[this],?_⟩;rw[this];exact kK.no (f.trans (Kept.still c3))
  ·obtain⟨c3,rfl⟩:∃c3,c2=c3+1:=⟨c2-1,by omega⟩
   exact hK v d at2 o c3 W L O p1 P M R p3 S mt N gv C J l g X nn u f k E y2 y1 y3 z k1 k2 hs y4
end
section
variable {w w2:World} {b0 fb:Nat} {own own2:Nat->Option Own} {at1 at2:Nat->Nat} {i:Nat} {n:Nd} {s s2:Rf.St} {rho rho2:Nat->Nat} {c c2:Nat}
theorem gB.Om {out:List Int}(h:gB w b0 own i out gv)(a:Net w b0 own at1 fb s)(q:s.nodes[i]?=some n)(c1:Chg w w2 [at1 i,fb]):gB w2 b0 own i out gv:=by
 rcases h with⟨f,d⟩|⟨k,e,b,f,d,l,o,g,p⟩
 ·exact Or.inl ⟨f,d⟩
 ·refine Or.inr ⟨k,e,b,f,c1.at d ?_,l,o,g,p⟩;intro j;simp at j
  rcases j with rfl|rfl
  ·rw[(a.nd i n q).own]at g;cases g
  ·have:=a.fuel;rw[d]at this;exact absurd (Obj.cells.inj (Option.some.inj this)).2.1 (by decide)
variable {a r:Nat}
theorem aKL {w:Nat}{y:Nd}{v:Int}(h:Net w2 b0 own2 at2 fb s2)(I:Inv s2.nodes rho2 (c2+1))(p:s2.nodes[i]?=some n){x l p1 o C E p3 U O:Int}{f u:Value}{b:List Rf.V}{g:Option (Nat×Nat)}{T:Option Nat}(L:Seen w2 b0 own2 at2 s2.nodes i n x l p1 o C E p3 U mt O gv f u b g M T)(P:n.args[w]?=some a)(S:n.read[w]?=some r)(F:s2.nodes[a]?=some y)(hv:y.out[r]?=some v){B:List Int}{N:List Rf.V}(h8:B.length=8)(j:Rf.corners s2.nodes {n with read:=Rf.bump n.read w}=some N)(d:Pg.eL N (cH B)):
  (∀z∈kV B,Bits 10 z)/\Inv (s2.nodes.set i {n with read:=Rf.bump n.read w}) rho2 c2/\∀D,Chg w2 D [at2 i,fb]->Pos2 D (at2 i) fb (kV B) (!n.pos) (fL n) mt (gX {n with read:=Rf.bump n.read w}) (fY {n with read:=Rf.bump n.read w}) O (s2.clock-1) (eS at2 (lArg n)) (eS at2 (rArg n)) gv f u->Net D b0 own2 at2 fb ⟨s2.nodes.set i {n with read:=Rf.bump n.read w},s2.clock-1⟩:=by
 have hi:=(List.getElem?_eq_some_iff.1 p).1;have q:=Rf.aPU I p P S F (List.getElem?_eq_some_iff.1 hv).1;have A:Pg.Go s2.nodes (s2.nodes.set i {n with read:=Rf.bump n.read w}):=yE p rfl rfl rfl;refine⟨?_,q,fun D c3 R=>?_⟩
 ·have d:=Kw h8 d;obtain⟨X,s0,Y,s1,r2,W,r3,s3,H⟩:=eight (aNl h8);rw[H];rw[H]at d;exact nO (s:=⟨s2.nodes.set i {n with read:=Rf.bump n.read w},0⟩) q (List.getElem?_set_self hi) (A.corners j) d
 ·refine h.oW I p (n':={n with read:=Rf.bump n.read w}) (own':=own2) ⟨rfl,rfl,rfl,rfl,rfl,rfl,rfl,rfl,rfl,rfl,rfl⟩ ((h.nd i n p).hc.of rfl rfl rfl) A c3 ?_ (fun _ _ _ e=>e) L.cD (Or.inl ⟨rfl,rfl⟩) (zs':=kV B) (gv':=gv) R (L.cD.Ag.Om h p c3) j (Kw h8 d);intro k J;simp at J
  rcases J with rfl|rfl
  ·exact Or.inl rfl
  ·exact Or.inr (Or.inl rfl)
variable {v u:Rf.V}
theorem aPt {x y:Rf.V}(d:n.t=[v,u,x,y])(a:n.read[0]?=some r):(gX {n with read:=Rf.bump n.read 0}:Int)=gX n+1/\fY {n with read:=Rf.bump n.read 0}=fY n:=by
 unfold gX fY;simp only[d]
 cases b:n.read with
 |nil=>rw[b]at a;simp at a
 |cons e f=>simp[Rf.bump]
theorem aPQ {x y:Rf.V}(b:n.t=[v,u,x,y])(a:n.read[1]?=some r):(fY {n with read:=Rf.bump n.read 1}:Int)=fY n+1/\gX {n with read:=Rf.bump n.read 1}=gX n:=by
 unfold gX fY;simp only[b]
 match hd:n.read with
 | []=>rw[hd]at a;simp at a
 | [_]=>rw[hd]at a;simp at a
 |r0::d::e=>simp[Rf.bump]
theorem aQq (d:n.t=[v,u])(a:n.read[0]?=some r):(fY {n with read:=Rf.bump n.read 0}:Int)=fY n+1/\gX {n with read:=Rf.bump n.read 0}=gX n:=by
 unfold gX fY;simp only[d]
 cases b:n.read with
 |nil=>rw[b]at a;simp at a
 |cons e f=>simp[Rf.bump]
variable {y:Rf.St×Bool}
theorem aSg {f:Nat}(hS:nL f)(h:Net w b0 own at1 fb s)(Y:b0<=w.heap.size)(H:s.clock=(c:Int))(z:c<=3000)(P:Inv s.nodes rho c)(R:s.nodes[i]?=some n)(hf:c+rho i+1<=f){x' y':Rf.V}(S:n.t=[v,u,x',y'])(hp:n.aR=false)(D:n.args[0]?=some a)(E:n.read[0]?=some r){x:Rf.St×Option Int}(hx:Rf.sym f s a r=some x)(hy:(match x.2 with|none=>some (x.1,false)|some _=>Rf.after x.1 i 0)=some y):
  Calls prog 120 #[aA (at1 i),aA fb] w fun e w'=>∃b,e=.returned (.bool b)/\uA w b0 own at1 fb s.nodes.length y (.returned (.bool b)) w':=by
 have W:=P.at' i n R;have hi:=(List.getElem?_eq_some_iff.1 R).1;obtain⟨la,ra⟩:=W.arg 0 a D;have o:s.nodes[a]?=some s.nodes[a]:=List.getElem?_eq_getElem la;obtain⟨x0,O,B⟩:=Rf.total f s a r rho c H z P _ o (W.rd 0 a r _ D E o) (by omega);rw[hx]at O;cases O
 have N:∀v,x.2=some v->∃n',x.1.nodes[a]?=some n'/\n'.out[r]?=some v:=fun v e=>Rf.Ut f s a r x.1 v (by rw[hx];cases x;simp only at e;rw[e])
 obtain⟨p0,q0,p1,q1,p2,q2,p3,q3,mt,pl,gv,cv,nv,l,g,cc,nn,hs⟩:=h.seen P R
 have aa:lArg n=some a:=by unfold lArg;rw[S];exact D
 have ab:gX n=r:=by unfold gX;rw[S];simp[List.getD_eq_getElem?_getD,E]
 refine aGd (h.sY hs) fun w1 c1=>?_
 rw[aa,ab];refine(Xo hS h Y H z P o (W.rd 0 a r _ D E o) (by omega) hx w1 c1).mono ?_;rintro e w2⟨cd,rfl,rfl,M⟩;refine⟨_,rfl,aQJ h R z M B ra N hy ?_⟩;intro v own2 at2 rho2 c2 xa p0 q0 p1 q1 p2 q2 p3 q3 mt pl gv cv nv l g cc nn hv hk j F I au U A k q C ai;have ae:=(j.nd a xa k).hc;obtain⟨pp,qq,ss,tt,hl,J⟩:=Pg.aHY S C.Ck D k E q ae;have p:=C.Gb;rw[hl]at p;have d:=p.tA (Mt.sym v);obtain⟨h1,h2,h3,h4⟩:=Tm v
 have e0:Mt.sym v=⟨iK (code v),iL (code v),iM (code v),iN (code v)⟩:=by rw[h1,h2,h3,h4]
 rw[e0,aPT,<-e0]at d;obtain⟨k1,k2,k3⟩:=aKL j U A C D E k q rfl J d
 have T:eI x.2=code v:=by rw[hv];rfl
 rw[T];refine⟨k1,fun w3 c3 L=>?_⟩;rw[hv]at hy;obtain⟨a2,t1,t2⟩:=(Rf.Xc A hy).2 (by rw[I];omega);unfold Rf.settle at t1;rw[if_neg (by simp[hp])]at t1;cases t1;subst t2;have X:=F i hi;rw[<-X]at c3 L;obtain⟨b1,b2⟩:=aPt S E;refine⟨true,rfl,rfl,own2,hk.trans (Om j A c3),fun _=>⟨at2,k3 w3 c3 ?_,F⟩⟩;rw[b1,b2];exact L
def gQ:Prop:=∀(w:World) (b0 fb:Nat) (own:Nat->Option Own) (at1:Nat->Nat) (s:Rf.St) (rho:Nat->Nat) (c i:Nat) (n:Nd) (a:List Nd),Net w b0 own at1 fb s->b0<=w.heap.size->c<=3000->Inv s.nodes rho c->s.nodes[i]?=some n->Rf.settle s.nodes i n=some a->
 Calls prog 154 #[aA (at1 i)] w fun e b=>∃v,e=.returned v/\kK w b0 own at1 fb s.nodes.length true ⟨a,s.clock⟩ b
theorem aVW (h:Net w b0 own at1 fb s){x:Nd}(f:s.nodes[i]?=some n)(g:s.nodes[a]?=some x)(b:a≠i):at1 a≠at1 i:=by
 intro e;have d:=(h.nd a x g).own;rw[e,(h.nd i n f).own]at d;cases d;exact b rfl
theorem aIx {f:Nat}(af:gQ)(h:Net w b0 own at1 fb s)(ag:b0<=w.heap.size)(ah:c<=3000)(hn:s.nodes[i]?=some n){W:Nat}(ha:n.args[W]?=some a)(I:n.read[W]?=some r)(ra:rho a<rho i)(ak:(∃v u,n.t=[v,u]/\W=0)\/(∃v u x y,n.t=[v,u,x,y]/\n.args.length=2/\W=1))(aj:n.aR=true->W=0){x:Rf.St×Option Int}(X:(match x.2 with|none=>some (x.1,false)|some _=>Rf.after x.1 i W)=some y)(R:kK w b0 own at1 fb s.nodes.length x.2.isSome x.1 w2)(F:Rf.eN s rho c a r x)(S:∀v,x.2=some v->∃n',x.1.nodes[a]?=some n'/\n'.out[r]?=some v):
  Js w2 (at1 i) fb (eI x.2) fun e w'=>∃b,e=.returned (.bool b)/\uA w b0 own at1 fb s.nodes.length y (.returned (.bool b)) w':=by
 have hi:=(List.getElem?_eq_some_iff.1 hn).1;refine aQJ h hn ah R F ra S X ?_;intro v own2 at2 rho2 c2 xa p0 q0 p1 q1 p2 q2 p3 q3 mt pl gv cv nv l g cc nn hv hk A M C a4 J z o p B O;have U:=(A.nd a xa o).hc;obtain⟨h1,h2,h3,h4⟩:=Tm v
 have e0:Mt.sym v=⟨iK (code v),iL (code v),iM (code v),iN (code v)⟩:=by rw[h1,h2,h3,h4]
 have ad:eI x.2=code v:=by rw[hv];rfl
 rw[ad]
 obtain⟨l',k,j,b1,b2⟩:∃l',Rf.corners x.1.nodes {n with read:=Rf.bump n.read W}=some l'/\Pg.eL l' (cH (kJ (iK (code v)) (iL (code v)) (iM (code v)) (iN (code v)) p0 q0 p1 q1 p2 q2 p3 q3))/\(fY {n with read:=Rf.bump n.read W}:Int)=fY n+1/\gX {n with read:=Rf.bump n.read W}=gX n:=by
  have j:=B.Gb
  rcases ak with⟨v',u',T,rfl⟩|⟨v',u',x',y',T,D,rfl⟩
  ·obtain⟨pp,qq,hl,k⟩:=Pg.aJf T B.Ck ha o I p U;rw[hl]at j;have d:=j.Be (Mt.sym v);rw[e0,Zk,<-e0]at d;exact⟨_,k,d,aQq T I⟩
  ·obtain⟨pp,qq,ss,tt,hl,k⟩:=Pg.aGX T D B.Ck ha o I p U;rw[hl]at j;have d:=j.oG (Mt.sym v);rw[e0,Zk,<-e0]at d;exact⟨_,k,d,aPQ T I⟩
 obtain⟨k1,k2,k3⟩:=aKL A J z B ha I o p rfl k j;refine⟨k1,fun w3 c3 P=>?_⟩;rw[hv]at X;obtain⟨am,t1,t2⟩:=(Rf.Xc z X).2 (by rw[C];omega);have L:=M i hi;rw[<-L]at c3 P;have E:=k3 w3 c3 (by rw[b1,b2];exact P)
 have D:x.1.nodes.length=(x.1.nodes.set i {n with read:=Rf.bump n.read W}).length:=by simp
 have q:=hk.trans (Om A z c3);rw[<-L];refine(af w3 b0 fb own2 at2 _ rho2 c2 i {n with read:=Rf.bump n.read W} am E (Nat.le_trans ag q.on.size) (by omega) k2 (List.getElem?_set_self (List.getElem?_eq_some_iff.1 z).1) t1).mono ?_;rintro e w4⟨vv,rfl,H⟩;refine⟨vv,rfl,fun w5 c5=>⟨true,rfl,by rw[t2],?_⟩⟩;obtain⟨s3,b3,z1,z2⟩:=Rf.Yj C J (by omega) z ha I o (List.getElem?_eq_some_iff.1 p).1 aj;simp only at X;rw[X]at z1;cases z1
 have ae:b3=true->∃rho c,Inv s3.nodes rho c:=fun e=>by
  obtain⟨Y,c',_,_,h',_⟩:=z2 e;exact⟨Y,c',h'⟩
 cases t2
 have N:s.nodes.length<=(x.1.nodes.set i {n with read:=Rf.bump n.read W}).length:=by
  rw[<-D];exact O.le.len
 exact(kK.after q M N H).still ae c5
end
end Ab
end Go.Proofs.YtkmojpfpfoaloaaGreatDoor
