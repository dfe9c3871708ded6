import Derived.Test.YthhffdeihoofiaaGreatDoorCFu06
set_option linter.all false
set_option maxRecDepth 100000
set_option maxHeartbeats 2000000
namespace Go.Proofs.YthhffdeihoofiaaGreatDoor
open List (getElem?_map getElem?_append_right getElem?_set_self getElem?_append_left getElem?_eq_getElem getElem?_set_ne)
open Nat (le_trans le_refl zero_add lt_trans)
open Option (map_some)
open Rf (V nextP Yz bump)
open Pg (eO iQ rd2 sc iC HC wM gY)
open Go.Proofs.Tryz
open Go.RowKit
namespace Ab
noncomputable def lC:List Int->List Int
 | [a,b,c,d,e,f,g,h]=>let t:=tw8 a b c d e f g h
  [hv t a,hv t b,hv t c,hv t d,hv t e,hv t f,hv t g,hv t h]
 |_=>[]
noncomputable def lV (cd p0 q0 p1 q1 p2 q2 p3 q3:Int):LN:=[gV cd*p0-gQ cd*q0,gN cd*q0-gU cd*p0,gV cd*p1-gQ cd*q1,gN cd*q1-gU cd*p1,gV cd*p2-gQ cd*q2,gN cd*q2-gU cd*p2,gV cd*p3-gQ cd*q3,gN cd*q3-gU cd*p3]
section
variable (p0 q0 p1 q1 p2 q2 p3 q3:Int) (hs:Bool) (uns mt lr rr pl c cd:Int) (lp rp cst nst gv gv2:Value)
def mW (a:List AT):AS:=sW [p0,q0,p1,q1,p2,q2,p3,q3] hs uns mt lr rr pl c (.lit lp) (.lit rp) (.lit cst) (.lit nst) (.lit gv) [] a
noncomputable def Ru:AS:=⟨slot [(27,P0),(31,litT gv),(33,.val (.one (.slc 19 0 1 1)))] 0 37,[(0,yF hs uns mt lr rr pl (.lit lp) (.lit rp) (.lit cst) (.lit nst) (.lit gv)),(6,uH (IntKind.i64.wrap (c-1))),(19,⟨[.sint .i64 cd],110,true,true,true⟩)],20,(lC (lV cd p0 q0 p1 q1 p2 q2 p3 q3)).map fun z=>(z,19),[6,0]⟩
theorem aVG:(run Z (aD tN) bW (aK Z (aD tN)) (lN (aF 148)) 400 [.code (aE f129),.top f129] (mW p0 q0 p1 q1 p2 q2 p3 q3 hs uns mt lr rr pl c lp rp cst nst gv (nE 35))).bind (eD (eX [0,6] [] 7 []) (eX [0,6] [0,1,6] 7 []))
  = some (.stp (dY (aF 148) f129) (mW p0 q0 p1 q1 p2 q2 p3 q3 hs uns mt lr rr pl c lp rp cst nst gv (slot [(0,P0),(1,P6),(6,P0)] 0 37))):=by kernel_rfl
theorem aVH:(run Z (aD tN) bW (aK Z (aD tN)) (lN (fun o=>aF 149 o||tE o)) 400 (fJ (aF 148) f129) (mW p0 q0 p1 q1 p2 q2 p3 q3 hs uns mt lr rr pl c lp rp cst nst gv (slot [(0,P0),(1,P6),(7,cB cd)] 0 37))).bind (eD (eX [0,6] [] 7 []) (Ku [0,6,19] [27,31,33] 20 [0,6] [10,11] 7))
  = some (.br (decide (cd=0)) (.stp (dY (aF 149) f129) (mW p0 q0 p1 q1 p2 q2 p3 q3 hs uns mt lr rr pl c lp rp cst nst gv (slot [(10,P0),(11,P6)] 0 37))) (.br (decide (c<1)) (.ret (.val (.one (.bool false))) (mW p0 q0 p1 q1 p2 q2 p3 q3 hs uns mt lr rr pl c lp rp cst nst gv (slot [] 0 37))) (.stp (dY tE f129) (Ru p0 q0 p1 q1 p2 q2 p3 q3 hs uns mt lr rr pl c cd lp rp cst nst gv)))):=by kernel_rfl
theorem aVI:(run Z (aD tN) bW (aK Z (aD tN)) (fun _=>false) 400 (fJ tE f129) (mW p0 q0 p1 q1 p2 q2 p3 q3 hs uns mt lr rr pl c lp rp cst nst gv (slot [(27,P0),(34,litT gv2)] 0 37))).bind (eD (eX [0,6] [] 7 []) (eX [0,6] [] 7 []))
  = some (.ret (.val (.one (.bool true))) ⟨slot [] 0 37,[(0,yF hs uns mt lr rr pl (.lit lp) (.lit rp) (.lit cst) (.lit nst) (.lit gv2)),(6,uH c)],7,[(p0,10),(q0,10),(p1,10),(q1,10),(p2,10),(q2,10),(p3,10),(q3,10)],[0]⟩):=by kernel_rfl
theorem aVJ (b:Bool):(run Z (aD tN) bW (aK Z (aD tN)) (fun _=>false) 400 (fJ (aF 149) f129) ⟨slot [(12,.val (.one (.sbool b)))] 0 37,[],0,[],[]⟩).bind (eD (eX [] [] 0 []) (eX [] [] 0 []))
  = some (.ret (.val (.one (.sbool b))) ⟨slot [] 0 37,[],0,[],[]⟩):=by kernel_rfl
end
variable {k fb:Nat}{f:PH}
theorem pQ (a:f.contains 0=true)(d:f.contains 6=true):∀b x,phW k fb (fun _=>none) b=some x->f.contains b=true:=by
 intro b x h;unfold phW at h;split at h
 ·subst_vars;exact a
 ·split at h
  ·subst_vars;exact d
  ·split at h<;>cases h
variable {w':World}{q I:LI}{s:AS}
theorem qN {w:World}(d:RepW Z w q I s w')(e:s.dirty=[]):Chg w w' []:=⟨d.on,fun j f _=>d.low j f fun b a=>by rw[e]at a;cases a⟩
theorem Vh {w:World}(a:List AT):RepW Z w (fun _=>none) (fun _=>none) ⟨a,[],0,[],[]⟩ w:=
 Wv rfl (fun b B h=>by simp[look]at h) (fun b e B d k o f h=>by simp[look]at h) (fun _ _=>rfl) (fun b k o h=>by cases h)
structure Pos2 (w:World) (k fb:Nat) (zs:LN) (hs:Bool) (uns mt lr rr pl c:Int) (lp rp gv cv nv:Value):Prop where
 nd:NodeAt w k zs hs uns mt lr rr pl lp rp gv cv nv
 fu:w.heap[fb]?=some (.cells #[.int .i64 c] 143 (0,0))
 bits:∀z∈zs,Bits 10 z
 h8:zs.length=8
 o1:One lp
 o2:One rp
 o3:One gv
 o4:One cv
 o5:One nv
section
variable {w w':World} {k fb:Nat} {zs:LN} {hs:Bool} {uns mt lr rr pl c:Int} {lp rp gv cv nv:Value}
theorem Pos2.rep (h:Pos2 w k fb zs hs uns mt lr rr pl c lp rp gv cv nv)(a:List AT):RepW Z w (phW k fb fun _=>none) (phW k fb fun _=>none) (sW zs hs uns mt lr rr pl c (.lit lp) (.lit rp) (.lit cv) (.lit nv) (.lit gv) [] a) w:=
 aRI (lpC:=.lit lp) (rpC:=.lit rp) (gvC:=.lit gv) (cvC:=.lit cv) (nvC:=.lit nv) h.nd h.h8 h.bits h.fu ⟨rfl,h.o1⟩ ⟨rfl,h.o2⟩ ⟨rfl,h.o3⟩ ⟨rfl,h.o4⟩ ⟨rfl,h.o5⟩ (fun b B e=>by simp[look]at e) (fun b d o e=>by cases e) a
theorem Pos2.aS (h:Pos2 w k fb zs hs uns mt lr rr pl c lp rp gv cv nv)(hc:Chg w w' []):Pos2 w' k fb zs hs uns mt lr rr pl c lp rp gv cv nv:=
 ⟨h.nd.aS hc.on (hc.low _ h.nd.lt (by simp)),hc.at h.fu (by simp),h.bits,h.h8,h.o1,h.o2,h.o3,h.o4,h.o5⟩
theorem Pos2.out (h:Pos2 w k fb zs hs uns mt lr rr pl c lp rp gv cv nv)(u:RepW Z w (phW k fb fun _=>none) q s w'){zs':LN}{hs':Bool}{uns' mt' lr' rr' pl' c':Int}{lp' rp' gv' cv' nv':Value}(o:look s.boxes 0=some (yF hs' uns' mt' lr' rr' pl' (.lit lp') (.lit rp') (.lit cv') (.lit nv') (.lit gv')))(p:look s.boxes 6=some (uH c'))(h8:zs'.length=8)(v:∀(j:Nat) (z:Int),zs'[j]?=some z->∃b,s.nums[j]?=some (z,b))(r:∀z∈zs',Bits 10 z):Pos2 w' k fb zs' hs' uns' mt' lr' rr' pl' c' lp' rp' gv' cv' nv':=by
 obtain⟨⟨x,A,gv2,a,y,d,⟨rfl,e⟩,⟨rfl,f⟩,⟨rfl,g⟩,⟨rfl,i⟩,⟨rfl,l⟩⟩,n⟩:=aOx (ns:=[]) u o p (h.nd.shape h.h8) (Zq h.fu) h8 v;exact⟨d,n,r,h8,e,f,g,i,l⟩
end
variable {zs:LN}
theorem Og {w:Nat}:∀(j:Nat) (z:Int),zs[j]?=some z->∃b,(zs.map fun z=>(z,w))[j]?=some (z,b):=fun j z h=>⟨w,by rw[getElem?_map,h];rfl⟩
variable {w:World}{e:TypeId}{i:LB}{C:ON}
theorem RowOf.aS {v:Value}(h:RowOf w e i v C)(hc:Chg w w' f)(q:∀b,C=some b->b∉f):RowOf w' e i v C:=by
 rcases h with h|⟨b,d,a,j,l,n,o,p⟩
 ·exact Or.inl h
 ·exact Or.inr ⟨b,d,a,j,l,hc.at n (q b j),o,p⟩
theorem RowOf.ty {x:Value}{b:Nat}(h:RowOf w e i x (some b)):∃cs:LB,w.heap[b]?=some (.cells cs.toArray e (0,0)):=by
 rcases h with⟨_,_,e⟩|⟨j,d,a,f,l,g,n,o⟩
 ·cases e
 ·cases f;exact⟨_,g⟩
theorem RowOf.one {v:Value}(h:RowOf w e i v C):One v:=by
 rcases h with⟨rfl,_⟩|⟨d,b,a,f,rfl,j,l,n⟩<;>rfl
theorem aQA:∃i d,Z.P.info? 110=some i/\i.bytes<=1000000/\(∀w,(zeroValue 110).run Z.P w=.ok d w)/\d.cells.size=1:=by
 have h:(Z.P.info? 110).map (fun i=>(i.bytes,i.zero))=some (8,some (.int .i64 0)):=by kernel_rfl
 obtain⟨i,b,a⟩:=Option.map_eq_some_iff.1 h;simp only[Prod.mk.injEq]at a;obtain⟨e,f⟩:=a;exact⟨i,.int .i64 0,b,by rw[e];decide,fun w=>by simp[zeroValue,typeInfo,b,f],rfl⟩
variable {q3 mt pl:Int}{gv nv:Value}
theorem aLH {p0 q0 p1 q1 p2 q2 p3:Int}{hs:Bool}{uns lr rr c cd:Int}{lp rp cv:Value}{xs:LB}{g:ON}{R:NN}(h:Pos2 w k fb [p0,q0,p1,q1,p2,q2,p3,q3] hs uns mt lr rr pl c lp rp gv cv nv)(bu:c<=3000)(S:RowOf w 110 xs gv g)(ar:xs.length<=99999)
  (ab:∀l,Chg w l []->Calls prog 148 #[ptrB k] l fun e w'=>e=.returned (.int .i64 cd)/\Chg l w' [])
  (aa:cd=0->∀l,Chg w l []->Calls prog 149 #[ptrB k,ptrB fb] l fun e w'=>∃b,e=.returned (.bool b)/\∀w2,Chg w' w2 []->R (.returned (.bool b)) w2)
  (bb:cd≠0->c<1->∀l,Chg w l []->R (.returned (.bool false)) l)
  (X:cd≠0->1<=c->∀z∈lC (lV cd p0 q0 p1 q1 p2 q2 p3 q3),Bits 10 z)
  (ay:cd≠0->1<=c->∀l T b,Chg w l [k,fb,b]->Pos2 l k fb (lC (lV cd p0 q0 p1 q1 p2 q2 p3 q3)) hs uns mt lr rr pl (c-1) lp rp T cv nv->RowOf l 110 (xs++[.int .i64 cd]) T (some b)->(g=some b\/w.heap.size<=b)->R (.returned (.bool true)) l):
  Calls prog 129 #[ptrB k,ptrB fb] w R:=by
 have F:=bF func129 rfl rfl;refine nV F (φ:=phW k fb fun _=>none) (vs:=[.one (.ptr 0 0),.one (.ptr 6 0)]) (args:=[ptrB k,ptrB fb]) (s:=mW p0 q0 p1 q1 p2 q2 p3 q3 hs uns mt lr rr pl c lp rp cv nv gv (nE 35)) (by kernel_rfl) ⟨⟨k,0,rfl,rfl⟩,⟨fb,0,rfl,rfl⟩,trivial⟩ (h.rep _) ?_;refine cC (cZ kA) rV (pQ rfl rfl) (jD (pQ rfl rfl)) (aVG p0 q0 p1 q1 p2 q2 p3 q3 hs uns mt lr rr pl c lp rp cv nv gv) (fun _ _=>False) (fun ks s=>ks=dY (aF 148) f129/\s=mW p0 q0 p1 q1 p2 q2 p3 q3 hs uns mt lr rr pl c lp rp cv nv gv (slot [(0,P0),(1,P6),(6,P0)] 0 37)) ⟨rfl,rfl⟩ (fun _ _ _ _ _ h=>h.elim) ?_;rintro ks s⟨rfl,rfl⟩;refine⟨by kernel_rfl,fun b8 bi a1 l av p=>?_⟩;have c1:=qN p.wd rfl;refine pP (f:=148) (vs:=[.one (.ptr 0 0)]) (dst:=some 7) (ks2:=fJ (aF 148) f129) (by kernel_rfl) (bF func148 rfl rfl).en (by kernel_rfl) (av bi [] l) p ?_;intro ys af
 match ys,af with
 | [y],⟨q,_⟩=>
 rw[uE (p.wd.base 0 (k,0) rfl) q];refine(ab l c1).mono ?_;rintro e w2⟨rfl,c2⟩;refine⟨_,rfl,fun az bx ax=>?_⟩;have n:=c1.trans c2;have h2:=h.aS n
 have be:Rep Z w2 (phW k fb fun _=>none) (phW k fb fun _=>none) (mW p0 q0 p1 q1 p2 q2 p3 q3 hs uns mt lr rr pl c lp rp cv nv gv (slot [(0,P0),(1,P6),(7,cB cd)] 0 37)) (a1.put (some 7) (.int .i64 cd)) w2:=by
  refine nM (kb:=[0,6]) (kt:=[0,1]) (dst:=some 7) (r:=cB cd) p (h2.rep _) (by kernel_rfl) ?_ rfl;intro b U
  have W:b=0\/b=6:=by simpa using U
  rcases W with rfl|rfl
  ·rw[p.wd.base 0 (k,0) rfl];rfl
  ·rw[p.wd.base 6 (fb,0) rfl];rfl
 refine cC (cZ kA) rV (pQ rfl rfl) (aVW (pQ rfl rfl) (pQ rfl rfl)) (aVH p0 q0 p1 q1 p2 q2 p3 q3 hs uns mt lr rr pl c cd lp rp cv nv gv)
  (fun r s=>r=.val (.one (.bool false))/\s.dirty=[]/\cd≠0/\c<1)
  (fun ks s=>(cd=0/\ks=dY (aF 149) f129/\s=mW p0 q0 p1 q1 p2 q2 p3 q3 hs uns mt lr rr pl c lp rp cv nv gv (slot [(10,P0),(11,P6)] 0 37))\/(cd≠0/\¬c<1/\ks=dY tE f129/\s=Ru p0 q0 p1 q1 p2 q2 p3 q3 hs uns mt lr rr pl c cd lp rp cv nv gv))
  ⟨fun e=>Or.inl ⟨of_decide_eq_true e,rfl,rfl⟩,fun e=>⟨fun e2=>⟨rfl,rfl,of_decide_eq_false e,of_decide_eq_true e2⟩,fun e2=>Or.inr ⟨of_decide_eq_false e,of_decide_eq_false e2,rfl,rfl⟩⟩⟩ ?_ ?_ az _ _ _ (ax _ _ _) be
 ·rintro r s N v J⟨rfl,hd,h0,h1⟩ hv _ bg;rw[hv false (Or.inl rfl)];exact bb h0 h1 J (n.trans (qN bg hd))
 ·rintro ks s(⟨h0,rfl,rfl⟩|⟨h0,h1,rfl,rfl⟩)
  ·refine⟨by kernel_rfl,fun a0 N a3 J E a=>?_⟩;have c3:=n.trans (qN a.wd rfl);refine pP (f:=149) (vs:=[.one (.ptr 0 0),.one (.ptr 6 0)]) (dst:=some 12) (ks2:=fJ (aF 149) f129) (by kernel_rfl) (bF func149 rfl rfl).en (by kernel_rfl) (E N [] J) a ?_;intro ys af
   match ys,af with
   | [y,z],⟨q,hz,_⟩=>
   rw[uE (a.wd.base 0 (k,0) rfl) q,uE (a.wd.base 6 (fb,0) rfl) hz];refine(aa h0 J c3).mono ?_;rintro e M⟨b,rfl,hR⟩;refine⟨_,rfl,fun I ba H=>?_⟩;have ad:Rep Z M (fun _=>none) (fun _=>none) ⟨slot [(12,.val (.one (.sbool b)))] 0 37,[],0,[],[]⟩ (a3.put (some 12) (.bool b)) M:=nM (kb:=[]) (kt:=[]) (dst:=some 12) (r:=.val (.one (.sbool b))) a (Vh _) (by kernel_rfl) (fun b U=>by simp at U) rfl;refine cC (cZ kA) rV (fun b x e=>by cases e) (jD (fun b x e=>by cases e)) (aVJ b) (fun r s=>r=.val (.one (.sbool b))/\s.dirty=[]) (fun _ _=>False) ⟨rfl,rfl⟩ ?_ (fun _ _ h=>h.elim) I _ _ _ (H _ _ _) ad;rintro r s bj v w5⟨rfl,hd⟩ hv _ L;rw[hv b (Or.inr rfl)];exact hR w5 (qN L hd)
  ·refine⟨by kernel_rfl,fun a0 N a3 J E a=>?_⟩
   have am:1<=c:=by omega
   have hB:=X h0 am
   have bh:IntKind.i64.wrap (c-1)=c-1:=by
    unfold IntKind.wrap;simp[IntKind.bits,IntKind.signed];omega
   have A:Chg w2 J [k,fb]:=Qe a.wd rfl
   have d:Pos2 J k fb (lC (lV cd p0 q0 p1 q1 p2 q2 p3 q3)) hs uns mt lr rr pl (c-1) lp rp gv cv nv:=by
    have:=h2.out a.wd (zs':=lC (lV cd p0 q0 p1 q1 p2 q2 p3 q3)) (hs':=hs) (uns':=uns) (mt':=mt) (lr':=lr) (rr':=rr) (pl':=pl) (c':=IntKind.i64.wrap (c-1)) (lp':=lp) (rp':=rp) (gv':=gv) (cv':=cv) (nv':=nv) rfl rfl rfl Og hB;rw[bh]at this;exact this
   have aq:∀b,g=some b->b ∉ [k,fb]:=by
    intro b U C;subst U;obtain⟨cs,ao⟩:=S.ty;simp at C
    rcases C with rfl|rfl
    ·obtain⟨ys,q,_⟩:=h.nd.ex;rw[ao]at q;exact absurd (Obj.cells.inj (Option.some.inj q)).2.1 (by decide)
    ·have q:=h.fu;rw[ao]at q;exact absurd (Obj.cells.inj (Option.some.inj q)).2.1 (by decide)
   have ae:RowOf J 110 xs gv g:=(S.aS n (fun _ _=>by simp)).aS A aq;refine aPj (t:=187) (t':=187) (ty:=187) (sv:=litT gv) (xv:=.val (.one (.slc 19 0 1 1))) (dst:=some 34) (ks2:=fJ tE f129) (by kernel_rfl) (by kernel_rfl) (E N [] J) a ?_;rintro v1 v2⟨bf,_⟩⟨k',o,a8,e',m,x1,x2,x3,x4,x5⟩;rw[bf];obtain⟨k2,o2,cb,ys,bq,y1,y2,y3,y4⟩:=a.wd.box 19 ⟨[.sint .i64 cd],110,true,true,true⟩ rfl;rw[x1]at y1;cases y1;subst y3
   match ys,y4 with
   | [y],⟨q,_⟩=>
   have q:y=.int .i64 cd:=q;subst q;obtain⟨i,zv,i1,i2,i3,i4⟩:=aQA;obtain⟨v',M,b,a1,a2,al,a4,a5⟩:=aSd (bt:=Z.bt) (P:=Z.P) (t:=187) (t':=187) (ty:=187) (e:=110) rfl rfl (by kernel_rfl) i1 i2 i3 i4 (by decide) ae (xv:=v2) (xc:=a8) y2 (by rw[x2];simp) rfl ar;refine⟨v',M,a1,fun I ba H=>?_⟩
   have Y:b ∉ [k,fb]:=by
    rcases al with e|e
    ·exact aq b e
    ·intro C;simp at C;have l1:=d.nd.lt;have l2:=gE d.fu
     rcases C with rfl|rfl<;>omega
   have B:Chg J M [b]:=⟨a4,fun j hj hn=>a5 j hj (by simpa using hn)⟩
   have au:Pos2 M k fb (lC (lV cd p0 q0 p1 q1 p2 q2 p3 q3)) hs uns mt lr rr pl (c-1) lp rp gv cv nv:=by
    refine⟨d.nd.aS a4 (B.low _ d.nd.lt ?_),B.at d.fu ?_,d.bits,d.h8,d.o1,d.o2,d.o3,d.o4,d.o5⟩
    ·intro C;simp at C;exact Y (by simp[C])
    ·intro C;simp at C;exact Y (by simp[C])
   have ad:Rep Z M (phW k fb fun _=>none) (phW k fb fun _=>none) (sW (lC (lV cd p0 q0 p1 q1 p2 q2 p3 q3)) hs uns mt lr rr pl (c-1) (.lit lp) (.lit rp) (.lit cv) (.lit nv) (.lit gv) [] (slot [(27,P0),(34,litT v')] 0 37)) (a3.put (some 34) v') M:=by
    refine nM (kb:=[0,6]) (kt:=[27]) (dst:=some 34) (r:=litT v') a (au.rep _) (by kernel_rfl) ?_ ⟨rfl,a2.one⟩;intro b U
    have W:b=0\/b=6:=by simpa using U
    rcases W with rfl|rfl
    ·rw[a.wd.base 0 (k,0) rfl];rfl
    ·rw[a.wd.base 6 (fb,0) rfl];rfl
   refine cC (cZ kA) rV (pQ rfl rfl) (jD (pQ rfl rfl)) (aVI _ _ _ _ _ _ _ _ hs uns mt lr rr pl (c-1) lp rp cv nv gv v') (fun r s=>r=.val (.one (.bool true))/\s.dirty=[0]/\look s.boxes 0=some (yF hs uns mt lr rr pl (.lit lp) (.lit rp) (.lit cv) (.lit nv) (.lit v'))/\look s.boxes 6=some (uH (c-1))/\s.nums=(lC (lV cd p0 q0 p1 q1 p2 q2 p3 q3)).map fun z=>(z,10)) (fun _ _=>False) ⟨rfl,rfl,rfl,rfl,rfl⟩ ?_ (fun _ _ h=>h.elim) I _ _ _ (H _ _ _) ad;rintro r s bj v w5⟨rfl,hd,l0,l6,ln⟩ hv _ L;rw[hv true (Or.inl rfl)];have O:Chg M w5 [k,fb]:=Qe L (by rw[hd];rfl);have bc:=au.out L l0 l6 rfl (by rw[ln];exact Og) hB
   have wk:∀{u v:World} {D:PH},Chg u v D->(∀x∈D,x∈[k,fb,b])->Chg u v [k,fb,b]:=fun h hh=>h.bO hh
   refine ay h0 am w5 v' b ((((wk n (by simp)).trans (wk A (by simp)))).trans ((wk B (by simp)).trans (wk O (by simp)))) bc (a2.aS O ?_) ?_
   ·intro b' e;cases e;exact Y
   ·rcases al with e|e
    ·exact Or.inl e
    ·exact Or.inr (le_trans (le_trans n.on.size A.on.size) e)
noncomputable def vG (a b c d p0 q0 p1 q1 p2 q2 p3 q3:Int):LN:=[p0*a+p2*c,q0*a+q2*c,p1*a+p3*c,q1*a+q3*c,p0*b+p2*d,q0*b+q2*d,p1*b+p3*d,q1*b+q3*d]
noncomputable def kK (a b c d p0 q0 p1 q1 p2 q2 p3 q3:Int):LN:=[p0*a+p1*c,q0*a+q1*c,p0*b+p1*d,q0*b+q1*d,p2*a+p3*c,q2*a+q3*c,p2*b+p3*d,q2*b+q3*d]
def Yq (a b c d mt:Int):Spec:=fun f _ ν _ _ e=>bif f==172 then (match e with
 | [.one (.ptr 4 0),.one (.sint .i64 n)]=>some ([(a,2),(b,2),(c,2),(d,2)],.val (.agg (bJ true ν.length 4)),[n=mt],none)
 |_=>none)else none
section
variable (p0 q0 p1 q1 p2 q2 p3 q3:Int) (hs:Bool) (uns mt lr rr pl c cd:Int) (lp rp cst nst gv gv2:Value)
noncomputable def wrS (a:LN)(u:Nat)(lr rr mt c:Int)(m:Nat):AS:=⟨slot [] 0 m,[(0,yF hs uns mt lr rr pl (.lit lp) (.lit rp) (.lit cst) (.lit nst) (.lit gv)),(6,uH c)],7,a.map fun z=>(z,u),[0,6,0]⟩
theorem bAq:(run Z (aD tN) bW (aK Z (aD tN)) (lN (aF 88)) 400 [.code (aE f165),.top f165] (mW p0 q0 p1 q1 p2 q2 p3 q3 hs uns mt lr rr pl c lp rp cst nst gv (nE 37))).bind (eD (eX [0,6] [] 7 []) (eX [0,6] [0,1,9,10] 7 []))
  = some (.stp (dY (aF 88) f165) (mW p0 q0 p1 q1 p2 q2 p3 q3 hs uns mt lr rr pl c lp rp cst nst gv (slot [(0,P0),(1,P6),(9,.val (.agg [.lit lp,.sint .i64 lr])),(10,P6)] 0 39))):=by kernel_rfl
theorem bAr:(run Z (aD tN) bW (aK Z (aD tN)) (fun _=>false) 400 (fJ (aF 88) f165) (mW p0 q0 p1 q1 p2 q2 p3 q3 hs uns mt lr rr pl c lp rp cst nst gv (slot [(0,P0),(1,P6),(11,cB cd)] 0 39))).bind (eD (eX [0,6] [] 7 []) (eX [0,6] [] 7 []))
  = some (.br (decide (cd=0)) (.ret (.val (.one (.bool false))) (mW p0 q0 p1 q1 p2 q2 p3 q3 hs uns mt lr rr pl c lp rp cst nst gv (slot [] 0 39))) (.br (decide (c<1)) (.ret (.val (.one (.bool false))) (mW p0 q0 p1 q1 p2 q2 p3 q3 hs uns mt lr rr pl c lp rp cst nst gv (slot [] 0 39))) (.ret (.val (.one (.bool true))) (wrS hs uns pl lp rp cst nst gv (lC (vG (gN cd) (gQ cd) (gU cd) (gV cd) p0 q0 p1 q1 p2 q2 p3 q3)) 19 (IntKind.i64.wrap (lr+1)) rr mt (IntKind.i64.wrap (c-1)) 39)))):=by kernel_rfl
theorem bAs:(run Z (aD tN) bW (aK Z (aD tN)) (fun _=>false) 400 (fJ (aF 88) f165) ⟨slot [(11,.val (.one (.int .i64 0)))] 0 39,[],0,[],[]⟩).bind (eD (eX [] [] 0 []) (eX [] [] 0 []))=some (.ret (.val (.one (.bool false))) ⟨slot [] 0 39,[],0,[],[]⟩):=by kernel_rfl
theorem bAp (a b d e:Int):(run Z (eS (Yq a b d e mt) (aD tN)) bW (aK Z (eS (Yq a b d e mt) (aD tN))) (fun _=>false) 400 [.code (aE f163),.top f163] (sW [p0,q0,p1,q1,p2,q2,p3,q3] hs uns mt lr rr pl c (.lit lp) (.lit rp) (.ptr 4 0) (.lit nst) (.lit gv) [(4,ext [] 164)] (nE 33))).bind (eD (eX [0,6,4] [] 7 []) (eX [0,6,4] [] 7 []))
  = some (.br (decide (c<1)) (.ret (.val (.one (.bool false))) (sW [p0,q0,p1,q1,p2,q2,p3,q3] hs uns mt lr rr pl c (.lit lp) (.lit rp) (.ptr 4 0) (.lit nst) (.lit gv) [(4,ext [] 164)] (slot [] 0 35))) (.need [mt=mt] (.ret (.val (.one (.bool true))) ⟨slot [] 0 35,[(0,yF hs uns (IntKind.i64.wrap (mt+1)) lr rr pl (.lit lp) (.lit rp) (.ptr 4 0) (.lit nst) (.lit gv)),(6,uH (IntKind.i64.wrap (c-1))),(4,ext [] 164)],7,(lC (kK a b d e p0 q0 p1 q1 p2 q2 p3 q3)).map fun z=>(z,19),[0,6,0]⟩))):=by kernel_rfl
end
theorem aHN {c:Int}(a:1<=c)(b:c<=3000):IntKind.i64.wrap (c-1)=c-1:=by
 unfold IntKind.wrap;simp[IntKind.bits,IntKind.signed];omega
theorem Vn {c:Int}(a:0<=c)(b:c<=1000000):IntKind.i64.wrap (c+1)=c+1:=by
 unfold IntKind.wrap;simp[IntKind.bits,IntKind.signed];omega
structure zH (w2:World) (k fb:Nat) (cd:Int) (R:NN) (K:Int->Int->Int->Int->Int->Int->Int->Int->Bool->Int->Int->Int->Int->Int->Int->Value->Value->Value->Value->Value->Prop):Prop where
 none:cd=0->∀w3,Chg w2 w3 []->R (.returned (.bool false)) w3
 some:cd≠0->∃p0 q0 p1 q1 p2 q2 p3 q3 hs uns mt lr rr pl c lp rp gv cv nv,Pos2 w2 k fb [p0,q0,p1,q1,p2,q2,p3,q3] hs uns mt lr rr pl c lp rp gv cv nv/\c<=3000/\0<=lr/\lr<=1000000/\0<=rr/\rr<=1000000/\(c<1->∀w3,Chg w2 w3 []->R (.returned (.bool false)) w3)/\(1<=c->K p0 q0 p1 q1 p2 q2 p3 q3 hs uns mt lr rr pl c lp rp gv cv nv)
section
variable {w:World} {k fb:Nat} {p0 q0 p1 q1 p2 q2 p3 q3:Int} {hs:Bool} {uns mt lr rr pl c:Int} {lp rp gv cv nv:Value} {R:NN}
theorem aGc (h:Pos2 w k fb [p0,q0,p1,q1,p2,q2,p3,q3] hs uns mt lr rr pl c lp rp gv cv nv)
  (M:∀ C,Chg w C []->Calls prog 88 #[.agg #[lp,.int .i64 lr],ptrB fb] C fun e i=>∃ cd,e=.returned (.int .i64 cd)/\
   zH i k fb cd R fun p0 q0 p1 q1 p2 q2 p3 q3 hs uns mt lr rr pl c lp rp gv cv nv=>(∀z∈lC (vG (gN cd) (gQ cd) (gU cd) (gV cd) p0 q0 p1 q1 p2 q2 p3 q3),Bits 10 z)/\∀q,Chg i q [k,fb]->Pos2 q k fb (lC (vG (gN cd) (gQ cd) (gU cd) (gV cd) p0 q0 p1 q1 p2 q2 p3 q3)) hs uns mt (lr+1) rr pl (c-1) lp rp gv cv nv->R (.returned (.bool true)) q):
  Calls prog 165 #[ptrB k,ptrB fb] w R:=by
 have F:=bF func165 rfl rfl;refine nV F (φ:=phW k fb fun _=>none) (vs:=[.one (.ptr 0 0),.one (.ptr 6 0)]) (args:=[ptrB k,ptrB fb]) (s:=mW p0 q0 p1 q1 p2 q2 p3 q3 hs uns mt lr rr pl c lp rp cv nv gv (nE 37)) (by kernel_rfl) ⟨⟨k,0,rfl,rfl⟩,⟨fb,0,rfl,rfl⟩,trivial⟩ (h.rep _) ?_;refine cC (cZ kA) rV (pQ rfl rfl) (jD (pQ rfl rfl)) (bAq p0 q0 p1 q1 p2 q2 p3 q3 hs uns mt lr rr pl c lp rp cv nv gv) (fun _ _=>False) (fun X s=>X=dY (aF 88) f165/\s=mW p0 q0 p1 q1 p2 q2 p3 q3 hs uns mt lr rr pl c lp rp cv nv gv (slot [(0,P0),(1,P6),(9,.val (.agg [.lit lp,.sint .i64 lr])),(10,P6)] 0 39)) ⟨rfl,rfl⟩ (fun _ _ _ _ _ h=>h.elim) ?_;rintro X s⟨rfl,rfl⟩;refine⟨by kernel_rfl,fun af S a1 C A a=>?_⟩;have c1:=qN a.wd rfl;refine pP (f:=88) (vs:=[.agg [.lit lp,.sint .i64 lr],.one (.ptr 6 0)]) (dst:=some 11) (ks2:=fJ (aF 88) f165) (by kernel_rfl) (bF func88 rfl rfl).en (by kernel_rfl) (A S [] C) a ?_;intro ys P
 match ys,P with
 | [y,y2],⟨⟨zs,hy,hz⟩,O,_⟩=>
 match zs,hz with
 | [z1,z2],⟨o,p,_⟩=>
 have o:z1=lp:=o.1;have p:z2=.int .i64 lr:=p;rw[uE (a.wd.base 6 (fb,0) rfl) O,hy,o,p];refine(M C c1).mono ?_;rintro e i⟨cd,rfl,W⟩;refine⟨_,rfl,fun g ab d=>?_⟩
 by_cases j:cd=0
 ·subst j;have l:Rep Z i (fun _=>none) (fun _=>none) ⟨slot [(11,.val (.one (.int .i64 0)))] 0 39,[],0,[],[]⟩ (a1.put (some 11) (.int .i64 0)) i:=nM (kb:=[]) (kt:=[]) (dst:=some 11) (r:=.val (.one (.int .i64 0))) a (Vh _) (by kernel_rfl) (fun b E=>by simp at E) rfl;refine cC (cZ kA) rV (fun b x e=>by cases e) (jD (fun b x e=>by cases e)) bAs (fun r s=>r=.val (.one (.bool false))/\s.dirty=[]) (fun _ _=>False) ⟨rfl,rfl⟩ ?_ (fun _ _ h=>h.elim) g _ _ _ (d _ _ _) l;rintro r s ap v w5⟨rfl,J⟩ hv _ N;rw[hv false (Or.inl rfl)];exact W.none rfl w5 (qN N J)
 ·obtain⟨p0,q0,p1,q1,p2,q2,p3,q3,hs,uns,mt,lr,rr,pl,c,lp,rp,gv,cv,nv,U,I,l1,l2,_,_,L,B⟩:=W.some j
  have l:Rep Z i (phW k fb fun _=>none) (phW k fb fun _=>none) (mW p0 q0 p1 q1 p2 q2 p3 q3 hs uns mt lr rr pl c lp rp cv nv gv (slot [(0,P0),(1,P6),(11,cB cd)] 0 39)) (a1.put (some 11) (.int .i64 cd)) i:=by
   refine nM (kb:=[0,6]) (kt:=[0,1]) (dst:=some 11) (r:=cB cd) a (U.rep _) (by kernel_rfl) ?_ rfl;intro b E
   have H:b=0\/b=6:=by simpa using E
   rcases H with rfl|rfl
   ·rw[a.wd.base 0 (k,0) rfl];rfl
   ·rw[a.wd.base 6 (fb,0) rfl];rfl
  refine cC (cZ kA) rV (pQ rfl rfl) (jD (pQ rfl rfl)) (bAr p0 q0 p1 q1 p2 q2 p3 q3 hs uns mt lr rr pl c cd lp rp cv nv gv)
   (fun r s=>(r=.val (.one (.bool false))/\s.dirty=[]/\c<1)\/(r=.val (.one (.bool true))/\¬c<1/\s=wrS hs uns pl lp rp cv nv gv (lC (vG (gN cd) (gQ cd) (gU cd) (gV cd) p0 q0 p1 q1 p2 q2 p3 q3)) 19 (IntKind.i64.wrap (lr+1)) rr mt (IntKind.i64.wrap (c-1)) 39))
   (fun _ _=>False) ⟨fun e=>absurd (of_decide_eq_true e) j,fun _=>⟨fun D=>Or.inl ⟨rfl,rfl,of_decide_eq_true D⟩,fun D=>Or.inr ⟨rfl,of_decide_eq_false D,rfl⟩⟩⟩ ?_ (fun _ _ h=>h.elim) g _ _ _ (d _ _ _) l
  rintro r s ao v q(⟨rfl,J,T⟩|⟨rfl,T,rfl⟩) hv _ n
  ·rw[hv false (Or.inl rfl)];exact L T q (qN n J)
  ·rw[hv true (Or.inl rfl)];obtain⟨Y,hR⟩:=B (by omega);have u:Chg i q [k,fb]:=Qe n rfl;have:=U.out n (zs':=lC (vG (gN cd) (gQ cd) (gU cd) (gV cd) p0 q0 p1 q1 p2 q2 p3 q3)) (hs':=hs) (uns':=uns) (mt':=mt) (lr':=IntKind.i64.wrap (lr+1)) (rr':=rr) (pl':=pl) (c':=IntKind.i64.wrap (c-1)) (lp':=lp) (rp':=rp) (gv':=gv) (cv':=cv) (nv':=nv) rfl rfl rfl Og Y;rw[aHN (by omega) I,Vn l1 l2]at this;exact hR q u this
end
theorem aWg {cb:Nat}{a b c d:Int}(A:q 4=some (cb,0))(F:∀z∈[a,b,c,d],Bits 2 z)(i:∀W,On Z.bt w W->Calls prog 172 #[ptrB cb,.int .i64 mt] W fun e w'=>∃l:LB,e=.returned (.agg l.toArray)/\aU true w' [a,b,c,d] l/\Below W.heap.size W w'):SpecOk Z w q (Yq a b c d mt):=by
 intro f S ν id P T O r p L h;unfold Yq at h
 cases s:f==172 with
 |false=>rw[s]at h;cases h
 |true=>
  rw[s]at h
  have:f=172:=by simpa using s
  subst this;refine⟨(bF func172 rfl rfl).en,fun J N x φ M l y _ u H v=>?_⟩;simp only[cond_true]at h;split at h
  ·rename_i n;cases h
   match l,v with
   | [x1,x2],⟨E,o,_⟩=>
   have I:n=mt:=J (n=mt) (by simp);have o:x2=.int .i64 n:=o;rw[uE (y 4 _ A) E,o,I];refine(i M u).mono ?_;rintro e w'⟨B,rfl,C,D⟩;refine⟨_,rfl,D,B,rfl,?_⟩
   refine sL [a,b,c,d] B ν.length N C F fun j z g=>?_
   refine x _ _ ?_;rw[getElem?_append_right (by omega),show ν.length+j-ν.length=j by omega]
   match j,g with
   |0,g=>cases g;rfl
   |1,g=>cases g;rfl
   |2,g=>cases g;rfl
   |3,g=>cases g;rfl
   |j+4,g=>simp at g
  ·cases h
section
variable {w w':World} {k fb:Nat} {zs:LN} {p0 q0 p1 q1 p2 q2 p3 q3:Int} {hs:Bool} {uns mt lr rr pl c:Int} {lp rp gv cv nv:Value} {R:NN}
theorem Pos2.Ew (h:Pos2 w k fb zs hs uns mt lr rr pl c lp rp gv cv nv){exφ:LI}{ex:List (Nat×bQ)}{rpC cvC nvC:AC}(i:relC Z (phW k fb exφ) (zs.map fun z=>(z,10)) w rpC rp)(hc:relC Z (phW k fb exφ) (zs.map fun z=>(z,10)) w cvC cv)(g:relC Z (phW k fb exφ) (zs.map fun z=>(z,10)) w nvC nv)
  (d:∀b B,look ex b=some B->B.own=false/\B.tip=false/\B.ro=true/\∃a o,phW k fb exφ b=some (a,o)/\a≠k/\a≠fb/\Seg Z (phW k fb exφ) (zs.map fun z=>(z,10)) w a o B.ty B.cs) (e:∀b a o,exφ b=some (a,o)->a<w.heap.size) (f:List AT):RepW Z w (phW k fb exφ) (phW k fb exφ) (sW zs hs uns mt lr rr pl c (.lit lp) rpC cvC nvC (.lit gv) ex f) w:=
 aRI (lpC:=.lit lp) (gvC:=.lit gv) h.nd h.h8 h.bits h.fu ⟨rfl,h.o1⟩ i ⟨rfl,h.o3⟩ hc g d e f
theorem Xe (a:f.contains 0=true)(d:f.contains 6=true)(e:∀b x,q b=some x->f.contains b=true):∀b x,phW k fb q b=some x->f.contains b=true:=by
 intro b x h;unfold phW at h;split at h
 ·subst_vars;exact a
 ·split at h
  ·subst_vars;exact d
  ·split at h
   ·exact e b x h
   ·cases h
def ph1 (i k:Nat):LI:=fun b=>if b=i then some (k,0)else none
def ph2 (i k j m:Nat):LI:=fun b=>if b=i then some (k,0)else if b=j then some (m,0)else none
theorem Pos2.aTS (h:Pos2 w k fb zs hs uns mt lr rr pl c lp rp gv cv nv){b:Nat}{cs:LB}{ty:TypeId}(d:w.heap[b]?=some (.cells cs.toArray ty (0,0)))(e:ty≠190)(f:ty≠143):b≠k/\b≠fb:=by
 constructor
 ·rintro rfl;obtain⟨g,a,_⟩:=h.nd.ex;rw[d]at a;exact e (Obj.cells.inj (Option.some.inj a)).2.1
 ·rintro rfl;have a:=h.fu;rw[d]at a;exact f (Obj.cells.inj (Option.some.inj a)).2.1
theorem aEa (h:Pos2 w k fb [p0,q0,p1,q1,p2,q2,p3,q3] hs uns mt lr rr pl c lp rp gv cv nv){f:Nat}(A:cv=ptrB f)(q:∃cs:LB,w.heap[f]?=some (.cells cs.toArray 164 (0,0)))(L:c<=3000)(N:0<=mt)(O:mt<=1000000)
  {v z n y:Int} (hb:∀d∈[v,z,n,y],Bits 2 d) (u:∀W,On Z.bt w W->Calls prog 172 #[ptrB f,.int .i64 mt] W fun e w'=>∃xs:LB,e=.returned (.agg xs.toArray)/\aU true w' [v,z,n,y] xs/\Below W.heap.size W w')
  (P:c<1->∀p,Chg w p []->R (.returned (.bool false)) p)
  (j:1<=c->∀d∈lC (kK v z n y p0 q0 p1 q1 p2 q2 p3 q3),Bits 10 d)
  (E:1<=c->∀p,Chg w p [k,fb]->Pos2 p k fb (lC (kK v z n y p0 q0 p1 q1 p2 q2 p3 q3)) hs uns (mt+1) lr rr pl (c-1) lp rp gv cv nv->R (.returned (.bool true)) p):
  Calls prog 163 #[ptrB k,ptrB fb] w R:=by
 obtain⟨cs,l⟩:=q;obtain⟨n1,n2⟩:=h.aTS l (by decide) (by decide);have F:=bF func163 rfl rfl
 have D:=h.Ew (exφ:=ph1 4 f) (ex:=[(4,ext [] 164)]) (rpC:=.lit rp) (cvC:=.ptr 4 0) (nvC:=.lit nv) ⟨rfl,h.o2⟩ ⟨f,0,rfl,A⟩ ⟨rfl,h.o5⟩ (by
  intro b B J;have:=nC J;simp at this;obtain⟨rfl,rfl⟩:=this
  exact⟨rfl,rfl,rfl,f,0,rfl,n1,n2,[],[],cs,l,rfl,trivial⟩) (by
  intro b k' o g;unfold ph1 at g;split at g
  ·cases g;exact gE l
  ·cases g) (nE 33)
 have C:∀b x,phW k fb (ph1 4 f) b=some x->[0,6,4].contains b=true:=Xe rfl rfl fun b x e=>by
  unfold ph1 at e;split at e
  ·subst_vars;rfl
  ·cases e
 refine nV F (φ:=phW k fb (ph1 4 f)) (vs:=[.one (.ptr 0 0),.one (.ptr 6 0)]) (args:=[ptrB k,ptrB fb]) (by kernel_rfl) ⟨⟨k,0,rfl,rfl⟩,⟨fb,0,rfl,rfl⟩,trivial⟩ D ?_
 refine cC (Pq (aWg (cb:=f) rfl hb u) (cZ kA)) rV C (jD C) (bAp p0 q0 p1 q1 p2 q2 p3 q3 hs uns mt lr rr pl c lp rp nv gv v z n y)
  (fun r s=>(r=.val (.one (.bool false))/\s.dirty=[]/\c<1)\/(r=.val (.one (.bool true))/\¬c<1/\s.dirty=[0,6,0]/\look s.boxes 0=some (yF hs uns (IntKind.i64.wrap (mt+1)) lr rr pl (.lit lp) (.lit rp) (.ptr 4 0) (.lit nv) (.lit gv))/\look s.boxes 6=some (uH (IntKind.i64.wrap (c-1)))/\s.nums=(lC (kK v z n y p0 q0 p1 q1 p2 q2 p3 q3)).map fun d=>(d,19)))
  (fun _ _=>False) ⟨fun e=>Or.inl ⟨rfl,rfl,of_decide_eq_true e⟩,fun e=>⟨fun x Y=>by simp at Y;exact Y,Or.inr ⟨rfl,of_decide_eq_false e,rfl,rfl,rfl,rfl⟩⟩⟩ ?_ (fun _ _ h=>h.elim)
 rintro r s au a w3(⟨rfl,M,X⟩|⟨rfl,X,M,l0,l6,ln⟩) hv _ i
 ·rw[hv false (Or.inl rfl)];exact P X w3 (qN i M)
 ·rw[hv true (Or.inl rfl)];have J:=j (by omega);obtain⟨⟨am,ar,ai,H,aq,T,⟨e1,g2⟩,⟨e2,g3⟩,⟨e3,g4⟩,⟨k4,o4,S,g5⟩,⟨e5,g6⟩⟩,U⟩:=aOx (ns:=[]) i l0 l6 (h.nd.shape h.h8) (Zq h.fu) (zs:=lC (kK v z n y p0 q0 p1 q1 p2 q2 p3 q3)) rfl (by rw[ln];exact Og);rw[i.base 4 (f,0) rfl]at S;cases S
  have I:H=cv:=by rw[g5,A];rfl
  rw[e1,e2,e3,e5,I,Vn N O]at T;rw[aHN (by omega) L]at U;exact E (by omega) w3 (Qe i (by rw[M];rfl)) ⟨T,U,J,rfl,h.o1,h.o2,h.o3,h.o4,h.o5⟩
end
section
variable (p0 q0 p1 q1 p2 q2 p3 q3:Int) (hs:Bool) (uns mt lr rr pl c cd:Int) (lp rp cst nst gv gv2:Value)
def rrS (a:List AT):AS:=sW [p0,q0,p1,q1,p2,q2,p3,q3] hs uns mt lr rr pl c (.lit lp) (.ptr 2 0) (.lit cst) (.ptr 5 0) (.lit gv) [(2,ext [] 190),(5,ext [] 232)] a
theorem bAu:(run Z (aD tN) bW (aK Z (aD tN)) (lN (aF 88)) 400 [.code (aE f166),.top f166] (mW p0 q0 p1 q1 p2 q2 p3 q3 hs uns mt lr rr pl c lp rp cst aA gv (nE 66))).bind (eD (eX [0,6] [] 7 []) (eX [0,6] [0,1,36,37] 7 []))
  = some (.stp (dY (aF 88) f166) (mW p0 q0 p1 q1 p2 q2 p3 q3 hs uns mt lr rr pl c lp rp cst aA gv (slot [(0,P0),(1,P6),(36,.val (.agg [.lit rp,.sint .i64 rr])),(37,P6)] 0 68))):=by kernel_rfl
theorem bAv:(run Z (aD tN) bW (aK Z (aD tN)) (lN (aF 88)) 400 [.code (aE f166),.top f166] (rrS p0 q0 p1 q1 p2 q2 p3 q3 hs uns mt lr rr pl c lp cst gv (nE 66))).bind (eD (eX [0,6,2,5] [] 7 []) (eX [0,6,2,5] [0,1,36,37] 7 []))
  = some (.stp (dY (aF 88) f166) (rrS p0 q0 p1 q1 p2 q2 p3 q3 hs uns mt lr rr pl c lp cst gv (slot [(0,P0),(1,P6),(36,.val (.agg [.ptr 2 0,.sint .i64 rr])),(37,P6)] 0 68))):=by kernel_rfl
theorem bAw:(run Z (aD tN) bW (aK Z (aD tN)) (lN (aF 180)) 400 (fJ (aF 88) f166) (mW p0 q0 p1 q1 p2 q2 p3 q3 hs uns mt lr rr pl c lp rp cst nst gv (slot [(0,P0),(1,P6),(38,cB cd)] 0 68))).bind (eD (eX [0,6] [] 7 []) (eX [0,6] [66] 7 []))
  = some (.br (decide (cd=0)) (.ret (.val (.one (.bool false))) (mW p0 q0 p1 q1 p2 q2 p3 q3 hs uns mt lr rr pl c lp rp cst nst gv (slot [] 0 68))) (.br (decide (c<1)) (.ret (.val (.one (.bool false))) (mW p0 q0 p1 q1 p2 q2 p3 q3 hs uns mt lr rr pl c lp rp cst nst gv (slot [] 0 68))) (.stp (dY (aF 180) f166) ⟨slot [(66,P0)] 0 68,[(0,yF hs uns mt lr (IntKind.i64.wrap (rr+1)) pl (.lit lp) (.lit rp) (.lit cst) (.lit nst) (.lit gv)),(6,uH (IntKind.i64.wrap (c-1)))],7,(lC (kK (gN cd) (gQ cd) (gU cd) (gV cd) p0 q0 p1 q1 p2 q2 p3 q3)).map fun z=>(z,19),[0,6,0]⟩))):=by kernel_rfl
theorem bAx:(run Z (aD tN) bW (aK Z (aD tN)) (fun _=>false) 400 (fJ (aF 180) f166) ⟨slot [] 0 68,[],0,[],[]⟩).bind (eD (eX [] [] 0 []) (eX [] [] 0 []))=some (.ret (.val (.one (.bool true))) ⟨slot [] 0 68,[],0,[],[]⟩):=by kernel_rfl
theorem bAy:(run Z (aD tN) bW (aK Z (aD tN)) (fun _=>false) 400 (fJ (aF 88) f166) ⟨slot [(38,.val (.one (.int .i64 0)))] 0 68,[],0,[],[]⟩).bind (eD (eX [] [] 0 []) (eX [] [] 0 []))=some (.ret (.val (.one (.bool false))) ⟨slot [] 0 68,[],0,[],[]⟩):=by kernel_rfl
end
section
variable {w:World} {k fb:Nat} {p0 q0 p1 q1 p2 q2 p3 q3:Int} {hs:Bool} {uns mt lr rr pl c:Int} {lp rp gv cv nv:Value} {R:NN}
abbrev Li (b:World)(k fb:Nat)(cd:Int)(R:NN):Prop:=zH b k fb cd R fun p0 q0 p1 q1 p2 q2 p3 q3 hs uns mt lr rr pl c lp rp gv cv nv=>(∀z∈lC (kK (gN cd) (gQ cd) (gU cd) (gV cd) p0 q0 p1 q1 p2 q2 p3 q3),Bits 10 z)/\∀a,Chg b a [k,fb]->Pos2 a k fb (lC (kK (gN cd) (gQ cd) (gU cd) (gV cd) p0 q0 p1 q1 p2 q2 p3 q3)) hs uns mt lr (rr+1) pl (c-1) lp rp gv cv nv->Calls prog 180 #[ptrB k] a fun e f=>∃v,e=.returned v/\∀d,Chg f d []->R (.returned (.bool true)) d
theorem aJP {n:World}{N:AS}{a1:Act}{w1 J:World}{cd:Int}(A:Rep Z n q I N a1 w1)(S:putT (jE [] [] 0 N.tmps) (some 38) (.val (.one (.int .i64 0)))=slot [(38,.val (.one (.int .i64 0)))] 0 68)(T:putT (jE [0,6] [0,1] 0 N.tmps) (some 38) (cB cd)=slot [(0,P0),(1,P6),(38,cB cd)] 0 68)(W:I 0=some (k,0))(X:I 6=some (fb,0))(hA:Li J k fb cd R):
  ∀a:List (K Act),(∀ag af ad,SR Z ag af ad (fJ (aF 88) f166) a)->gC Z.P R a .normal (a1.put (some 38) (.int .i64 cd)) J:=by
 intro a g
 by_cases i:cd=0
 ·subst i;have j:Rep Z J (fun _=>none) (fun _=>none) ⟨slot [(38,.val (.one (.int .i64 0)))] 0 68,[],0,[],[]⟩ (a1.put (some 38) (.int .i64 0)) J:=nM (kb:=[]) (kt:=[]) (dst:=some 38) (r:=.val (.one (.int .i64 0))) A (Vh _) S.symm (fun b o=>by simp at o) rfl;refine cC (cZ kA) rV (fun b x e=>by cases e) (jD (fun b x e=>by cases e)) bAy (fun r s=>r=.val (.one (.bool false))/\s.dirty=[]) (fun _ _=>False) ⟨rfl,rfl⟩ ?_ (fun _ _ h=>h.elim) a _ _ _ (g _ _ _) j;rintro r s ah v w5⟨rfl,u⟩ hv _ l;rw[hv false (Or.inl rfl)];exact hA.none rfl w5 (qN l u)
 ·obtain⟨p0,q0,p1,q1,p2,q2,p3,q3,hs,uns,mt,lr,rr,pl,c,lp,rp,gv,cv,nv,h2,O,_,_,l1,l2,U,D⟩:=hA.some i
  have j:Rep Z J (phW k fb fun _=>none) (phW k fb fun _=>none) (mW p0 q0 p1 q1 p2 q2 p3 q3 hs uns mt lr rr pl c lp rp cv nv gv (slot [(0,P0),(1,P6),(38,cB cd)] 0 68)) (a1.put (some 38) (.int .i64 cd)) J:=by
   refine nM (kb:=[0,6]) (kt:=[0,1]) (dst:=some 38) (r:=cB cd) A (h2.rep _) T.symm ?_ rfl;intro b o
   have M:b=0\/b=6:=by simpa using o
   rcases M with rfl|rfl
   ·rw[W];rfl
   ·rw[X];rfl
  refine cC (cZ kA) rV (pQ rfl rfl) (jD (pQ rfl rfl)) (bAw p0 q0 p1 q1 p2 q2 p3 q3 hs uns mt lr rr pl c cd lp rp cv nv gv)
   (fun r s=>r=.val (.one (.bool false))/\s.dirty=[]/\c<1)
   (fun ks s=>¬c<1/\ks=dY (aF 180) f166/\s=⟨slot [(66,P0)] 0 68,[(0,yF hs uns mt lr (IntKind.i64.wrap (rr+1)) pl (.lit lp) (.lit rp) (.lit cv) (.lit nv) (.lit gv)),(6,uH (IntKind.i64.wrap (c-1)))],7,(lC (kK (gN cd) (gQ cd) (gU cd) (gV cd) p0 q0 p1 q1 p2 q2 p3 q3)).map fun z=>(z,19),[0,6,0]⟩)
   ⟨fun e=>absurd (of_decide_eq_true e) i,fun _=>⟨fun L=>⟨rfl,rfl,of_decide_eq_true L⟩,fun L=>⟨of_decide_eq_false L,rfl,rfl⟩⟩⟩ ?_ ?_ a _ _ _ (g _ _ _) j
  ·rintro r s H v F⟨rfl,u,h1⟩ hv _ aa;rw[hv false (Or.inl rfl)];exact U h1 F (qN aa u)
  ·rintro ks s⟨h1,rfl,rfl⟩;refine⟨by kernel_rfl,fun am H a3 F B d=>?_⟩;obtain⟨hB,hR⟩:=D (by omega);have p:Chg J F [k,fb]:=Qe d.wd rfl;have hp:=h2.out d.wd (zs':=lC (kK (gN cd) (gQ cd) (gU cd) (gV cd) p0 q0 p1 q1 p2 q2 p3 q3)) (hs':=hs) (uns':=uns) (mt':=mt) (lr':=lr) (rr':=IntKind.i64.wrap (rr+1)) (pl':=pl) (c':=IntKind.i64.wrap (c-1)) (lp':=lp) (rp':=rp) (gv':=gv) (cv':=cv) (nv':=nv) rfl rfl rfl Og hB;rw[aHN (by omega) O,Vn l1 l2]at hp;refine pP (f:=180) (vs:=[.one (.ptr 0 0)]) (dst:=some 67) (ks2:=fJ (aF 180) f166) (by kernel_rfl) (bF func180 rfl rfl).en (by kernel_rfl) (B H [] F) d ?_;intro ys ab
   match ys,ab with
   | [y],⟨hy,_⟩=>
   rw[uE (d.wd.base 0 (k,0) rfl) hy];refine(hR F p hp).mono ?_;rintro e w4⟨v,rfl,hF⟩;refine⟨_,rfl,fun E ax C=>?_⟩;have Y:Rep Z w4 (fun _=>none) (fun _=>none) ⟨slot [] 0 68,[],0,[],[]⟩ (a3.put (some 67) v) w4:=nM (kb:=[]) (kt:=[]) (dst:=some 67) (r:=.top) d (Vh _) (by kernel_rfl) (fun b o=>by simp at o) trivial;refine cC (cZ kA) rV (fun b x e=>by cases e) (jD (fun b x e=>by cases e)) bAx (fun r s=>r=.val (.one (.bool true))/\s.dirty=[]) (fun _ _=>False) ⟨rfl,rfl⟩ ?_ (fun _ _ h=>h.elim) E _ _ _ (C _ _ _) Y;rintro r s ah v w5⟨rfl,u⟩ hv _ l;rw[hv true (Or.inl rfl)];exact hF w5 (qN l u)
theorem aHt (h:Pos2 w k fb [p0,q0,p1,q1,p2,q2,p3,q3] hs uns mt lr rr pl c lp rp gv cv nv)(n:nv=aA)
  (o:∀l,Chg w l []->Calls prog 88 #[.agg #[rp,.int .i64 rr],ptrB fb] l fun e v=>∃cd,e=.returned (.int .i64 cd)/\Li v k fb cd R):
  Calls prog 166 #[ptrB k,ptrB fb] w R:=by
 subst n;have F:=bF func166 rfl rfl;refine nV F (φ:=phW k fb fun _=>none) (vs:=[.one (.ptr 0 0),.one (.ptr 6 0)]) (args:=[ptrB k,ptrB fb]) (s:=mW p0 q0 p1 q1 p2 q2 p3 q3 hs uns mt lr rr pl c lp rp cv aA gv (nE 66)) (by kernel_rfl) ⟨⟨k,0,rfl,rfl⟩,⟨fb,0,rfl,rfl⟩,trivial⟩ (h.rep _) ?_;refine cC (cZ kA) rV (pQ rfl rfl) (jD (pQ rfl rfl)) (bAu p0 q0 p1 q1 p2 q2 p3 q3 hs uns mt lr rr pl c lp rp cv gv) (fun _ _=>False) (fun u s=>u=dY (aF 88) f166/\s=mW p0 q0 p1 q1 p2 q2 p3 q3 hs uns mt lr rr pl c lp rp cv aA gv (slot [(0,P0),(1,P6),(36,.val (.agg [.lit rp,.sint .i64 rr])),(37,P6)] 0 68)) ⟨rfl,rfl⟩ (fun _ _ _ _ _ h=>h.elim) ?_;rintro u s⟨rfl,rfl⟩;refine⟨by kernel_rfl,fun C r a1 l g a=>?_⟩;have c1:=qN a.wd rfl;refine pP (f:=88) (vs:=[.agg [.lit rp,.sint .i64 rr],.one (.ptr 6 0)]) (dst:=some 38) (ks2:=fJ (aF 88) f166) (by kernel_rfl) (bF func88 rfl rfl).en (by kernel_rfl) (g r [] l) a ?_;intro D q
 match D,q with
 | [y,y2],⟨⟨I,A,B⟩,p,_⟩=>
 match I,B with
 | [E,H],⟨b,d,_⟩=>
 have b:E=rp:=b.1;have d:H=.int .i64 rr:=d;rw[uE (a.wd.base 6 (fb,0) rfl) p,A,b,d];refine(o l c1).mono ?_;rintro e v⟨cd,rfl,x⟩;exact⟨_,rfl,fun j z i=>aJP a (by kernel_rfl) (by kernel_rfl) (a.wd.base 0 (k,0) rfl) (a.wd.base 6 (fb,0) rfl) x j i⟩
theorem aV6 {i a p b:Nat}(d:f.contains i=true)(g:f.contains p=true):∀x y,ph2 i a p b x=some y->f.contains x=true:=by
 intro x y e;unfold ph2 at e;split at e
 ·subst_vars;exact d
 ·split at e
  ·subst_vars;exact g
  ·cases e
theorem aHu (h:Pos2 w k fb [p0,q0,p1,q1,p2,q2,p3,q3] hs uns mt lr rr pl c lp rp gv cv nv){n r:Nat}(H:nv=ptrB n)(v:rp=ptrB r)(E:∃cs:LB,w.heap[n]?=some (.cells cs.toArray 232 (0,0)))(I:∃cs:LB,w.heap[r]?=some (.cells cs.toArray 190 (0,0)))(L:r≠k)
  (M:∀p,Chg w p []->Calls prog 88 #[.agg #[rp,.int .i64 rr],ptrB fb] p fun e T=>∃cd,e=.returned (.int .i64 cd)/\Li T k fb cd R):
  Calls prog 166 #[ptrB k,ptrB fb] w R:=by
 obtain⟨cs,g⟩:=E;obtain⟨U,i⟩:=I;obtain⟨n1,n2⟩:=h.aTS g (by decide) (by decide)
 have J:r≠fb:=by
  rintro rfl;have D:=h.fu;rw[i]at D;exact absurd (Obj.cells.inj (Option.some.inj D)).2.1 (by decide)
 have F:=bF func166 rfl rfl
 have u:=h.Ew (exφ:=ph2 2 r 5 n) (ex:=[(2,ext [] 190),(5,ext [] 232)]) (rpC:=.ptr 2 0) (cvC:=.lit cv) (nvC:=.ptr 5 0) ⟨r,0,rfl,v⟩ ⟨rfl,h.o4⟩ ⟨n,0,rfl,H⟩ (by
  intro b B X;have:=nC X;simp at this
  rcases this with⟨rfl,rfl⟩|⟨rfl,rfl⟩
  ·exact⟨rfl,rfl,rfl,r,0,rfl,L,J,[],[],U,i,rfl,trivial⟩
  ·exact⟨rfl,rfl,rfl,n,0,rfl,n1,n2,[],[],cs,g,rfl,trivial⟩) (by
  intro b k' o d;unfold ph2 at d;split at d
  ·cases d;exact gE i
  ·split at d
   ·cases d;exact gE g
   ·cases d) (nE 66)
 have q:∀b x,phW k fb (ph2 2 r 5 n) b=some x->[0,6,2,5].contains b=true:=Xe rfl rfl (aV6 rfl rfl);refine nV F (φ:=phW k fb (ph2 2 r 5 n)) (vs:=[.one (.ptr 0 0),.one (.ptr 6 0)]) (args:=[ptrB k,ptrB fb]) (by kernel_rfl) ⟨⟨k,0,rfl,rfl⟩,⟨fb,0,rfl,rfl⟩,trivial⟩ u ?_;refine cC (cZ kA) rV q (jD q) (bAv p0 q0 p1 q1 p2 q2 p3 q3 hs uns mt lr rr pl c lp cv gv) (fun _ _=>False) (fun S s=>S=dY (aF 88) f166/\s=rrS p0 q0 p1 q1 p2 q2 p3 q3 hs uns mt lr rr pl c lp cv gv (slot [(0,P0),(1,P6),(36,.val (.agg [.ptr 2 0,.sint .i64 rr])),(37,P6)] 0 68)) ⟨rfl,rfl⟩ (fun _ _ _ _ _ h=>h.elim) ?_;rintro S s⟨rfl,rfl⟩;refine⟨by kernel_rfl,fun ab P a1 p z a=>?_⟩;have c1:=qN a.wd rfl;refine pP (f:=88) (vs:=[.agg [.ptr 2 0,.sint .i64 rr],.one (.ptr 6 0)]) (dst:=some 38) (ks2:=fJ (aF 88) f166) (by kernel_rfl) (bF func88 rfl rfl).en (by kernel_rfl) (z P [] p) a ?_;intro ys O
 match ys,O with
 | [y,y2],⟨⟨zs,D,hz⟩,N,_⟩=>
 match zs,hz with
 | [z1,z2],⟨j,l,_⟩=>
 have j:z1=rp:=(uE (ν:=[]) (w:=p) (a.wd.base 2 (r,0) rfl) j).trans v.symm;have l:z2=.int .i64 rr:=l;rw[uE (a.wd.base 6 (fb,0) rfl) N,D,j,l];refine(M p c1).mono ?_;rintro e T⟨cd,rfl,W⟩;exact⟨_,rfl,fun C Y A=>aJP a (by kernel_rfl) (by kernel_rfl) (a.wd.base 0 (k,0) rfl) (a.wd.base 6 (fb,0) rfl) W C A⟩
end
open Rf (Nd Inv aZ)
structure Kept (w w':World) (own own':Nat->Option Own) (fb:Nat):Prop where
 on:On Z.bt w w'
 low:∀k,k<w.heap.size->own k=none->k≠fb->w'.heap[k]?=w.heap[k]?
 own:∀k,k<w.heap.size->own k=none->own' k=none
theorem Kept.trans {a b c:World}{o1 o2 o3:Nat->Option Own}{fb:Nat}(h:Kept a b o1 o2 fb)(g:Kept b c o2 o3 fb):Kept a c o1 o3 fb:=by
 refine⟨h.on.trans g.on,fun k d e f=>?_,fun k d e=>g.own k (Nat.lt_of_lt_of_le d h.on.size) (h.own k d e)⟩;rw[g.low k (Nat.lt_of_lt_of_le d h.on.size) (h.own k d e) f,h.low k d e f]
theorem Kept.Qj {own own':Nat->Option Own}{D:PH}(h:Chg w w' D)(b:∀k∈D,k<w.heap.size->own k=none->k=fb)(g:∀k,k<w.heap.size->own k=none->own' k=none):Kept w w' own own' fb:=
 ⟨h.on,fun k a f d=>h.low k a fun e=>d (b k e a f),g⟩
theorem Kept.still {own:Nat->Option Own}(h:Chg w w' []):Kept w w' own own fb:=Kept.Qj h (fun k a=>by cases a) fun _ _ e=>e
section
variable {w w' w'':World} {b0 fb:Nat} {own own':Nat->Option Own} {at1 at2:NU} {D:PH} {i:Nat} {n n':Nd} {s:Rf.St} {rho:NU} {c:Nat}
theorem aNz:zM w own i []:=fun k a=>by cases a
theorem Net.still (h:Net w b0 own at1 fb s)(a:Inv s.nodes rho c)(hc:Chg w w' []):Net w' b0 own at1 fb s:=by
 refine h.step (i:=s.nodes.length) a (fun _ _ _=>rfl) (Pg.Go.refl _) hc aNz (fun _ _ _ e _=>e) (fun _ _=>rfl) (hc.at h.fuel (by simp)) ?_;intro j m b d;have:=(List.getElem?_eq_some_iff.1 b).1;omega
def kM (w:World)(b0:Nat)(own:Nat->Option Own)(at1:NU)(fb len:Nat)(ok:Bool)(b:Rf.St)(w':World):Prop:=∃own',Kept w w' own own' fb/\(ok=true->∃at2,Net w' b0 own' at2 fb b/\∀a,a<len->at2 a=at1 a)
theorem kM.no {len:Nat}{a:Rf.St}(h:Kept w w' own own' fb):kM w b0 own at1 fb len false a w':=⟨own',h,fun e=>by cases e⟩
theorem kM.still {len:Nat}{ok:Bool}{b:Rf.St}(h:kM w b0 own at1 fb len ok b w')(a:ok=true->∃rho c,Inv b.nodes rho c)(hc:Chg w' w'' []):kM w b0 own at1 fb len ok b w'':=by
 obtain⟨own',d,f⟩:=h;refine⟨own',d.trans (Kept.still hc),fun e=>?_⟩;obtain⟨at2,g,j⟩:=f e;obtain⟨rho,c,a⟩:=a e;exact⟨at2,g.still a hc,j⟩
theorem kM.after {len:Nat}{ok:Bool}{d:Rf.St}{T:Nat->Option Own}{at':NU}(p:Kept w w' own T fb)(b:∀a,a<len->at' a=at1 a)(q:len<=k)(h:kM w' b0 T at' fb k ok d w''):kM w b0 own at1 fb len ok d w'':=by
 obtain⟨own',f,g⟩:=h;refine⟨own',p.trans f,fun e=>?_⟩;obtain⟨at2,j,l⟩:=g e;exact⟨at2,j,fun a o=>(l a (by omega)).trans (b a o)⟩
def nU (f:Nat):Prop:=∀(w:World) (b0 fb:Nat) (own:Nat->Option Own) (at1:NU) (s:Rf.St) (rho:NU) (c i j:Nat) (n:Nd) (x:Rf.St×Option Int),Net w b0 own at1 fb s->b0<=w.heap.size->s.clock=(c:Int)->c<=3000->Inv s.nodes rho c->s.nodes[i]?=some n->j<=n.out.length->c+rho i+2<=f->Rf.sym f s i j=some x->
 Calls prog 113 #[ptrB (at1 i),.int .i64 j,ptrB fb] w fun e w'=>e=.returned (.int .i64 (eL x.2))/\kM w b0 own at1 fb s.nodes.length x.2.isSome x.1 w'
variable {l:List V}
theorem Net.tG (h:Net w b0 own at1 fb s){v z p1 y u R p3 f d:Int}{g e:Value}{a:Option (Nat×Nat)}{j:ON}(b:Seen w b0 own at1 s.nodes i n v z p1 y u R p3 f mt d gv g e l a C j):Pos2 w (at1 i) fb [v,z,p1,y,u,R,p3,f] (!n.pos) (fM n) mt (hY n) (gB n) d s.clock (eW at1 (lArg n)) (eW at1 (rArg n)) gv g e:=by
 obtain⟨o1,o2,o3⟩:=b.bV.Es;exact⟨b.bV.nd,h.fuel,b.bits,rfl,Ve _,Ve _,o1,o2,o3⟩
theorem eight (h:zs.length=8):∃a b c d e f g h,zs=[a,b,c,d,e,f,g,h]:=by
 match zs,h with
 | [a,b,c,d,e,f,g,h],_=>exact⟨a,b,c,d,e,f,g,h,rfl⟩
theorem Mj (h8:zs.length=8)(h:eO l (cH zs)):eO l (cH (lC zs)):=by
 obtain⟨b,f,p1,g,d,j,p3,k,rfl⟩:=eight h8;obtain⟨t,a,e⟩:=aNq b f p1 g d j p3 k;exact eO.over h a e
theorem aNt (h8:zs.length=8):(lC zs).length=8:=by
 obtain⟨a,d,p1,e,b,f,p3,g,rfl⟩:=eight h8;rfl
theorem aQk (a b c d e g p1 h f j p3 k:Int):Pg.tI [(e,g),(p1,h),(f,j),(p3,k)] ⟨a,b,c,d⟩=cH (vG a b c d e g p1 h f j p3 k):=by
 unfold Pg.tI vG cH iQ rd2 sc iC;simp[Int.mul_comm]
theorem aHs (a b c d e g p1 h f j p3 k:Int):Pg.oU [(e,g),(p1,h),(f,j),(p3,k)] ⟨a,b,c,d⟩=cH (kK a b c d e g p1 h f j p3 k):=by
 unfold Pg.oU kK cH iQ rd2 sc iC;simp[Int.mul_comm]
theorem aSM (v d f p1 g e h p3 j:Int):[(d,f),(p1,g),(e,h),(p3,j)].map (Rf.fI (Mt.sym v))=cH (lV (code v) d f p1 g e h p3 j):=by
 obtain⟨l,o,p,q⟩:=Pc v;unfold lV cH Rf.fI Mt.vU Mt.vV;rw[l,o,p,q];simp
 have k:∀a b x y:Int,a*x+-b*y=a*x-b*y:=fun a b x y=>by rw[Int.neg_mul];omega
 simp only[k,and_self]
theorem Vx (v:Int):code v≠0:=by
 unfold code;split
 ·decide
 ·split
  ·decide
  ·split
   ·decide
   ·split
    ·decide
    ·split
     ·decide
     ·split<;>decide
theorem Net.pI (h:Net w b0 own at1 fb s)(I:Inv s.nodes rho c)(f:s.nodes[i]?=some n)(r:sD n n')(B:HC n')(q:Pg.Go s.nodes (s.nodes.set i n'))(hc:Chg w w' D)(L:∀k∈D,k=at1 i\/k=fb\/(own k=some (.gv i)/\∀cs ty m,w.heap[k]?=some (.cells cs ty m)->ty=110)\/w.heap.size<=k)(a:∀k o,k<w.heap.size->own k=some o->own' k=some o)
  {v z p1 y u R p3 N mt d H cl:Int} {gv gv' x Y:Value} {zs':LN} (A:Blk w b0 own at1 i n v z p1 y u R p3 N mt H gv x Y) (C:n'.k=n.k/\d=mt\/n.t=[]/\n'.k=n.k+1/\d=mt+1)
  (E:Pos2 w' (at1 i) fb zs' (!n'.pos) (fM n') d (hY n') (gB n') H cl (eW at1 (lArg n')) (eW at1 (rArg n')) gv' x Y) (M:gD w' b0 own' i n'.out gv') {F:List V} (p:Rf.corners s.nodes n'=some F) (l:eO F (cH zs')):Net w' b0 own' at1 fb ⟨s.nodes.set i n',cl⟩:=by
 have j:zM w own i D:=by
  intro k C cs ty m b
  rcases L k C with rfl|rfl|⟨e,J⟩|e
  ·obtain⟨xs,g,_⟩:=A.nd.ex;rw[b]at g;exact Or.inl ⟨(Obj.cells.inj (Option.some.inj g)).2.1,(h.nd i n f).own⟩
  ·have g:=h.fuel;rw[b]at g;exact Or.inr (Or.inr (Obj.cells.inj (Option.some.inj g)).2.1)
  ·exact Or.inr (Or.inl ⟨J cs ty m b,e⟩)
  ·have:=gE b;omega
 obtain⟨O,U,P,W,S,X,T,s3,rfl⟩:=eight E.h8;refine h.put I f q hc j a E.fu ⟨⟨O,U,P,W,S,X,T,s3,d,H,gv',x,Y,A.pI a r hc j I f C E.nd M,F,q.corners p,l⟩,B,a _ _ A.nd.lt (h.nd i n f).own,(h.nd i n f).lo,by rw[r.aP,r.t,r.nest];exact(h.nd i n f).Ss⟩
end
section
variable {w w' w'':World} {b0 fb:Nat} {own own':Nat->Option Own} {at1 at2:NU} {D:PH} {i:Nat} {n n':Nd} {s:Rf.St} {rho:NU} {c:Nat}
theorem Cv {ns a:List Nd}{m:Nd}(h:Rf.put ns i m=some a):a=ns.set i m/\i<ns.length:=by
 unfold Rf.put at h;split at h
 ·rename_i b;cases h;exact⟨rfl,b.2⟩
 ·cases h
theorem gD.row {out:LN}(h:gD w b0 own i out gv):∃g,RowOf w 110 (out.map fun c=>Value.int .i64 (code c)) gv g/\∀b,g=some b->own b=some (.gv i)/\b0<=b:=by
 rcases h with⟨f,j⟩|⟨g,d,a,f,j,k,l,o,p⟩
 ·exact⟨none,Or.inl ⟨f,by rw[j];rfl,rfl⟩,fun b e=>by cases e⟩
 ·exact⟨some g,Or.inr ⟨g,d,a,rfl,by rw[f];simp,j,by simpa using k,by simpa using l⟩,fun b e=>by cases e;exact⟨o,p⟩⟩
theorem gD.aV1 {out:LN}{b:Nat}(h:RowOf w 110 (out.map fun c=>Value.int .i64 (code c)) gv (some b))(q:own b=some (.gv i))(p:b0<=b):gD w b0 own i out gv:=by
 rcases h with⟨_,_,e⟩|⟨g,d,a,f,j,k,l,o⟩
 ·cases e
 ·cases f;exact Or.inr ⟨b,d,a,by rw[j];simp,k,by simpa using l,by simpa using o,q,p⟩
theorem aSN {f:Nat}(h:Net w b0 own at1 fb s)(be:b0<=w.heap.size)(Y:s.clock=(c:Int))(bf:c<=3000)(L:Inv s.nodes rho c)(B:s.nodes[i]?=some n){y:Rf.St×Bool}(C:Rf.step1 f s i n=some y)(a4:y.2=true->∃rho c,Inv y.1.nodes rho c)
  (hR:nextP s.nodes n=some none->∀S,Chg w S []->Calls prog 149 #[ptrB (at1 i),ptrB fb] S fun e w'=>e=.returned (.bool y.2)/\kM w b0 own at1 fb s.nodes.length y.2 y.1 w'):
  Calls prog 129 #[ptrB (at1 i),ptrB fb] w fun e w'=>e=.returned (.bool y.2)/\kM w b0 own at1 fb s.nodes.length y.2 y.1 w':=by
 have hN:=L.at' i n B;obtain⟨p0,q0,p1,q1,p2,q2,p3,q3,mt,pl,gv,cv,nv,l,g,cc,nn,hs⟩:=h.seen L B
 obtain⟨o,F⟩:∃o,nextP s.nodes n=some o:=by
  unfold nextP;split
  ·exact⟨_,rfl⟩
  ·exact Rf.qA L hN
 obtain⟨gO,J,q⟩:=hs.bV.Aw.row;have ae:=h.tG hs;have a7:=hN.iP;have bg:=C;unfold Rf.step1 at C;rw[F,Option.bind_some]at C
 -- what is given
 have u:∀v,o=some v->1<=c->∃n',n'={n with out:=n.out++[v],told:=n.told.mul (Mt.sym v),dT:=n.dT++[n.told.mul (Mt.sym v)]}/\y=(⟨s.nodes.set i n',s.clock-1⟩,true)/\(∃E c',Inv (s.nodes.set i n') E c')/\Rf.corners s.nodes n'=some (l.map (Rf.fI (Mt.sym v)))/\eO (l.map (Rf.fI (Mt.sym v))) (cH (lV (code v) p0 q0 p1 q1 p2 q2 p3 q3)):=by
  intro v hv X;subst hv;simp only at C
  have hp:n.aP=false:=by
   unfold nextP at F
   cases a2:n.aP with
   |false=>rfl
   |true=>rw[a2]at F;simp at F
  unfold nextP at F;rw[hp]at F;simp only[Bool.false_eq_true,if_false]at F
  obtain⟨c0,rfl⟩:∃c0,c=c0+1:=⟨c-1,by omega⟩
  rw[if_neg (by rw[Y];omega)]at C;obtain⟨n',g1,g2,g3,g4⟩:=Rf.aG3 L B hp F;unfold Rf.give at C;rw[g1,map_some,map_some]at C;have j:=(Cv g1).1;have hi:=(Cv g1).2
  have T:n'={n with out:=n.out++[v],told:=n.told.mul (Mt.sym v),dT:=n.dT++[n.told.mul (Mt.sym v)]}:=by
   have:=congrArg (fun x=>x[i]?) j;simp only[getElem?_set_self hi]at this;exact Option.some.inj this
  refine⟨n',T,(Option.some.inj C).symm,⟨rho,c0,g2⟩,?_,?_⟩
  ·rw[T];exact Pg.aH3 hs.Cx v _ _
  ·rw[<-aSM];exact hs.Gw.fI _
 have M:eL o≠0->1<=s.clock->∀z∈lC (lV (eL o) p0 q0 p1 q1 p2 q2 p3 q3),Bits 10 z:=by
  intro d X
  cases o with
  |none=>exact absurd rfl d
  |some v=>
   obtain⟨n',j,T,⟨E,c',W⟩,e4,e5⟩:=u v rfl (by omega);have hi:=(List.getElem?_eq_some_iff.1 B).1
   have N:Pg.Go s.nodes (s.nodes.set i n'):=Pg.Go.set B (by rw [j]) (by
    intro r m A;rw[j];simp only
    rw[getElem?_append_left (List.getElem?_eq_some_iff.1 A).1];exact A) (by
    intro r m A;rw[j];simp only
    rw[getElem?_append_left (List.getElem?_eq_some_iff.1 A).1];exact A)
   have az:(s.nodes.set i n')[i]?=some n':=getElem?_set_self hi;have I:=Mj rfl e5;obtain⟨r0,s0,r1,s1,r2,s2,r3,s3,e8⟩:=eight (aNt (zs:=lV (code v) p0 q0 p1 q1 p2 q2 p3 q3) rfl);have e9:eL (some v)=code v:=rfl;rw[e9,e8];rw[e8]at I;exact nZ (s:=⟨s.nodes.set i n',0⟩) W az (N.corners e4) I
 refine aLH (cd:=eL o) (xs:=n.out.map fun c=>Value.int .i64 (code c)) (g:=gO) ae (by rw[Y];omega) J (by simp;omega) ?_ ?_ ?_ M ?_
 ·intro S c1;obtain⟨_,_,_,_,_,_,_,_,_,_,_,_,_,_,_,_,_,a3⟩:=(h.still L c1).seen L B;exact a3.next hN F
 ·intro d S c1
  have a0:o=none:=by
   cases o with
   |none=>rfl
   |some v=>exact absurd d (Vx v)
  subst a0;refine(hR F S c1).mono ?_;rintro e w2⟨rfl,af⟩;exact⟨_,rfl,fun w3 c3=>⟨rfl,af.still a4 c3⟩⟩
 ·intro d ay S c1
  cases o with
  |none=>exact absurd rfl d
  |some v=>
   simp only at C;rw[if_pos (by omega)]at C;cases C;exact⟨rfl,kM.no (own':=own) (Kept.still c1)⟩
 ·intro d X S U b H a1 R hb
  cases o with
  |none=>exact absurd rfl d
  |some v=>
   obtain⟨n',j,T,⟨E,c',W⟩,e4,e5⟩:=u v rfl (by omega);subst T;have hi:=(List.getElem?_eq_some_iff.1 B).1;have p:gO=some b\/w.heap.size<=b:=hb
   have ad:∀k o,k<w.heap.size->own k=some o->(fun k=>if k=b then some (Own.gv i)else own k) k=some o:=by
    intro k o O P;simp only
    by_cases ab:k=b
    ·subst ab;rw[if_pos rfl]
     rcases p with e|e
     ·rw[(q k e).1]at P;exact P
     ·omega
    ·rw[if_neg ab];exact P
   have av:own (at1 i)=some (.nd i):=(h.nd i n B).own;refine⟨rfl,fun k=>if k=b then some (Own.gv i)else own k,Kept.Qj H ?_ ?_,fun _=>⟨at1,?_,fun _ _=>rfl⟩⟩
   ·intro k O ay a;simp at O
    rcases O with rfl|rfl|rfl
    ·rw[av]at a;cases a
    ·rfl
    ·rcases p with e|e
     ·rw[(q k e).1]at a;cases a
     ·omega
   ·intro k O a;show(if k=b then some (Own.gv i)else own k)=none;rw[if_neg]
    ·exact a
    ·rintro rfl
     rcases p with e|e
     ·rw[(q k e).1]at a;cases a
     ·omega
   ·have N:Pg.Go s.nodes (s.nodes.set i n'):=Pg.Go.set B (by rw [j]) (by
     intro r m A;rw[j];simp only
     rw[getElem?_append_left (List.getElem?_eq_some_iff.1 A).1];exact A) (by
     intro r m A;rw[j];simp only
     rw[getElem?_append_left (List.getElem?_eq_some_iff.1 A).1];exact A)
    refine h.pI L B (n':=n') (by rw[j];exact⟨rfl,rfl,rfl,rfl,rfl,rfl,rfl,rfl,rfl,rfl,rfl⟩) (by rw[j];exact(h.nd i n B).hc.give v) N H ?_ ad hs.bV (Or.inl ⟨by rw[j],rfl⟩) (zs':=lC (lV (code v) p0 q0 p1 q1 p2 q2 p3 q3)) (gv':=U) (by rw[j];exact a1) ?_ e4 (Mj rfl e5)
    ·intro k O;simp at O
     rcases O with rfl|rfl|rfl
     ·exact Or.inl rfl
     ·exact Or.inr (Or.inl rfl)
     ·rcases p with e|e
      ·refine Or.inr (Or.inr (Or.inl ⟨(q k e).1,fun cs ty m ax=>?_⟩));subst e;obtain⟨ds,aa⟩:=J.ty;rw[ax]at aa;exact(Obj.cells.inj (Option.some.inj aa)).2.1
      ·exact Or.inr (Or.inr (Or.inr e))
    ·rw[j];simp only;refine gD.aV1 (b:=b) (by rw[List.map_append];exact R) (by simp) ?_
     rcases p with e|e
     ·exact(q b e).2
     ·omega
end
section
variable {w w' w'':World} {b0 fb:Nat} {own own':Nat->Option Own} {at1 at2:NU} {D:PH} {i:Nat} {n n':Nd} {s:Rf.St} {rho:NU} {c:Nat}
abbrev uJ (w:World)(b0:Nat)(own:Nat->Option Own)(at1:NU)(fb len:Nat)(y:Rf.St×Bool)(e:Ending)(w':World):Prop:=e=.returned (.bool y.2)/\kM w b0 own at1 fb len y.2 y.1 w'
theorem yW {ns:List Nd}(e:ns[i]?=some n)(a:n'.pos=n.pos)(b:n'.dT=n.dT)(d:n'.out=n.out):Pg.Go ns (ns.set i n'):=Pg.Go.set e a (fun r m h=>by rw[b];exact h) (fun r m h=>by rw[d];exact h)
theorem Py (h:Net w b0 own at1 fb s)(f:s.nodes[i]?=some n)(hc:Chg w w' [at1 i,fb]):Kept w w' own own fb:=by
 refine Kept.Qj hc ?_ fun _ _ e=>e
 intro k b d a;simp at b
 rcases b with rfl|rfl
 ·rw[(h.nd i n f).own]at a;cases a
 ·rfl
variable {y:Rf.St×Bool}
theorem aVn {f:Nat}(h:Net w b0 own at1 fb s)(ag:s.clock=(c:Int))(a9:c<=3000)(W:Inv s.nodes rho c)(p:s.nodes[i]?=some n)(M:n.t=[])(hy:Rf.reads (Rf.sym f) s i n=some y):
  Calls prog 149 #[ptrB (at1 i),ptrB fb] w (uJ w b0 own at1 fb s.nodes.length y):=by
 have hN:=W.at' i n p;have hi:=(List.getElem?_eq_some_iff.1 p).1;obtain⟨p0,q0,p1,q1,p2,q2,p3,q3,mt,pl,gv,cv,nv,l,g,cc,nn,v⟩:=h.seen W p;obtain⟨z,cb,I,q⟩:=v.bV.fK M;have bb:=hN.ku;obtain⟨B,N,O,P,S,J,r,ah,F⟩:=q.mat n.k (by omega);unfold Rf.reads at hy;rw[if_pos M,r,Option.bind_some]at hy;obtain⟨bf,u,A⟩:=Option.map_eq_some_iff.1 hy;have aj:=(Cv u).1;subst aj;have L:=h.tG v
 have x:1<=s.clock->∃n',n'={n with part:=n.part.mul (wM B ⟨N,O,P,S⟩),k:=n.k+1}/\y=(⟨s.nodes.set i n',s.clock-1⟩,true)/\(∃o Y,Inv (s.nodes.set i n') o Y)/\∃X,Rf.corners s.nodes n'=some X/\eO X (cH (kK N O P S p0 q0 p1 q1 p2 q2 p3 q3)):=by
  intro j
  obtain⟨c0,rfl⟩:∃c0,c=c0+1:=⟨c-1,by omega⟩
  obtain⟨m,n2,m1,m2,m3,m4,m5⟩:=Rf.aJi W p M;rw[r]at m1;cases m1;rw[u]at m2;have E:=m3;rw[<-(Option.some.inj m2)]at E;obtain⟨pp,qq,hl,H⟩:=Pg.aH7 (ns:=s.nodes) M v.Cx (wM B ⟨N,O,P,S⟩) (n.k+1);refine⟨_,rfl,?_,⟨rho,c0,E⟩,_,H,?_⟩
  ·rw[<-A];congr 1;exact decide_eq_true (by omega)
  ·rw[<-aHs];have a:=v.Gw;rw[hl]at a;exact a.La _ J
 refine aID (cb:=cb) (by rw[<-I];exact(v.bV.nd.cell rfl).1) ?_;refine(aEa (R:=fun e w'=>∃b,e=.returned (.bool b)/\uJ w b0 own at1 fb s.nodes.length y (.returned (.bool b)) w') L I q.bV (by rw[ag];omega) (by rw[z];omega) (by rw[z];omega) ah (by rw[z];exact F) ?_ ?_ ?_)
 ·intro j w1 c1;refine⟨false,rfl,?_,?_⟩
  ·rw[<-A];simp only;rw[decide_eq_false (by omega)]
  ·have:y.2=false:=by
    rw[<-A];exact decide_eq_false (by omega)
   rw[this];exact kM.no (Kept.still (own:=own) c1)
 ·intro j;obtain⟨n',d,e2,⟨o,Y,C⟩,X,e4,e5⟩:=x j;have ai:(s.nodes.set i n')[i]?=some n':=getElem?_set_self hi;have a:=Mj rfl e5;obtain⟨r0,s0,r1,s1,r2,s2,r3,s3,e8⟩:=eight (aNt (zs:=kK N O P S p0 q0 p1 q1 p2 q2 p3 q3) rfl);rw[e8];rw[e8]at a;exact nZ (s:=⟨s.nodes.set i n',0⟩) C ai ((yW (n':=n') p (by rw[d]) (by rw[d]) (by rw[d])).corners e4) a
 ·intro j w1 c1 ak;obtain⟨n',d,e2,⟨o,Y,C⟩,X,e4,e5⟩:=x j;subst e2;refine⟨true,rfl,rfl,own,Py h p c1,fun _=>⟨at1,?_,fun _ _=>rfl⟩⟩;refine h.pI W p (n':=n') (own':=own) (by rw[d];exact⟨rfl,rfl,rfl,rfl,rfl,rfl,rfl,rfl,rfl,rfl,rfl⟩) ((h.nd i n p).hc.of (by rw[d]) (by rw[d]) (by rw[d])) (yW p (by rw[d]) (by rw[d]) (by rw[d])) c1 ?_ (fun _ _ _ e=>e) v.bV (Or.inr ⟨M,by rw[d],rfl⟩) (zs':=lC (kK N O P S p0 q0 p1 q1 p2 q2 p3 q3)) (gv':=gv) (by rw[d];exact ak) ?_ e4 (Mj rfl e5)
  ·intro k hk;simp at hk
   rcases hk with rfl|rfl
   ·exact Or.inl rfl
   ·exact Or.inr (Or.inl rfl)
  ·rw[d];obtain⟨gO,a1,ba⟩:=v.bV.Aw.row
   rcases v.bV.Aw with⟨g1,U⟩|⟨g',aa,T,g1,U,g3,g4,g5,g6⟩
   ·exact Or.inl ⟨g1,U⟩
   ·refine Or.inr ⟨g',aa,T,g1,c1.at U ?_,g3,g4,g5,g6⟩;intro hm;simp at hm
    rcases hm with rfl|rfl
    ·rw[(h.nd i n p).own]at g5;cases g5
    ·have:=h.fuel;rw[U]at this;exact absurd (Obj.cells.inj (Option.some.inj this)).2.1 (by decide)
variable {x:Rf.St×Option Int}
theorem Zl {f:Nat}(y:nU f)(h:Net w b0 own at1 fb s)(j:b0<=w.heap.size)(l:s.clock=(c:Int))(k:c<=3000)(v:Inv s.nodes rho c){a r:Nat}{d:Nd}(o:s.nodes[a]?=some d)(A:r<=d.out.length)(z:c+rho a+2<=f)(B:Rf.sym f s a r=some x):
  ∀p,Chg w p []->Calls prog 88 #[.agg #[ptrB (at1 a),.int .i64 r],ptrB fb] p fun e q=>∃u,e=.returned (.int .i64 u)/\u=eL x.2/\kM w b0 own at1 fb s.nodes.length x.2.isSome x.1 q:=by
 intro p c1
 refine aEW fun q c2=>?_
 have b:=c1.trans c2;refine(y q b0 fb own at1 s rho c a r d x (h.still v b) (le_trans j b.on.size) l k v o A z B).mono ?_;rintro e C⟨rfl,g⟩;exact⟨_,rfl,_,rfl,rfl,kM.after (Kept.still b) (fun _ _=>rfl) (le_refl _) g⟩
theorem aRc {T:World}{a r p:Nat}(h:Net w b0 own at1 fb s)(hn:s.nodes[i]?=some n)(aj:c<=3000)(H:kM w b0 own at1 fb s.nodes.length x.2.isSome x.1 T)(B:Rf.eP s rho c a r x)(ra:rho a<rho i)(I:∀v,x.2=some v->∃n',x.1.nodes[a]?=some n'/\n'.out[r]?=some v)
  (U:(match x.2 with|none=>some (x.1,false)|some _=>Rf.after x.1 i p)=some y)
  {K:Int->Int->Int->Int->Int->Int->Int->Int->Bool->Int->Int->Int->Int->Int->Int->Value->Value->Value->Value->Value->Prop}
  (hK:∀v d at2 o c2 W L O p1 P M R p3 S mt N gv C J l g X nn,x.2=some v->Kept w T own d fb->Net T b0 d at2 fb x.1->(∀a,a<s.nodes.length->at2 a=at1 a)->x.1.clock=((c2+1:Nat):Int)->c2+1<=c->Inv x.1.nodes o (c2+1)->x.1.nodes[i]?=some n->x.1.nodes[a]?=some W->W.out[r]?=some v->Seen T b0 d at2 x.1.nodes i n L O p1 P M R p3 S mt N gv C J l g X nn->Rf.hP s.nodes rho a x.1.nodes o->K L O p1 P M R p3 S (!n.pos) (fM n) mt (hY n) (gB n) N x.1.clock (eW at2 (lArg n)) (eW at2 (rArg n)) gv C J):
  zH T (at1 i) fb (eL x.2) (fun e w'=>∃b,e=.returned (.bool b)/\uJ w b0 own at1 fb s.nodes.length y (.returned (.bool b)) w') K:=by
 obtain⟨d,f,F⟩:=H;refine⟨fun q w3 c3=>?_,fun q=>?_⟩
 ·have u:x.2=none:=by
   cases u:x.2 with
   |none=>rfl
   |some v=>rw[u]at q;exact absurd q (Vx v)
  rw[u]at U;cases U;exact⟨false,rfl,rfl,kM.no (f.trans (Kept.still c3))⟩
 ·obtain⟨v,u⟩:∃v,x.2=some v:=by
   cases u:x.2 with
   |none=>rw[u]at q;exact absurd rfl q
   |some v=>exact⟨v,rfl⟩
  obtain⟨at2,k,E⟩:=F (by rw[u];rfl);obtain⟨o,c2,y1,y2,y3,y4,n',y5,y6⟩:=B.ex v u;obtain⟨W,k1,k2⟩:=I v u;have hi:=(List.getElem?_eq_some_iff.1 hn).1;have z:x.1.nodes[i]?=some n:=y4.same i n hn ra;have Y:=y3.at' i n z;obtain⟨L,O,p1,P,M,R,p3,S,mt,N,gv,C,J,l,g,X,nn,hs⟩:=k.seen y3 z;rw[u]at U;obtain⟨ab,ah⟩:=Yz z U
  have hu:∀j,n.read.getD j 0<=1000000:=by
   intro j;rw[List.getD_eq_getElem?_getD]
   cases e:n.read[j]? with
   |none=>simp
   |some r=>have:=Y.jH r (List.mem_of_getElem? e);simp;omega
  have al:hY n<=1000000:=by unfold hY;split;exact hu 0;omega
  have am:gB n<=1000000:=by
   unfold gB;split
   ·exact hu 1
   ·split
    ·exact hu 0
    ·omega
  have A:=k.tG hs;rw[E i hi]at A;refine⟨L,O,p1,P,M,R,p3,S,_,_,mt,_,_,N,_,_,_,gv,C,J,A,by rw[y2];omega,by omega,by omega,by omega,by omega,fun aa w3 c3=>?_,fun ak=>?_⟩
  ·have:=ab aa;refine⟨false,rfl,by rw[this],?_⟩;rw[this];exact kM.no (f.trans (Kept.still c3))
  ·obtain⟨c3,rfl⟩:∃c3,c2=c3+1:=⟨c2-1,by omega⟩
   exact hK v d at2 o c3 W L O p1 P M R p3 S mt N gv C J l g X nn u f k E y2 y1 y3 z k1 k2 hs y4
end
section
variable {w w2:World} {b0 fb:Nat} {own own2:Nat->Option Own} {at1 at2:NU} {i:Nat} {n:Nd} {s s2:Rf.St} {rho rho2:NU} {c c2:Nat}
theorem gD.Py {out:LN}(h:gD w b0 own i out gv)(a:Net w b0 own at1 fb s)(q:s.nodes[i]?=some n)(c1:Chg w w2 [at1 i,fb]):gD w2 b0 own i out gv:=by
 rcases h with⟨f,d⟩|⟨k,e,b,f,d,l,o,g,p⟩
 ·exact Or.inl ⟨f,d⟩
 ·refine Or.inr ⟨k,e,b,f,c1.at d ?_,l,o,g,p⟩;intro j;simp at j
  rcases j with rfl|rfl
  ·rw[(a.nd i n q).own]at g;cases g
  ·have:=a.fuel;rw[d]at this;exact absurd (Obj.cells.inj (Option.some.inj this)).2.1 (by decide)
variable {a r:Nat}
theorem aKY {w:Nat}{d:Nd}{v:Int}(j:Net w2 b0 own2 at2 fb s2)(E:Inv s2.nodes rho2 (c2+1))(p:s2.nodes[i]?=some n){z S p1 u R U p3 T L:Int}{g J:Value}{l:List V}{b:Option (Nat×Nat)}{P:ON}(H:Seen w2 b0 own2 at2 s2.nodes i n z S p1 u R U p3 T mt L gv g J l b C P)(M:n.args[w]?=some a)(O:n.read[w]?=some r)(B:s2.nodes[a]?=some d)(hv:d.out[r]?=some v){y:LN}{I:List V}(h8:y.length=8)(o:Rf.corners s2.nodes {n with read:=bump n.read w}=some I)(h:eO I (cH y)):
  (∀f∈lC y,Bits 10 f)/\Inv (s2.nodes.set i {n with read:=bump n.read w}) rho2 c2/\∀A,Chg w2 A [at2 i,fb]->Pos2 A (at2 i) fb (lC y) (!n.pos) (fM n) mt (hY {n with read:=bump n.read w}) (gB {n with read:=bump n.read w}) L (s2.clock-1) (eW at2 (lArg n)) (eW at2 (rArg n)) gv g J->Net A b0 own2 at2 fb ⟨s2.nodes.set i {n with read:=bump n.read w},s2.clock-1⟩:=by
 have hi:=(List.getElem?_eq_some_iff.1 p).1;have q:=Rf.aQl E p M O B (List.getElem?_eq_some_iff.1 hv).1;have x:Pg.Go s2.nodes (s2.nodes.set i {n with read:=bump n.read w}):=yW p rfl rfl rfl;refine⟨?_,q,fun A c3 N=>?_⟩
 ·have h:=Mj h8 h;obtain⟨X,s0,Y,s1,r2,W,r3,s3,D⟩:=eight (aNt h8);rw[D];rw[D]at h;exact nZ (s:=⟨s2.nodes.set i {n with read:=bump n.read w},0⟩) q (getElem?_set_self hi) (x.corners o) h
 ·refine j.pI E p (n':={n with read:=bump n.read w}) (own':=own2) ⟨rfl,rfl,rfl,rfl,rfl,rfl,rfl,rfl,rfl,rfl,rfl⟩ ((j.nd i n p).hc.of rfl rfl rfl) x c3 ?_ (fun _ _ _ e=>e) H.bV (Or.inl ⟨rfl,rfl⟩) (zs':=lC y) (gv':=gv) N (H.bV.Aw.Py j p c3) o (Mj h8 h);intro k F;simp at F
  rcases F with rfl|rfl
  ·exact Or.inl rfl
  ·exact Or.inr (Or.inl rfl)
variable {v u:V}
theorem aPS {x y:V}(d:n.t=[v,u,x,y])(a:n.read[0]?=some r):(hY {n with read:=bump n.read 0}:Int)=hY n+1/\gB {n with read:=bump n.read 0}=gB n:=by
 unfold hY gB;simp only[d]
 cases b:n.read with
 |nil=>rw[b]at a;simp at a
 |cons e f=>simp[bump]
theorem aQh {x y:V}(b:n.t=[v,u,x,y])(a:n.read[1]?=some r):(gB {n with read:=bump n.read 1}:Int)=gB n+1/\hY {n with read:=bump n.read 1}=hY n:=by
 unfold hY gB;simp only[b]
 match hd:n.read with
 | []=>rw[hd]at a;simp at a
 | [_]=>rw[hd]at a;simp at a
 |r0::d::e=>simp[bump]
theorem aQS (d:n.t=[v,u])(a:n.read[0]?=some r):(gB {n with read:=bump n.read 0}:Int)=gB n+1/\hY {n with read:=bump n.read 0}=hY n:=by
 unfold hY gB;simp only[d]
 cases b:n.read with
 |nil=>rw[b]at a;simp at a
 |cons e f=>simp[bump]
variable {y:Rf.St×Bool}
theorem aST {f:Nat}(hS:nU f)(h:Net w b0 own at1 fb s)(Y:b0<=w.heap.size)(H:s.clock=(c:Int))(z:c<=3000)(P:Inv s.nodes rho c)(R:s.nodes[i]?=some n)(hf:c+rho i+1<=f){x' y':V}(S:n.t=[v,u,x',y'])(hp:n.aP=false)(D:n.args[0]?=some a)(E:n.read[0]?=some r){x:Rf.St×Option Int}(hx:Rf.sym f s a r=some x)(hy:(match x.2 with|none=>some (x.1,false)|some _=>Rf.after x.1 i 0)=some y):
  Calls prog 165 #[ptrB (at1 i),ptrB fb] w fun e w'=>∃b,e=.returned (.bool b)/\uJ w b0 own at1 fb s.nodes.length y (.returned (.bool b)) w':=by
 have W:=P.at' i n R;have hi:=(List.getElem?_eq_some_iff.1 R).1;obtain⟨la,ra⟩:=W.arg 0 a D;have o:s.nodes[a]?=some s.nodes[a]:=getElem?_eq_getElem la;obtain⟨x0,O,B⟩:=Rf.total f s a r rho c H z P _ o (W.rd 0 a r _ D E o) (by omega);rw[hx]at O;cases O
 have N:∀v,x.2=some v->∃n',x.1.nodes[a]?=some n'/\n'.out[r]?=some v:=fun v e=>Rf.We f s a r x.1 v (by rw[hx];cases x;simp only at e;rw[e])
 obtain⟨p0,q0,p1,q1,p2,q2,p3,q3,mt,pl,gv,cv,nv,l,g,cc,nn,hs⟩:=h.seen P R
 have aa:lArg n=some a:=by unfold lArg;rw[S];exact D
 have ab:hY n=r:=by unfold hY;rw[S];simp[List.getD_eq_getElem?_getD,E]
 refine aGc (h.tG hs) fun w1 c1=>?_
 rw[aa,ab];refine(Zl hS h Y H z P o (W.rd 0 a r _ D E o) (by omega) hx w1 c1).mono ?_;rintro e w2⟨cd,rfl,rfl,M⟩;refine⟨_,rfl,aRc h R z M B ra N hy ?_⟩;intro v own2 at2 rho2 c2 xa p0 q0 p1 q1 p2 q2 p3 q3 mt pl gv cv nv l g cc nn hv hk j F I au U A k q C ai;have ae:=(j.nd a xa k).hc;obtain⟨pp,qq,ss,tt,hl,J⟩:=Pg.aH4 S C.Cx D k E q ae;have p:=C.Gw;rw[hl]at p;have d:=p.tI (Mt.sym v);obtain⟨h1,h2,h3,h4⟩:=Pc v
 have e0:Mt.sym v=⟨gN (code v),gQ (code v),gU (code v),gV (code v)⟩:=by rw[h1,h2,h3,h4]
 rw[e0,aQk,<-e0]at d;obtain⟨k1,k2,k3⟩:=aKY j U A C D E k q rfl J d
 have T:eL x.2=code v:=by rw[hv];rfl
 rw[T];refine⟨k1,fun w3 c3 L=>?_⟩;rw[hv]at hy;obtain⟨a2,t1,t2⟩:=(Yz A hy).2 (by rw[I];omega);unfold Rf.settle at t1;rw[if_neg (by simp[hp])]at t1;cases t1;subst t2;have X:=F i hi;rw[<-X]at c3 L;obtain⟨b1,b2⟩:=aPS S E;refine⟨true,rfl,rfl,own2,hk.trans (Py j A c3),fun _=>⟨at2,k3 w3 c3 ?_,F⟩⟩;rw[b1,b2];exact L
def hV:Prop:=∀(w:World) (b0 fb:Nat) (own:Nat->Option Own) (at1:NU) (s:Rf.St) (rho:NU) (c i:Nat) (n:Nd) (a:List Nd),Net w b0 own at1 fb s->b0<=w.heap.size->c<=3000->Inv s.nodes rho c->s.nodes[i]?=some n->Rf.settle s.nodes i n=some a->
 Calls prog 180 #[ptrB (at1 i)] w fun e b=>∃v,e=.returned v/\kM w b0 own at1 fb s.nodes.length true ⟨a,s.clock⟩ b
theorem aWK (h:Net w b0 own at1 fb s){x:Nd}(f:s.nodes[i]?=some n)(g:s.nodes[a]?=some x)(b:a≠i):at1 a≠at1 i:=by
 intro e;have d:=(h.nd a x g).own;rw[e,(h.nd i n f).own]at d;cases d;exact b rfl
theorem aIF {f:Nat}(af:hV)(h:Net w b0 own at1 fb s)(ag:b0<=w.heap.size)(ah:c<=3000)(hn:s.nodes[i]?=some n){o:Nat}(ha:n.args[o]?=some a)(J:n.read[o]?=some r)(ra:rho a<rho i)(ak:(∃v u,n.t=[v,u]/\o=0)\/(∃v u x y,n.t=[v,u,x,y]/\n.args.length=2/\o=1))(aj:n.aP=true->o=0){x:Rf.St×Option Int}(X:(match x.2 with|none=>some (x.1,false)|some _=>Rf.after x.1 i o)=some y)(S:kM w b0 own at1 fb s.nodes.length x.2.isSome x.1 w2)(H:Rf.eP s rho c a r x)(T:∀v,x.2=some v->∃n',x.1.nodes[a]?=some n'/\n'.out[r]?=some v):
  Li w2 (at1 i) fb (eL x.2) fun e w'=>∃b,e=.returned (.bool b)/\uJ w b0 own at1 fb s.nodes.length y (.returned (.bool b)) w':=by
 have hi:=(List.getElem?_eq_some_iff.1 hn).1;refine aRc h hn ah S H ra T X ?_;intro v own2 at2 rho2 c2 xa p0 q0 p1 q1 p2 q2 p3 q3 mt pl gv cv nv l g cc nn hv hk B N D a4 L A p q C P;have W:=(B.nd a xa p).hc;obtain⟨h1,h2,h3,h4⟩:=Pc v
 have e0:Mt.sym v=⟨gN (code v),gQ (code v),gU (code v),gV (code v)⟩:=by rw[h1,h2,h3,h4]
 have ad:eL x.2=code v:=by rw[hv];rfl
 rw[ad]
 obtain⟨l',k,j,b1,b2⟩:∃l',Rf.corners x.1.nodes {n with read:=bump n.read o}=some l'/\eO l' (cH (kK (gN (code v)) (gQ (code v)) (gU (code v)) (gV (code v)) p0 q0 p1 q1 p2 q2 p3 q3))/\(gB {n with read:=bump n.read o}:Int)=gB n+1/\hY {n with read:=bump n.read o}=hY n:=by
  have j:=C.Gw
  rcases ak with⟨v',u',U,rfl⟩|⟨v',u',x',y',U,E,rfl⟩
  ·obtain⟨pp,qq,hl,k⟩:=Pg.aJm U C.Cx ha p J q W;rw[hl]at j;have d:=j.Bq (Mt.sym v);rw[e0,aHs,<-e0]at d;exact⟨_,k,d,aQS U J⟩
  ·obtain⟨pp,qq,ss,tt,hl,k⟩:=Pg.aGZ U E C.Cx ha p J q W;rw[hl]at j;have d:=j.oU (Mt.sym v);rw[e0,aHs,<-e0]at d;exact⟨_,k,d,aQh U J⟩
 obtain⟨k1,k2,k3⟩:=aKY B L A C ha J p q rfl k j;refine⟨k1,fun w3 c3 R=>?_⟩;rw[hv]at X;obtain⟨am,t1,t2⟩:=(Yz A X).2 (by rw[D];omega);have M:=N i hi;rw[<-M]at c3 R;have F:=k3 w3 c3 (by rw[b1,b2];exact R)
 have E:x.1.nodes.length=(x.1.nodes.set i {n with read:=bump n.read o}).length:=by simp
 have z:=hk.trans (Py B A c3);rw[<-M];refine(af w3 b0 fb own2 at2 _ rho2 c2 i {n with read:=bump n.read o} am F (le_trans ag z.on.size) (by omega) k2 (getElem?_set_self (List.getElem?_eq_some_iff.1 A).1) t1).mono ?_;rintro e w4⟨vv,rfl,I⟩;refine⟨vv,rfl,fun w5 c5=>⟨true,rfl,by rw[t2],?_⟩⟩;obtain⟨s3,b3,z1,z2⟩:=Rf.aFq D L (by omega) A ha J p (List.getElem?_eq_some_iff.1 q).1 aj;simp only at X;rw[X]at z1;cases z1
 have ae:b3=true->∃rho c,Inv s3.nodes rho c:=fun e=>by
  obtain⟨Y,c',_,_,h',_⟩:=z2 e;exact⟨Y,c',h'⟩
 cases t2
 have O:s.nodes.length<=(x.1.nodes.set i {n with read:=bump n.read o}).length:=by
  rw[<-E];exact P.le.len
 exact(kM.after z N O I).still ae c5
end
variable {n:World}{φ:LI}
theorem zA (j:RepW Z n q φ s w){b:Nat}{B:bQ}(i:look s.boxes b=some B)(u:B.own=true)(y:B.ro=false):∃k,∃f:LB,φ b=some (k,0)/\w.heap[k]?=some (.cells f.toArray B.ty (0,0))/\All2 (relC Z φ s.nums w) B.cs f/\n.heap.size<=k:=by
 obtain⟨k,o,l,f,e,h,p,x,r⟩:=j.box b B i;obtain⟨v,g⟩:=j.qH b B k o i u y h;subst v;have d:l=[]:=List.length_eq_zero_iff.1 x;subst d;unfold World.shape? at g;rw[p]at g;simp only[Option.some.injEq,Prod.mk.injEq,List.size_toArray,List.nil_append,List.length_append,true_and]at g;have z:=r.len;have a:e=[]:=List.length_eq_zero_iff.1 (by omega);subst a;exact⟨k,f,h,by simpa using p,r,j.own b B k 0 i u h⟩
variable {v:Int}
theorem aNU {ν:LV}{j:Nat}{c0 c1 c2 c3 c4 o p q A B f:AC}{d:LB}{s:LN}{a:Bool}{r H u:Int}{lp rp Y F:Value}(h:All2 (relC Z φ ν n) (c0::bJ true j 8++[c1,c2,c3,c4,o,p,q,A,B,f]) d)(D:n.heap[k]?=some (.cells d.toArray 190 (0,0)))(h8:s.length=8)(hz:∀(i:Nat) (z:Int),s[i]?=some z->∃b,ν[j+i]?=some (z,b))
  (P:∀x,relC Z φ ν n c0 x->x=.bool a) (R:∀x,relC Z φ ν n c1 x->x=Y) (l:∀x,relC Z φ ν n c2 x->x=.int .i64 mt) (S:∀x,relC Z φ ν n c3 x->x=lp) (T:∀x,relC Z φ ν n c4 x->x=.int .i64 r) (U:∀x,relC Z φ ν n o x->x=rp) (W:∀x,relC Z φ ν n p x->x=.int .i64 H) (X:∀x,relC Z φ ν n q x->x=gv) (e8:∀x,relC Z φ ν n A x->x=.int .i64 v) (e9:∀x,relC Z φ ν n B x->x=F) (C:∀x,relC Z φ ν n f x->x=.int .i64 u):NodeAt n k s a v mt r H u lp rp gv Y F:=by
 have E:=h.len
 match d,h,D,E with
 |y::d,⟨hy,I⟩,D,E=>
  have J:d.length=26:=by simp[bJ]at E;omega
  have e:d=d.take 16++d.drop 16:=(List.take_append_drop 16 d).symm
  have ga:All2 (relC Z φ ν n) (bJ true j 8) (d.take 16):=by
   have:=I.take 16
   simpa[bJ]using this
  have g:All2 (relC Z φ ν n) [c1,c2,c3,c4,o,p,q,A,B,f] (d.drop 16):=I.drop 16;have hold:aU true n s (d.take 16):=Mi s j _ (by rw[h8];exact ga) hz
  match hd:d.drop 16,g with
  | [a0,a1,a2,a3,a4,a5,a6,a7,a8,a9],g=>
   obtain⟨b0,b1,b2,L,b4,b5,b6,M,N,O,_⟩:=g;refine⟨d.take 16,?_,hold⟩
   have l:d=d.take 16++[Y,.int .i64 mt,lp,.int .i64 r,rp,.int .i64 H,gv,.int .i64 v,F,.int .i64 u]:=by
    rw[<-R _ b0,<-l _ b1,<-S _ b2,<-T _ L,<-U _ b4,<-W _ b5,<-X _ b6,<-e8 _ M,<-e9 _ N,<-C _ O,<-hd];exact e
   rw[D,P _ hy];generalize d.take 16=t at l;subst l;rfl
theorem Tn {sp:Spec}{g:FF}{R:NN}(l:SpecOk Z n q sp)(A:bU Z g){w:Nat}{J:PH}(E:∀b x,q b=some x->f.contains b=true){d:Nat}{F:List (K (List AT))}{M:XT}
  (Y:(run Z sp g (aK Z sp) (fun _=>false) d F s).bind (eD (eX f [] w J) (eX f [] w J))=some M) (G:AT->AS->Prop) (B:M.ok G fun _ _=>False)
  (U:∀r u j v y,G r u->(∀b i,r=.val (.one (.ptr b i))->f.contains b=true->∃k o,j b=some (k,o)/\v=.pointer (some ⟨k,o+i,none⟩))->RepW Z n q j u y->R (.returned v) y):
  ∀(h:List (K Act)) (φ:LI) (a:Act) (e:World),SR Z φ s.nums e F h->Rep Z n q φ s a e->gC Z.P R h .normal a e:=by
 intro h φ a e C X;obtain⟨tr,S,T⟩:=aT Y;refine sI l A (pN mixed l) _ _ ?_ ?_ d F s tr S (Lx T B) h φ a e C X
 ·rintro aa u⟨L,p,H,I,z⟩;exact z.elim
 ·rintro r u j v y⟨L,p,H,I,z⟩ hv D;refine U r L _ v y z ?_ (aJH H I E D);rintro b i rfl W;obtain⟨k,o,N,O⟩:=hv;refine⟨k,o,?_,O⟩;unfold rst;rw[W];exact N
noncomputable def bX:FF:=fun f=>bif f==191 then some f191 else none
theorem aWL:bU Z bX:=by
 intro f fn h;unfold bX at h
 cases a:f==191 with
 |true=>
  rw[a]at h;cases h
  have:f=191:=by simpa using a
  subst this;exact⟨(bF func191 rfl rfl).at',(bF func191 rfl rfl).en⟩
 |false=>rw[a]at h;cases h
section
variable (p0 q0 p1 q1 p2 q2 p3 q3 kd k:Int) (fst fur:Value)
def Sn (cs b:LN)(a:Value):AS:=⟨slot [] 0 25,[(7,⟨.bool false::bJ true 0 8++[.lit aA,.int .i64 0,.lit a,.int .i64 0,.lit aA,.int .i64 0,.lit aI,.int .i64 0,.ptr 5 0,.sint .i64 k],190,true,false,false⟩),(5,ext (.sint .i64 kd::.lit fst::.lit fur::bJ true 8 8) 232)],8,(cs++b).map fun z=>(z,1),[]⟩
def lD (kd k:Int):LN:=[0,0,gI kd k,0,0,1,0,gJ kd k]
theorem aP4:(run Z (aD tN) bX (aK Z (aD tN)) (fun _=>false) 400 [.code (aE f179),.top f179] ⟨.val (.one (.ptr 5 0))::.val (.one (.sint .i64 k))::List.replicate 23 .fX,[(5,ext (.sint .i64 kd::.lit fst::.lit fur::bJ true 0 8) 232)],6,[p0,q0,p1,q1,p2,q2,p3,q3].map fun z=>(z,1),[]⟩).bind (eD (eX [7,5] [] 8 []) (eX [7,5] [] 8 []))
  = some (.br (decide (0<k)) (.br (decide (kd=10)) (.ret (.val (.one (.ptr 7 0))) (Sn kd k fst fur [p0,q0,p1,q1,p2,q2,p3,q3] [p0,q0,p1,q1,p2,q2,p3,q3] fur)) (.need [(gI kd k).natAbs<1000000000000000000] (.need [(gJ kd k).natAbs<1000000000000000000] (.ret (.val (.one (.ptr 7 0))) (Sn kd k fst fur (lD kd k) [p0,q0,p1,q1,p2,q2,p3,q3] fur)))))
   (.br (decide (kd=10)) (.ret (.val (.one (.ptr 7 0))) (Sn kd k fst fur [p0,q0,p1,q1,p2,q2,p3,q3] [p0,q0,p1,q1,p2,q2,p3,q3] fst)) (.need [(gI kd k).natAbs<1000000000000000000] (.need [(gJ kd k).natAbs<1000000000000000000] (.ret (.val (.one (.ptr 7 0))) (Sn kd k fst fur (lD kd k) [p0,q0,p1,q1,p2,q2,p3,q3] fst)))))):=by kernel_rfl
end
variable {nb:Nat}{kd:Int}{fst fur:Value}
theorem aLR {k:Int}{A post:LB}{C:LN}(h:w.heap[nb]?=some (.cells (.int .i64 kd::fst::fur::A++post).toArray 232 (0,0)))(d:aU true w C A)(h8:C.length=8)(D:∀z∈C,Bits 1 z)(o1:One fst)(o2:One fur)(p:kd≠10->(gI kd k).natAbs<1000000000000000000/\(gJ kd k).natAbs<1000000000000000000):
  Calls prog 179 #[ptrB nb,.int .i64 k] w fun e y=>∃m,e=.returned (ptrB m)/\Below w.heap.size w y/\w.heap.size<=m/\NodeAt y m (if kd=10 then C else lD kd k) false 0 0 0 0 k (if 0<k then fur else fst) aA aI aA (ptrB nb):=by
 obtain⟨p0,q0,p1,q1,p2,q2,p3,q3,rfl⟩:=eight h8;have F:=bF func179 rfl rfl
 have n:RepW Z w (ph1 5 nb) (ph1 5 nb) ⟨.val (.one (.ptr 5 0))::.val (.one (.sint .i64 k))::List.replicate 23 .fX,[(5,ext (.sint .i64 kd::.lit fst::.lit fur::bJ true 0 8) 232)],6,[p0,q0,p1,q1,p2,q2,p3,q3].map fun z=>(z,1),[]⟩ w:=by
  refine sN rfl ?_ ?_ ?_
  ·intro b B L;have:=nC L;simp at this;obtain⟨rfl,rfl⟩:=this;refine⟨rfl,rfl,rfl,nb,0,rfl,[],.int .i64 kd::fst::fur::A,post,h,rfl,rfl,⟨rfl,o1⟩,⟨rfl,o2⟩,?_⟩
   exact sL [p0,q0,p1,q1,p2,q2,p3,q3] A 0 _ d D fun j z u=>by rw[zero_add,getElem?_map,u];rfl
  ·intro b D;have:6<=b:=D;unfold ph1;rw[if_neg (by omega)]
  ·intro b S o g;unfold ph1 at g;split at g
   ·cases g;exact gE h
   ·cases g
 have E:∀b x,ph1 5 nb b=some x->[7,5].contains b=true:=fun b x e=>by
  unfold ph1 at e;split at e
  ·subst_vars;rfl
  ·cases e
 refine nV F (φ:=ph1 5 nb) (vs:=[.one (.ptr 5 0),.one (.sint .i64 k)]) (args:=[ptrB nb,.int .i64 k]) (by kernel_rfl) ⟨⟨nb,0,rfl,rfl⟩,rfl,trivial⟩ n ?_;refine Tn (cZ kA) aWL E (aP4 p0 q0 p1 q1 p2 q2 p3 q3 kd k fst fur) (fun r s=>r=.val (.one (.ptr 7 0))/\s=Sn kd k fst fur (if kd=10 then [p0,q0,p1,q1,p2,q2,p3,q3]else lD kd k) [p0,q0,p1,q1,p2,q2,p3,q3] (if 0<k then fur else fst)) ?_ ?_
 ·have q:∀{a:Prop},a->Holds [a]:=fun M x d=>by simp at d;rw[d];exact M
  refine⟨fun l=>⟨fun f=>⟨rfl,?_⟩,fun f=>⟨q (p (of_decide_eq_false f)).1,q (p (of_decide_eq_false f)).2,rfl,?_⟩⟩,fun l=>⟨fun f=>⟨rfl,?_⟩,fun f=>⟨q (p (of_decide_eq_false f)).1,q (p (of_decide_eq_false f)).2,rfl,?_⟩⟩⟩
  ·rw[if_pos (of_decide_eq_true l),if_pos (of_decide_eq_true f)]
  ·rw[if_pos (of_decide_eq_true l),if_neg (of_decide_eq_false f)]
  ·rw[if_neg (of_decide_eq_false l),if_pos (of_decide_eq_true f)]
  ·rw[if_neg (of_decide_eq_false l),if_neg (of_decide_eq_false f)]
 ·rintro r s φ v y⟨rfl,rfl⟩ hv J;obtain⟨m,o,H,I⟩:=hv 7 0 rfl rfl;obtain⟨T,U,k1,O,P,R⟩:=zA J (b:=7) rfl rfl rfl;rw[H]at k1;cases k1;refine⟨m,by rw[I];rfl,RepF.below J rfl,R,?_⟩
  have N:(if kd=10 then [p0,q0,p1,q1,p2,q2,p3,q3]else lD kd k).length=8:=by split<;>rfl
  refine aNU P O N ?_ (fun x d=>d) (fun x d=>d.1) (fun x d=>d) (fun x d=>d.1) (fun x d=>d) (fun x d=>d.1) (fun x d=>d) (fun x d=>d.1) (fun x d=>d) ?_ (fun x d=>d)
  ·intro i z u;refine⟨1,?_⟩;rw[zero_add];show(((if kd=10 then [p0,q0,p1,q1,p2,q2,p3,q3]else lD kd k)++[p0,q0,p1,q1,p2,q2,p3,q3]).map fun z=>(z,1))[i]?=_;rw[getElem?_map,getElem?_append_left (List.getElem?_eq_some_iff.1 u).1,u];rfl
  ·intro x d;exact uE (ν:=[]) (w:=y) (J.base 5 (nb,0) rfl) d
def b5 (kd:Int)(fst fur:Value)(a:LB):bQ:=ext (.sint .i64 kd::.lit fst::.lit fur::a.map .lit) 232
def Yr (cols:LN)(lv nv:Value)(k:Int)(a:bQ):Spec:=fun f _ ν id b d=>bif f==179 then (match d with
 | [.one (.ptr 5 0),.one (.sint .i64 m)]=>(b 5).map fun B=>(cols.map (fun z=>(z,1)),.val (.one (.ptr id 0)),[m=k,B=a],some ⟨.sbool false::bJ true ν.length 8++[.lit aA,.sint .i64 0,.lit lv,.sint .i64 0,.lit aA,.sint .i64 0,.lit aI,.sint .i64 0,.lit nv,.sint .i64 k],190,true,false,false⟩)
 |_=>none)else none
theorem aJx {φ:LI}{ν:LV}{w:World}:∀(a b:LB),All2 (relC Z φ ν w) (a.map .lit) b->b=a
 | [],[],_=>rfl
 | [],_::_,h=>h.elim
 |_::_,[],h=>h.elim
 |x::a,y::b,⟨d,e⟩=>by rw[aJx a b e,d.1]
theorem aJy {φ:LI}{ν:LV}{w:World}:∀(a:LB),(∀x∈a,One x)->All2 (relC Z φ ν w) (a.map .lit) a
 | [],_=>trivial
 |x::a,h=>⟨⟨rfl,h x (by simp)⟩,aJy a fun y b=>h y (by simp[b])⟩
theorem aWi {ψ:LI}{k:Int}(v:ψ 5=some (nb,0))(hx:aU true w zs i)(h8:zs.length=8)(hb:∀z∈zs,Bits 1 z)(o1:One fst)(o2:One fur)(hf:kd≠10->(gI kd k).natAbs<1000000000000000000/\(gJ kd k).natAbs<1000000000000000000):SpecOk Z w ψ (Yr (if kd=10 then zs else lD kd k) (if 0<k then fur else fst) (ptrB nb) k (b5 kd fst fur i)):=by
 intro f dd ν id bx vs ay r p au h;unfold Yr at h
 cases g:f==179 with
 |false=>rw[g]at h;cases h
 |true=>
  rw[g]at h
  have:f=179:=by simpa using g
  subst this;refine⟨(bF func179 rfl rfl).en,fun hp X S φ w1 ys u _ M F P=>?_⟩;simp only[cond_true]at h;split at h
  ·rename_i m;obtain⟨B,hB,h⟩:=cA h;cases h
   match ys,P with
   | [y1,y2],⟨h1,D,_⟩=>
   have hm:m=k:=hp (m=k) (by simp);have E:B=b5 kd fst fur i:=hp (B=b5 kd fst fur i) (by simp);have D:y2=.int .i64 m:=D;rw[uE (u 5 _ v) h1,D,hm];obtain⟨k',o,U,W,a,Y,g2,g3,g4⟩:=F 5 B hB;rw[u 5 _ v]at Y;cases Y;have s:U=[]:=List.length_eq_zero_iff.1 g3;subst s;rw[E]at g4 g2
   match W,g4 with
   |u1::u2::u3::W,⟨x,y,A,C⟩=>
   have x:u1=.int .i64 kd:=x;have y:u2=fst:=y.1;have A:u3=fur:=A.1;have C:=aJx i W C;subst x y A C;refine(aLR (w:=w1) (nb:=nb) (kd:=kd) (k:=k) (post:=a) g2 (mC M hx) h8 hb o1 o2 hf).mono ?_;rintro e w'⟨mm,rfl,q,I,L⟩;obtain⟨l,n1,n2⟩:=L.ex
   have H:(if kd=10 then zs else lD kd k).length=8:=by split;exact h8;rfl
   refine⟨_,rfl,q,rfl,fun e=>(by cases e),mm,0,[],_,[],I,by simpa using n1,rfl,?_,⟨mm,0,pG _ _ _,rfl⟩,fun _=>⟨rfl,rfl⟩⟩
   have d:∀z∈(if kd=10 then zs else lD kd k),Bits 1 z:=by
    split
    ·exact hb
    ·rename_i J;obtain⟨f1,f2⟩:=hf J
     have b:∀z:Int,z.natAbs<1000000000000000000->Bits 1 z:=fun z n=>xL (N:=60) (by decide) (lt_trans n (by decide))
     intro z n;simp only[lD,List.mem_cons,List.not_mem_nil,or_false]at n
     rcases n with rfl|rfl|rfl|rfl|rfl|rfl|rfl|rfl
     all_goals first|exact b _ f1|exact b _ f2|exact b _ (by decide)
   have O:All2 (relC Z φ X w') (bJ true ν.length 8) l:=by
    rw[<-H]
    refine sL _ l ν.length X n2 d fun j z n=>S _ _ ?_
    rw[getElem?_append_right (by omega),show ν.length+j-ν.length=j by omega,getElem?_map,n];rfl
   have T:One (if 0<k then u3 else u2):=by split<;>assumption
   exact All2.append (show All2 (relC Z φ X w') (.sbool false::bJ true ν.length 8) (.bool false::l)from⟨rfl,O⟩) ⟨⟨rfl,rfl⟩,rfl,⟨rfl,T⟩,rfl,⟨rfl,rfl⟩,rfl,⟨rfl,rfl⟩,rfl,⟨rfl,rfl⟩,rfl,trivial⟩
  ·cases h
section
variable (p0 q0 p1 q1 p2 q2 p3 q3 c0 c1 c2 c3 c4 c5 c6 c7:Int) (hs:Bool) (uns mt lr rr pl c kd:Int) (lp cst gv fst fur lv nv x0 x1 x2 x3 x4 x5 x6 x7 x8 x9 x10 x11 x12 x13 x14 x15:Value)
def nvB:AC->AC->bQ:=fun rp nv=>⟨Mx hs uns mt lr rr pl (.lit lp) rp (.lit cst) nv (.lit gv),190,false,false,false⟩
theorem bAz:(run Z (eS (Yr [c0,c1,c2,c3,c4,c5,c6,c7] lv nv (IntKind.i64.wrap (pl+1)) (b5 kd fst fur [x0,x1,x2,x3,x4,x5,x6,x7,x8,x9,x10,x11,x12,x13,x14,x15])) (aD tN)) bW (aK Z (eS (Yr [c0,c1,c2,c3,c4,c5,c6,c7] lv nv (IntKind.i64.wrap (pl+1)) (b5 kd fst fur [x0,x1,x2,x3,x4,x5,x6,x7,x8,x9,x10,x11,x12,x13,x14,x15])) (aD tN))) (lN (aF 88)) 400 [.code (aE f166),.top f166] (sW [p0,q0,p1,q1,p2,q2,p3,q3] hs uns mt lr rr pl c (.lit lp) (.lit aA) (.lit cst) (.ptr 5 0) (.lit gv) [(5,b5 kd fst fur [x0,x1,x2,x3,x4,x5,x6,x7,x8,x9,x10,x11,x12,x13,x14,x15])] (nE 66))).bind (eD (eX [0,6,17,5] [] 22 []) (eX [0,6,17,5] [0,1,36,37] 22 []))
  = some (.need [IntKind.i64.wrap (pl+1)=IntKind.i64.wrap (pl+1),b5 kd fst fur [x0,x1,x2,x3,x4,x5,x6,x7,x8,x9,x10,x11,x12,x13,x14,x15]=b5 kd fst fur [x0,x1,x2,x3,x4,x5,x6,x7,x8,x9,x10,x11,x12,x13,x14,x15]] (.stp (dY (aF 88) f166)
   ⟨slot [(0,P0),(1,P6),(36,.val (.agg [.ptr 17 0,.sint .i64 rr])),(37,P6)] 0 68,[(0,nvB hs uns mt lr rr pl lp cst gv (.ptr 17 0) (.ptr 5 0)),(6,uH c),(17,⟨.sbool false::bJ true 8 8++[.lit aA,.sint .i64 0,.lit lv,.sint .i64 0,.lit aA,.sint .i64 0,.lit aI,.sint .i64 0,.lit nv,.sint .i64 (IntKind.i64.wrap (pl+1))],190,true,false,false⟩),(5,b5 kd fst fur [x0,x1,x2,x3,x4,x5,x6,x7,x8,x9,x10,x11,x12,x13,x14,x15])],22,[(p0,10),(q0,10),(p1,10),(q1,10),(p2,10),(q2,10),(p3,10),(q3,10),(c0,1),(c1,1),(c2,1),(c3,1),(c4,1),(c5,1),(c6,1),(c7,1)],[0]⟩)):=by kernel_rfl
end
theorem Fc (h:i.length=16):∃x0 x1 x2 x3 x4 x5 x6 x7 x8 x9 x10 x11 x12 x13 x14 x15,i=[x0,x1,x2,x3,x4,x5,x6,x7,x8,x9,x10,x11,x12,x13,x14,x15]:=by
 match i,h with
 | [x0,x1,x2,x3,x4,x5,x6,x7,x8,x9,x10,x11,x12,x13,x14,x15],_=>exact⟨x0,x1,x2,x3,x4,x5,x6,x7,x8,x9,x10,x11,x12,x13,x14,x15,rfl⟩
section
variable {w:World} {k fb:Nat} {p0 q0 p1 q1 p2 q2 p3 q3:Int} {hs:Bool} {uns mt lr rr pl c:Int} {lp rp gv cv nv:Value} {R:NN}
theorem aGd (h:Pos2 w k fb [p0,q0,p1,q1,p2,q2,p3,q3] hs uns mt lr rr pl c lp aA gv cv nv){T:LB}{p:LN}(I:nv=ptrB nb)(l:w.heap[nb]?=some (.cells (.int .i64 kd::fst::fur::T).toArray 232 (0,0)))(d:aU true w p T)(h8:p.length=8)(E:∀z∈p,Bits 1 z)(o1:One fst)(o2:One fur)(hf:kd≠10->(gI kd (IntKind.i64.wrap (pl+1))).natAbs<1000000000000000000/\(gJ kd (IntKind.i64.wrap (pl+1))).natAbs<1000000000000000000)
  (O:∀n m,Chg w n [k]->w.heap.size<=m->Pos2 n k fb [p0,q0,p1,q1,p2,q2,p3,q3] hs uns mt lr rr pl c lp (ptrB m) gv cv nv->NodeAt n m (if kd=10 then p else lD kd (IntKind.i64.wrap (pl+1))) false 0 0 0 0 (IntKind.i64.wrap (pl+1)) (if 0<IntKind.i64.wrap (pl+1)then fur else fst) aA aI aA (ptrB nb)->Calls prog 88 #[.agg #[ptrB m,.int .i64 rr],ptrB fb] n fun e w2=>∃U,e=.returned (.int .i64 U)/\Li w2 k fb U R):
  Calls prog 166 #[ptrB k,ptrB fb] w R:=by
 obtain⟨n1,n2⟩:=h.aTS l (by decide) (by decide);have P:=Gb p T d;rw[h8]at P;have v:∀x∈T,One x:=Lv (C:=Z) (φ:=fun _=>none) (ν:=p.map fun z=>(z,1)) (w:=w) (sL p T 0 _ d E fun j z a=>by rw[zero_add,getElem?_map,a];rfl);have L:=aWi (ψ:=phW k fb (ph1 5 nb)) (nb:=nb) (kd:=kd) (k:=IntKind.i64.wrap (pl+1)) (fst:=fst) (fur:=fur) rfl d h8 E o1 o2 hf;obtain⟨c0,c1,c2,c3,c4,c5,c6,c7,r⟩:=eight (zs:=if kd=10 then p else lD kd (IntKind.i64.wrap (pl+1))) (by split;exact h8;rfl);rw[r]at L O;obtain⟨x0,x1,x2,x3,x4,x5,x6,x7,x8,x9,x10,x11,x12,x13,x14,x15,rfl⟩:=Fc P;have F:=bF func166 rfl rfl
 have J:=h.Ew (exφ:=ph1 5 nb) (ex:=[(5,b5 kd fst fur [x0,x1,x2,x3,x4,x5,x6,x7,x8,x9,x10,x11,x12,x13,x14,x15])]) (rpC:=.lit aA) (cvC:=.lit cv) (nvC:=.ptr 5 0) ⟨rfl,rfl⟩ ⟨rfl,h.o4⟩ ⟨nb,0,rfl,I⟩ (by
  intro b B hB;have:=nC hB;simp only[List.mem_cons,List.not_mem_nil,or_false,Prod.mk.injEq]at this;obtain⟨rfl,rfl⟩:=this
  exact⟨rfl,rfl,rfl,nb,0,rfl,n1,n2,[],.int .i64 kd::fst::fur::[x0,x1,x2,x3,x4,x5,x6,x7,x8,x9,x10,x11,x12,x13,x14,x15],[],l,rfl,rfl,⟨rfl,o1⟩,⟨rfl,o2⟩,aJy _ v⟩) (by
  intro b k' o q;unfold ph1 at q;split at q
  ·cases q;exact gE l
  ·cases q) (nE 66)
 have H:∀b x,phW k fb (ph1 5 nb) b=some x->[0,6,17,5].contains b=true:=Xe rfl rfl fun b x e=>by
  unfold ph1 at e;split at e
  ·subst_vars;rfl
  ·cases e
 refine nV F (φ:=phW k fb (ph1 5 nb)) (vs:=[.one (.ptr 0 0),.one (.ptr 6 0)]) (args:=[ptrB k,ptrB fb]) (by kernel_rfl) ⟨⟨k,0,rfl,rfl⟩,⟨fb,0,rfl,rfl⟩,trivial⟩ J ?_
 refine cC (Pq L (cZ kA)) rV H (jD H) (bAz p0 q0 p1 q1 p2 q2 p3 q3 c0 c1 c2 c3 c4 c5 c6 c7 hs uns mt lr rr pl c kd lp cv gv fst fur (if 0<IntKind.i64.wrap (pl+1)then fur else fst) (ptrB nb) x0 x1 x2 x3 x4 x5 x6 x7 x8 x9 x10 x11 x12 x13 x14 x15) (fun _ _=>False)
  (fun ks s=>ks=dY (aF 88) f166/\s=⟨slot [(0,P0),(1,P6),(36,.val (.agg [.ptr 17 0,.sint .i64 rr])),(37,P6)] 0 68,[(0,nvB hs uns mt lr rr pl lp cv gv (.ptr 17 0) (.ptr 5 0)),(6,uH c),(17,⟨.sbool false::bJ true 8 8++[.lit aA,.sint .i64 0,.lit (if 0<IntKind.i64.wrap (pl+1)then fur else fst),.sint .i64 0,.lit aA,.sint .i64 0,.lit aI,.sint .i64 0,.lit (ptrB nb),.sint .i64 (IntKind.i64.wrap (pl+1))],190,true,false,false⟩),(5,b5 kd fst fur [x0,x1,x2,x3,x4,x5,x6,x7,x8,x9,x10,x11,x12,x13,x14,x15])],22,[(p0,10),(q0,10),(p1,10),(q1,10),(p2,10),(q2,10),(p3,10),(q3,10),(c0,1),(c1,1),(c2,1),(c3,1),(c4,1),(c5,1),(c6,1),(c7,1)],[0]⟩)
  ⟨fun x d=>by simp at d;exact d,rfl,rfl⟩ (fun _ _ _ _ _ h=>h.elim) ?_
 rintro ks s⟨rfl,rfl⟩;refine⟨by kernel_rfl,fun a9 ag a1 n M g=>?_⟩;obtain⟨m,ys,k1,k2,k3,k4⟩:=zA g.wd (b:=17) rfl rfl rfl
 have Y:Chg w n [k]:=⟨g.wd.on,fun j hj hn=>g.wd.low j hj fun b E o e=>by
  simp only[List.mem_singleton]at E;subst E;rw[g.wd.base 0 (k,0) rfl]at e;cases e
  exact hn (by simp)⟩
 have u:NodeAt n m [c0,c1,c2,c3,c4,c5,c6,c7] false 0 0 0 0 (IntKind.i64.wrap (pl+1)) (if 0<IntKind.i64.wrap (pl+1)then fur else fst) aA aI aA (ptrB nb):=by
  refine aNU (j:=8) k3 k2 rfl ?_ (fun x d=>d) (fun x d=>d.1) (fun x d=>d) (fun x d=>d.1) (fun x d=>d) (fun x d=>d.1) (fun x d=>d) (fun x d=>d.1) (fun x d=>d) (fun x d=>d.1) (fun x d=>d);intro i z a;refine⟨1,?_⟩
  match i,a with
  |0,a=>cases a;rfl
  |1,a=>cases a;rfl
  |2,a=>cases a;rfl
  |3,a=>cases a;rfl
  |4,a=>cases a;rfl
  |5,a=>cases a;rfl
  |6,a=>cases a;rfl
  |7,a=>cases a;rfl
  |i+8,a=>simp at a
 have aa:Pos2 n k fb [p0,q0,p1,q1,p2,q2,p3,q3] hs uns mt lr rr pl c lp (ptrB m) gv cv nv:=by
  obtain ⟨⟨ba,af,ax,am,ae,g1,⟨e1,g2⟩,⟨kr,be,e2,g3⟩,⟨e3,g4⟩,⟨e4,g5⟩,⟨kn,on,e5,g6⟩⟩,g7⟩:=aOx (ns:=[]) g.wd (hs:=hs) (uns:=uns) (mt:=mt) (lr:=lr) (rr:=rr) (pl:=pl) (c:=c) (lpC:=.lit lp) (rpC:=.ptr 17 0) (gvC:=.lit gv) (cvC:=.lit cv) (nvC:=.ptr 5 0) rfl rfl (h.nd.shape h.h8) (Zq h.fu) (zs:=[p0,q0,p1,q1,p2,q2,p3,q3]) rfl (by
   intro i z a;refine⟨10,?_⟩
   match i,a with
   |0,a=>cases a;rfl
   |1,a=>cases a;rfl
   |2,a=>cases a;rfl
   |3,a=>cases a;rfl
   |4,a=>cases a;rfl
   |5,a=>cases a;rfl
   |6,a=>cases a;rfl
   |7,a=>cases a;rfl
   |i+8,a=>simp at a)
  rw[k1]at e2;cases e2;rw[g.wd.base 5 (nb,0) rfl]at e5;cases e5
  have W:af=ptrB m:=by rw[g3];rfl
  have X:ae=nv:=by rw[g6,I];rfl
  rw[e1,W,e3,e4,X]at g1;exact⟨g1,g7,h.bits,rfl,h.o1,rfl,h.o3,h.o4,h.o5⟩
 refine pP (f:=88) (vs:=[.agg [.ptr 17 0,.sint .i64 rr],.one (.ptr 6 0)]) (dst:=some 38) (ks2:=fJ (aF 88) f166) (by kernel_rfl) (bF func88 rfl rfl).en (by kernel_rfl) (M ag [] n) g ?_;intro us ab
 match us,ab with
 | [y,y2],⟨⟨zz,hy,a⟩,ad,_⟩=>
 match zz,a with
 | [z1,z2],⟨A,D,_⟩=>
 have A:z1=ptrB m:=uE (ν:=[]) (w:=n) k1 A;have D:z2=.int .i64 rr:=D;rw[uE (g.wd.base 6 (fb,0) rfl) ad,hy,A,D];refine(O n m Y k4 aa u).mono ?_;rintro e w2⟨U,rfl,hA⟩;exact⟨_,rfl,fun S a2 N=>aJP g (by kernel_rfl) (by kernel_rfl) (g.wd.base 0 (k,0) rfl) (g.wd.base 6 (fb,0) rfl) hA S N⟩
end
section
variable {w w1:World} {b0 fb m nb:Nat} {own own':Nat->Option Own} {at1 at2:NU} {i:Nat} {n n1 mN:Nd} {s:Rf.St} {rho:NU} {c:Nat}{d:Nd}
theorem Hz {j:List Nd}{w a:Nat}{s:LN}{b u x y:V}(f:NodeAt w1 (at2 w) s false 0 0 0 0 v (ptrB (at2 a)) aA aI aA (ptrB nb))(h8:s.length=8)(f1:mN.pos=true)(f2:mN.aP=false)(f3:mN.t=[b,u,x,y])(p:mN.args=[a])(q:mN.read=[0])(o:mN.out=[])(E:mN.told=Rf.one)(z:mN.dT=[Rf.one])(M:mN.nest=true)(D:j[a]?=some d)(C:d.dT[0]?=some Rf.one)(g:∃cs:LB,w1.heap[nb]?=some (.cells cs.toArray 232 (0,0)))(l:jC w1 b0 own' at2 w mN nb v)(k:eO mN.t (cH s))(B:own' (at2 w)=some (.nd w))(A:b0<=at2 w):cK w1 b0 own' at2 j w mN:=by
 obtain⟨O,T,P,U,R,W,S,X,rfl⟩:=eight h8;refine⟨⟨O,T,P,U,R,W,S,X,0,v,aI,aA,ptrB nb,⟨?_,Or.inl ⟨rfl,o⟩,fun e=>?_,fun _=>rfl,fun e=>?_,fun _=>⟨nb,rfl,g,fun _ _=>l⟩⟩,mN.t,?_,k⟩,⟨by rw[z,o];rfl,by rw[z];rfl,by rw[z,o,E];rfl,fun r Y mm h=>by rw[o]at h;simp at h⟩,B,A,fun e=>by rw[f2]at e;cases e⟩
 ·have F:lArg mN=some a:=by unfold lArg;rw[f3,p];rfl
  have H:rArg mN=none:=by unfold rArg;rw[f3,p];rfl
  have I:hY mN=0:=by unfold hY;rw[f3,q];rfl
  have J:gB mN=0:=by unfold gB;rw[f3,q];rfl
  have L:fM mN=0:=by unfold fM;rw[f2];rfl
  rw[F,H,I,J,L,f1];exact f
 ·rw[f3]at e;cases e
 ·rw[M]at e;cases e
 ·rw[f3];exact Pg.aH6 f3 p q D C E
theorem aMh {j:List Nd}{w x:Nat}{p:Bool}(k:p=true)(a:NodeAt w1 (at2 w) [1,0,0,0,0,0,0,1] false 0 0 0 0 0 (ptrB (at2 x)) (ptrB (at2 x)) aI aA aA)(f:j[x]?=some d)(b:d.dT[0]?=some Rf.one)(h:own' (at2 w)=some (.nd w))(g:b0<=at2 w):cK w1 b0 own' at2 j w (Rf.two .mul p p x x):=by
 subst k;refine⟨⟨1,0,0,0,0,0,0,1,0,0,aI,aA,aA,⟨a,Or.inl ⟨rfl,rfl⟩,fun e=>(by cases e),fun _=>rfl,fun _=>rfl,fun e=>(by cases e)⟩,Rf.Kind.mul.cols,Pg.Ze rfl rfl rfl f b f b rfl,?_⟩,HC.fresh _ _ _,h,g,fun e=>by cases e⟩;exact .Em (e:=1) (by decide) (gY _).symm (gY _).symm (gY _).symm (gY _).symm
theorem aLm (h:Net w b0 own at1 fb s)(hI:Inv s.nodes rho c)(P:s.nodes[i]?=some n){a0 r0:Nat}{q f x r:V}(U:n.t=[q,f,x,r])(ha:n.args=[a0])(hr:n.read=[r0])(I:n.nest=true){p:Nat}{new E:List Nd}(A:n1={n with args:=n.args++[p],read:=n.read++[0]})(J:E=(s.nodes++new).set i n1){z p1 y u R p3:Int}{g:Value}{l:List V}{b:Option (Nat×Nat)}{nn:ON}(T:Seen w b0 own at1 s.nodes i n v z p1 y u R p3 q3 mt pl gv g nv l b C nn)(F:Chg w w1 [at1 i])(af:Pos2 w1 (at1 i) fb [v,z,p1,y,u,R,p3,q3] (!n.pos) (fM n) mt (hY n) (gB n) pl s.clock (eW at1 (lArg n)) (ptrB m) gv g nv)
  (M:∀a,a<s.nodes.length->at2 a=at1 a) (Y:at2 p=m)  (ap:E[p]?=some d) (ao:d.dT[0]?=some Rf.one) (D:∀k o,k<w.heap.size->own k=some o->o≠.pd i->own' k=some o) (S:∀k,k<w.heap.size->own k=none->own' k=none) (ad:∀j mm,(s.nodes++new)[j]?=some mm->s.nodes.length<=j->cK w1 b0 own' at2 E j mm):
  Kept w w1 own own' fb/\Net w1 b0 own' at2 fb ⟨E,s.clock⟩:=by
 have hi:=(List.getElem?_eq_some_iff.1 P).1;have hN:=hI.at' i n P;have ab:Pg.Go s.nodes (s.nodes++new):=Pg.Go.more _ _
 have aq:(s.nodes++new)[i]?=some n:=by rw[getElem?_append_left hi];exact P
 have aa:Pg.Go s.nodes E:=by
  rw[J];exact ab.trans (yW aq (by rw[A]) (by rw[A]) (by rw[A]))
 have L:=(h.nd i n P).own
 have X:zM w own i [at1 i]:=by
  intro k O cs ty mm H;simp at O;subst O;obtain⟨xs,h1,_⟩:=T.bV.nd.ex;rw[H]at h1;exact Or.inl ⟨(Obj.cells.inj (Option.some.inj h1)).2.1,L⟩
 have B:=M i hi;refine⟨Kept.Qj F (fun k O bf ae=>?_) S,h.step (i:=i) hI (fun j W I=>?_) aa F X D M (af.fu) fun j mm W au=>?_⟩
 ·simp at O;subst O;rw[L]at ae;cases ae
 ·rw[J,getElem?_set_ne (fun e=>I e.symm),getElem?_append_left W]
 ·by_cases N:j=i
  ·subst N;rw[J,getElem?_set_self (by simp;omega)]at W;cases W
   have ar:∀nb:Nat,(∃cs:LB,w.heap[nb]?=some (.cells cs.toArray 232 (0,0)))->∃cs:LB,w1.heap[nb]?=some (.cells cs.toArray 232 (0,0)):=by
    rintro nb⟨cs,H⟩;refine⟨cs,F.at H ?_⟩;intro O
    rcases X nb O _ _ _ H with⟨e,_⟩|⟨e,_⟩|e<;>exact absurd e (by decide)
   refine⟨⟨v,z,p1,y,u,R,p3,q3,mt,pl,gv,g,nv,⟨?_,?_,fun e=>?_,fun _=>T.bV.oO (by rw[U];simp),?_⟩,l,?_,T.Gw⟩,(h.nd j n P).hc.of (by rw[A]) (by rw[A]) (by rw[A]),by rw[B];exact D _ _ T.bV.nd.lt L (by intro e;cases e),by rw[B];exact(h.nd j n P).lo,by rw[A];exact(h.nd j n P).Ss⟩
   ·have f1:lArg n1=lArg n:=by unfold lArg;rw[A,ha];simp[U]
    have f2:rArg n1=some p:=by unfold rArg;rw[A,ha];simp[U]
    have f3:hY n1=hY n:=by unfold hY;rw[A,hr];simp[U]
    have f4:gB n1=gB n:=by unfold gB;rw[A,hr];simp[U]
    have f5:fM n1=fM n:=by rw[A];rfl
    have f6:n1.pos=n.pos:=by rw[A]
    have f7:eW at2 (lArg n)=eW at1 (lArg n):=by
     cases e:lArg n with
     |none=>rfl
     |some a=>simp only[eW];rw[M a (aNE hN a e)]
    rw[f1,f2,f3,f4,f5,f6,f7,B];show NodeAt w1 (at1 j) _ _ _ _ _ _ _ _ (ptrB (at2 p)) _ _ _;rw[Y];exact af.nd
   ·rw[A]
    rcases T.bV.Aw with⟨g1,g2⟩|⟨g',ak,ah,g1,g2,g3,g4,g5,g6⟩
    ·exact Or.inl ⟨g1,g2⟩
    ·refine Or.inr ⟨g',ak,ah,g1,F.at g2 ?_,g3,g4,D _ _ (gE g2) g5 (by intro e;cases e),g6⟩;intro hm;simp at hm;subst hm;rw[L]at g5;cases g5
   ·rw[A]at e;simp only at e;rw[U]at e;cases e
   ·refine⟨fun e=>?_,fun e=>?_⟩
    ·rw[A]at e;simp only at e;rw[I]at e;cases e
    ·obtain⟨nb,k1,k2,_⟩:=T.bV.nst.2 I;refine⟨nb,k1,ar nb k2,fun _ hl=>?_⟩;rw[A,ha]at hl;simp at hl
   ·rw[A];exact Pg.aH8 U ha hr (aa.corners T.Cx) ap ao
  ·rcases au with e|e
   ·exact absurd e N
   ·refine ad j mm ?_ e;rw[J,getElem?_set_ne (fun e=>N e.symm)]at W;exact W
end
variable {n:Nd}
theorem xM {ns a:List Nd}(h:Rf.more ns n=some a):a=ns++[n]:=by
 unfold Rf.more at h;split at h
 ·cases h;rfl
 ·cases h
def Ms (len m:Nat)(at1:NU):NU:=fun j=>if j<len then at1 j else m
def Gr (len pb m:Nat)(at1:NU):NU:=fun j=>if j<len then at1 j else if j=len then pb else m
def oR (m:Nat)(o:Own)(own:Nat->Option Own):Nat->Option Own:=fun k=>if k=m then some o else own k
variable {a:Nat}
theorem Dt {len m:Nat}{at1:NU}(h:a<len):Ms len m at1 a=at1 a:=by unfold Ms;rw[if_pos h]
theorem Pv {len m:Nat}{at1:NU}(h:len<=a):Ms len m at1 a=m:=by unfold Ms;rw[if_neg (by omega)]
variable {pb:Nat}
theorem Xh {len m:Nat}{at1:NU}(h:a<len):Gr len pb m at1 a=at1 a:=by unfold Gr;rw[if_pos h]
theorem Pw {len m:Nat}{at1:NU}:Gr len pb m at1 len=pb:=by unfold Gr;rw[if_neg (by omega),if_pos rfl]
theorem Px {len m:Nat}{at1:NU}(h:len<a):Gr len pb m at1 a=m:=by unfold Gr;rw[if_neg (by omega),if_neg (by omega)]
theorem Wm {m:Nat}{o:Own}{own:Nat->Option Own}:oR m o own m=some o:=by unfold oR;rw[if_pos rfl]
theorem Dl {m:Nat}{o:Own}{own:Nat->Option Own}(h:k≠m):oR m o own k=own k:=by unfold oR;rw[if_neg h]
structure Nst (w:World) (b0:Nat) (own:Nat->Option Own) (at':NU) (i:Nat) (n:Nd) (nb:Nat) (pl:Int) (xs:LB) (zs:LN) (fst fur:Value):Prop where
 bV:w.heap[nb]?=some (.cells (.int .i64 (aH n.op)::fst::fur::xs).toArray 232 (0,0))
 hold:aU true w zs xs
 len:zs.length=8
 bits:∀z∈zs,Bits 1 z
 root:n.op=.sqrt->∃a,n.args[0]?=some a/\fst=ptrB (at' a)/\fur=ptrB (at' a)/\eO n.t (cH zs)
 fn:n.op≠.sqrt->pl=n.k/\∃ x,n.x=some x/\fst=ptrB (at' x)/\(n.op=.fL->fur=ptrB (at' x))/\(n.op≠.fL->(∀ s,n.fC=some s->fur=ptrB (at' s))/\
   (n.fC=none->∃pb,fur=ptrB pb/\own pb=some (.pd i)/\b0<=pb/\NodeAt w pb [1,0,0,0,0,0,0,1] false 0 0 0 0 0 (ptrB (at' x)) (ptrB (at' x)) aI aA aA))
theorem Nst.of {b0:Nat}{own:Nat->Option Own}{at':NU}{i:Nat}(h:jC w b0 own at' i n nb v):∃b d fst a,Nst w b0 own at' i n nb v b d fst a:=by
 obtain⟨b,d,fst,a,e,f,g,j,k,l⟩:=h;exact⟨b,d,fst,a,e,f,g,j,k,l⟩
variable {g:Value}
theorem Nst.Es {b0:Nat}{own:Nat->Option Own}{at':NU}{i:Nat}{o:LB}{s:LN}(h:Nst w b0 own at' i n nb v o s fst g):One fst/\One g:=by
 by_cases l:n.op=.sqrt
 ·obtain⟨a,_,b,d,_⟩:=h.root l;rw[b,d];exact⟨rfl,rfl⟩
 ·obtain⟨_,x,_,b,d,j⟩:=h.fn l;refine⟨by rw[b];rfl,?_⟩
  by_cases f:n.op=.fL
  ·rw[d f];rfl
  ·cases k:n.fC with
   |none=>obtain⟨pb,e,_⟩:=(j f).2 k;rw[e];rfl
   |some sq=>rw[(j f).1 sq k];rfl
theorem aJw {op:Rf.Op}(h:Rf.fn op)(a:op≠.sqrt):aH op≠10/\((aH op=11/\op=.exp)\/(aH op=12/\op=.fL)\/(aH op=13/\op=.atan)):=by
 rcases h with e|e|e|e
 ·exact absurd e a
 ·subst e;exact⟨by decide,Or.inl ⟨rfl,rfl⟩⟩
 ·subst e;exact⟨by decide,Or.inr (Or.inl ⟨rfl,rfl⟩)⟩
 ·subst e;exact⟨by decide,Or.inr (Or.inr ⟨rfl,rfl⟩)⟩
theorem Vy {op:Rf.Op}(h:Rf.fn op)(f:op≠.sqrt)(e:k<=3001):cH (lD (aH op) (k:Int))=[(0,0),((Rf.shape op k).1,0),(0,1),(0,(Rf.shape op k).2)]/\(gI (aH op) k).natAbs<1000000000000000000/\(gJ (aH op) k).natAbs<1000000000000000000:=by
 obtain⟨_,d⟩:=aJw h f;obtain⟨a,b⟩:=aRm (k:=k) (by omega) d;obtain⟨b1,b2,_,_⟩:=Rf.Zj op e;unfold lD cH;rw[a,b];refine⟨rfl,?_,?_⟩
 ·exact lt_trans (show _<2^24 from b1) (by decide)
 ·exact lt_trans (show _<2^24 from b2) (by decide)
section
variable {w w1:World} {b0 fb m nb:Nat} {own:Nat->Option Own} {at1:NU} {i:Nat} {n n1 mN:Nd} {s:Rf.St} {rho:NU} {c:Nat}{l:List V}{b:Option (Nat×Nat)}{nn:ON}
theorem Ck (h:Net w b0 own at1 fb s)(aq:b0<=w.heap.size)(hI:Inv s.nodes rho c)(U:s.nodes[i]?=some n){a0 r0:Nat}{p f x q:V}(ht:n.t=[p,f,x,q])(E:n.args=[a0])(hr:n.read=[r0])(X:n.nest=true){j:List Nd}(L:n1={n with args:=n.args++[s.nodes.length],read:=n.read++[0]})(D:j=(s.nodes++[mN]).set i n1){z p1 y u R p3:Int}{e:Value}(hs:Seen w b0 own at1 s.nodes i n v z p1 y u R p3 q3 mt pl gv g e l b C nn)(N:Chg w w1 [at1 i])(hm:w.heap.size<=m)(aa:Pos2 w1 (at1 i) fb [v,z,p1,y,u,R,p3,q3] (!n.pos) (fM n) mt (hY n) (gB n) pl s.clock (eW at1 (lArg n)) (ptrB m) gv g e)
   (A:a<s.nodes.length)  {J:Int} {v' u' x' y':V} (B:NodeAt w1 m zs false 0 0 0 0 J (ptrB (at1 a)) aA aI aA (ptrB nb)) (h8:zs.length=8) (f1:mN.pos=true) (f2:mN.aP=false) (f3:mN.t=[v',u',x',y']) (f4:mN.args=[a]) (f5:mN.read=[0]) (f6:mN.out=[]) (f7:mN.told=Rf.one) (f8:mN.dT=[Rf.one]) (f9:mN.nest=true) (F:∃cs:LB,w1.heap[nb]?=some (.cells cs.toArray 232 (0,0))) (I:jC w1 b0 (oR m (.nd s.nodes.length) own) (Ms s.nodes.length m at1) s.nodes.length mN nb J) (H:eO mN.t (cH zs)):
  ∃r at2,Kept w w1 own r fb/\Net w1 b0 r at2 fb ⟨j,s.clock⟩/\(∀a,a<s.nodes.length->at2 a=at1 a)/\at2 s.nodes.length=m:=by
 have hi:=(List.getElem?_eq_some_iff.1 U).1
 have W:(s.nodes++[mN])[i]?=some n:=by rw[getElem?_append_left hi];exact U
 have P:Pg.Go s.nodes j:=by
  rw[D];exact(Pg.Go.more _ _).trans (yW W (by rw[L]) (by rw[L]) (by rw[L]))
 have O:j[s.nodes.length]?=some mN:=by
  rw[D,getElem?_set_ne (by omega),getElem?_append_right (le_refl _)];simp
 obtain⟨xa,g1,_,g3,_⟩:=P.at' a _ (getElem?_eq_getElem A);have ab:=g3 0 _ (h.nd a _ (getElem?_eq_getElem A)).hc.fst
 obtain ⟨k1,k2⟩:=aLm h hI U ht E hr X L D hs N aa (at2:=Ms s.nodes.length m at1) (own':=oR m (.nd s.nodes.length) own) (fun a E=>Dt E) (Pv (le_refl _)) O (by rw [f8];rfl) (fun k o hk Y _=>by rw [Dl (by omega)];exact Y) (fun k hk Y=>by rw [Dl (by omega)];exact Y) (by
  intro d mm M ar;have T:=(List.getElem?_eq_some_iff.1 M).1
  have S:d=s.nodes.length:=by simp at T;omega
  subst S;rw[getElem?_append_right (le_refl _)]at M;simp at M;subst M;refine Hz (a:=a) ?_ h8 f1 f2 f3 f4 f5 f6 f7 f8 f9 g1 ab F I H ?_ ?_
  ·rw[Pv (le_refl _),Dt A];exact B
  ·rw[Pv (le_refl _)];exact Wm
  ·rw[Pv (le_refl _)];omega)
 exact⟨_,_,k1,k2,fun a E=>Dt E,Pv (le_refl _)⟩
theorem Tk (h:Net w b0 own at1 fb s)(a7:b0<=w.heap.size)(hI:Inv s.nodes rho c)(hn:s.nodes[i]?=some n){a0 r0:Nat}{q f x r:V}(ht:n.t=[q,f,x,r])(O:n.args=[a0])(hr:n.read=[r0])(ai:n.nest=true){j:List Nd}{p:Nat}{E:Bool}(ao:E=true)(Y:n1={n with args:=n.args++[s.nodes.length+1],read:=n.read++[0]})(ak:j=(s.nodes++[Rf.two .mul E E p p]++[mN]).set i n1){z p1 y u R p3:Int}(hs:Seen w b0 own at1 s.nodes i n v z p1 y u R p3 q3 mt pl gv g nv l b C nn)(H:Chg w w1 [at1 i])(hm:w.heap.size<=m)(al:Pos2 w1 (at1 i) fb [v,z,p1,y,u,R,p3,q3] (!n.pos) (fM n) mt (hY n) (gB n) pl s.clock (eW at1 (lArg n)) (ptrB m) gv g nv)
  (J:p<s.nodes.length) (D:own pb=some (.pd i)) (U:b0<=pb) (F:NodeAt w pb [1,0,0,0,0,0,0,1] false 0 0 0 0 0 (ptrB (at1 p)) (ptrB (at1 p)) aI aA aA)  {X:Int} {v' u' x' y':V} (L:NodeAt w1 m zs false 0 0 0 0 X (ptrB pb) aA aI aA (ptrB nb)) (h8:zs.length=8) (f1:mN.pos=true) (f2:mN.aP=false) (f3:mN.t=[v',u',x',y']) (f4:mN.args=[s.nodes.length]) (f5:mN.read=[0]) (f6:mN.out=[]) (f7:mN.told=Rf.one) (f8:mN.dT=[Rf.one]) (f9:mN.nest=true) (P:∃cs:LB,w1.heap[nb]?=some (.cells cs.toArray 232 (0,0))) (T:jC w1 b0 (oR m (.nd (s.nodes.length+1)) (oR pb (.nd s.nodes.length) own)) (Gr s.nodes.length pb m at1) (s.nodes.length+1) mN nb X) (S:eO mN.t (cH zs)):
  ∃B at2,Kept w w1 own B fb/\Net w1 b0 B at2 fb ⟨j,s.clock⟩/\(∀a,a<s.nodes.length->at2 a=at1 a)/\at2 (s.nodes.length+1)=m:=by
 have hi:=(List.getElem?_eq_some_iff.1 hn).1
 have A:j=(s.nodes++[Rf.two .mul E E p p,mN]).set i n1:=by rw[ak];simp
 have ah:(s.nodes++[Rf.two .mul E E p p,mN])[i]?=some n:=by rw[getElem?_append_left hi];exact hn
 have ae:Pg.Go s.nodes j:=by
  rw[A];exact(Pg.Go.more _ _).trans (yW ah (by rw[Y]) (by rw[Y]) (by rw[Y]))
 have ab:j[s.nodes.length]?=some (Rf.two .mul E E p p):=by
  rw[A,getElem?_set_ne (by omega),getElem?_append_right (le_refl _)];simp
 have ad:j[s.nodes.length+1]?=some mN:=by
  rw[A,getElem?_set_ne (by omega),getElem?_append_right (by omega)];simp
 obtain⟨xa,g1,_,g3,_⟩:=ae.at' p _ (getElem?_eq_getElem J);have ap:=g3 0 _ (h.nd p _ (getElem?_eq_getElem J)).hc.fst;have N:=F.lt
 have am:pb ∉ [at1 i]:=by
  intro e;simp at e;subst e;rw[(h.nd i n hn).own]at D;cases D
 have W:NodeAt w1 pb [1,0,0,0,0,0,0,1] false 0 0 0 0 0 (ptrB (at1 p)) (ptrB (at1 p)) aI aA aA:=F.aS H.on (H.low pb N am)
 obtain⟨k1,k2⟩:=aLm h hI hn ht O hr ai Y A hs H al (at2:=Gr s.nodes.length pb m at1) (own':=oR m (.nd (s.nodes.length+1)) (oR pb (.nd s.nodes.length) own)) (fun a O=>Xh O) (Px (by omega)) ad (by rw[f8];rfl)
  (fun k o hk M aj=>by
   rw[Dl (by omega),Dl (fun e=>by rw[e,D]at M;cases M;exact aj rfl)];exact M)
  (fun k hk M=>by rw [Dl (by omega),Dl (fun e=>by rw [e,D] at M;cases M)];exact M) (by
  intro d mm I a8;have ag:=(List.getElem?_eq_some_iff.1 I).1
  have af:d=s.nodes.length\/d=s.nodes.length+1:=by simp at ag;omega
  rcases af with rfl|rfl
  ·rw[getElem?_append_right (le_refl _)]at I;simp at I;subst I;refine aMh ao ?_ g1 ap ?_ ?_
   ·rw[Pw,Xh J];exact W
   ·rw[Pw,Dl (by omega)];exact Wm
   ·rw[Pw];exact U
  ·rw[getElem?_append_right (by omega)]at I;simp at I;subst I;refine Hz (a:=s.nodes.length) ?_ h8 f1 f2 f3 f4 f5 f6 f7 f8 f9 ab rfl P T S ?_ ?_
   ·rw[Px (by omega),Pw];exact L
   ·rw[Px (by omega)];exact Wm
   ·rw[Px (by omega)];omega)
 exact⟨_,_,k1,k2,fun a O=>Xh O,Px (by omega)⟩
end
end Ab
end Go.Proofs.YthhffdeihoofiaaGreatDoor
