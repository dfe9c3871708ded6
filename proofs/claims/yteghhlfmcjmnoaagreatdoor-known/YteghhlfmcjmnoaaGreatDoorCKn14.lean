import Derived.Test.YteghhlfmcjmnoaaGreatDoorCKn13
set_option linter.unusedSimpArgs false
set_option linter.unusedVariables false
set_option maxRecDepth 100000
set_option maxHeartbeats 2000000
namespace Go.Proofs.YteghhlfmcjmnoaaGreatDoor
open Go.RowKit
namespace Ab
noncomputable def hvL:List Int->List Int
 | [a,b,c,d,e,f,g,h]=>let t:=tw8 a b c d e f g h
  [hv t a,hv t b,hv t c,hv t d,hv t e,hv t f,hv t g,hv t h]
 | _=>[]
noncomputable def givL (cd p0 q0 p1 q1 p2 q2 p3 q3:Int):List Int:=[symD cd*p0-symB cd*q0,symA cd*q0-symC cd*p0,symD cd*p1-symB cd*q1,symA cd*q1-symC cd*p1,symD cd*p2-symB cd*q2,symA cd*q2-symC cd*p2,symD cd*p3-symB cd*q3,symA cd*q3-symC cd*p3]
section
variable (p0 q0 p1 q1 p2 q2 p3 q3:Int) (hs:Bool) (uns mt lr rr pl c cd:Int) (lp rp cst nst gv gv2:Value)
def goS (tm:List AT):AS:=sW [p0,q0,p1,q1,p2,q2,p3,q3] hs uns mt lr rr pl c (.lit lp) (.lit rp) (.lit cst) (.lit nst) (.lit gv) [] tm
noncomputable def goS3:AS:=⟨slot [(27,P0),(31,litT gv),(33,.val (.one (.slc 19 0 1 1)))] 0 37,[(0,ndW hs uns mt lr rr pl (.lit lp) (.lit rp) (.lit cst) (.lit nst) (.lit gv)),(6,fuW (IntKind.i64.wrap (c-1))),(19,⟨[.sint .i64 cd],100,true,true,true⟩)],20,(hvL (givL cd p0 q0 p1 q1 p2 q2 p3 q3)).map fun z=>(z,19),[6,0]⟩
theorem aTw:(run Z (tabSp tN) bW (drawA Z (tabSp tN)) (atOp (opCalls 196)) 400 [.code (bodyOf Tryz.f182),.top Tryz.f182] (goS p0 q0 p1 q1 p2 q2 p3 q3 hs uns mt lr rr pl c lp rp cst nst gv (argT 35))).bind (outX (nrm [0,6] [] 7 []) (nrm [0,6] [0,1,6] 7 []))
  = some (.stp (bef (opCalls 196) Tryz.f182) (goS p0 q0 p1 q1 p2 q2 p3 q3 hs uns mt lr rr pl c lp rp cst nst gv (slot [(0,P0),(1,P6),(6,P0)] 0 37))):=by kernel_rfl
theorem aTx:(run Z (tabSp tN) bW (drawA Z (tabSp tN)) (atOp (fun o=>opCalls 197 o||opApp o)) 400 (aft (opCalls 196) Tryz.f182) (goS p0 q0 p1 q1 p2 q2 p3 q3 hs uns mt lr rr pl c lp rp cst nst gv (slot [(0,P0),(1,P6),(7,sintT cd)] 0 37))).bind (outX (nrm [0,6] [] 7 []) (nrmE [0,6,19] [27,31,33] 20 [0,6] [10,11] 7))
  = some (.br (decide (cd=0)) (.stp (bef (opCalls 197) Tryz.f182) (goS p0 q0 p1 q1 p2 q2 p3 q3 hs uns mt lr rr pl c lp rp cst nst gv (slot [(10,P0),(11,P6)] 0 37))) (.br (decide (c<1)) (.ret (.val (.one (.bool false))) (goS p0 q0 p1 q1 p2 q2 p3 q3 hs uns mt lr rr pl c lp rp cst nst gv (slot [] 0 37))) (.stp (bef opApp Tryz.f182) (goS3 p0 q0 p1 q1 p2 q2 p3 q3 hs uns mt lr rr pl c cd lp rp cst nst gv)))):=by kernel_rfl
theorem aTy:(run Z (tabSp tN) bW (drawA Z (tabSp tN)) (fun _=>false) 400 (aft opApp Tryz.f182) (goS p0 q0 p1 q1 p2 q2 p3 q3 hs uns mt lr rr pl c lp rp cst nst gv (slot [(27,P0),(34,litT gv2)] 0 37))).bind (outX (nrm [0,6] [] 7 []) (nrm [0,6] [] 7 []))
  = some (.ret (.val (.one (.bool true))) ⟨slot [] 0 37,[(0,ndW hs uns mt lr rr pl (.lit lp) (.lit rp) (.lit cst) (.lit nst) (.lit gv2)),(6,fuW c)],7,[(p0,10),(q0,10),(p1,10),(q1,10),(p2,10),(q2,10),(p3,10),(q3,10)],[0]⟩):=by kernel_rfl
theorem aTz (b:Bool):(run Z (tabSp tN) bW (drawA Z (tabSp tN)) (fun _=>false) 400 (aft (opCalls 197) Tryz.f182) ⟨slot [(12,.val (.one (.sbool b)))] 0 37,[],0,[],[]⟩).bind (outX (nrm [] [] 0 []) (nrm [] [] 0 []))
  = some (.ret (.val (.one (.sbool b))) ⟨slot [] 0 37,[],0,[],[]⟩):=by kernel_rfl
end
theorem aBt {k fb:Nat}{kb:List Nat}(a:kb.contains 0=true)(c:kb.contains 6=true):∀ b x,phW k fb (fun _=>none) b=some x->kb.contains b=true:=by
 intro b x h;unfold phW at h;split at h
 ·subst_vars;exact a
 ·split at h
  ·subst_vars;exact c
  ·split at h<;>cases h
theorem aAN {w w':World}{ψ φ':Nat->Option (Nat×Nat)}{s:AS}(hw:RepW Z w ψ φ' s w')(hd:s.dirty=[]):Chg w w' []:=⟨hw.on,fun j hj _=>hw.low j hj fun b hb=>by rw [hd] at hb;cases hb⟩
theorem aEL {w:World}(tm:List AT):RepW Z w (fun _=>none) (fun _=>none) ⟨tm,[],0,[],[]⟩ w:=
 aJI rfl (fun b B h=>by simp [look] at h) (fun b b' B B' k o o' h=>by simp [look] at h) (fun _ _=>rfl) (fun b k o h=>by cases h)
structure Pos2 (w:World) (k fb:Nat) (zs:List Int) (hs:Bool) (uns mt lr rr pl c:Int) (lp rp gv cv nv:Value):Prop where
 nd:NodeAt w k zs hs uns mt lr rr pl lp rp gv cv nv
 fu:w.heap[fb]?=some (.cells #[.int .i64 c] 195 (0,0))
 bits:∀ z∈zs,Bits 10 z
 h8:zs.length=8
 o1:One lp
 o2:One rp
 o3:One gv
 o4:One cv
 o5:One nv
section
variable {w w':World} {k fb:Nat} {zs:List Int} {hs:Bool} {uns mt lr rr pl c:Int} {lp rp gv cv nv:Value}
theorem Pos2.rep (h:Pos2 w k fb zs hs uns mt lr rr pl c lp rp gv cv nv)(tm:List AT):RepW Z w (phW k fb fun _=>none) (phW k fb fun _=>none) (sW zs hs uns mt lr rr pl c (.lit lp) (.lit rp) (.lit cv) (.lit nv) (.lit gv) [] tm) w:=
 aPL (lpC:=.lit lp) (rpC:=.lit rp) (gvC:=.lit gv) (cvC:=.lit cv) (nvC:=.lit nv) h.nd h.h8 h.bits h.fu ⟨rfl,h.o1⟩ ⟨rfl,h.o2⟩ ⟨rfl,h.o3⟩ ⟨rfl,h.o4⟩ ⟨rfl,h.o5⟩ (fun b B e=>by simp [look] at e) (fun b k' o e=>by cases e) tm
theorem Pos2.keep (h:Pos2 w k fb zs hs uns mt lr rr pl c lp rp gv cv nv)(hc:Chg w w' []):Pos2 w' k fb zs hs uns mt lr rr pl c lp rp gv cv nv:=
 ⟨h.nd.keep hc.on (hc.low _ h.nd.lt (by simp)),hc.at h.fu (by simp),h.bits,h.h8,h.o1,h.o2,h.o3,h.o4,h.o5⟩
theorem Pos2.out (h:Pos2 w k fb zs hs uns mt lr rr pl c lp rp gv cv nv){φ':Nat->Option (Nat×Nat)}{s:AS}(t:RepW Z w (phW k fb fun _=>none) φ' s w'){zs':List Int}{hs':Bool}{uns' mt' lr' rr' pl' c':Int}{lp' rp' gv' cv' nv':Value}(u:look s.boxes 0=some (ndW hs' uns' mt' lr' rr' pl' (.lit lp') (.lit rp') (.lit cv') (.lit nv') (.lit gv')))(v:look s.boxes 6=some (fuW c'))(a:zs'.length=8)(x:∀ (j:Nat) (z:Int),zs'[j]?=some z->∃ b,s.nums[j]?=some (z,b))(y:∀ z∈zs',Bits 10 z):Pos2 w' k fb zs' hs' uns' mt' lr' rr' pl' c' lp' rp' gv' cv' nv':=by
 obtain ⟨⟨d,e,f,g,i,l,⟨rfl,m⟩,⟨rfl,n⟩,⟨rfl,o⟩,⟨rfl,p⟩,⟨rfl,q⟩⟩,r⟩:=aM2 (ns:=[]) t u v (h.nd.shape h.h8) (aD8 h.fu) a x;exact ⟨l,r,y,a,m,n,o,p,q⟩
end
theorem aDM {zs:List Int}{u:Nat}:∀ (j:Nat) (z:Int),zs[j]?=some z->∃ b,(zs.map fun z=>(z,u))[j]?=some (z,b):=fun j z h=>⟨u,by rw [List.getElem?_map,h];rfl⟩
theorem RowOf.keep {w w':World}{e:TypeId}{xs:List Value}{v:Value}{g:Option Nat}{D:List Nat}(h:RowOf w e xs v g)(a:Chg w w' D)(c:∀ b,g=some b->b∉D):RowOf w' e xs v g:=by
 rcases h with h | ⟨b,cap,rest,h1,h2,h3,h4,h5⟩
 ·exact Or.inl h
 ·exact Or.inr ⟨b,cap,rest,h1,h2,a.at h3 (c b h1),h4,h5⟩
theorem RowOf.ty {w:World}{e:TypeId}{xs:List Value}{v:Value}{b:Nat}(h:RowOf w e xs v (some b)):∃ cs:List Value,w.heap[b]?=some (.cells cs.toArray e (0,0)):=by
 rcases h with ⟨_,_,e⟩ | ⟨g,c,a,d,i,f,j,k⟩
 ·cases e
 ·cases d;exact ⟨_,f⟩
theorem RowOf.one {w:World}{e:TypeId}{xs:List Value}{v:Value}{g:Option Nat}(h:RowOf w e xs v g):One v:=by
 rcases h with ⟨rfl,_⟩ | ⟨b',cap,rest,h1,rfl,h3,h4,h5⟩<;>rfl
theorem aON:∃ i zv,Z.P.info? 100=some i/\i.bytes<=1000000/\(∀ w,(zeroValue 100).run Z.P w=.ok zv w)/\zv.cells.size=1:=by
 have h:(Z.P.info? 100).map (fun i=>(i.bytes,i.zero))=some (8,some (.int .i64 0)):=by kernel_rfl
 obtain ⟨i,a,b⟩:=Option.map_eq_some_iff.1 h;simp only [Prod.mk.injEq] at b;obtain ⟨c,d⟩:=b;exact ⟨i,.int .i64 0,a,by rw [c];decide,fun w=>by simp [zeroValue,typeInfo,a,d],rfl⟩
theorem aKu {w:World}{k fb:Nat}{p0 q0 p1 q1 p2 q2 p3 q3:Int}{hs:Bool}{uns mt lr rr pl c cd:Int}{lp rp gv cv nv:Value}{xs:List Value}{g:Option Nat}{R:Ending->World->Prop}(h:Pos2 w k fb [p0,q0,p1,q1,p2,q2,p3,q3] hs uns mt lr rr pl c lp rp gv cv nv)(bz:c<=3000)(E:RowOf w 100 xs gv g)(ai:xs.length<=99999)
  (S:∀ w1,Chg w w1 []->Calls Tryz.prog 196 #[ptrB k] w1 fun e w'=>e=.returned (.int .i64 cd)/\Chg w1 w' [])
  (T:cd=0->∀ w1,Chg w w1 []->Calls Tryz.prog 197 #[ptrB k,ptrB fb] w1 fun e w'=>∃ b,e=.returned (.bool b)/\∀ w2,Chg w' w2 []->R (.returned (.bool b)) w2)
  (ax:cd≠0->c<1->∀ w1,Chg w w1 []->R (.returned (.bool false)) w1)
  (U:cd≠0->1<=c->∀ z∈hvL (givL cd p0 q0 p1 q1 p2 q2 p3 q3),Bits 10 z)
  (aj:cd≠0->1<=c->∀ w1 gv' b,Chg w w1 [k,fb,b]->Pos2 w1 k fb (hvL (givL cd p0 q0 p1 q1 p2 q2 p3 q3)) hs uns mt lr rr pl (c-1) lp rp gv' cv nv->RowOf w1 100 (xs++[.int .i64 cd]) gv' (some b)->(g=some b\/w.heap.size<=b)->R (.returned (.bool true)) w1):
  Calls Tryz.prog 182 #[ptrB k,ptrB fb] w R:=by
 have F:=aAj Tryz.func182 rfl rfl;refine aAP F (φ:=phW k fb fun _=>none) (vs:=[.one (.ptr 0 0),.one (.ptr 6 0)]) (args:=[ptrB k,ptrB fb]) (s:=goS p0 q0 p1 q1 p2 q2 p3 q3 hs uns mt lr rr pl c lp rp cv nv gv (argT 35)) (by kernel_rfl) ⟨⟨k,0,rfl,rfl⟩,⟨fb,0,rfl,rfl⟩,trivial⟩ (h.rep _) ?_;refine xrun' (aAd aAW) aCT (aBt rfl rfl) (aA7 (aBt rfl rfl)) (aTw p0 q0 p1 q1 p2 q2 p3 q3 hs uns mt lr rr pl c lp rp cv nv gv) (fun _ _=>False) (fun X s=>X=bef (opCalls 196) Tryz.f182/\s=goS p0 q0 p1 q1 p2 q2 p3 q3 hs uns mt lr rr pl c lp rp cv nv gv (slot [(0,P0),(1,P6),(6,P0)] 0 37)) ⟨rfl,rfl⟩ (fun _ _ _ _ _ h=>h.elim) ?_;rintro X s ⟨rfl,rfl⟩;refine ⟨by kernel_rfl,fun kcs φ1 a1 w1 hsr1 hr1=>?_⟩;have c1:=aAN hr1.wd rfl;refine aAx (f:=196) (vs:=[.one (.ptr 0 0)]) (dst:=some 7) (ks2:=aft (opCalls 196) Tryz.f182) (by kernel_rfl) (aAj Tryz.func196 rfl rfl).en (by kernel_rfl) (hsr1 φ1 [] w1) hr1 ?_;intro W N
 match W,N with
 | [y],⟨l,_⟩=>
 rw [aBp (hr1.wd.base 0 (k,0) rfl) l];refine (S w1 c1).mono ?_;rintro e w2 ⟨rfl,c2⟩;refine ⟨_,rfl,fun kcs2 hf2 hsr2=>?_⟩;have d:=c1.trans c2;have h2:=h.keep d
 have an:Rep Z w2 (phW k fb fun _=>none) (phW k fb fun _=>none) (goS p0 q0 p1 q1 p2 q2 p3 q3 hs uns mt lr rr pl c lp rp cv nv gv (slot [(0,P0),(1,P6),(7,sintT cd)] 0 37)) (a1.put (some 7) (.int .i64 cd)) w2:=by
  refine aAM (kb:=[0,6]) (kt:=[0,1]) (dst:=some 7) (r:=sintT cd) hr1 (h2.rep _) (by kernel_rfl) ?_ rfl;intro b O
  have H:b=0\/b=6:=by simpa using O
  rcases H with rfl | rfl
  ·rw [hr1.wd.base 0 (k,0) rfl];rfl
  ·rw [hr1.wd.base 6 (fb,0) rfl];rfl
 refine xrun' (aAd aAW) aCT (aBt rfl rfl) (aTL (aBt rfl rfl) (aBt rfl rfl)) (aTx p0 q0 p1 q1 p2 q2 p3 q3 hs uns mt lr rr pl c cd lp rp cv nv gv)
  (fun r s=>r=.val (.one (.bool false))/\s.dirty=[]/\cd≠0/\c<1)
  (fun X s=>(cd=0/\X=bef (opCalls 197) Tryz.f182/\s=goS p0 q0 p1 q1 p2 q2 p3 q3 hs uns mt lr rr pl c lp rp cv nv gv (slot [(10,P0),(11,P6)] 0 37))\/(cd≠0/\¬c<1/\X=bef opApp Tryz.f182/\s=goS3 p0 q0 p1 q1 p2 q2 p3 q3 hs uns mt lr rr pl c cd lp rp cv nv gv))
  ⟨fun e=>Or.inl ⟨of_decide_eq_true e,rfl,rfl⟩,fun e=>⟨fun e2=>⟨rfl,rfl,of_decide_eq_false e,of_decide_eq_true e2⟩,fun e2=>Or.inr ⟨of_decide_eq_false e,of_decide_eq_false e2,rfl,rfl⟩⟩⟩ ?_ ?_ kcs2 _ _ _ (hsr2 _ _ _) an
 ·rintro r s φ3 v A ⟨rfl,hd,Y,h1⟩ hv _ ar;rw [hv false (Or.inl rfl)];exact ax Y h1 A (d.trans (aAN ar hd))
 ·rintro X s (⟨Y,rfl,rfl⟩ | ⟨Y,h1,rfl,rfl⟩)
  ·refine ⟨by kernel_rfl,fun kcs3 φ3 a3 A hsr3 hr3=>?_⟩;have c3:=d.trans (aAN hr3.wd rfl);refine aAx (f:=197) (vs:=[.one (.ptr 0 0),.one (.ptr 6 0)]) (dst:=some 12) (ks2:=aft (opCalls 197) Tryz.f182) (by kernel_rfl) (aAj Tryz.func197 rfl rfl).en (by kernel_rfl) (hsr3 φ3 [] A) hr3 ?_;intro W N
   match W,N with
   | [y,z],⟨l,hz,_⟩=>
   rw [aBp (hr3.wd.base 0 (k,0) rfl) l,aBp (hr3.wd.base 6 (fb,0) rfl) hz];refine (T Y A c3).mono ?_;rintro e w4 ⟨b,rfl,hR⟩;refine ⟨_,rfl,fun kcs4 hf4 hsr4=>?_⟩;have I:Rep Z w4 (fun _=>none) (fun _=>none) ⟨slot [(12,.val (.one (.sbool b)))] 0 37,[],0,[],[]⟩ (a3.put (some 12) (.bool b)) w4:=aAM (kb:=[]) (kt:=[]) (dst:=some 12) (r:=.val (.one (.sbool b))) hr3 (aEL _) (by kernel_rfl) (fun b O=>by simp at O) rfl;refine xrun' (aAd aAW) aCT (fun b x e=>by cases e) (aA7 (fun b x e=>by cases e)) (aTz b) (fun r s=>r=.val (.one (.sbool b))/\s.dirty=[]) (fun _ _=>False) ⟨rfl,rfl⟩ ?_ (fun _ _ h=>h.elim) kcs4 _ _ _ (hsr4 _ _ _) I;rintro r s φ5 v w5 ⟨rfl,hd⟩ hv _ B;rw [hv b (Or.inr rfl)];exact hR w5 (aAN B hd)
  ·refine ⟨by kernel_rfl,fun kcs3 φ3 a3 A hsr3 hr3=>?_⟩
   have aa:1<=c:=by omega
   have hB:=U Y aa
   have ao:IntKind.i64.wrap (c-1)=c-1:=by
    unfold IntKind.wrap;simp [IntKind.bits,IntKind.signed];omega
   have n:Chg w2 A [k,fb]:=aHK hr3.wd rfl
   have a:Pos2 A k fb (hvL (givL cd p0 q0 p1 q1 p2 q2 p3 q3)) hs uns mt lr rr pl (c-1) lp rp gv cv nv:=by
    have:=h2.out hr3.wd (zs':=hvL (givL cd p0 q0 p1 q1 p2 q2 p3 q3)) (hs':=hs) (uns':=uns) (mt':=mt) (lr':=lr) (rr':=rr) (pl':=pl) (c':=IntKind.i64.wrap (c-1)) (lp':=lp) (rp':=rp) (gv':=gv) (cv':=cv) (nv':=nv) rfl rfl rfl aDM hB;rw [ao] at this;exact this
   have ab:∀ b,g=some b->b ∉ [k,fb]:=by
    intro b O q;subst O;obtain ⟨cs,ae⟩:=E.ty;simp at q
    rcases q with rfl | rfl
    ·obtain ⟨W,l,_⟩:=h.nd.ex;rw [ae] at l;exact absurd (Obj.cells.inj (Option.some.inj l)).2.1 (by decide)
    ·have l:=h.fu;rw [ae] at l;exact absurd (Obj.cells.inj (Option.some.inj l)).2.1 (by decide)
   have J:RowOf A 100 xs gv g:=(E.keep d (fun _ _=>by simp)).keep n ab;refine aNK (t:=97) (t':=97) (ty:=97) (sv:=litT gv) (xv:=.val (.one (.slc 19 0 1 1))) (dst:=some 34) (ks2:=aft opApp Tryz.f182) (by kernel_rfl) (by kernel_rfl) (hsr3 φ3 [] A) hr3 ?_;rintro v1 v2 ⟨au,_⟩ ⟨k',o,av,e',m,x1,x2,x3,x4,x5⟩;rw [au];obtain ⟨k2,o2,bc,W,a6,y1,y2,y3,y4⟩:=hr3.wd.box 19 ⟨[.sint .i64 cd],100,true,true,true⟩ rfl;rw [x1] at y1;cases y1;subst y3
   match W,y4 with
   | [y],⟨l,_⟩=>
   have l:y=.int .i64 cd:=l;subst l;obtain ⟨i,zv,i1,i2,i3,i4⟩:=aON;obtain ⟨M,w4,b,a1,a2,af,a4,a5⟩:=aQe (bt:=Z.bt) (P:=Z.P) (t:=97) (t':=97) (ty:=97) (e:=100) rfl rfl (by kernel_rfl) i1 i2 i3 i4 (by decide) J (xv:=v2) (xc:=av) y2 (by rw [x2];simp) rfl ai;refine ⟨M,w4,a1,fun kcs4 hf4 hsr4=>?_⟩
   have L:b ∉ [k,fb]:=by
    rcases af with e | e
    ·exact ab b e
    ·intro q;simp at q;have l1:=a.nd.lt;have l2:=aAf a.fu
     rcases q with rfl | rfl<;>omega
   have p:Chg A w4 [b]:=⟨a4,fun j hj hn=>a5 j hj (by simpa using hn)⟩
   have ad:Pos2 w4 k fb (hvL (givL cd p0 q0 p1 q1 p2 q2 p3 q3)) hs uns mt lr rr pl (c-1) lp rp gv cv nv:=by
    refine ⟨a.nd.keep a4 (p.low _ a.nd.lt ?_),p.at a.fu ?_,a.bits,a.h8,a.o1,a.o2,a.o3,a.o4,a.o5⟩
    ·intro q;simp at q;exact L (by simp [q])
    ·intro q;simp at q;exact L (by simp [q])
   have I:Rep Z w4 (phW k fb fun _=>none) (phW k fb fun _=>none) (sW (hvL (givL cd p0 q0 p1 q1 p2 q2 p3 q3)) hs uns mt lr rr pl (c-1) (.lit lp) (.lit rp) (.lit cv) (.lit nv) (.lit gv) [] (slot [(27,P0),(34,litT M)] 0 37)) (a3.put (some 34) M) w4:=by
    refine aAM (kb:=[0,6]) (kt:=[27]) (dst:=some 34) (r:=litT M) hr3 (ad.rep _) (by kernel_rfl) ?_ ⟨rfl,a2.one⟩;intro b O
    have H:b=0\/b=6:=by simpa using O
    rcases H with rfl | rfl
    ·rw [hr3.wd.base 0 (k,0) rfl];rfl
    ·rw [hr3.wd.base 6 (fb,0) rfl];rfl
   refine xrun' (aAd aAW) aCT (aBt rfl rfl) (aA7 (aBt rfl rfl)) (aTy _ _ _ _ _ _ _ _ hs uns mt lr rr pl (c-1) lp rp cv nv gv M) (fun r s=>r=.val (.one (.bool true))/\s.dirty=[0]/\look s.boxes 0=some (ndW hs uns mt lr rr pl (.lit lp) (.lit rp) (.lit cv) (.lit nv) (.lit M))/\look s.boxes 6=some (fuW (c-1))/\s.nums=(hvL (givL cd p0 q0 p1 q1 p2 q2 p3 q3)).map fun z=>(z,10)) (fun _ _=>False) ⟨rfl,rfl,rfl,rfl,rfl⟩ ?_ (fun _ _ h=>h.elim) kcs4 _ _ _ (hsr4 _ _ _) I;rintro r s φ5 v w5 ⟨rfl,hd,l0,l6,ln⟩ hv _ B;rw [hv true (Or.inl rfl)];have C:Chg w4 w5 [k,fb]:=aHK B (by rw [hd];rfl);have ap:=ad.out B l0 l6 rfl (by rw [ln];exact aDM) hB
   have wk:∀ {u v:World} {D:List Nat},Chg u v D->(∀ x∈D,x∈[k,fb,b])->Chg u v [k,fb,b]:=fun h hh=>h.weak hh
   refine aj Y aa w5 M b ((((wk d (by simp)).trans (wk n (by simp)))).trans ((wk p (by simp)).trans (wk C (by simp)))) ap (a2.keep C ?_) ?_
   ·intro b' e;cases e;exact L
   ·rcases af with e | e
    ·exact Or.inl e
    ·exact Or.inr (Nat.le_trans (Nat.le_trans d.on.size n.on.size) e)
end Ab
open Go.RowKit
namespace Ab
noncomputable def rdLL (a b c d p0 q0 p1 q1 p2 q2 p3 q3:Int):List Int:=[p0*a+p2*c,q0*a+q2*c,p1*a+p3*c,q1*a+q3*c,p0*b+p2*d,q0*b+q2*d,p1*b+p3*d,q1*b+q3*d]
noncomputable def rdRL (a b c d p0 q0 p1 q1 p2 q2 p3 q3:Int):List Int:=[p0*a+p1*c,q0*a+q1*c,p0*b+p1*d,q0*b+q1*d,p2*a+p3*c,q2*a+q3*c,p2*b+p3*d,q2*b+q3*d]
def spC (a b c d mt:Int):Spec:=fun f _ ν _ _ vs=>bif f==216 then (match vs with
 | [.one (.ptr 4 0),.one (.sint .i64 n)]=>some ([(a,2),(b,2),(c,2),(d,2)],.val (.agg (numCs true ν.length 4)),[n=mt],none)
 | _=>none) else none
section
variable (p0 q0 p1 q1 p2 q2 p3 q3:Int) (hs:Bool) (uns mt lr rr pl c cd:Int) (lp rp cst nst gv gv2:Value)
noncomputable def wrS (zs:List Int)(u:Nat)(lr rr mt c:Int)(m:Nat):AS:=⟨slot [] 0 m,[(0,ndW hs uns mt lr rr pl (.lit lp) (.lit rp) (.lit cst) (.lit nst) (.lit gv)),(6,fuW c)],7,zs.map fun z=>(z,u),[0,6,0]⟩
theorem rl_1:(run Z (tabSp tN) bW (drawA Z (tabSp tN)) (atOp (opCalls 125)) 400 [.code (bodyOf Tryz.f209),.top Tryz.f209] (goS p0 q0 p1 q1 p2 q2 p3 q3 hs uns mt lr rr pl c lp rp cst nst gv (argT 37))).bind (outX (nrm [0,6] [] 7 []) (nrm [0,6] [0,1,9,10] 7 []))
  = some (.stp (bef (opCalls 125) Tryz.f209) (goS p0 q0 p1 q1 p2 q2 p3 q3 hs uns mt lr rr pl c lp rp cst nst gv (slot [(0,P0),(1,P6),(9,.val (.agg [.lit lp,.sint .i64 lr])),(10,P6)] 0 39))):=by kernel_rfl
theorem rl_2:(run Z (tabSp tN) bW (drawA Z (tabSp tN)) (fun _=>false) 400 (aft (opCalls 125) Tryz.f209) (goS p0 q0 p1 q1 p2 q2 p3 q3 hs uns mt lr rr pl c lp rp cst nst gv (slot [(0,P0),(1,P6),(11,sintT cd)] 0 39))).bind (outX (nrm [0,6] [] 7 []) (nrm [0,6] [] 7 []))
  = some (.br (decide (cd=0)) (.ret (.val (.one (.bool false))) (goS p0 q0 p1 q1 p2 q2 p3 q3 hs uns mt lr rr pl c lp rp cst nst gv (slot [] 0 39))) (.br (decide (c<1)) (.ret (.val (.one (.bool false))) (goS p0 q0 p1 q1 p2 q2 p3 q3 hs uns mt lr rr pl c lp rp cst nst gv (slot [] 0 39))) (.ret (.val (.one (.bool true))) (wrS hs uns pl lp rp cst nst gv (hvL (rdLL (symA cd) (symB cd) (symC cd) (symD cd) p0 q0 p1 q1 p2 q2 p3 q3)) 19 (IntKind.i64.wrap (lr+1)) rr mt (IntKind.i64.wrap (c-1)) 39)))):=by kernel_rfl
theorem rl_3:(run Z (tabSp tN) bW (drawA Z (tabSp tN)) (fun _=>false) 400 (aft (opCalls 125) Tryz.f209) ⟨slot [(11,.val (.one (.int .i64 0)))] 0 39,[],0,[],[]⟩).bind (outX (nrm [] [] 0 []) (nrm [] [] 0 []))=some (.ret (.val (.one (.bool false))) ⟨slot [] 0 39,[],0,[],[]⟩):=by kernel_rfl
theorem rc_1 (ma mb mc md:Int):(run Z (orSp (spC ma mb mc md mt) (tabSp tN)) bW (drawA Z (orSp (spC ma mb mc md mt) (tabSp tN))) (fun _=>false) 400 [.code (bodyOf Tryz.f207),.top Tryz.f207] (sW [p0,q0,p1,q1,p2,q2,p3,q3] hs uns mt lr rr pl c (.lit lp) (.lit rp) (.ptr 4 0) (.lit nst) (.lit gv) [(4,ext [] 224)] (argT 33))).bind (outX (nrm [0,6,4] [] 7 []) (nrm [0,6,4] [] 7 []))
  = some (.br (decide (c<1)) (.ret (.val (.one (.bool false))) (sW [p0,q0,p1,q1,p2,q2,p3,q3] hs uns mt lr rr pl c (.lit lp) (.lit rp) (.ptr 4 0) (.lit nst) (.lit gv) [(4,ext [] 224)] (slot [] 0 35))) (.need [mt=mt] (.ret (.val (.one (.bool true))) ⟨slot [] 0 35,[(0,ndW hs uns (IntKind.i64.wrap (mt+1)) lr rr pl (.lit lp) (.lit rp) (.ptr 4 0) (.lit nst) (.lit gv)),(6,fuW (IntKind.i64.wrap (c-1))),(4,ext [] 224)],7,(hvL (rdRL ma mb mc md p0 q0 p1 q1 p2 q2 p3 q3)).map fun z=>(z,19),[0,6,0]⟩))):=by kernel_rfl
end
theorem aGV {c:Int}(a:1<=c)(b:c<=3000):IntKind.i64.wrap (c-1)=c-1:=by
 unfold IntKind.wrap;simp [IntKind.bits,IntKind.signed];omega
theorem aER {c:Int}(a:0<=c)(b:c<=1000000):IntKind.i64.wrap (c+1)=c+1:=by
 unfold IntKind.wrap;simp [IntKind.bits,IntKind.signed];omega
structure AftRd (w2:World) (k fb:Nat) (cd:Int) (R:Ending->World->Prop) (K:Int->Int->Int->Int->Int->Int->Int->Int->Bool->Int->Int->Int->Int->Int->Int->Value->Value->Value->Value->Value->Prop):Prop where
 none:cd=0->∀ w3,Chg w2 w3 []->R (.returned (.bool false)) w3
 some:cd≠0->∃ p0 q0 p1 q1 p2 q2 p3 q3 hs uns mt lr rr pl c lp rp gv cv nv,Pos2 w2 k fb [p0,q0,p1,q1,p2,q2,p3,q3] hs uns mt lr rr pl c lp rp gv cv nv/\c<=3000/\0<=lr/\lr<=1000000/\0<=rr/\rr<=1000000/\(c<1->∀ w3,Chg w2 w3 []->R (.returned (.bool false)) w3)/\(1<=c->K p0 q0 p1 q1 p2 q2 p3 q3 hs uns mt lr rr pl c lp rp gv cv nv)
section
variable {w:World} {k fb:Nat} {p0 q0 p1 q1 p2 q2 p3 q3:Int} {hs:Bool} {uns mt lr rr pl c:Int} {lp rp gv cv nv:Value} {R:Ending->World->Prop}
theorem aFz (h:Pos2 w k fb [p0,q0,p1,q1,p2,q2,p3,q3] hs uns mt lr rr pl c lp rp gv cv nv)
  (C:∀ w1,Chg w w1 []->Calls Tryz.prog 125 #[.agg #[lp,.int .i64 lr],ptrB fb] w1 fun e w2=>∃ cd,e=.returned (.int .i64 cd)/\
   AftRd w2 k fb cd R fun p0 q0 p1 q1 p2 q2 p3 q3 hs uns mt lr rr pl c lp rp gv cv nv=>(∀ z∈hvL (rdLL (symA cd) (symB cd) (symC cd) (symD cd) p0 q0 p1 q1 p2 q2 p3 q3),Bits 10 z)/\∀ w3,Chg w2 w3 [k,fb]->Pos2 w3 k fb (hvL (rdLL (symA cd) (symB cd) (symC cd) (symD cd) p0 q0 p1 q1 p2 q2 p3 q3)) hs uns mt (lr+1) rr pl (c-1) lp rp gv cv nv->R (.returned (.bool true)) w3):
  Calls Tryz.prog 209 #[ptrB k,ptrB fb] w R:=by
 have F:=aAj Tryz.func209 rfl rfl;refine aAP F (φ:=phW k fb fun _=>none) (vs:=[.one (.ptr 0 0),.one (.ptr 6 0)]) (args:=[ptrB k,ptrB fb]) (s:=goS p0 q0 p1 q1 p2 q2 p3 q3 hs uns mt lr rr pl c lp rp cv nv gv (argT 37)) (by kernel_rfl) ⟨⟨k,0,rfl,rfl⟩,⟨fb,0,rfl,rfl⟩,trivial⟩ (h.rep _) ?_;refine xrun' (aAd aAW) aCT (aBt rfl rfl) (aA7 (aBt rfl rfl)) (rl_1 p0 q0 p1 q1 p2 q2 p3 q3 hs uns mt lr rr pl c lp rp cv nv gv) (fun _ _=>False) (fun E s=>E=bef (opCalls 125) Tryz.f209/\s=goS p0 q0 p1 q1 p2 q2 p3 q3 hs uns mt lr rr pl c lp rp cv nv gv (slot [(0,P0),(1,P6),(9,.val (.agg [.lit lp,.sint .i64 lr])),(10,P6)] 0 39)) ⟨rfl,rfl⟩ (fun _ _ _ _ _ h=>h.elim) ?_;rintro E s ⟨rfl,rfl⟩;refine ⟨by kernel_rfl,fun kcs φ1 a1 w1 hsr1 hr1=>?_⟩;have J:=aAN hr1.wd rfl;refine aAx (f:=125) (vs:=[.agg [.lit lp,.sint .i64 lr],.one (.ptr 6 0)]) (dst:=some 11) (ks2:=aft (opCalls 125) Tryz.f209) (by kernel_rfl) (aAj Tryz.func125 rfl rfl).en (by kernel_rfl) (hsr1 φ1 [] w1) hr1 ?_;intro S A
 match S,A with
 | [y,y2],⟨⟨zs,hy,hz⟩,hy2,_⟩=>
 match zs,hz with
 | [z1,z2],⟨a,d,_⟩=>
 have a:z1=lp:=a.1;have d:z2=.int .i64 lr:=d;rw [aBp (hr1.wd.base 6 (fb,0) rfl) hy2,hy,a,d];refine (C w1 J).mono ?_;rintro e w2 ⟨cd,rfl,H⟩;refine ⟨_,rfl,fun kcs2 hf2 hsr2=>?_⟩
 by_cases j:cd=0
 ·subst j;have g:Rep Z w2 (fun _=>none) (fun _=>none) ⟨slot [(11,.val (.one (.int .i64 0)))] 0 39,[],0,[],[]⟩ (a1.put (some 11) (.int .i64 0)) w2:=aAM (kb:=[]) (kt:=[]) (dst:=some 11) (r:=.val (.one (.int .i64 0))) hr1 (aEL _) (by kernel_rfl) (fun b B=>by simp at B) rfl;refine xrun' (aAd aAW) aCT (fun b x e=>by cases e) (aA7 (fun b x e=>by cases e)) rl_3 (fun r s=>r=.val (.one (.bool false))/\s.dirty=[]) (fun _ _=>False) ⟨rfl,rfl⟩ ?_ (fun _ _ h=>h.elim) kcs2 _ _ _ (hsr2 _ _ _) g;rintro r s T v P ⟨rfl,t⟩ n _ u;rw [n false (Or.inl rfl)];exact H.none rfl P (aAN u t)
 ·obtain ⟨p0,q0,p1,q1,p2,q2,p3,q3,hs,uns,mt,lr,rr,pl,c,lp,rp,gv,cv,nv,D,p,L,M,_,_,q,m⟩:=H.some j
  have g:Rep Z w2 (phW k fb fun _=>none) (phW k fb fun _=>none) (goS p0 q0 p1 q1 p2 q2 p3 q3 hs uns mt lr rr pl c lp rp cv nv gv (slot [(0,P0),(1,P6),(11,sintT cd)] 0 39)) (a1.put (some 11) (.int .i64 cd)) w2:=by
   refine aAM (kb:=[0,6]) (kt:=[0,1]) (dst:=some 11) (r:=sintT cd) hr1 (D.rep _) (by kernel_rfl) ?_ rfl;intro b B
   have o:b=0\/b=6:=by simpa using B
   rcases o with rfl | rfl
   ·rw [hr1.wd.base 0 (k,0) rfl];rfl
   ·rw [hr1.wd.base 6 (fb,0) rfl];rfl
  refine xrun' (aAd aAW) aCT (aBt rfl rfl) (aA7 (aBt rfl rfl)) (rl_2 p0 q0 p1 q1 p2 q2 p3 q3 hs uns mt lr rr pl c cd lp rp cv nv gv)
   (fun r s=>(r=.val (.one (.bool false))/\s.dirty=[]/\c<1)\/(r=.val (.one (.bool true))/\¬c<1/\s=wrS hs uns pl lp rp cv nv gv (hvL (rdLL (symA cd) (symB cd) (symC cd) (symD cd) p0 q0 p1 q1 p2 q2 p3 q3)) 19 (IntKind.i64.wrap (lr+1)) rr mt (IntKind.i64.wrap (c-1)) 39))
   (fun _ _=>False) ⟨fun e=>absurd (of_decide_eq_true e) j,fun _=>⟨fun e2=>Or.inl ⟨rfl,rfl,of_decide_eq_true e2⟩,fun e2=>Or.inr ⟨rfl,of_decide_eq_false e2,rfl⟩⟩⟩ ?_ (fun _ _ h=>h.elim) kcs2 _ _ _ (hsr2 _ _ _) g
  rintro r s U v w3 (⟨rfl,t,I⟩ | ⟨rfl,I,rfl⟩) n _ i
  ·rw [n false (Or.inl rfl)];exact q I w3 (aAN i t)
  ·rw [n true (Or.inl rfl)];obtain ⟨N,O⟩:=m (by omega);have l:Chg w2 w3 [k,fb]:=aHK i rfl;have:=D.out i (zs':=hvL (rdLL (symA cd) (symB cd) (symC cd) (symD cd) p0 q0 p1 q1 p2 q2 p3 q3)) (hs':=hs) (uns':=uns) (mt':=mt) (lr':=IntKind.i64.wrap (lr+1)) (rr':=rr) (pl':=pl) (c':=IntKind.i64.wrap (c-1)) (lp':=lp) (rp':=rp) (gv':=gv) (cv':=cv) (nv':=nv) rfl rfl rfl aDM N;rw [aGV (by omega) p,aER L M] at this;exact O w3 l this
end
end Ab
open Go.RowKit
namespace Ab
theorem aT2 {w:World}{ψ:Nat->Option (Nat×Nat)}{cb:Nat}{a b c d mt:Int}(t:ψ 4=some (cb,0))(u:∀ z∈[a,b,c,d],Bits 2 z)(g:∀ W,On Z.bt w W->Calls Tryz.prog 216 #[ptrB cb,.int .i64 mt] W fun e w'=>∃ xs:List Value,e=.returned (.agg xs.toArray)/\Hold true w' [a,b,c,d] xs/\Below W.heap.size W w'):SpecOk Z w ψ (spC a b c d mt):=by
 intro f v ν x y A B r p s h;unfold spC at h
 cases k:f==216 with
 | false=>rw [k] at h;cases h
 | true=>
  rw [k] at h
  have:f=216:=by simpa using k
  subst this;refine ⟨(aAj Tryz.func216 rfl rfl).en,fun hp μ hμ φ w1 xs hφ _ hon hbx hxs=>?_⟩;simp only [cond_true] at h;split at h
  ·rename_i n;cases h
   match xs,hxs with
   | [x1,x2],⟨h1,i,_⟩=>
   have m:n=mt:=hp (n=mt) (by simp);have i:x2=.int .i64 n:=i;rw [aBp (hφ 4 _ t) h1,i,m];refine (g w1 hon).mono ?_;rintro e w' ⟨l,rfl,o,q⟩;refine ⟨_,rfl,q,l,rfl,?_⟩
   refine aBe [a,b,c,d] l ν.length μ o u fun j z hz=>?_
   refine hμ _ _ ?_;rw [List.getElem?_append_right (by omega),show ν.length+j-ν.length=j by omega]
   match j,hz with
   | 0,hz=>cases hz;rfl
   | 1,hz=>cases hz;rfl
   | 2,hz=>cases hz;rfl
   | 3,hz=>cases hz;rfl
   | j+4,hz=>simp at hz
  ·cases h
section
variable {w w':World} {k fb:Nat} {zs:List Int} {p0 q0 p1 q1 p2 q2 p3 q3:Int} {hs:Bool} {uns mt lr rr pl c:Int} {lp rp gv cv nv:Value} {R:Ending->World->Prop}
theorem Pos2.repX (h:Pos2 w k fb zs hs uns mt lr rr pl c lp rp gv cv nv){exφ:Nat->Option (Nat×Nat)}{ex:List (Nat×Box)}{rpC cvC nvC:AC}(hr:relC Z (phW k fb exφ) (zs.map fun z=>(z,10)) w rpC rp)(hc:relC Z (phW k fb exφ) (zs.map fun z=>(z,10)) w cvC cv)(hm:relC Z (phW k fb exφ) (zs.map fun z=>(z,10)) w nvC nv)
  (hex:∀ b B,look ex b=some B->B.own=false/\B.tip=false/\B.ro=true/\∃ k' o,phW k fb exφ b=some (k',o)/\k'≠k/\k'≠fb/\Seg Z (phW k fb exφ) (zs.map fun z=>(z,10)) w k' o B.ty B.cs) (hlt:∀ b k' o,exφ b=some (k',o)->k'<w.heap.size) (tm:List AT):RepW Z w (phW k fb exφ) (phW k fb exφ) (sW zs hs uns mt lr rr pl c (.lit lp) rpC cvC nvC (.lit gv) ex tm) w:=
 aPL (lpC:=.lit lp) (gvC:=.lit gv) h.nd h.h8 h.bits h.fu ⟨rfl,h.o1⟩ hr ⟨rfl,h.o3⟩ hc hm hex hlt tm
theorem aJC {exφ:Nat->Option (Nat×Nat)}{kb:List Nat}(a:kb.contains 0=true)(c:kb.contains 6=true)(d:∀ b x,exφ b=some x->kb.contains b=true):∀ b x,phW k fb exφ b=some x->kb.contains b=true:=by
 intro b x h;unfold phW at h;split at h
 ·subst_vars;exact a
 ·split at h
  ·subst_vars;exact c
  ·split at h
   ·exact d b x h
   ·cases h
def ph1 (i k:Nat):Nat->Option (Nat×Nat):=fun b=>if b=i then some (k,0) else none
def ph2 (i k j m:Nat):Nat->Option (Nat×Nat):=fun b=>if b=i then some (k,0) else if b=j then some (m,0) else none
theorem Pos2.aRN (h:Pos2 w k fb zs hs uns mt lr rr pl c lp rp gv cv nv){b:Nat}{cs:List Value}{ty:TypeId}(d:w.heap[b]?=some (.cells cs.toArray ty (0,0)))(e:ty≠205)(f:ty≠195):b≠k/\b≠fb:=by
 constructor
 ·rintro rfl;obtain ⟨g,a,_⟩:=h.nd.ex;rw [d] at a;exact e (Obj.cells.inj (Option.some.inj a)).2.1
 ·rintro rfl;have a:=h.fu;rw [d] at a;exact f (Obj.cells.inj (Option.some.inj a)).2.1
theorem aDP (h:Pos2 w k fb [p0,q0,p1,q1,p2,q2,p3,q3] hs uns mt lr rr pl c lp rp gv cv nv){cb:Nat}(n:cv=ptrB cb)(p:∃ cs:List Value,w.heap[cb]?=some (.cells cs.toArray 224 (0,0)))(D:c<=3000)(E:0<=mt)(H:mt<=1000000)
  {g mb i md:Int} (hb:∀ z∈[g,mb,i,md],Bits 2 z) (q:∀ W,On Z.bt w W->Calls Tryz.prog 216 #[ptrB cb,.int .i64 mt] W fun e w'=>∃ xs:List Value,e=.returned (.agg xs.toArray)/\Hold true w' [g,mb,i,md] xs/\Below W.heap.size W w')
  (I:c<1->∀ w1,Chg w w1 []->R (.returned (.bool false)) w1)
  (j:1<=c->∀ z∈hvL (rdRL g mb i md p0 q0 p1 q1 p2 q2 p3 q3),Bits 10 z)
  (t:1<=c->∀ w1,Chg w w1 [k,fb]->Pos2 w1 k fb (hvL (rdRL g mb i md p0 q0 p1 q1 p2 q2 p3 q3)) hs uns (mt+1) lr rr pl (c-1) lp rp gv cv nv->R (.returned (.bool true)) w1):
  Calls Tryz.prog 207 #[ptrB k,ptrB fb] w R:=by
 obtain ⟨cs,f⟩:=p;obtain ⟨S,T⟩:=h.aRN f (by decide) (by decide);have F:=aAj Tryz.func207 rfl rfl
 have l:=h.repX (exφ:=ph1 4 cb) (ex:=[(4,ext [] 224)]) (rpC:=.lit rp) (cvC:=.ptr 4 0) (nvC:=.lit nv) ⟨rfl,h.o2⟩ ⟨cb,0,rfl,n⟩ ⟨rfl,h.o5⟩ (by
  intro b B u;have:=aAy u;simp at this;obtain ⟨rfl,rfl⟩:=this
  exact ⟨rfl,rfl,rfl,cb,0,rfl,S,T,[],[],cs,f,rfl,trivial⟩) (by
  intro b k' o d;unfold ph1 at d;split at d
  ·cases d;exact aAf f
  ·cases d) (argT 33)
 have m:∀ b x,phW k fb (ph1 4 cb) b=some x->[0,6,4].contains b=true:=aJC rfl rfl fun b x e=>by
  unfold ph1 at e;split at e
  ·subst_vars;rfl
  ·cases e
 refine aAP F (φ:=phW k fb (ph1 4 cb)) (vs:=[.one (.ptr 0 0),.one (.ptr 6 0)]) (args:=[ptrB k,ptrB fb]) (by kernel_rfl) ⟨⟨k,0,rfl,rfl⟩,⟨fb,0,rfl,rfl⟩,trivial⟩ l ?_
 refine xrun' (aFh (aT2 (cb:=cb) rfl hb q) (aAd aAW)) aCT m (aA7 m) (rc_1 p0 q0 p1 q1 p2 q2 p3 q3 hs uns mt lr rr pl c lp rp nv gv g mb i md)
  (fun r s=>(r=.val (.one (.bool false))/\s.dirty=[]/\c<1)\/(r=.val (.one (.bool true))/\¬c<1/\s.dirty=[0,6,0]/\look s.boxes 0=some (ndW hs uns (IntKind.i64.wrap (mt+1)) lr rr pl (.lit lp) (.lit rp) (.ptr 4 0) (.lit nv) (.lit gv))/\look s.boxes 6=some (fuW (IntKind.i64.wrap (c-1)))/\s.nums=(hvL (rdRL g mb i md p0 q0 p1 q1 p2 q2 p3 q3)).map fun z=>(z,19)))
  (fun _ _=>False) ⟨fun e=>Or.inl ⟨rfl,rfl,of_decide_eq_true e⟩,fun e=>⟨fun x hx=>by simp at hx;exact hx,Or.inr ⟨rfl,of_decide_eq_false e,rfl,rfl,rfl,rfl⟩⟩⟩ ?_ (fun _ _ h=>h.elim)
 rintro r s φ3 v N (⟨rfl,C,O⟩ | ⟨rfl,O,C,l0,l6,ln⟩) P _ a
 ·rw [P false (Or.inl rfl)];exact I O N (aAN a C)
 ·rw [P true (Or.inl rfl)];have u:=j (by omega);obtain ⟨⟨U,X,Y,A,aa,J,⟨e1,g2⟩,⟨e2,g3⟩,⟨e3,g4⟩,⟨k4,o4,L,g5⟩,⟨e5,g6⟩⟩,M⟩:=aM2 (ns:=[]) a l0 l6 (h.nd.shape h.h8) (aD8 h.fu) (zs:=hvL (rdRL g mb i md p0 q0 p1 q1 p2 q2 p3 q3)) rfl (by rw [ln];exact aDM);rw [a.base 4 (cb,0) rfl] at L;cases L
  have y:A=cv:=by rw [g5,n];rfl
  rw [e1,e2,e3,e5,y,aER E H] at J;rw [aGV (by omega) D] at M;exact t (by omega) N (aHK a (by rw [C];rfl)) ⟨J,M,u,rfl,h.o1,h.o2,h.o3,h.o4,h.o5⟩
end
end Ab
open Go.RowKit
namespace Ab
section
variable (p0 q0 p1 q1 p2 q2 p3 q3:Int) (hs:Bool) (uns mt lr rr pl c cd:Int) (lp rp cst nst gv gv2:Value)
def rrS (tm:List AT):AS:=sW [p0,q0,p1,q1,p2,q2,p3,q3] hs uns mt lr rr pl c (.lit lp) (.ptr 2 0) (.lit cst) (.ptr 5 0) (.lit gv) [(2,ext [] 205),(5,ext [] 273)] tm
theorem rr_1:(run Z (tabSp tN) bW (drawA Z (tabSp tN)) (atOp (opCalls 125)) 400 [.code (bodyOf Tryz.f210),.top Tryz.f210] (goS p0 q0 p1 q1 p2 q2 p3 q3 hs uns mt lr rr pl c lp rp cst nilP gv (argT 66))).bind (outX (nrm [0,6] [] 7 []) (nrm [0,6] [0,1,36,37] 7 []))
  = some (.stp (bef (opCalls 125) Tryz.f210) (goS p0 q0 p1 q1 p2 q2 p3 q3 hs uns mt lr rr pl c lp rp cst nilP gv (slot [(0,P0),(1,P6),(36,.val (.agg [.lit rp,.sint .i64 rr])),(37,P6)] 0 68))):=by kernel_rfl
theorem rr_2:(run Z (tabSp tN) bW (drawA Z (tabSp tN)) (atOp (opCalls 125)) 400 [.code (bodyOf Tryz.f210),.top Tryz.f210] (rrS p0 q0 p1 q1 p2 q2 p3 q3 hs uns mt lr rr pl c lp cst gv (argT 66))).bind (outX (nrm [0,6,2,5] [] 7 []) (nrm [0,6,2,5] [0,1,36,37] 7 []))
  = some (.stp (bef (opCalls 125) Tryz.f210) (rrS p0 q0 p1 q1 p2 q2 p3 q3 hs uns mt lr rr pl c lp cst gv (slot [(0,P0),(1,P6),(36,.val (.agg [.ptr 2 0,.sint .i64 rr])),(37,P6)] 0 68))):=by kernel_rfl
theorem rr_3:(run Z (tabSp tN) bW (drawA Z (tabSp tN)) (atOp (opCalls 224)) 400 (aft (opCalls 125) Tryz.f210) (goS p0 q0 p1 q1 p2 q2 p3 q3 hs uns mt lr rr pl c lp rp cst nst gv (slot [(0,P0),(1,P6),(38,sintT cd)] 0 68))).bind (outX (nrm [0,6] [] 7 []) (nrm [0,6] [66] 7 []))
  = some (.br (decide (cd=0)) (.ret (.val (.one (.bool false))) (goS p0 q0 p1 q1 p2 q2 p3 q3 hs uns mt lr rr pl c lp rp cst nst gv (slot [] 0 68))) (.br (decide (c<1)) (.ret (.val (.one (.bool false))) (goS p0 q0 p1 q1 p2 q2 p3 q3 hs uns mt lr rr pl c lp rp cst nst gv (slot [] 0 68))) (.stp (bef (opCalls 224) Tryz.f210) ⟨slot [(66,P0)] 0 68,[(0,ndW hs uns mt lr (IntKind.i64.wrap (rr+1)) pl (.lit lp) (.lit rp) (.lit cst) (.lit nst) (.lit gv)),(6,fuW (IntKind.i64.wrap (c-1)))],7,(hvL (rdRL (symA cd) (symB cd) (symC cd) (symD cd) p0 q0 p1 q1 p2 q2 p3 q3)).map fun z=>(z,19),[0,6,0]⟩))):=by kernel_rfl
theorem rr_4:(run Z (tabSp tN) bW (drawA Z (tabSp tN)) (fun _=>false) 400 (aft (opCalls 224) Tryz.f210) ⟨slot [] 0 68,[],0,[],[]⟩).bind (outX (nrm [] [] 0 []) (nrm [] [] 0 []))=some (.ret (.val (.one (.bool true))) ⟨slot [] 0 68,[],0,[],[]⟩):=by kernel_rfl
theorem rr_5:(run Z (tabSp tN) bW (drawA Z (tabSp tN)) (fun _=>false) 400 (aft (opCalls 125) Tryz.f210) ⟨slot [(38,.val (.one (.int .i64 0)))] 0 68,[],0,[],[]⟩).bind (outX (nrm [] [] 0 []) (nrm [] [] 0 []))=some (.ret (.val (.one (.bool false))) ⟨slot [] 0 68,[],0,[],[]⟩):=by kernel_rfl
end
section
variable {w:World} {k fb:Nat} {p0 q0 p1 q1 p2 q2 p3 q3:Int} {hs:Bool} {uns mt lr rr pl c:Int} {lp rp gv cv nv:Value} {R:Ending->World->Prop}
abbrev RrA (w2:World)(k fb:Nat)(cd:Int)(R:Ending->World->Prop):Prop:=AftRd w2 k fb cd R fun p0 q0 p1 q1 p2 q2 p3 q3 hs uns mt lr rr pl c lp rp gv cv nv=>(∀ z∈hvL (rdRL (symA cd) (symB cd) (symC cd) (symD cd) p0 q0 p1 q1 p2 q2 p3 q3),Bits 10 z)/\∀ w3,Chg w2 w3 [k,fb]->Pos2 w3 k fb (hvL (rdRL (symA cd) (symB cd) (symC cd) (symD cd) p0 q0 p1 q1 p2 q2 p3 q3)) hs uns mt lr (rr+1) pl (c-1) lp rp gv cv nv->Calls Tryz.prog 224 #[ptrB k] w3 fun e w4=>∃ v,e=.returned v/\∀ w5,Chg w4 w5 []->R (.returned (.bool true)) w5
theorem aID {w0:World}{ψ φ1:Nat->Option (Nat×Nat)}{s1:AS}{a1:Act}{w1 w2:World}{cd:Int}(t:Rep Z w0 ψ φ1 s1 a1 w1)(ah:putT (keepT [] [] 0 s1.tmps) (some 38) (.val (.one (.int .i64 0)))=slot [(38,.val (.one (.int .i64 0)))] 0 68)(ai:putT (keepT [0,6] [0,1] 0 s1.tmps) (some 38) (sintT cd)=slot [(0,P0),(1,P6),(38,sintT cd)] 0 68)(aj:φ1 0=some (k,0))(ak:φ1 6=some (fb,0))(hA:RrA w2 k fb cd R):
  ∀ kcs2:List (K Act),(∀ φ' ν' w'',SR Z φ' ν' w'' (aft (opCalls 125) Tryz.f210) kcs2)->sem Z.P R kcs2 .normal (a1.put (some 38) (.int .i64 cd)) w2:=by
 intro kcs2 d
 by_cases j:cd=0
 ·subst j;have g:Rep Z w2 (fun _=>none) (fun _=>none) ⟨slot [(38,.val (.one (.int .i64 0)))] 0 68,[],0,[],[]⟩ (a1.put (some 38) (.int .i64 0)) w2:=aAM (kb:=[]) (kt:=[]) (dst:=some 38) (r:=.val (.one (.int .i64 0))) t (aEL _) ah.symm (fun b q=>by simp at q) rfl;refine xrun' (aAd aAW) aCT (fun b x e=>by cases e) (aA7 (fun b x e=>by cases e)) rr_5 (fun r s=>r=.val (.one (.bool false))/\s.dirty=[]) (fun _ _=>False) ⟨rfl,rfl⟩ ?_ (fun _ _ h=>h.elim) kcs2 _ _ _ (d _ _ _) g;rintro r s φ5 v w5 ⟨rfl,n⟩ o _ i;rw [o false (Or.inl rfl)];exact hA.none rfl w5 (aAN i n)
 ·obtain ⟨u,A,B,C,D,E,F,H,I,a,J,L,M,N,c,O,S,T,U,W,h2,aa,_,_,l1,l2,ab,m⟩:=hA.some j
  have g:Rep Z w2 (phW k fb fun _=>none) (phW k fb fun _=>none) (goS u A B C D E F H I a J L M N c O S U W T (slot [(0,P0),(1,P6),(38,sintT cd)] 0 68)) (a1.put (some 38) (.int .i64 cd)) w2:=by
   refine aAM (kb:=[0,6]) (kt:=[0,1]) (dst:=some 38) (r:=sintT cd) t (h2.rep _) ai.symm ?_ rfl;intro b q
   have X:b=0\/b=6:=by simpa using q
   rcases X with rfl | rfl
   ·rw [aj];rfl
   ·rw [ak];rfl
  refine xrun' (aAd aAW) aCT (aBt rfl rfl) (aA7 (aBt rfl rfl)) (rr_3 u A B C D E F H I a J L M N c cd O S U W T)
   (fun r s=>r=.val (.one (.bool false))/\s.dirty=[]/\c<1)
   (fun ks s=>¬c<1/\ks=bef (opCalls 224) Tryz.f210/\s=⟨slot [(66,P0)] 0 68,[(0,ndW I a J L (IntKind.i64.wrap (M+1)) N (.lit O) (.lit S) (.lit U) (.lit W) (.lit T)),(6,fuW (IntKind.i64.wrap (c-1)))],7,(hvL (rdRL (symA cd) (symB cd) (symC cd) (symD cd) u A B C D E F H)).map fun z=>(z,19),[0,6,0]⟩)
   ⟨fun e=>absurd (of_decide_eq_true e) j,fun _=>⟨fun e2=>⟨rfl,rfl,of_decide_eq_true e2⟩,fun e2=>⟨of_decide_eq_false e2,rfl,rfl⟩⟩⟩ ?_ ?_ kcs2 _ _ _ (d _ _ _) g
  ·rintro r s φ3 v p ⟨rfl,n,h1⟩ o _ ae;rw [o false (Or.inl rfl)];exact ab h1 p (aAN ae n)
  ·rintro ks s ⟨h1,rfl,rfl⟩;refine ⟨by kernel_rfl,fun kcs3 φ3 a3 p hsr3 hr3=>?_⟩;obtain ⟨hB,hR⟩:=m (by omega);have l:Chg w2 p [k,fb]:=aHK hr3.wd rfl;have hp:=h2.out hr3.wd (zs':=hvL (rdRL (symA cd) (symB cd) (symC cd) (symD cd) u A B C D E F H)) (hs':=I) (uns':=a) (mt':=J) (lr':=L) (rr':=IntKind.i64.wrap (M+1)) (pl':=N) (c':=IntKind.i64.wrap (c-1)) (lp':=O) (rp':=S) (gv':=T) (cv':=U) (nv':=W) rfl rfl rfl aDM hB;rw [aGV (by omega) aa,aER l1 l2] at hp;refine aAx (f:=224) (vs:=[.one (.ptr 0 0)]) (dst:=some 67) (ks2:=aft (opCalls 224) Tryz.f210) (by kernel_rfl) (aAj Tryz.func224 rfl rfl).en (by kernel_rfl) (hsr3 φ3 [] p) hr3 ?_;intro ys af
   match ys,af with
   | [y],⟨hy,_⟩=>
   rw [aBp (hr3.wd.base 0 (k,0) rfl) hy];refine (hR p l hp).mono ?_;rintro e w4 ⟨v,rfl,hF⟩;refine ⟨_,rfl,fun kcs4 hf4 hsr4=>?_⟩;have Y:Rep Z w4 (fun _=>none) (fun _=>none) ⟨slot [] 0 68,[],0,[],[]⟩ (a3.put (some 67) v) w4:=aAM (kb:=[]) (kt:=[]) (dst:=some 67) (r:=.top) hr3 (aEL _) (by kernel_rfl) (fun b q=>by simp at q) trivial;refine xrun' (aAd aAW) aCT (fun b x e=>by cases e) (aA7 (fun b x e=>by cases e)) rr_4 (fun r s=>r=.val (.one (.bool true))/\s.dirty=[]) (fun _ _=>False) ⟨rfl,rfl⟩ ?_ (fun _ _ h=>h.elim) kcs4 _ _ _ (hsr4 _ _ _) Y;rintro r s φ5 v w5 ⟨rfl,n⟩ o _ i;rw [o true (Or.inl rfl)];exact hF w5 (aAN i n)
theorem aGF (h:Pos2 w k fb [p0,q0,p1,q1,p2,q2,p3,q3] hs uns mt lr rr pl c lp rp gv cv nv)(g:nv=nilP)
  (i:∀ w1,Chg w w1 []->Calls Tryz.prog 125 #[.agg #[rp,.int .i64 rr],ptrB fb] w1 fun e w2=>∃ cd,e=.returned (.int .i64 cd)/\RrA w2 k fb cd R):
  Calls Tryz.prog 210 #[ptrB k,ptrB fb] w R:=by
 subst g;have F:=aAj Tryz.func210 rfl rfl;refine aAP F (φ:=phW k fb fun _=>none) (vs:=[.one (.ptr 0 0),.one (.ptr 6 0)]) (args:=[ptrB k,ptrB fb]) (s:=goS p0 q0 p1 q1 p2 q2 p3 q3 hs uns mt lr rr pl c lp rp cv nilP gv (argT 66)) (by kernel_rfl) ⟨⟨k,0,rfl,rfl⟩,⟨fb,0,rfl,rfl⟩,trivial⟩ (h.rep _) ?_;refine xrun' (aAd aAW) aCT (aBt rfl rfl) (aA7 (aBt rfl rfl)) (rr_1 p0 q0 p1 q1 p2 q2 p3 q3 hs uns mt lr rr pl c lp rp cv gv) (fun _ _=>False) (fun j s=>j=bef (opCalls 125) Tryz.f210/\s=goS p0 q0 p1 q1 p2 q2 p3 q3 hs uns mt lr rr pl c lp rp cv nilP gv (slot [(0,P0),(1,P6),(36,.val (.agg [.lit rp,.sint .i64 rr])),(37,P6)] 0 68)) ⟨rfl,rfl⟩ (fun _ _ _ _ _ h=>h.elim) ?_;rintro j s ⟨rfl,rfl⟩;refine ⟨by kernel_rfl,fun kcs φ1 a1 w1 hsr1 hr1=>?_⟩;have l:=aAN hr1.wd rfl;refine aAx (f:=125) (vs:=[.agg [.lit rp,.sint .i64 rr],.one (.ptr 6 0)]) (dst:=some 38) (ks2:=aft (opCalls 125) Tryz.f210) (by kernel_rfl) (aAj Tryz.func125 rfl rfl).en (by kernel_rfl) (hsr1 φ1 [] w1) hr1 ?_;intro n d
 match n,d with
 | [y,y2],⟨⟨zs,hy,hz⟩,hy2,_⟩=>
 match zs,hz with
 | [z1,z2],⟨a,b,_⟩=>
 have a:z1=rp:=a.1;have b:z2=.int .i64 rr:=b;rw [aBp (hr1.wd.base 6 (fb,0) rfl) hy2,hy,a,b];refine (i w1 l).mono ?_;rintro e w2 ⟨cd,rfl,m⟩;exact ⟨_,rfl,fun kcs2 hf2 hsr2=>aID hr1 (by kernel_rfl) (by kernel_rfl) (hr1.wd.base 0 (k,0) rfl) (hr1.wd.base 6 (fb,0) rfl) m kcs2 hsr2⟩
theorem aTT {i a j b:Nat}{kb:List Nat}(c:kb.contains i=true)(d:kb.contains j=true):∀ x y,ph2 i a j b x=some y->kb.contains x=true:=by
 intro x y e;unfold ph2 at e;split at e
 ·subst_vars;exact c
 ·split at e
  ·subst_vars;exact d
  ·cases e
theorem aGG (h:Pos2 w k fb [p0,q0,p1,q1,p2,q2,p3,q3] hs uns mt lr rr pl c lp rp gv cv nv){nb r:Nat}(u:nv=ptrB nb)(n:rp=ptrB r)(v:∃ cs:List Value,w.heap[nb]?=some (.cells cs.toArray 273 (0,0)))(z:∃ cs:List Value,w.heap[r]?=some (.cells cs.toArray 205 (0,0)))(A:r≠k)
  (C:∀ w1,Chg w w1 []->Calls Tryz.prog 125 #[.agg #[rp,.int .i64 rr],ptrB fb] w1 fun e w2=>∃ cd,e=.returned (.int .i64 cd)/\RrA w2 k fb cd R):
  Calls Tryz.prog 210 #[ptrB k,ptrB fb] w R:=by
 obtain ⟨cs,i⟩:=v;obtain ⟨H,j⟩:=z;obtain ⟨I,J⟩:=h.aRN i (by decide) (by decide)
 have q:r≠fb:=by
  rintro rfl;have p:=h.fu;rw [j] at p;exact absurd (Obj.cells.inj (Option.some.inj p)).2.1 (by decide)
 have F:=aAj Tryz.func210 rfl rfl
 have l:=h.repX (exφ:=ph2 2 r 5 nb) (ex:=[(2,ext [] 205),(5,ext [] 273)]) (rpC:=.ptr 2 0) (cvC:=.lit cv) (nvC:=.ptr 5 0) ⟨r,0,rfl,n⟩ ⟨rfl,h.o4⟩ ⟨nb,0,rfl,u⟩ (by
  intro b B M;have:=aAy M;simp at this
  rcases this with ⟨rfl,rfl⟩ | ⟨rfl,rfl⟩
  ·exact ⟨rfl,rfl,rfl,r,0,rfl,A,q,[],[],H,j,rfl,trivial⟩
  ·exact ⟨rfl,rfl,rfl,nb,0,rfl,I,J,[],[],cs,i,rfl,trivial⟩) (by
  intro b O o a;unfold ph2 at a;split at a
  ·cases a;exact aAf j
  ·split at a
   ·cases a;exact aAf i
   ·cases a) (argT 66)
 have m:∀ b x,phW k fb (ph2 2 r 5 nb) b=some x->[0,6,2,5].contains b=true:=aJC rfl rfl (aTT rfl rfl);refine aAP F (φ:=phW k fb (ph2 2 r 5 nb)) (vs:=[.one (.ptr 0 0),.one (.ptr 6 0)]) (args:=[ptrB k,ptrB fb]) (by kernel_rfl) ⟨⟨k,0,rfl,rfl⟩,⟨fb,0,rfl,rfl⟩,trivial⟩ l ?_;refine xrun' (aAd aAW) aCT m (aA7 m) (rr_2 p0 q0 p1 q1 p2 q2 p3 q3 hs uns mt lr rr pl c lp cv gv) (fun _ _=>False) (fun D s=>D=bef (opCalls 125) Tryz.f210/\s=rrS p0 q0 p1 q1 p2 q2 p3 q3 hs uns mt lr rr pl c lp cv gv (slot [(0,P0),(1,P6),(36,.val (.agg [.ptr 2 0,.sint .i64 rr])),(37,P6)] 0 68)) ⟨rfl,rfl⟩ (fun _ _ _ _ _ h=>h.elim) ?_;rintro D s ⟨rfl,rfl⟩;refine ⟨by kernel_rfl,fun kcs φ1 a1 w1 hsr1 hr1=>?_⟩;have E:=aAN hr1.wd rfl;refine aAx (f:=125) (vs:=[.agg [.ptr 2 0,.sint .i64 rr],.one (.ptr 6 0)]) (dst:=some 38) (ks2:=aft (opCalls 125) Tryz.f210) (by kernel_rfl) (aAj Tryz.func125 rfl rfl).en (by kernel_rfl) (hsr1 φ1 [] w1) hr1 ?_;intro N t
 match N,t with
 | [y,y2],⟨⟨zs,p,hz⟩,hy2,_⟩=>
 match zs,hz with
 | [z1,z2],⟨d,g,_⟩=>
 have d:z1=rp:=(aBp (ν:=[]) (w:=w1) (hr1.wd.base 2 (r,0) rfl) d).trans n.symm;have g:z2=.int .i64 rr:=g;rw [aBp (hr1.wd.base 6 (fb,0) rfl) hy2,p,d,g];refine (C w1 E).mono ?_;rintro e w2 ⟨cd,rfl,L⟩;exact ⟨_,rfl,fun kcs2 hf2 hsr2=>aID hr1 (by kernel_rfl) (by kernel_rfl) (hr1.wd.base 0 (k,0) rfl) (hr1.wd.base 6 (fb,0) rfl) L kcs2 hsr2⟩
end
end Ab
open Go.RowKit
namespace Ab
open Rf (Nd Inv NInv)
structure Kept (w w':World) (own own':Nat->Option Own) (fb:Nat):Prop where
 on:On Z.bt w w'
 low:∀ k,k<w.heap.size->own k=none->k≠fb->w'.heap[k]?=w.heap[k]?
 own:∀ k,k<w.heap.size->own k=none->own' k=none
theorem Kept.trans {a b c:World}{d e f:Nat->Option Own}{fb:Nat}(h:Kept a b d e fb)(g:Kept b c e f fb):Kept a c d f fb:=by
 refine ⟨h.on.trans g.on,fun k hk ho hf=>?_,fun k hk ho=>g.own k (Nat.lt_of_lt_of_le hk h.on.size) (h.own k hk ho)⟩;rw [g.low k (Nat.lt_of_lt_of_le hk h.on.size) (h.own k hk ho) hf,h.low k hk ho hf]
theorem Kept.aHz {w w':World}{own own':Nat->Option Own}{fb:Nat}{D:List Nat}(h:Chg w w' D)(hD:∀ k∈D,k<w.heap.size->own k=none->k=fb)(ho:∀ k,k<w.heap.size->own k=none->own' k=none):Kept w w' own own' fb:=
 ⟨h.on,fun k hk hn hf=>h.low k hk fun hm=>hf (hD k hm hk hn),ho⟩
theorem Kept.still {w w':World}{own:Nat->Option Own}{fb:Nat}(h:Chg w w' []):Kept w w' own own fb:=Kept.aHz h (fun k hk=>by cases hk) fun _ _ e=>e
section
variable {w w' w'':World} {b0 fb:Nat} {own own':Nat->Option Own} {at1 at2:Nat->Nat} {D:List Nat} {i:Nat} {n n':Nd} {s:Rf.St} {rho:Nat->Nat} {c:Nat}
theorem aMa:IsD w own i []:=fun k hk=>by cases hk
theorem Net.still (h:Net w b0 own at1 fb s)(f:Inv s.nodes rho c)(a:Chg w w' []):Net w' b0 own at1 fb s:=by
 refine h.step (i:=s.nodes.length) f (fun _ _ _=>rfl) (Pg.Go.refl _) a aMa (fun _ _ _ e _=>e) (fun _ _=>rfl) (a.at h.fuel (by simp)) ?_;intro j m b d;have:=(List.getElem?_eq_some_iff.1 b).1;omega
def Res (w:World)(b0:Nat)(own:Nat->Option Own)(at1:Nat->Nat)(fb len:Nat)(ok:Bool)(s':Rf.St)(w':World):Prop:=∃ own',Kept w w' own own' fb/\(ok=true->∃ at2,Net w' b0 own' at2 fb s'/\∀ a,a<len->at2 a=at1 a)
theorem Res.no {len:Nat}{s':Rf.St}(h:Kept w w' own own' fb):Res w b0 own at1 fb len false s' w':=⟨own',h,fun e=>by cases e⟩
theorem Res.still {b:Nat}{g:Bool}{s':Rf.St}(h:Res w b0 own at1 fb b g s' w')(f:g=true->∃ rho c,Inv s'.nodes rho c)(i:Chg w' w'' []):Res w b0 own at1 fb b g s' w'':=by
 obtain ⟨a,j,k⟩:=h;refine ⟨a,j.trans (Kept.still i),fun e=>?_⟩;obtain ⟨d,l,m⟩:=k e;obtain ⟨rho,c,f⟩:=f e;exact ⟨d,l.still f i,m⟩
theorem Res.after {d b:Nat}{k:Bool}{s':Rf.St}{c:Nat->Option Own}{g:Nat->Nat}(p:Kept w w' own c fb)(j:∀ a,a<d->g a=at1 a)(q:d<=b)(h:Res w' b0 c g fb b k s' w''):Res w b0 own at1 fb d k s' w'':=by
 obtain ⟨f,l,m⟩:=h;refine ⟨f,p.trans l,fun e=>?_⟩;obtain ⟨i,n,o⟩:=m e;exact ⟨i,n,fun a ha=>(o a (by omega)).trans (j a ha)⟩
def SymOk (f:Nat):Prop:=∀ (w:World) (b0 fb:Nat) (own:Nat->Option Own) (at1:Nat->Nat) (s:Rf.St) (rho:Nat->Nat) (c i j:Nat) (n:Nd) (x:Rf.St×Option Int),Net w b0 own at1 fb s->b0<=w.heap.size->s.clock=(c:Int)->c<=3000->Inv s.nodes rho c->s.nodes[i]?=some n->j<=n.out.length->c+rho i+2<=f->Rf.sym f s i j=some x->
 Calls Tryz.prog 161 #[ptrB (at1 i),.int .i64 j,ptrB fb] w fun e w'=>e=.returned (.int .i64 (codeO x.2))/\Res w b0 own at1 fb s.nodes.length x.2.isSome x.1 w'
theorem Net.pos2 (h:Net w b0 own at1 fb s){p0 q0 p1 q1 p2 q2 p3 q3 mt pl:Int}{gv cv nv:Value}{l:List Rf.V}{g:Option (Nat×Nat)}{d e:Option Nat}(hs:Seen w b0 own at1 s.nodes i n p0 q0 p1 q1 p2 q2 p3 q3 mt pl gv cv nv l g d e):Pos2 w (at1 i) fb [p0,q0,p1,q1,p2,q2,p3,q3] (!n.pos) (unsZ n) mt (lRd n) (rRd n) pl s.clock (ptrV at1 (lArg n)) (ptrV at1 (rArg n)) gv cv nv:=by
 obtain ⟨a,b,c⟩:=hs.blk.ones;exact ⟨hs.blk.nd,h.fuel,hs.bits,rfl,aEI _,aEI _,a,b,c⟩
theorem eight {zs:List Int}(h:zs.length=8):∃ a b c d e f g h,zs=[a,b,c,d,e,f,g,h]:=by
 match zs,h with
 | [a,b,c,d,e,f,g,h],_=>exact ⟨a,b,c,d,e,f,g,h,rfl⟩
theorem aFG {l:List Rf.V}{zs:List Int}(m:zs.length=8)(h:Pg.Cof l (colsZ zs)):Pg.Cof l (colsZ (hvL zs)):=by
 obtain ⟨a,b,c,d,f,g,i,j,rfl⟩:=eight m;obtain ⟨t,k,e⟩:=aL5 a b c d f g i j;exact Pg.Cof.over h k e
theorem aL6 {zs:List Int}(a:zs.length=8):(hvL zs).length=8:=by
 obtain ⟨b,c,d,e,f,g,h,i,rfl⟩:=eight a;rfl
theorem aOA (a b c d p0 q0 p1 q1 p2 q2 p3 q3:Int):Pg.readL [(p0,q0),(p1,q1),(p2,q2),(p3,q3)] ⟨a,b,c,d⟩=colsZ (rdLL a b c d p0 q0 p1 q1 p2 q2 p3 q3):=by
 unfold Pg.readL rdLL colsZ Pg.rd1 Pg.rd2 Pg.sc Pg.vadd;simp [Int.mul_comm]
theorem aGE (a b c d p0 q0 p1 q1 p2 q2 p3 q3:Int):Pg.readR [(p0,q0),(p1,q1),(p2,q2),(p3,q3)] ⟨a,b,c,d⟩=colsZ (rdRL a b c d p0 q0 p1 q1 p2 q2 p3 q3):=by
 unfold Pg.readR rdRL colsZ Pg.rd1 Pg.rd2 Pg.sc Pg.vadd;simp [Int.mul_comm]
theorem aQO (v p0 q0 p1 q1 p2 q2 p3 q3:Int):[(p0,q0),(p1,q1),(p2,q2),(p3,q3)].map (Rf.vag (Mt.sym v))=colsZ (givL (code v) p0 q0 p1 q1 p2 q2 p3 q3):=by
 obtain ⟨c,d,e,f⟩:=aDS v;unfold givL colsZ Rf.vag Mt.ag1 Mt.ag2;rw [c,d,e,f];simp
 have k:∀ a b x y:Int,a*x+-b*y=a*x-b*y:=fun a b x y=>by rw [Int.neg_mul];omega
 simp only [k,and_self]
theorem aF9 (v:Int):code v≠0:=by
 unfold code;split
 ·decide
 ·split
  ·decide
  ·split
   ·decide
   ·split
    ·decide
    ·split
     ·decide
     ·split<;>decide
theorem Net.upd (h:Net w b0 own at1 fb s)(y:Inv s.nodes rho c)(d:s.nodes[i]?=some n)(hs:SameN n n')(r:Pg.HC n')(j:Pg.Go s.nodes (s.nodes.set i n'))(z:Chg w w' D)(L:∀ k∈D,k=at1 i\/k=fb\/(own k=some (.gv i)/\∀ cs ty m,w.heap[k]?=some (.cells cs ty m)->ty=100)\/w.heap.size<=k)(a:∀ k o,k<w.heap.size->own k=some o->own' k=some o)
  {p0 q0 p1 q1 p2 q2 p3 q3 mt mt' pl cl:Int} {gv gv' cv nv:Value} {zs':List Int} (u:Blk w b0 own at1 i n p0 q0 p1 q1 p2 q2 p3 q3 mt pl gv cv nv) (q:n'.k=n.k/\mt'=mt\/n.t=[]/\n'.k=n.k+1/\mt'=mt+1)
  (v:Pos2 w' (at1 i) fb zs' (!n'.pos) (unsZ n') mt' (lRd n') (rRd n') pl cl (ptrV at1 (lArg n')) (ptrV at1 (rArg n')) gv' cv nv) (M:GivOk w' b0 own' i n'.out gv') {x:List Rf.V} (l:Rf.corners s.nodes n'=some x) (p:Pg.Cof x (colsZ zs')):Net w' b0 own' at1 fb ⟨s.nodes.set i n',cl⟩:=by
 have f:IsD w own i D:=by
  intro k q cs ty m b
  rcases L k q with rfl | rfl | ⟨e,e'⟩ | e
  ·obtain ⟨N,g,_⟩:=u.nd.ex;rw [b] at g;exact Or.inl ⟨(Obj.cells.inj (Option.some.inj g)).2.1,(h.nd i n d).own⟩
  ·have g:=h.fuel;rw [b] at g;exact Or.inr (Or.inr (Obj.cells.inj (Option.some.inj g)).2.1)
  ·exact Or.inr (Or.inl ⟨e' cs ty m b,e⟩)
  ·have:=aAf b;omega
 obtain ⟨A,B,C,E,F,H,I,J,rfl⟩:=eight v.h8;refine h.put y d j z f a v.fu ⟨⟨A,B,C,E,F,H,I,J,mt',pl,gv',cv,nv,u.upd a hs z f y d q v.nd M,x,j.corners l,p⟩,r,a _ _ u.nd.lt (h.nd i n d).own,(h.nd i n d).lo,by rw [hs.probe,hs.t,hs.nest];exact (h.nd i n d).prb⟩
end
end Ab
open Go.RowKit
namespace Ab
open Rf (Nd Inv NInv)
section
variable {w w' w'':World} {b0 fb:Nat} {own own':Nat->Option Own} {at1 at2:Nat->Nat} {D:List Nat} {i:Nat} {n n':Nd} {s:Rf.St} {rho:Nat->Nat} {c:Nat}
theorem aDs {ns a:List Nd}{m:Nd}(h:Rf.put ns i m=some a):a=ns.set i m/\i<ns.length:=by
 unfold Rf.put at h;split at h
 ·rename_i b;cases h;exact ⟨rfl,b.2⟩
 ·cases h
theorem GivOk.row {d:List Int}{gv:Value}(h:GivOk w b0 own i d gv):∃ g,RowOf w 100 (d.map fun c=>Value.int .i64 (code c)) gv g/\∀ b,g=some b->own b=some (.gv i)/\b0<=b:=by
 rcases h with ⟨f,j⟩ | ⟨g,k,a,f,j,l,m,n,o⟩
 ·exact ⟨none,Or.inl ⟨f,by rw [j];rfl,rfl⟩,fun b e=>by cases e⟩
 ·exact ⟨some g,Or.inr ⟨g,k,a,rfl,by rw [f];simp,j,by simpa using l,by simpa using m⟩,fun b e=>by cases e;exact ⟨n,o⟩⟩
theorem GivOk.aTQ {d:List Int}{gv:Value}{b:Nat}(h:RowOf w 100 (d.map fun c=>Value.int .i64 (code c)) gv (some b))(o:own b=some (.gv i))(p:b0<=b):GivOk w b0 own i d gv:=by
 rcases h with ⟨_,_,e⟩ | ⟨g,f,a,j,k,l,m,n⟩
 ·cases e
 ·cases j;exact Or.inr ⟨b,f,a,by rw [k];simp,l,by simpa using m,by simpa using n,o,p⟩
theorem aQQ {f:Nat}(h:Net w b0 own at1 fb s)(bd:b0<=w.heap.size)(ad:s.clock=(c:Int))(be:c<=3000)(O:Inv s.nodes rho c)(B:s.nodes[i]?=some n){y:Rf.St×Bool}(C:Rf.step1 f s i n=some y)(a3:y.2=true->∃ rho c,Inv y.1.nodes rho c)
  (hR:Rf.nextP s.nodes n=some none->∀ w1,Chg w w1 []->Calls Tryz.prog 197 #[ptrB (at1 i),ptrB fb] w1 fun e w'=>e=.returned (.bool y.2)/\Res w b0 own at1 fb s.nodes.length y.2 y.1 w'):
  Calls Tryz.prog 182 #[ptrB (at1 i),ptrB fb] w fun e w'=>e=.returned (.bool y.2)/\Res w b0 own at1 fb s.nodes.length y.2 y.1 w':=by
 have hN:=O.at' i n B;obtain ⟨p0,q0,p1,q1,p2,q2,p3,q3,mt,pl,gv,cv,nv,l,g,cc,nn,T⟩:=h.seen O B
 obtain ⟨o,D⟩:∃ o,Rf.nextP s.nodes n=some o:=by
  unfold Rf.nextP;split
  ·exact ⟨_,rfl⟩
  ·exact Rf.aAA O hN
 obtain ⟨gO,F,t⟩:=T.blk.giv.row;have P:=h.pos2 T;have a4:=hN.outu;have a8:=C;unfold Rf.step1 at C;rw [D,Option.bind_some] at C
 -- what is given
 have p:∀ v,o=some v->1<=c->∃ n',n'={n with out:=n.out++[v],told:=n.told.mul (Mt.sym v),had:=n.had++[n.told.mul (Mt.sym v)]}/\y=(⟨s.nodes.set i n',s.clock-1⟩,true)/\(∃ u c',Inv (s.nodes.set i n') u c')/\Rf.corners s.nodes n'=some (l.map (Rf.vag (Mt.sym v)))/\Pg.Cof (l.map (Rf.vag (Mt.sym v))) (colsZ (givL (code v) p0 q0 p1 q1 p2 q2 p3 q3)):=by
  intro v hv Y;subst hv;simp only at C
  have hp:n.probe=false:=by
   unfold Rf.nextP at D
   cases a2:n.probe with
   | false=>rfl
   | true=>rw [a2] at D;simp at D
  unfold Rf.nextP at D;rw [hp] at D;simp only [Bool.false_eq_true,if_false] at D
  obtain ⟨c0,rfl⟩:∃ c0,c=c0+1:=⟨c-1,by omega⟩
  rw [if_neg (by rw [ad];omega)] at C;obtain ⟨n',g1,g2,g3,g4⟩:=Rf.aGi O B hp D;unfold Rf.give at C;rw [g1,Option.map_some,Option.map_some] at C;have j:=(aDs g1).1;have hi:=(aDs g1).2
  have R:n'={n with out:=n.out++[v],told:=n.told.mul (Mt.sym v),had:=n.had++[n.told.mul (Mt.sym v)]}:=by
   have:=congrArg (fun x=>x[i]?) j;simp only [List.getElem?_set_self hi] at this;exact Option.some.inj this
  refine ⟨n',R,(Option.some.inj C).symm,⟨rho,c0,g2⟩,?_,?_⟩
  ·rw [R];exact Pg.aG8 T.cor v _ _
  ·rw [<-aQO];exact T.cof.vag _
 have I:codeO o≠0->1<=s.clock->∀ z∈hvL (givL (codeO o) p0 q0 p1 q1 p2 q2 p3 q3),Bits 10 z:=by
  intro d Y
  cases o with
  | none=>exact absurd rfl d
  | some v=>
   obtain ⟨n',j,R,⟨u,c',U⟩,e4,e5⟩:=p v rfl (by omega);have hi:=(List.getElem?_eq_some_iff.1 B).1
   have J:Pg.Go s.nodes (s.nodes.set i n'):=Pg.Go.set B (by rw [j]) (by
    intro r m A;rw [j];simp only
    rw [List.getElem?_append_left (List.getElem?_eq_some_iff.1 A).1];exact A) (by
    intro r m A;rw [j];simp only
    rw [List.getElem?_append_left (List.getElem?_eq_some_iff.1 A).1];exact A)
   have ao:(s.nodes.set i n')[i]?=some n':=List.getElem?_set_self hi;have E:=aFG rfl e5;obtain ⟨r0,s0,r1,s1,r2,s2,r3,s3,e8⟩:=eight (aL6 (zs:=givL (code v) p0 q0 p1 q1 p2 q2 p3 q3) rfl);have e9:codeO (some v)=code v:=rfl;rw [e9,e8];rw [e8] at E;exact bits10 (s:=⟨s.nodes.set i n',0⟩) U ao (J.corners e4) E
 refine aKu (cd:=codeO o) (xs:=n.out.map fun c=>Value.int .i64 (code c)) (g:=gO) P (by rw [ad];omega) F (by simp;omega) ?_ ?_ ?_ I ?_
 ·intro w1 c1;obtain ⟨_,_,_,_,_,_,_,_,_,_,_,_,_,_,_,_,_,az⟩:=(h.still O c1).seen O B;exact az.next hN D
 ·intro d w1 c1
  have ap:o=none:=by
   cases o with
   | none=>rfl
   | some v=>exact absurd d (aF9 v)
  subst ap;refine (hR D w1 c1).mono ?_;rintro e w2 ⟨rfl,X⟩;exact ⟨_,rfl,fun w3 c3=>⟨rfl,X.still a3 c3⟩⟩
 ·intro d a0 w1 c1
  cases o with
  | none=>exact absurd rfl d
  | some v=>
   simp only at C;rw [if_pos (by omega)] at C;cases C;exact ⟨rfl,Res.no (own':=own) (Kept.still c1)⟩
 ·intro d Y w1 gv' b H a1 L hb
  cases o with
  | none=>exact absurd rfl d
  | some v=>
   obtain ⟨n',j,R,⟨u,c',U⟩,e4,e5⟩:=p v rfl (by omega);subst R;have hi:=(List.getElem?_eq_some_iff.1 B).1;have q:gO=some b\/w.heap.size<=b:=hb
   have S:∀ k o,k<w.heap.size->own k=some o->(fun k=>if k=b then some (Own.gv i) else own k) k=some o:=by
    intro k o M N;simp only
    by_cases ab:k=b
    ·subst ab;rw [if_pos rfl]
     rcases q with e | e
     ·rw [(t k e).1] at N;exact N
     ·omega
    ·rw [if_neg ab];exact N
   have aq:own (at1 i)=some (.nd i):=(h.nd i n B).own;refine ⟨rfl,fun k=>if k=b then some (Own.gv i) else own k,Kept.aHz H ?_ ?_,fun _=>⟨at1,?_,fun _ _=>rfl⟩⟩
   ·intro k M a0 a;simp at M
    rcases M with rfl | rfl | rfl
    ·rw [aq] at a;cases a
    ·rfl
    ·rcases q with e | e
     ·rw [(t k e).1] at a;cases a
     ·omega
   ·intro k M a;show (if k=b then some (Own.gv i) else own k)=none;rw [if_neg]
    ·exact a
    ·rintro rfl
     rcases q with e | e
     ·rw [(t k e).1] at a;cases a
     ·omega
   ·have J:Pg.Go s.nodes (s.nodes.set i n'):=Pg.Go.set B (by rw [j]) (by
     intro r m A;rw [j];simp only
     rw [List.getElem?_append_left (List.getElem?_eq_some_iff.1 A).1];exact A) (by
     intro r m A;rw [j];simp only
     rw [List.getElem?_append_left (List.getElem?_eq_some_iff.1 A).1];exact A)
    refine h.upd O B (n':=n') (by rw [j];exact ⟨rfl,rfl,rfl,rfl,rfl,rfl,rfl,rfl,rfl,rfl,rfl⟩) (by rw [j];exact (h.nd i n B).hc.give v) J H ?_ S T.blk (Or.inl ⟨by rw [j],rfl⟩) (zs':=hvL (givL (code v) p0 q0 p1 q1 p2 q2 p3 q3)) (gv':=gv') (by rw [j];exact a1) ?_ e4 (aFG rfl e5)
    ·intro k M;simp at M
     rcases M with rfl | rfl | rfl
     ·exact Or.inl rfl
     ·exact Or.inr (Or.inl rfl)
     ·rcases q with e | e
      ·refine Or.inr (Or.inr (Or.inl ⟨(t k e).1,fun cs ty m hcs=>?_⟩));subst e;obtain ⟨ds,W⟩:=F.ty;rw [hcs] at W;exact (Obj.cells.inj (Option.some.inj W)).2.1
      ·exact Or.inr (Or.inr (Or.inr e))
    ·rw [j];simp only;refine GivOk.aTQ (b:=b) (by rw [List.map_append];exact L) (by simp) ?_
     rcases q with e | e
     ·exact (t b e).2
     ·omega
end
end Ab
end Go.Proofs.YteghhlfmcjmnoaaGreatDoor
