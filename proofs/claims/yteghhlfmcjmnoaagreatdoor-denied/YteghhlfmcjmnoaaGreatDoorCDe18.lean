import Derived.Test.YteghhlfmcjmnoaaGreatDoorCDe17
set_option linter.unusedSimpArgs false
set_option linter.unusedVariables false
set_option maxRecDepth 100000
set_option maxHeartbeats 2000000
namespace Go.Proofs.YteghhlfmcjmnoaaGreatDoor
open Go.RowKit
namespace Ab
theorem rep_conv {C:Cfg}{w0 w:World}{ψ φ:Nat->Option (Nat×Nat)}{s s':AS}(h:RepW C w0 ψ φ s w)(hn:s'.next=s.next)(hν:s'.nums=s.nums)(hd:s'.dirty=s.dirty)(hb:∀ b B',look s'.boxes b=some B'->∃ B,look s.boxes b=some B/\B'={B with cs:=B'.cs}/\B'.cs.length=B.cs.length/\∀ ys,All2 (relC C φ s.nums w) B.cs ys->All2 (relC C φ s.nums w) B'.cs ys):RepW C w0 ψ φ s' w:=by
 refine ⟨?_,?_,?_,?_,?_,h.lt,?_,h.on,h.base,?_⟩
 ·intro b B' hB
  obtain ⟨B,g1,g2,g3,g4⟩:=hb b B' hB
  obtain ⟨k,o,pre,ys,post,k1,k2,k3,k4⟩:=h.box b B g1
  rw [hν]
  exact ⟨k,o,pre,ys,post,k1,by rw [g2];exact k2,k3,g4 ys k4⟩
 ·intro b B' k o hB ho hk
  obtain ⟨B,g1,g2,g3,g4⟩:=hb b B' hB
  rw [g2] at ho
  exact h.own b B k o g1 ho hk
 ·intro b b' B B' k o o' hB hB' hk hk'
  obtain ⟨D,g1,g2,g3,_⟩:=hb b B hB
  obtain ⟨D',g1',g2',g3',_⟩:=hb b' B' hB'
  rcases h.inj b b' D D' k o o' g1 g1' hk hk' with e | ⟨e1,e2,e3,e4⟩
  ·exact Or.inl e
  ·refine Or.inr ⟨by rw [g2];exact e1,by rw [g2'];exact e2,by rw [g2,g2'];exact e3,?_⟩
   intro ht
   have ht':D.tip=true:=by rw [g2] at ht;exact ht
   rw [g3,g3']
   exact e4 ht'
 ·intro b B' hB ht
  obtain ⟨B,g1,g2,g3,g4⟩:=hb b B' hB
  have ht':B.tip=true:=by rw [g2] at ht;exact ht
  rw [g2]
  exact h.tip b B g1 ht'
 ·intro b hb'
  exact h.fresh b (by rw [hn] at hb';exact hb')
 ·rw [hd];exact h.low
 ·intro b B' k o hB ho hr hk
  obtain ⟨B,g1,g2,g3,g4⟩:=hb b B' hB
  rw [g2] at ho hr
  obtain ⟨e1,e2⟩:=h.exa b B k o g1 ho hr hk
  refine ⟨e1,?_⟩
  rw [g3,g2]
  exact e2
def atDrw (p:Oper->Bool):List (K (List AT))->Bool
 | .code (.region _ ops true)::_=>ops.any p
 | _=>false
def contR (p:Oper->Bool):Code->List (K (List AT))->Option (Nat×Array Oper×List (K (List AT)))
 | .region id ops true,ks=>bif ops.any p then some (id,ops,ks) else none
 | .seq a b,ks=>match contR p a (.code b::ks) with | some r=>some r | none=>contR p b ks
 | .block id b,ks=>contR p b (.blk id::ks)
 | .cond _ a b,ks=>match contR p a ks with | some r=>some r | none=>contR p b ks
 | _,_=>none
def drwR (p:Oper->Bool)(fn:Func):Nat×Array Oper×List (K (List AT)):=(contR p (bodyOf fn) [.top fn]).getD (0,#[],[])
noncomputable def sR:Nat×Array Oper×List (K (List AT)):=drwR (opCalls 236) Tryz.f224
section
variable (p0 q0 p1 q1 p2 q2 p3 q3:Int) (hs:Bool) (uns mt lr rr pl c:Int) (lp rp cst nst gv:Value)
def goU (tm:List AT):AS:=⟨tm,[(0,wrt (.sbool hs::numCs true 0 8++[.lit cst,.sint .i64 mt,.lit lp,.sint .i64 lr,.lit rp,.sint .i64 rr,.lit gv,.int .i64 uns,.lit nst,.sint .i64 pl]) 205),(6,fuW c)],7,[p0,q0,p1,q1,p2,q2,p3,q3].map fun z=>(z,10),[]⟩
abbrev seT:List AT:=P0::List.replicate 45 .und
theorem se_0:(run Z (tabSp tN) bW (drawA Z (tabSp tN)) (atDrw (opCalls 236)) 400 [.code (bodyOf Tryz.f224),.top Tryz.f224] (goU p0 q0 p1 q1 p2 q2 p3 q3 hs 0 mt lr rr pl c lp rp cst nst gv seT)).bind (outX (nrm [0,6] [] 7 []) (nrm [0,6] [0] 7 []))
  = some (.ret (.tup []) (goU p0 q0 p1 q1 p2 q2 p3 q3 hs 0 mt lr rr pl c lp rp cst nst gv (slot [] 0 46))):=by kernel_rfl
theorem se_1 (h:uns=10\/uns=11\/uns=12\/uns=13):(run Z (tabSp tN) bW (drawA Z (tabSp tN)) (atDrw (opCalls 236)) 400 [.code (bodyOf Tryz.f224),.top Tryz.f224] (goU p0 q0 p1 q1 p2 q2 p3 q3 hs uns mt lr rr pl c lp rp cst nst gv seT)).bind (outX (nrm [0,6] [] 7 []) (nrm [0,6] [0] 7 []))
  = some (.br (!enoughZ uns p0 q0 p1 q1) (.ret (.tup []) (goU p0 q0 p1 q1 p2 q2 p3 q3 hs uns mt lr rr pl c lp rp cst nst gv (slot [] 0 46))) (.stp (.code (.region sR.1 sR.2.1 true)::sR.2.2) (goU p0 q0 p1 q1 p2 q2 p3 q3 hs uns mt lr rr pl c lp rp cst nst gv (slot [(0,P0)] 0 46)))):=by
 rcases h with rfl | rfl | rfl | rfl<;>kernel_rfl
noncomputable def seS:AS:=((drawA Z (tabSp tN) (sR.2.1.extract 0 14) (goU p0 q0 p1 q1 p2 q2 p3 q3 hs uns mt lr rr pl c lp rp cst nst gv (slot [(0,P0)] 0 46))).getD (⟨[],[],0,[],[]⟩,[])).1
theorem se_2:drawA Z (tabSp tN) (sR.2.1.extract 0 14) (goU p0 q0 p1 q1 p2 q2 p3 q3 hs uns mt lr rr pl c lp rp cst nst gv (slot [(0,P0)] 0 46))=some (seS p0 q0 p1 q1 p2 q2 p3 q3 hs uns mt lr rr pl c lp rp cst nst gv,[]):=by kernel_rfl
theorem se_bar:barB sR.2.1 14=true/\14<sR.2.1.size/\(List.range sR.2.1.size).drop 14=[14,15]:=by
 have e:sR.2.1.size=16:=by kernel_rfl
 exact ⟨by kernel_rfl,by rw [e];decide,by rw [e];rfl⟩
theorem se_3 (y0 y1 y2 y3 y4 y5 y6 y7 y8 y9 y10 y11 y12 y13 y14 y15 y16 y17 y18 y19 y20 y21 y22 y23 y24 y25 y26:Value):(run Z (tabSp tN) bW (drawA Z (tabSp tN)) (fun _=>false) 400 (.ops sR.2.1 [15]::sR.2.2) (sW [p0,q0,p1,q1,p2,q2,p3,q3] hs uns mt lr rr pl c (.lit lp) (.lit rp) (.lit cst) (.lit nst) (.lit gv) [(1,ext ([y0,y1,y2,y3,y4,y5,y6,y7,y8,y9,y10,y11,y12,y13,y14,y15,y16,y17,y18,y19,y20,y21,y22,y23,y24,y25,y26].map .lit) 205)] (slot [(0,P0),(40,.val (.one (.ptr 1 0)))] 0 46))).bind (outX (nrm [0,6,1] [] 7 []) (nrm [0,6,1] [] 7 []))
  = some (.ret (.tup []) ⟨slot [] 0 46,[(0,wrt ([y0,y1,y2,y3,y4,y5,y6,y7,y8,y9,y10,y11,y12,y13,y14,y15,y16,y17,y18,y19,y20,y21,y22,y23,y24,y25,y26].map .lit) 205),(6,fuW c),(1,ext ([y0,y1,y2,y3,y4,y5,y6,y7,y8,y9,y10,y11,y12,y13,y14,y15,y16,y17,y18,y19,y20,y21,y22,y23,y24,y25,y26].map .lit) 205)],7,[],[0]⟩):=by kernel_rfl
end
theorem all_cs {R:AC->Value->Prop}:∀ {cs cs':List AC} {ys:List Value},All2 (fun c c'=>∀ x,R c x->R c' x) cs cs'->All2 R cs ys->All2 R cs' ys
 | [],[],[],_,_=>trivial
 | [],[],_::_,_,h=>h.elim
 | [],_::_,_,h,_=>h.elim
 | _::_,[],_,h,_=>h.elim
 | _::_,_::_,[],_,h=>h.elim
 | _::_,_::_,y::_,⟨h1,h2⟩,⟨g1,g2⟩=>⟨h1 y g1,all_cs h2 g2⟩
theorem goU_rep {w:World}{k fb:Nat}{p0 q0 p1 q1 p2 q2 p3 q3:Int}{hs:Bool}{uns mt lr rr pl c:Int}{lp rp gv cv nv:Value}(h:Pos2 w k fb [p0,q0,p1,q1,p2,q2,p3,q3] hs uns mt lr rr pl c lp rp gv cv nv)(tm:List AT):RepW Z w (phW k fb fun _=>none) (phW k fb fun _=>none) (goU p0 q0 p1 q1 p2 q2 p3 q3 hs uns mt lr rr pl c lp rp cv nv gv tm) w:=by
 refine rep_conv (h.rep tm) rfl rfl rfl ?_
 intro b B' hB
 have:=look_mem hB
 simp only [goU,List.mem_cons,List.not_mem_nil,or_false,Prod.mk.injEq] at this
 rcases this with ⟨rfl,rfl⟩ | ⟨rfl,rfl⟩
 ·refine ⟨_,rfl,rfl,rfl,fun ys h=>all_cs ?_ h⟩
  exact ⟨fun _ h=>h,fun _ h=>h,fun _ h=>h,fun _ h=>h,fun _ h=>h,fun _ h=>h,fun _ h=>h,fun _ h=>h,fun _ h=>h,fun _ h=>h,fun _ h=>h,fun _ h=>h,fun _ h=>h,fun _ h=>h,fun _ h=>h,fun _ h=>h,fun _ h=>h,fun _ h=>h,fun _ h=>h,fun _ h=>h,fun _ h=>h,fun _ h=>h,fun _ h=>h,fun _ h=>h,fun _ h=>h,fun _ h=>h,fun _ h=>h,trivial⟩
 ·exact ⟨_,rfl,rfl,rfl,fun ys h=>h⟩
section
variable {w:World} {k fb:Nat} {p0 q0 p1 q1 p2 q2 p3 q3:Int} {hs:Bool} {uns mt lr rr pl c:Int} {lp rp gv cv nv:Value}
theorem settle_none (h:Pos2 w k fb [p0,q0,p1,q1,p2,q2,p3,q3] hs uns mt lr rr pl c lp rp gv cv nv)(hu:uns=0\/((uns=10\/uns=11\/uns=12\/uns=13)/\enoughZ uns p0 q0 p1 q1=false)):Calls Tryz.prog 224 #[ptrB k] w fun e w'=>∃ v,e=.returned v/\Chg w w' []:=by
 have F:=fn_of Tryz.func224 rfl rfl
 refine calls_x F (φ:=phW k fb fun _=>none) (vs:=[.one (.ptr 0 0)]) (args:=[ptrB k]) (s:=goU p0 q0 p1 q1 p2 q2 p3 q3 hs uns mt lr rr pl c lp rp cv nv gv seT) (by kernel_rfl) ⟨⟨k,0,rfl,rfl⟩,trivial⟩ (goU_rep h _) ?_
 rcases hu with rfl | ⟨hu,he⟩
 ·refine xrun' (tabSp_ok tN_ok) bW_ok (phN_kb rfl rfl) (nrm_R (phN_kb rfl rfl)) (se_0 p0 q0 p1 q1 p2 q2 p3 q3 hs mt lr rr pl c lp rp cv nv gv) (fun r s=>s.dirty=[]) (fun _ _=>False) rfl ?_ (fun _ _ h=>h.elim)
  rintro r s φ v w' hd _ _ hw
  exact ⟨v,rfl,rep_chg0 hw hd⟩
 ·refine xrun' (tabSp_ok tN_ok) bW_ok (phN_kb rfl rfl) (nrm_R (phN_kb rfl rfl)) (se_1 p0 q0 p1 q1 p2 q2 p3 q3 hs uns mt lr rr pl c lp rp cv nv gv hu) (fun r s=>s.dirty=[]) (fun _ _=>False) ⟨fun _=>rfl,fun e=>by rw [he] at e;cases e⟩ ?_ (fun _ _ h=>h.elim)
  rintro r s φ v w' hd _ _ hw
  exact ⟨v,rfl,rep_chg0 hw hd⟩
theorem ys27 {ys:List Value}(h:ys.length=27):∃ y0 y1 y2 y3 y4 y5 y6 y7 y8 y9 y10 y11 y12 y13 y14 y15 y16 y17 y18 y19 y20 y21 y22 y23 y24 y25 y26,ys=[y0,y1,y2,y3,y4,y5,y6,y7,y8,y9,y10,y11,y12,y13,y14,y15,y16,y17,y18,y19,y20,y21,y22,y23,y24,y25,y26]:=by
 match ys,h with
 | [y0,y1,y2,y3,y4,y5,y6,y7,y8,y9,y10,y11,y12,y13,y14,y15,y16,y17,y18,y19,y20,y21,y22,y23,y24,y25,y26],_=>exact ⟨y0,y1,y2,y3,y4,y5,y6,y7,y8,y9,y10,y11,y12,y13,y14,y15,y16,y17,y18,y19,y20,y21,y22,y23,y24,y25,y26,rfl⟩
theorem settle_calls (h:Pos2 w k fb [p0,q0,p1,q1,p2,q2,p3,q3] hs uns mt lr rr pl c lp rp gv cv nv)(hu:uns=10\/uns=11\/uns=12\/uns=13)(he:enoughZ uns p0 q0 p1 q1=true){R:World->Prop}
  (hset:∀ w1 xs,Chg w w1 []->Hold true w1 [p1,q1] xs->Calls Tryz.prog 236 #[.int .i64 uns,rp,.agg xs.toArray] w1 fun e w2=>∃ m,∃ ys:List Value,e=.returned (ptrB m)/\m≠k/\w2.heap[m]?=some (.cells ys.toArray 205 (0,0))/\ys.length=27/\(∀ y∈ys,One y)/\Pos2 w2 k fb [p0,q0,p1,q1,p2,q2,p3,q3] hs uns mt lr rr pl c lp rp gv cv nv/\∀ w3,Chg w2 w3 [k]->w3.heap[k]?=some (.cells ys.toArray 205 (0,0))->R w3):
  Calls Tryz.prog 224 #[ptrB k] w fun e w'=>∃ v,e=.returned v/\R w':=by
 have F:=fn_of Tryz.func224 rfl rfl
 refine calls_x F (φ:=phW k fb fun _=>none) (vs:=[.one (.ptr 0 0)]) (args:=[ptrB k]) (s:=goU p0 q0 p1 q1 p2 q2 p3 q3 hs uns mt lr rr pl c lp rp cv nv gv seT) (by kernel_rfl) ⟨⟨k,0,rfl,rfl⟩,trivial⟩ (goU_rep h _) ?_
 refine xrun' (tabSp_ok tN_ok) bW_ok (phN_kb rfl rfl) (nrm_R (phN_kb rfl rfl)) (se_1 p0 q0 p1 q1 p2 q2 p3 q3 hs uns mt lr rr pl c lp rp cv nv gv hu) (fun _ _=>False) (fun ks s=>ks=.code (.region sR.1 sR.2.1 true)::sR.2.2/\s=goU p0 q0 p1 q1 p2 q2 p3 q3 hs uns mt lr rr pl c lp rp cv nv gv (slot [(0,P0)] 0 46)) ⟨fun e=>(by rw [he] at e;cases e),fun _=>⟨rfl,rfl⟩⟩ (fun _ _ _ _ _ h=>h.elim) ?_
 rintro ks s ⟨rfl,rfl⟩
 have hfr:noFr sR.2.2=true:=by kernel_rfl
 refine ⟨by kernel_rfl,fun kcs φ1 a1 w1 hsr1 hr1=>?_⟩
 obtain ⟨bb,bj,bd⟩:=se_bar
 match kcs,hsr1 φ1 [] w1 with
 | .code cc::kcs',⟨hcc,hsr2⟩=>
 subst hcc
 show (Code.region sR.1 sR.2.1 true).wp Z.P _ a1 w1
 refine draw_bar mixed (tabSp_ok tN_ok) bj bb (se_2 p0 q0 p1 q1 p2 q2 p3 q3 hs uns mt lr rr pl c lp rp cv nv gv) holds_nil hr1 ?_
 intro φ2 a2 w2 hr2
 rw [bd]
 have c2:Chg w w2 []:=rep_chg0 hr2.wd (by kernel_rfl)
 show sem Z.P _ (.ops sR.2.1 [14,15]::kcs') .normal a2 w2
 refine callAt_ok (f:=236) (vs:=[.one (.int .i64 uns),.one (.lit rp),.agg (numCs true 2 2)]) (dst:=some 40) (ks:=.ops sR.2.1 [14,15]::sR.2.2) (ks2:=.ops sR.2.1 [15]::sR.2.2) (by kernel_rfl) (fn_of Tryz.func236 rfl rfl).en (by simpa [noFr] using hfr) (φ1:=φ2) (ν1:=[]) (w1:=w2) ⟨rfl,rfl,SR.any hfr hsr2⟩ hr2 ?_
 intro us hus
 match us,hus with
 | [u1,u2,u3],⟨hu1,hu2,⟨xs,hu3,hxs⟩,_⟩=>
 have hu1:u1=.int .i64 uns:=hu1
 have hu2:u2=rp:=hu2.1
 rw [hu1,hu2,hu3]
 have hH:Hold true w2 [p1,q1] xs:=cs_hold [p1,q1] 2 xs hxs (by
  intro j z hz
  have hn:(seS p0 q0 p1 q1 p2 q2 p3 q3 hs uns mt lr rr pl c lp rp cv nv gv).nums=[p0,q0,p1,q1,p2,q2,p3,q3].map fun z=>(z,10):=by kernel_rfl
  rw [hn]
  refine ⟨10,?_⟩
  match j,hz with
  | 0,hz=>cases hz;rfl
  | 1,hz=>cases hz;rfl
  | j+2,hz=>simp at hz)
 refine (hset w2 xs c2 hH).mono ?_
 rintro e w3 ⟨m,ys,rfl,hmk,hm,hy27,hy1,hp3,hR⟩
 refine ⟨_,rfl,fun kcs3 hf3 hsr3=>?_⟩
 have hmf:m≠fb:=by
  rintro rfl
  have hy:=hp3.fu
  rw [hm] at hy
  exact absurd (Obj.cells.inj (Option.some.inj hy)).2.1 (by decide)
 obtain ⟨y0,y1,y2,y3,y4,y5,y6,y7,y8,y9,y10,y11,y12,y13,y14,y15,y16,y17,y18,y19,y20,y21,y22,y23,y24,y25,y26,rfl⟩:=ys27 hy27
 have hkb:∀ b x,phW k fb (ph1 1 m) b=some x->[0,6,1].contains b=true:=phX_kb rfl rfl fun b x e=>by
  unfold ph1 at e
  split at e
  ·subst_vars;rfl
  ·cases e
 have hrepX:=hp3.repX (exφ:=ph1 1 m) (ex:=[(1,ext ([y0,y1,y2,y3,y4,y5,y6,y7,y8,y9,y10,y11,y12,y13,y14,y15,y16,y17,y18,y19,y20,y21,y22,y23,y24,y25,y26].map .lit) 205)]) (rpC:=.lit rp) (cvC:=.lit cv) (nvC:=.lit nv) ⟨rfl,hp3.o2⟩ ⟨rfl,hp3.o4⟩ ⟨rfl,hp3.o5⟩ (by
  intro b B hB
  have:=look_mem hB
  simp only [List.mem_cons,List.not_mem_nil,or_false,Prod.mk.injEq] at this
  obtain ⟨rfl,rfl⟩:=this
  exact ⟨rfl,rfl,rfl,m,0,rfl,hmk,hmf,[],_,[],(show w3.heap[m]?=some (.cells ([]++[y0,y1,y2,y3,y4,y5,y6,y7,y8,y9,y10,y11,y12,y13,y14,y15,y16,y17,y18,y19,y20,y21,y22,y23,y24,y25,y26]++[]).toArray 205 (0,0)) by simpa using hm),rfl,lits_of _ hy1⟩) (by
  intro b k' o hb'
  unfold ph1 at hb'
  split at hb'
  ·cases hb';exact lt_of_heap hm
  ·cases hb') (slot [(0,P0),(40,.val (.one (.ptr 1 0)))] 0 46)
 have hr3:=rep_aft (kb:=[0,6]) (kt:=[0]) (dst:=some 40) (r:=.val (.one (.ptr 1 0))) (v:=ptrB m) hr2 hrepX (by kernel_rfl) (by
  intro b hb
  have hb':b=0\/b=6:=by simpa using hb
  rcases hb' with rfl | rfl
  ·rw [hr2.wd.base 0 (k,0) rfl];rfl
  ·rw [hr2.wd.base 6 (fb,0) rfl];rfl) ⟨m,0,rfl,rfl⟩
 refine xrun' (tabSp_ok tN_ok) bW_ok hkb (nrm_R hkb) (se_3 p0 q0 p1 q1 p2 q2 p3 q3 hs uns mt lr rr pl c lp rp cv nv gv y0 y1 y2 y3 y4 y5 y6 y7 y8 y9 y10 y11 y12 y13 y14 y15 y16 y17 y18 y19 y20 y21 y22 y23 y24 y25 y26) (fun r s=>s.dirty=[0]/\look s.boxes 0=some (wrt ([y0,y1,y2,y3,y4,y5,y6,y7,y8,y9,y10,y11,y12,y13,y14,y15,y16,y17,y18,y19,y20,y21,y22,y23,y24,y25,y26].map .lit) 205)) (fun _ _=>False) ⟨rfl,rfl⟩ ?_ (fun _ _ h=>h.elim) kcs3 _ _ _ (hsr3 _ _ _) hr3
 rintro r s φ5 v w5 ⟨hd,l0⟩ _ _ hw5
 refine ⟨v,rfl,hR w5 ⟨hw5.on,fun j hj hn=>hw5.low j hj fun b hb o e=>?_⟩ ?_⟩
 ·rw [hd] at hb
  simp only [List.mem_singleton] at hb
  subst hb
  rw [hw5.base 0 (k,0) rfl] at e
  cases e
  exact hn (by simp)
 ·obtain ⟨k',o,pre,zs,post,g1,g2,g3,g4⟩:=hw5.box 0 _ l0
  rw [hw5.base 0 (k,0) rfl] at g1
  cases g1
  have hpre:pre=[]:=List.length_eq_zero_iff.1 g3
  subst hpre
  have hz:=lits_eq _ zs g4
  subst hz
  have hsh:=hw5.on.shape (hp3.nd.shape hp3.h8)
  unfold World.shape? at hsh
  rw [g2] at hsh
  simp only [Option.some.injEq,Prod.mk.injEq,List.size_toArray,List.nil_append,List.length_append] at hsh
  have hpost:post=[]:=List.length_eq_zero_iff.1 (by have:=hsh.2;simp at this;omega)
  subst hpost
  rw [g2]
  rfl
end
end Ab
open Go.RowKit
namespace Ab
theorem ediv_abs {a g:Int}(hg:0<g):(a/g).natAbs<=a.natAbs:=by
 rcases Int.lt_or_le a 0 with h | h
 ·have h1:a<=a/g:=by
   have:=Int.mul_le_mul_of_nonneg_left (show (1:Int)<=g by omega) (show (0:Int)<=-a by omega)
   rw [Int.le_ediv_iff_mul_le hg]
   have e:a*g=-(-a*g):=by rw [Int.neg_mul];omega
   rw [e]
   omega
  have h2:a/g<0:=Int.ediv_neg_of_neg_of_pos h hg
  omega
 ·have h1:a/g<=a:=Int.ediv_le_self _ h
  have h2:0<=a/g:=Int.ediv_nonneg h (by omega)
  omega
theorem low_abs {t b:Int}(hg:0<gcdZ t b):(lowT t b).natAbs<=t.natAbs/\(lowB t b).natAbs<=b.natAbs:=by
 have k:∀ x:Int,(x/gcdZ t b).natAbs<=x.natAbs:=fun x=>ediv_abs hg
 have k':∀ x:Int,(-x/gcdZ t b).natAbs<=x.natAbs:=fun x=>by have:=k (-x);simpa using this
 unfold lowT lowB
 constructor
 ·cases decide (Nm.cmp b 0<0)<;>simp only [cond_true,cond_false]
  ·cases (Nm.cmp b 0==0)<;>simp only [cond_true,cond_false]
   ·exact k t
   ·cases decide (Nm.cmp t 0<0)<;>simp only [cond_true,cond_false]
    ·exact k t
    ·exact k' t
  ·exact k' t
 ·cases decide (Nm.cmp b 0<0)<;>simp only [cond_true,cond_false]
  ·cases (Nm.cmp b 0==0)<;>simp only [cond_true,cond_false]
   ·exact k b
   ·cases decide (Nm.cmp t 0<0)<;>simp only [cond_true,cond_false]
    ·exact k b
    ·exact k' b
  ·exact k' b
def maxL:List Nat->Nat
 | [n,m]=>bif Nat.ble n m then m else n
 | _=>40
theorem low_te':TEok Z 96 (teG true fLow ndLow maxL [40,40]):=by
 refine te_congr low_te ?_ ?_
 ·intro gs out h hn _
  exact ⟨h,hn⟩
 ·intro gs ns out h hnd hg hg40
  clear hg40
  unfold fLow at h
  split at h
  ·rename_i t b
   cases h
   have hgp:0<gcdZ t b:=hnd _ (by simp [ndLow])
   obtain ⟨l1,l2⟩:=low_abs hgp
   match ns,hg with
   | [n,m],⟨h1,h2,_⟩=>
   have e1:n<=maxL [n,m]/\m<=maxL [n,m]:=by
    simp only [maxL]
    cases hb:Nat.ble n m with
    | true=>simp only [cond_true];exact ⟨Nat.le_of_ble_eq_true hb,Nat.le_refl _⟩
    | false=>
     simp only [cond_false]
     refine ⟨Nat.le_refl _,?_⟩
     have:¬n<=m:=fun h=>by rw [Nat.ble_eq_true_of_le h] at hb;cases hb
     omega
   intro z hz
   simp only [List.mem_cons,List.not_mem_nil,or_false] at hz
   have up:∀ {x y:Int} {u:Nat},x.natAbs<=y.natAbs->Bits u y->Bits u x:=fun h1 h2=>Nat.lt_of_le_of_lt h1 h2
   rcases hz with rfl | rfl
   ·exact bits_mono (up l1 (h1 t (by simp))) e1.1
   ·exact bits_mono (up l2 (h2 b (by simp))) e1.2
  ·cases h
noncomputable def tS:List (FuncId×TE):=(96,teG true fLow ndLow maxL [40,40])::tN
theorem tS_ok:AllTE Z tS:=⟨low_te',tN_ok⟩
end Ab
open Go.RowKit
namespace Ab
open Rf (Nd Inv NInv)
def numOf (ν:List (Int×Nat)):List AC->Option (List Int)
 | []=>some []
 | .sg i::.dg true j::r=>bif i==j then (ν[i]?).bind fun x=>(numOf ν r).map fun l=>x.1::l else none
 | .bool false::.lit (.slice none 0 0)::r=>(numOf ν r).map fun l=>0::l
 | _=>none
theorem zero_hold (w:World):Hold true w [0] [.bool false,.slice none 0 0]:=by
 have h:numsT true [.c (.bool false),.c (.lit (.slice none 0 0))]=some ([0],0):=rfl
 exact (numsT_ok (k:=true) (w:=w) _ _ _ [.bool false,.slice none 0 0] h ⟨rfl,rfl,rfl,⟨rfl,rfl⟩,trivial⟩).1
theorem numOf_ok {φ:Nat->Option (Nat×Nat)}{ν:List (Int×Nat)}{w:World}:∀ (cs:List AC) (zs:List Int) (xs:List Value),numOf ν cs=some zs->All2 (relC Z φ ν w) cs xs->Hold true w zs xs:=by
 intro cs
 induction cs using numOf.induct with
 | case1=>
  intro zs xs h hr
  simp only [numOf,Option.some.injEq] at h
  subst h
  match xs,hr with
  | [],_=>trivial
 | case2 i j r hij ih=>
  intro zs xs h hr
  simp only [numOf,hij,cond_true] at h
  obtain ⟨x,h1,h2⟩:=bnd h
  obtain ⟨l,h3,rfl⟩:=mpd h2
  have hij:i=j:=by simpa using hij
  subst hij
  match xs,hr with
  | y1::y2::xs,⟨⟨z1,n1,e1,e2⟩,⟨z2,n2,f1,f2,f3⟩,hr⟩=>
  rw [h1] at e1 f1
  cases e1
  cases f1
  exact ⟨e2,f2,ih l xs h3 hr⟩
 | case3 i j r hij=>
  intro zs xs h hr
  simp only [numOf,hij,cond_false] at h
  cases h
 | case4 r ih=>
  intro zs xs h hr
  simp only [numOf] at h
  obtain ⟨l,h3,rfl⟩:=mpd h
  match xs,hr with
  | y1::y2::xs,⟨e1,e2,hr⟩=>
  have e1:y1=.bool false:=e1
  have e2:y2=.slice none 0 0:=e2.1
  subst e1 e2
  obtain ⟨k1,k2,_⟩:=zero_hold w
  exact ⟨k1,k2,ih l xs h3 hr⟩
 | case5 r h1 h2 h3=>
  intro zs xs h hr
  unfold numOf at h
  split at h
  ·exact (h1 rfl).elim
  ·exact (h2 _ _ _ rfl).elim
  ·exact (h3 _ rfl).elim
  ·cases h
theorem node_at' {φ:Nat->Option (Nat×Nat)}{ν:List (Int×Nat)}{w:World}{k:Nat}{c0 c1 c2 c3 c4 c5 c6 c7 c8 c9 c10:AC}{cc:List AC}{ys:List Value}{zs:List Int}{hs:Bool}{uns mt lr rr pl:Int}{lp rp gv cv nv:Value}(h:All2 (relC Z φ ν w) (c0::cc++[c1,c2,c3,c4,c5,c6,c7,c8,c9,c10]) ys)(hk:w.heap[k]?=some (.cells ys.toArray 205 (0,0)))(h16:cc.length=16)(hz:numOf ν cc=some zs)
  (e0:∀ x,relC Z φ ν w c0 x->x=.bool hs) (e1:∀ x,relC Z φ ν w c1 x->x=cv) (e2:∀ x,relC Z φ ν w c2 x->x=.int .i64 mt) (e3:∀ x,relC Z φ ν w c3 x->x=lp) (e4:∀ x,relC Z φ ν w c4 x->x=.int .i64 lr) (e5:∀ x,relC Z φ ν w c5 x->x=rp) (e6:∀ x,relC Z φ ν w c6 x->x=.int .i64 rr) (e7:∀ x,relC Z φ ν w c7 x->x=gv) (e8:∀ x,relC Z φ ν w c8 x->x=.int .i64 uns) (e9:∀ x,relC Z φ ν w c9 x->x=nv) (e10:∀ x,relC Z φ ν w c10 x->x=.int .i64 pl):NodeAt w k zs hs uns mt lr rr pl lp rp gv cv nv:=by
 have hl:=h.len
 match ys,h,hk,hl with
 | y::ys,⟨hy,g5⟩,hk,hl=>
  have hlen:ys.length=26:=by simp [h16] at hl;omega
  have e:ys=ys.take 16++ys.drop 16:=(List.take_append_drop 16 ys).symm
  have g5:All2 (relC Z φ ν w) (cc++[c1,c2,c3,c4,c5,c6,c7,c8,c9,c10]) ys:=g5
  have ga:All2 (relC Z φ ν w) cc (ys.take 16):=by
   have:=g5.take 16
   rw [List.take_append_of_le_length (by omega),List.take_of_length_le (by omega)] at this
   exact this
  have gb':All2 (relC Z φ ν w) [c1,c2,c3,c4,c5,c6,c7,c8,c9,c10] (ys.drop 16):=by
   have:=g5.drop 16
   rw [List.drop_append_of_le_length (by omega),List.drop_of_length_le (by omega)] at this
   exact this
  have hold:Hold true w zs (ys.take 16):=numOf_ok cc zs _ hz ga
  match hd:ys.drop 16,gb' with
  | [a0,a1,a2,a3,a4,a5,a6,a7,a8,a9],gb'=>
   obtain ⟨b0,b1,b2,b3,b4,b5,b6,b7,b8,b9,_⟩:=gb'
   refine ⟨ys.take 16,?_,hold⟩
   have e2:ys=ys.take 16++[cv,.int .i64 mt,lp,.int .i64 lr,rp,.int .i64 rr,gv,.int .i64 uns,nv,.int .i64 pl]:=by
    rw [<-e1 _ b0,<-e2 _ b1,<-e3 _ b2,<-e4 _ b3,<-e5 _ b4,<-e6 _ b5,<-e7 _ b6,<-e8 _ b7,<-e9 _ b8,<-e10 _ b9,<-hd]
    exact e
   rw [hk,e0 _ hy]
   generalize ys.take 16=t at e2
   subst e2
   rfl
theorem con_run {w:World}{cb:Nat}{kd k:Int}{tv:Value}{xs:List Value}{zs:List Int}(hblk:w.heap[cb]?=some (.cells (.int .i64 kd::tv::xs).toArray 224 (0,0)))(ot:One tv)(hx:Hold true w zs xs)(h8:zs.length=8)(hb:∀ z∈zs,Bits 1 z){needs:List Prop}{a b c d:Int}{n:Nat}(hc:conRun kd zs k=some (needs,.one (.ns [a,b,c,d]),n))(hn:Holds needs):
  Calls Tryz.prog 216 #[ptrB cb,.int .i64 k] w fun e w'=>∃ ys:List Value,e=.returned (.agg ys.toArray)/\Hold true w' [a,b,c,d] ys/\Below w.heap.size w w':=by
 unfold conRun at hc
 obtain ⟨o,h1,h2⟩:=bnd hc
 obtain ⟨tr,h3,h4⟩:=bnd h1
 have hrep:RepW Z w (ph1 0 cb) (ph1 0 cb) (sCon kd zs k) w:=by
  refine rep_ext rfl ?_ ?_ ?_
  ·intro b B hB
   have:=look_mem hB
   simp [sCon] at this
   obtain ⟨rfl,rfl⟩:=this
   refine ⟨rfl,rfl,rfl,cb,0,rfl,[],.int .i64 kd::tv::xs,[],(show w.heap[cb]?=some (.cells ([]++(Value.int .i64 kd::tv::xs)++[]).toArray 224 (0,0)) by simpa using hblk),rfl,rfl,ot,?_⟩
   have:=hold_cs zs xs 0 (φ:=ph1 0 cb) (zs.map fun z=>(z,1)) hx hb fun j z hz=>by rw [Nat.zero_add,List.getElem?_map,hz];rfl
   rw [h8] at this
   exact this
  ·intro b hb
   have:1<=b:=hb
   unfold ph1
   rw [if_neg (by omega)]
  ·intro b k' o hb'
   unfold ph1 at hb'
   split at hb'
   ·cases hb';exact lt_of_heap hblk
   ·cases hb'
 refine ext_run (vs:=[.one (.ptr 0 0),.one (.sint .i64 k)]) (args:=[ptrB cb,.int .i64 k]) (fn_of Tryz.func216 rfl rfl) (tabSp_ok tN_ok) bC_ok (by kernel_rfl) ⟨⟨cb,0,rfl,rfl⟩,rfl,trivial⟩ hrep h3 _ (outcome_ok h4 (outN_ok h2 hn (Nat.le_refl _))) ?_
 rintro r0 st φ v w' ⟨hcl,r',h7,h8'⟩ hrel hw
 obtain ⟨ys,e1,e2⟩:=h8' w' v (rvOf_ok h7 hrel)
 refine ⟨ys,by rw [e1],?_,RepF.below hw hcl⟩
 exact (numsT_ok (k:=true) (w:=w') _ [a,b,c,d] _ ys (show numsT true ([a,b,c,d].map fun z=>.num true z n)=some ([a,b,c,d],_) from rfl) e2).1
end Ab
open Go.RowKit
namespace Ab
open Rf (Nd Inv NInv)
def ownL (len:Nat)(blks:List Nat)(own:Nat->Option Own):Nat->Option Own:=fun k=>match blks.idxOf? k with | some j=>some (.nd (len+j)) | none=>own k
def atL (len:Nat)(blks:List Nat)(at1:Nat->Nat):Nat->Nat:=fun j=>if j<len then at1 j else blks.getD (j-len) 0
theorem idx_at:∀ {blks:List Nat} {j b:Nat},blks.Nodup->blks[j]?=some b->blks.idxOf? b=some j
 | [],j,b,_,h=>by simp at h
 | x::l,0,b,_,h=>by
  simp at h
  subst h
  simp [List.idxOf?_cons]
 | x::l,j+1,b,hn,h=>by
  obtain ⟨h1,h2⟩:=List.nodup_cons.1 hn
  have h':l[j]?=some b:=by simpa using h
  have hne:x≠b:=fun e=>h1 (e ▸ List.mem_of_getElem? h')
  have:=idx_at h2 h'
  rw [List.idxOf?_cons,this]
  simp [hne]
theorem ownL_at {len j b:Nat}{blks:List Nat}{own:Nat->Option Own}(hn:blks.Nodup)(h:blks[j]?=some b):ownL len blks own b=some (.nd (len+j)):=by
 unfold ownL
 rw [idx_at hn h]
theorem ownL_no {len k:Nat}{blks:List Nat}{own:Nat->Option Own}(h:k∉blks):ownL len blks own k=own k:=by
 unfold ownL
 rw [List.idxOf?_eq_none_iff.2 h]
theorem atL_lt {len a:Nat}{blks:List Nat}{at1:Nat->Nat}(h:a<len):atL len blks at1 a=at1 a:=by unfold atL;rw [if_pos h]
theorem atL_ge {len j b:Nat}{blks:List Nat}{at1:Nat->Nat}(h:blks[j]?=some b):atL len blks at1 (len+j)=b:=by
 unfold atL
 rw [if_neg (by omega),show len+j-len=j by omega,List.getD_eq_getElem?_getD,h]
 rfl
section
variable {w w3:World} {b0 fb:Nat} {own own':Nat->Option Own} {at1 at2:Nat->Nat} {i:Nat} {n n':Nd} {s:Rf.St} {rho:Nat->Nat} {c:Nat}
theorem una_nodeOk {ns1:List Nd}{N a:Nat}{xa:Nd}{zs:List Int}{u v:Rf.V}(hnode:NodeAt w (at2 N) zs false 0 0 0 0 0 nilP (ptrB (at2 a)) nilS' nilP nilP)(h8:zs.length=8)(hxa:ns1[a]?=some xa)(hx0:xa.had[0]?=some Rf.one)(hcof:Pg.Cof [u,v] (colsZ zs))(how:own' (at2 N)=some (.nd N))(hlo:b0<=at2 N):NodeOk w b0 own' at2 ns1 N (Rf.fresh true [u,v] [a]):=by
 obtain ⟨r0,s0,r1,s1,r2,s2,r3,s3,rfl⟩:=eight h8
 exact ⟨⟨r0,s0,r1,s1,r2,s2,r3,s3,0,0,nilS',nilP,nilP,⟨hnode,Or.inl ⟨rfl,rfl⟩,fun e=>(by cases e),fun _=>rfl,fun _=>rfl,fun e=>(by cases e)⟩,[u,v],Pg.corners_new2 rfl rfl rfl hxa hx0 rfl,hcof⟩,Pg.HC.fresh _ _ _,how,hlo,fun e=>by cases e⟩
theorem con_nodeOk {ns1:List Nd}{N cb:Nat}{op:Rf.Op}{p q:Int}(hnode:NodeAt w (at2 N) [1,0,0,1,0,0,0,0] false 0 0 0 0 0 nilP nilP nilS' (ptrB cb) nilP)(hcon:ConAt w (Rf.row op p q) cb)(how:own' (at2 N)=some (.nd N))(hlo:b0<=at2 N):NodeOk w b0 own' at2 ns1 N (Rf.row op p q):=by
 refine ⟨⟨1,0,0,1,0,0,0,0,0,0,nilS',ptrB cb,nilP,⟨hnode,Or.inl ⟨rfl,rfl⟩,fun _=>⟨rfl,cb,rfl,hcon⟩,fun e=>absurd rfl e,fun _=>rfl,fun e=>(by cases e)⟩,[(1,0),(0,1)],Pg.corners_con rfl rfl rfl,?_⟩,(Pg.HC.fresh true [] []).of rfl rfl rfl,how,hlo,fun e=>by cases e⟩
 exact .mk2 (e:=1) (by decide) (Pg.sc_one _).symm (Pg.sc_one _).symm (Pg.sc_one _).symm (Pg.sc_one _).symm
theorem turn_gen (h:Net w b0 own at1 fb s)(hI:Inv s.nodes rho c)(hn:s.nodes[i]?=some n){new ns':List Nd}(hns:ns'=(s.nodes++new).set i n')(e1:n'.pos=n.pos)(e2:n'.had=n.had)(e3:n'.out=n.out)(hch:Chg w w3 [at1 i])(hat:∀ a,a<s.nodes.length->at2 a=at1 a)(hown:∀ k,k<w.heap.size->own' k=own k)(hi':NodeOk w3 b0 own' at2 ns' i n')(hnew:∀ j mm,new[j]?=some mm->NodeOk w3 b0 own' at2 ns' (s.nodes.length+j) mm):
  Res w b0 own at1 fb s.nodes.length true ⟨ns',s.clock⟩ w3:=by
 have hi:=(List.getElem?_eq_some_iff.1 hn).1
 have hn':(s.nodes++new)[i]?=some n:=by rw [List.getElem?_append_left hi];exact hn
 have hgo:Pg.Go s.nodes ns':=by
  rw [hns]
  exact (Pg.Go.more _ _).trans (go_same hn' e1 e2 e3)
 have hoi:=(h.nd i n hn).own
 have hIs:IsD w own i [at1 i]:=by
  intro k hk cs ty mm hcs
  simp at hk
  subst hk
  obtain ⟨cs',hcs'⟩:=arg_blk h hn
  rw [hcs] at hcs'
  exact Or.inl ⟨(Obj.cells.inj (Option.some.inj hcs')).2.1,hoi⟩
 refine ⟨own',Kept.of_chg hch (fun k hk hlt hno=>?_) (fun k hk ho=>by rw [hown k hk];exact ho),fun _=>⟨at2,h.step (i:=i) hI (fun j hj hne=>?_) hgo hch hIs (fun k o hk ho _=>by rw [hown k hk];exact ho) hat (hch.at h.fuel ?_) fun j mm hj hor=>?_,hat⟩⟩
 ·simp at hk
  subst hk
  rw [hoi] at hno
  cases hno
 ·rw [hns,List.getElem?_set_ne (fun e=>hne e.symm),List.getElem?_append_left hj]
 ·intro hk
  rcases hIs fb hk _ _ _ h.fuel with ⟨e,_⟩ | ⟨e,_⟩ | e
  ·exact absurd e (by decide)
  ·exact absurd e (by decide)
  ·simp at hk
   obtain ⟨cs',hcs'⟩:=arg_blk h hn
   rw [<-hk,h.fuel] at hcs'
   exact absurd (Obj.cells.inj (Option.some.inj hcs')).2.1 (by decide)
 ·by_cases hji:j=i
  ·subst hji
   rw [hns,List.getElem?_set_self (by simp;omega)] at hj
   cases hj
   exact hi'
  ·rcases hor with e | e
   ·exact absurd e hji
   ·rw [hns,List.getElem?_set_ne (fun e=>hji e.symm),List.getElem?_append_right e] at hj
    have:=hnew _ _ hj
    rw [show s.nodes.length+(j-s.nodes.length)=j by omega] at this
    exact this
theorem NodeAt.copy {w2 w3:World}{m k:Nat}{ys:List Value}{zs:List Int}{hs:Bool}{uns mt lr rr pl:Int}{lp rp gv cv nv:Value}(h:NodeAt w2 m zs hs uns mt lr rr pl lp rp gv cv nv)(hm:w2.heap[m]?=some (.cells ys.toArray 205 (0,0)))(hk:w3.heap[k]?=some (.cells ys.toArray 205 (0,0)))(hon:On Z.bt w2 w3):NodeAt w3 k zs hs uns mt lr rr pl lp rp gv cv nv:=by
 obtain ⟨xs,h1,h2⟩:=h.ex
 rw [hm] at h1
 refine ⟨xs,?_,hold_on hon h2⟩
 rw [hk]
 exact h1
end
end Ab
open Go.RowKit
namespace Ab
open Rf (Nd Inv NInv)
noncomputable def bT:FuncId->Option Func:=fun f=>bif f==243 then some Tryz.f243 else bif f==223 then some Tryz.f223 else bif f==234 then some Tryz.f234 else bif f==244 then some Tryz.f244 else bif f==179 then some Tryz.f179 else bif f==195 then some Tryz.f195 else bif f==194 then some Tryz.f194 else bif f==157 then some Tryz.f157 else bif f==160 then some Tryz.f160 else bif f==178 then some Tryz.f178 else none
theorem body_if {f g:FuncId}{fg fn:Func}{x:Option Func}(h:(bif f==g then some fg else x)=some fn)(hg:Fn g fg)(hx:x=some fn->Tryz.prog.funcs[f]?=some fn/\Enters Z.P f):Tryz.prog.funcs[f]?=some fn/\Enters Z.P f:=by
 cases h1:f==g with
 | true=>
  rw [h1] at h
  cases h
  have:f=g:=by simpa using h1
  subst this
  exact ⟨hg.at',hg.en⟩
 | false=>rw [h1] at h;exact hx h
theorem bT_ok:BodiesOk Z bT:=by
 intro f fn h
 unfold bT at h
 refine body_if h (fn_of Tryz.func243 rfl rfl) fun h=>body_if h (fn_of Tryz.func223 rfl rfl) fun h=>body_if h (fn_of Tryz.func234 rfl rfl) fun h=>body_if h (fn_of Tryz.func244 rfl rfl) fun h=>body_if h (fn_of Tryz.func179 rfl rfl) fun h=>body_if h (fn_of Tryz.func195 rfl rfl) fun h=>body_if h (fn_of Tryz.func194 rfl rfl) fun h=>body_if h (fn_of Tryz.func157 rfl rfl) fun h=>body_if h (fn_of Tryz.func160 rfl rfl) fun h=>body_if h (fn_of Tryz.func178 rfl rfl) fun h=>by cases h
def stS (kd p q:Int):AS:=⟨.val (.one (.int .i64 kd))::.val (.one (.ptr 2 0))::.val (.agg (numCs true 0 2))::List.replicate 49 .und,[(2,ext [.bool false] 205)],3,[(p,1),(q,1)],[]⟩
noncomputable def tT (kd p q:Int):Option Tr:=run Z (tabSp tS) bT (drawA Z (tabSp tS)) (fun _=>false) 2000 [.code (bodyOf Tryz.f236),.top Tryz.f236] (stS kd p q)
def leafT:List Bool->Tr->Option (AT×AS)
 | p,.need _ t=>leafT p t
 | b::p,.br _ x y=>bif b then leafT p x else leafT p y
 | [],.ret r s=>some (r,s)
 | _,_=>none
noncomputable def lS (kd p q:Int)(l:List Bool):AS:=(((tT kd p q).bind (leafT l)).map (·.2)).getD ⟨[],[],0,[],[]⟩
noncomputable def lR (kd p q:Int)(l:List Bool):AT:=(((tT kd p q).bind (leafT l)).map (·.1)).getD .top
section
variable (p q:Int)
theorem tT_10:tT 10 p q=some (.need [0<gcdZ p q] (.need [0<lowT p q/\0<lowB p q/\(Rf.near (lowT p q) (lowB p q) 20000 1).isSome=true] (.ret (.val (.one (.ptr 24 0))) (lS 10 p q [])))):=by kernel_rfl
def skT (kd p q:Int)(sq:Bool)(r1 r2 r3 r4:AT)(s1 s2 s3 s4:AS):Tr:=.need [0<gcdZ p q] (.br (decide (Nm.cmp (lowT p q) 0=0)) (.br sq (.need [(fac1 kd 0).natAbs<1000000000000000000] (.need [(fac2 kd 0).natAbs<1000000000000000000] (.ret r1 s1))) (.need [(fac1 kd 0).natAbs<1000000000000000000] (.need [(fac2 kd 0).natAbs<1000000000000000000] (.ret r2 s2))))
 (.need [0<gcdZ (lowT p q*lowT p q) (lowB p q*lowB p q)] (.br sq (.need [(fac1 kd 0).natAbs<1000000000000000000] (.need [(fac2 kd 0).natAbs<1000000000000000000] (.ret r3 s3))) (.need [(fac1 kd 0).natAbs<1000000000000000000] (.need [(fac2 kd 0).natAbs<1000000000000000000] (.ret r4 s4))))))
theorem tT_11:tT 11 p q=some (skT 11 p q true (.val (.one (.ptr 33 0))) (lR 11 p q [true,false]) (.val (.one (.ptr 67 0))) (lR 11 p q [false,false]) (lS 11 p q [true,true]) (lS 11 p q [true,false]) (lS 11 p q [false,true]) (lS 11 p q [false,false])):=by kernel_rfl
theorem tT_12:tT 12 p q=some (skT 12 p q false (lR 12 p q [true,true]) (.val (.one (.ptr 9 0))) (lR 12 p q [false,true]) (.val (.one (.ptr 42 0))) (lS 12 p q [true,true]) (lS 12 p q [true,false]) (lS 12 p q [false,true]) (lS 12 p q [false,false])):=by kernel_rfl
theorem tT_13:tT 13 p q=some (skT 13 p q true (.val (.one (.ptr 32 0))) (lR 13 p q [true,false]) (.val (.one (.ptr 65 0))) (lR 13 p q [false,false]) (lS 13 p q [true,true]) (lS 13 p q [true,false]) (lS 13 p q [false,true]) (lS 13 p q [false,false])):=by kernel_rfl
end
end Ab
open Go.RowKit
namespace Ab
open Rf (Nd Inv NInv)
def bxc (s:AS)(b:Nat):List AC:=match look s.boxes b with | some B=>B.cs | none=>[]
def colc (s:AS)(b:Nat):List AC:=((bxc s b).drop 1).take 16
structure IsNd (s:AS) (b:Nat) (zs:List Int) (cv lp rp nv:AC):Prop where
 look:look s.boxes b=some ⟨.bool false::colc s b++[cv,.int .i64 0,lp,.int .i64 0,rp,.int .i64 0,.lit nilS',.int .i64 0,nv,.int .i64 0],205,true,false,false⟩
 len:(colc s b).length=16
 num:numOf s.nums (colc s b)=some zs
structure IsNs (s:AS) (b:Nat) (kd:Int) (fst fur:AC) (zs:List Int):Prop where
 look:look s.boxes b=some ⟨.int .i64 kd::fst::fur::(bxc s b).drop 3,273,true,false,false⟩
 num:numOf s.nums ((bxc s b).drop 3)=some zs
structure IsCn (s:AS) (b:Nat) (kd:Int) (zs:List Int):Prop where
 look:look s.boxes b=some ⟨.int .i64 kd::.lit nilS'::(bxc s b).drop 2,224,true,false,false⟩
 num:numOf s.nums ((bxc s b).drop 2)=some zs
section
variable (p q:Int)
theorem c10_24:IsNd (lS 10 p q []) 24 [0,0,nearB (lowT p q) (lowB p q),0,nearA (lowT p q) (lowB p q),nearB (lowT p q) (lowB p q),0,nearA (lowT p q) (lowB p q)] (.lit nilP) (.ptr 2 0) (.lit nilP) (.ptr 22 0):=⟨by kernel_rfl,by kernel_rfl,by kernel_rfl⟩
theorem c10_22:IsNs (lS 10 p q []) 22 10 (.ptr 2 0) (.ptr 2 0) [0,0,nearB (lowT p q) (lowB p q),0,nearA (lowT p q) (lowB p q),nearB (lowT p q) (lowB p q),0,nearA (lowT p q) (lowB p q)]:=⟨by kernel_rfl,by kernel_rfl⟩
theorem c10_cl:clean (lS 10 p q [])=true:=by kernel_rfl
theorem b12_42:IsNd (lS 12 p q [false,false]) 42 [0,0,1,0,1,0,0,1] (.lit nilP) (.ptr 16 0) (.ptr 20 0) (.lit nilP):=⟨by kernel_rfl,by kernel_rfl,by kernel_rfl⟩
theorem b12_20:IsNd (lS 12 p q [false,false]) 20 (nsC 12 0) (.lit nilP) (.ptr 17 0) (.lit nilP) (.ptr 18 0):=⟨by kernel_rfl,by kernel_rfl,by kernel_rfl⟩
theorem b12_18:IsNs (lS 12 p q [false,false]) 18 12 (.ptr 17 0) (.ptr 17 0) [0,0,0,0,0,0,0,0]:=⟨by kernel_rfl,by kernel_rfl⟩
theorem b12_17:IsNd (lS 12 p q [false,false]) 17 [lowB p q,0,-lowT p q,lowT p q+lowB p q,0,0,0,0] (.lit nilP) (.lit nilP) (.ptr 2 0) (.lit nilP):=⟨by kernel_rfl,by kernel_rfl,by kernel_rfl⟩
theorem b12_16:IsNd (lS 12 p q [false,false]) 16 [1,0,0,1,0,0,0,0] (.ptr 13 0) (.lit nilP) (.lit nilP) (.lit nilP):=⟨by kernel_rfl,by kernel_rfl,by kernel_rfl⟩
theorem b12_13:IsCn (lS 12 p q [false,false]) 13 12 [lowT p q,lowB p q,lowT ((lowT p q)*lowT p q) ((lowB p q)*lowB p q),lowB ((lowT p q)*lowT p q) ((lowB p q)*lowB p q),0,0,0,0]:=⟨by kernel_rfl,by kernel_rfl⟩
theorem b12_cl:clean (lS 12 p q [false,false])=true:=by kernel_rfl
theorem b13_65:IsNd (lS 13 p q [false,true]) 65 [0,0,1,0,1,0,0,1] (.lit nilP) (.ptr 16 0) (.ptr 43 0) (.lit nilP):=⟨by kernel_rfl,by kernel_rfl,by kernel_rfl⟩
theorem b13_43:IsNd (lS 13 p q [false,true]) 43 (nsC 13 0) (.lit nilP) (.ptr 17 0) (.lit nilP) (.ptr 18 0):=⟨by kernel_rfl,by kernel_rfl,by kernel_rfl⟩
theorem b13_40:IsNd (lS 13 p q [false,true]) 40 [1,0,0,0,0,0,0,1] (.lit nilP) (.ptr 17 0) (.ptr 17 0) (.lit nilP):=⟨by kernel_rfl,by kernel_rfl,by kernel_rfl⟩
theorem b13_18:IsNs (lS 13 p q [false,true]) 18 13 (.ptr 17 0) (.ptr 40 0) [0,0,0,0,0,0,0,0]:=⟨by kernel_rfl,by kernel_rfl⟩
theorem b13_17:IsNd (lS 13 p q [false,true]) 17 [lowB p q,lowT p q,-lowT p q,lowB p q,0,0,0,0] (.lit nilP) (.lit nilP) (.ptr 2 0) (.lit nilP):=⟨by kernel_rfl,by kernel_rfl,by kernel_rfl⟩
theorem b13_16:IsNd (lS 13 p q [false,true]) 16 [1,0,0,1,0,0,0,0] (.ptr 13 0) (.lit nilP) (.lit nilP) (.lit nilP):=⟨by kernel_rfl,by kernel_rfl,by kernel_rfl⟩
theorem b13_13:IsCn (lS 13 p q [false,true]) 13 13 [lowT p q,lowB p q,lowT ((lowT p q)*lowT p q) ((lowB p q)*lowB p q),lowB ((lowT p q)*lowT p q) ((lowB p q)*lowB p q),0,0,0,0]:=⟨by kernel_rfl,by kernel_rfl⟩
theorem b13_cl:clean (lS 13 p q [false,true])=true:=by kernel_rfl
theorem b11_67:IsNd (lS 11 p q [false,true]) 67 [1,0,0,0,0,0,0,1] (.lit nilP) (.ptr 17 0) (.ptr 45 0) (.lit nilP):=⟨by kernel_rfl,by kernel_rfl,by kernel_rfl⟩
theorem b11_45:IsNd (lS 11 p q [false,true]) 45 [1,-1,1,1,0,0,0,0] (.lit nilP) (.lit nilP) (.ptr 44 0) (.lit nilP):=⟨by kernel_rfl,by kernel_rfl,by kernel_rfl⟩
theorem b11_44:IsNd (lS 11 p q [false,true]) 44 (nsC 11 0) (.lit nilP) (.ptr 18 0) (.lit nilP) (.ptr 19 0):=⟨by kernel_rfl,by kernel_rfl,by kernel_rfl⟩
theorem b11_41:IsNd (lS 11 p q [false,true]) 41 [1,0,0,0,0,0,0,1] (.lit nilP) (.ptr 18 0) (.ptr 18 0) (.lit nilP):=⟨by kernel_rfl,by kernel_rfl,by kernel_rfl⟩
theorem b11_19:IsNs (lS 11 p q [false,true]) 19 11 (.ptr 18 0) (.ptr 41 0) [0,0,0,0,0,0,0,0]:=⟨by kernel_rfl,by kernel_rfl⟩
theorem b11_18:IsNd (lS 11 p q [false,true]) 18 [lowB p q,0,-lowT p q,lowB p q,0,0,0,0] (.lit nilP) (.lit nilP) (.ptr 2 0) (.lit nilP):=⟨by kernel_rfl,by kernel_rfl,by kernel_rfl⟩
theorem b11_17:IsNd (lS 11 p q [false,true]) 17 [1,-1,1,1,0,0,0,0] (.lit nilP) (.lit nilP) (.ptr 16 0) (.lit nilP):=⟨by kernel_rfl,by kernel_rfl,by kernel_rfl⟩
theorem b11_16:IsNd (lS 11 p q [false,true]) 16 [1,0,0,1,0,0,0,0] (.ptr 13 0) (.lit nilP) (.lit nilP) (.lit nilP):=⟨by kernel_rfl,by kernel_rfl,by kernel_rfl⟩
theorem b11_13:IsCn (lS 11 p q [false,true]) 13 11 [lowT p q,lowB p q,lowT ((lowT p q)*lowT p q) ((lowB p q)*lowB p q),lowB ((lowT p q)*lowT p q) ((lowB p q)*lowB p q),0,0,0,0]:=⟨by kernel_rfl,by kernel_rfl⟩
theorem b11_cl:clean (lS 11 p q [false,true])=true:=by kernel_rfl
theorem a12_9:IsNd (lS 12 p q [true,false]) 9 [1,0,0,1,0,0,0,0] (.lit nilP) (.lit nilP) (.ptr 8 0) (.lit nilP):=⟨by kernel_rfl,by kernel_rfl,by kernel_rfl⟩
theorem a12_8:IsNd (lS 12 p q [true,false]) 8 (nsC 12 0) (.lit nilP) (.ptr 2 0) (.lit nilP) (.ptr 6 0):=⟨by kernel_rfl,by kernel_rfl,by kernel_rfl⟩
theorem a12_6:IsNs (lS 12 p q [true,false]) 6 12 (.ptr 2 0) (.ptr 2 0) [0,0,0,0,0,0,0,0]:=⟨by kernel_rfl,by kernel_rfl⟩
theorem a12_cl:clean (lS 12 p q [true,false])=true:=by kernel_rfl
theorem a13_32:IsNd (lS 13 p q [true,true]) 32 [1,0,0,1,0,0,0,0] (.lit nilP) (.lit nilP) (.ptr 31 0) (.lit nilP):=⟨by kernel_rfl,by kernel_rfl,by kernel_rfl⟩
theorem a13_31:IsNd (lS 13 p q [true,true]) 31 (nsC 13 0) (.lit nilP) (.ptr 2 0) (.lit nilP) (.ptr 6 0):=⟨by kernel_rfl,by kernel_rfl,by kernel_rfl⟩
theorem a13_28:IsNd (lS 13 p q [true,true]) 28 [1,0,0,0,0,0,0,1] (.lit nilP) (.ptr 2 0) (.ptr 2 0) (.lit nilP):=⟨by kernel_rfl,by kernel_rfl,by kernel_rfl⟩
theorem a13_6:IsNs (lS 13 p q [true,true]) 6 13 (.ptr 2 0) (.ptr 28 0) [0,0,0,0,0,0,0,0]:=⟨by kernel_rfl,by kernel_rfl⟩
theorem a13_cl:clean (lS 13 p q [true,true])=true:=by kernel_rfl
theorem a11_33:IsNd (lS 11 p q [true,true]) 33 [1,0,0,1,0,0,0,0] (.lit nilP) (.lit nilP) (.ptr 32 0) (.lit nilP):=⟨by kernel_rfl,by kernel_rfl,by kernel_rfl⟩
theorem a11_32:IsNd (lS 11 p q [true,true]) 32 [1,-1,1,1,0,0,0,0] (.lit nilP) (.lit nilP) (.ptr 31 0) (.lit nilP):=⟨by kernel_rfl,by kernel_rfl,by kernel_rfl⟩
theorem a11_31:IsNd (lS 11 p q [true,true]) 31 (nsC 11 0) (.lit nilP) (.ptr 2 0) (.lit nilP) (.ptr 6 0):=⟨by kernel_rfl,by kernel_rfl,by kernel_rfl⟩
theorem a11_28:IsNd (lS 11 p q [true,true]) 28 [1,0,0,0,0,0,0,1] (.lit nilP) (.ptr 2 0) (.ptr 2 0) (.lit nilP):=⟨by kernel_rfl,by kernel_rfl,by kernel_rfl⟩
theorem a11_6:IsNs (lS 11 p q [true,true]) 6 11 (.ptr 2 0) (.ptr 28 0) [0,0,0,0,0,0,0,0]:=⟨by kernel_rfl,by kernel_rfl⟩
theorem a11_cl:clean (lS 11 p q [true,true])=true:=by kernel_rfl
end
end Ab
open Go.RowKit
namespace Ab
open Rf (Nd Inv NInv)
section
variable {w0 w:World} {ψ φ:Nat->Option (Nat×Nat)} {s:AS}
theorem lit_val {ν:List (Int×Nat)}{v:Value}:∀ x,relC Z φ ν w (.lit v) x->x=v:=fun x h=>h.1
theorem ptr_v {ν:List (Int×Nat)}{b m:Nat}(h:φ b=some (m,0)):∀ x,relC Z φ ν w (.ptr b 0) x->x=ptrB m:=fun x hx=>ptr_val (ν:=ν) (w:=w) h hx
theorem IsNd.at {b:Nat}{zs:List Int}{cv lp rp nv:AC}{cvv lpv rpv nvv:Value}(h:IsNd s b zs cv lp rp nv)(hw:RepW Z w0 ψ φ s w){m:Nat}(hm:φ b=some (m,0))(e1:∀ x,relC Z φ s.nums w cv x->x=cvv)(e2:∀ x,relC Z φ s.nums w lp x->x=lpv)(e3:∀ x,relC Z φ s.nums w rp x->x=rpv)(e4:∀ x,relC Z φ s.nums w nv x->x=nvv):
  ∃ ys:List Value,w0.heap.size<=m/\w.heap[m]?=some (.cells ys.toArray 205 (0,0))/\ys.length=27/\(∀ y∈ys,One y)/\NodeAt w m zs false 0 0 0 0 0 lpv rpv nilS' cvv nvv:=by
 obtain ⟨m',ys,k1,k2,k3,k4⟩:=own_blk hw h.look rfl rfl
 rw [hm] at k1
 cases k1
 have hl:=k3.len
 refine ⟨ys,k4,k2,?_,all_ones k3,node_at' k3 k2 h.len h.num (fun x hx=>hx) e1 (fun x hx=>hx) e2 (fun x hx=>hx) e3 (fun x hx=>hx) lit_val (fun x hx=>hx) e4 (fun x hx=>hx)⟩
 simp [h.len] at hl
 omega
theorem IsNs.at {b:Nat}{kd:Int}{zs:List Int}{fst fur:AC}{fv uv:Value}(h:IsNs s b kd fst fur zs)(hw:RepW Z w0 ψ φ s w){m:Nat}(hm:φ b=some (m,0))(e1:∀ x,relC Z φ s.nums w fst x->x=fv)(e2:∀ x,relC Z φ s.nums w fur x->x=uv):
  ∃ xs:List Value,w0.heap.size<=m/\w.heap[m]?=some (.cells (.int .i64 kd::fv::uv::xs).toArray 273 (0,0))/\Hold true w zs xs:=by
 obtain ⟨m',ys,k1,k2,k3,k4⟩:=own_blk hw h.look rfl rfl
 rw [hm] at k1
 cases k1
 match ys,k3 with
 | y1::y2::y3::ys,⟨g1,g2,g3,g4⟩=>
 have g1:y1=.int .i64 kd:=g1
 rw [g1,e1 y2 g2,e2 y3 g3] at k2
 exact ⟨ys,k4,k2,numOf_ok _ _ _ h.num g4⟩
theorem IsCn.at {b:Nat}{kd:Int}{zs:List Int}(h:IsCn s b kd zs)(hw:RepW Z w0 ψ φ s w){m:Nat}(hm:φ b=some (m,0)):
  ∃ xs:List Value,w0.heap.size<=m/\w.heap[m]?=some (.cells (.int .i64 kd::nilS'::xs).toArray 224 (0,0))/\Hold true w zs xs:=by
 obtain ⟨m',ys,k1,k2,k3,k4⟩:=own_blk hw h.look rfl rfl
 rw [hm] at k1
 cases k1
 match ys,k3 with
 | y1::y2::ys,⟨g1,g2,g4⟩=>
 have g1:y1=.int .i64 kd:=g1
 rw [g1,show y2=nilS' from g2.1] at k2
 exact ⟨ys,k4,k2,numOf_ok _ _ _ h.num g4⟩
theorem own_phi {b:Nat}{B:Box}(hw:RepW Z w0 ψ φ s w)(hB:look s.boxes b=some B)(ho:B.own=true)(hr:B.ro=false):∃ m,φ b=some (m,0):=by
 obtain ⟨m,_,h,_⟩:=own_blk hw hB ho hr
 exact ⟨m,h⟩
theorem own_ne {b b' m m':Nat}{B B':Box}(hw:RepW Z w0 ψ φ s w)(hB:look s.boxes b=some B)(hr:B.ro=false)(hB':look s.boxes b'=some B')(h1:φ b=some (m,0))(h2:φ b'=some (m',0))(hne:b≠b'):m≠m':=by
 rintro rfl
 rcases hw.inj b b' B B' m 0 0 hB hB' h1 h2 with e | ⟨e,_⟩
 ·exact hne e
 ·rw [hr] at e;cases e
end
theorem settled_run {w:World}{xk:Nat}{kd p q:Int}{xs:List Value}(hx:∃ ys:List Value,w.heap[xk]?=some (.cells (.bool false::ys).toArray 205 (0,0)))(hh:Hold true w [p,q] xs)(hb:∀ z∈[p,q],Bits 1 z){tr:Tr}(ht:tT kd p q=some tr)(G:AT->AS->Prop)(hok:tr.ok G fun _ _=>False){R:Ending->World->Prop}
  (hG:∀ r s φ v w',G r s->relT Z φ s.nums w' r v->RepW Z w (ph1 2 xk) φ s w'->R (.returned v) w'):Calls Tryz.prog 236 #[.int .i64 kd,ptrB xk,.agg xs.toArray] w R:=by
 obtain ⟨ys,hys⟩:=hx
 have hrep:RepW Z w (ph1 2 xk) (ph1 2 xk) (stS kd p q) w:=by
  refine rep_ext rfl ?_ ?_ ?_
  ·intro b B hB
   have:=look_mem hB
   simp [stS] at this
   obtain ⟨rfl,rfl⟩:=this
   exact ⟨rfl,rfl,rfl,xk,0,rfl,[],[.bool false],ys,hys,rfl,rfl,trivial⟩
  ·intro b hb
   have:3<=b:=hb
   unfold ph1
   rw [if_neg (by omega)]
  ·intro b k' o hb'
   unfold ph1 at hb'
   split at hb'
   ·cases hb';exact lt_of_heap hys
   ·cases hb'
 refine ext_run (vs:=[.one (.int .i64 kd),.one (.ptr 2 0),.agg (numCs true 0 2)]) (args:=[.int .i64 kd,ptrB xk,.agg xs.toArray]) (fn_of Tryz.func236 rfl rfl) (tabSp_ok tS_ok) bT_ok (by kernel_rfl) ⟨rfl,⟨xk,0,rfl,rfl⟩,⟨xs,rfl,?_⟩,trivial⟩ hrep ht G hok hG
 exact hold_cs [p,q] xs 0 _ hh hb fun j z hz=>by
  match j,hz with
  | 0,hz=>cases hz;rfl
  | 1,hz=>cases hz;rfl
  | j+2,hz=>simp at hz
theorem low_eq {p q:Int}(hp:0<=p)(hq:0<q):∃ g:Int,0<g/\gcdZ p q=g/\p=g*lowT p q/\q=g*lowB p q/\0<=lowT p q/\0<lowB p q/\(lowT p q=0↔p=0):=by
 have hg:0<gcdZ p q:=by
  unfold gcdZ
  have:0<Nat.gcd p.natAbs q.natAbs:=Nat.gcd_pos_of_pos_right _ (by omega)
  omega
 have e1:lowT p q=p/gcdZ p q/\lowB p q=q/gcdZ p q:=by
  unfold lowT lowB
  rw [Nm.cmp_gt hq]
  exact ⟨rfl,rfl⟩
 have d1:gcdZ p q ∣ p:=by
  unfold gcdZ
  exact Int.ofNat_dvd_left.2 (Nat.gcd_dvd_left _ _)
 have d2:gcdZ p q ∣ q:=by
  unfold gcdZ
  exact Int.ofNat_dvd_left.2 (Nat.gcd_dvd_right _ _)
 have m1:p=gcdZ p q*(p/gcdZ p q):=(Int.mul_ediv_cancel' d1).symm
 have m2:q=gcdZ p q*(q/gcdZ p q):=(Int.mul_ediv_cancel' d2).symm
 rw [e1.1,e1.2]
 refine ⟨gcdZ p q,hg,rfl,m1,m2,Int.ediv_nonneg hp (by omega),?_,?_⟩
 ·rcases Int.lt_or_le 0 (q/gcdZ p q) with h | h
  ·exact h
  ·exfalso
   have:=Int.mul_nonpos_of_nonneg_of_nonpos (show (0:Int)<=gcdZ p q by omega) h
   omega
 ·constructor
  ·intro h
   rw [h] at m1
   simpa using m1
  ·intro h
   rw [h]
   simp
theorem cmp_le {a b:Int}:decide (Nm.cmp a b<=0)=decide (a<=b):=by
 rcases Int.lt_trichotomy a b with h | h | h
 ·rw [Nm.cmp_lt h,decide_eq_true (by decide),decide_eq_true (by omega)]
 ·rw [Nm.cmp_eq h,decide_eq_true (by decide),decide_eq_true (by omega)]
 ·rw [Nm.cmp_gt h,decide_eq_false (by decide),decide_eq_false (by omega)]
theorem enough_eq {op:Rf.Op}(hop:Rf.fn op)(hp hq lp lq:Int):enoughZ (kindZ op) hp hq lp lq=Pg.enough op (hp,hq) (lp,lq):=by
 unfold enoughZ Pg.enough
 rcases hop with rfl | rfl | rfl | rfl<;>simp [kindZ,cmp_le]
end Ab
open Go.RowKit
namespace Ab
open Rf (Nd Inv NInv)
structure Probe (w:World) (b0:Nat) (own:Nat->Option Own) (at1:Nat->Nat) (s:Rf.St) (rho:Nat->Nat) (i:Nat) (n:Nd) (a:Nat) (x:Nd) (e1 e2:Rf.V) (p0 q0 p1 q1 p2 q2 p3 q3 mt pl:Int) (gv cv nv:Value) (dd:Int):Prop where
 t:n.t=[(1,0),(0,1)]
 nest:n.nest=false
 args:n.args=[a]
 read:∃ r,n.read=[r]
 out:n.out=[]
 told:n.told=Rf.one
 had:n.had=[Rf.one]
 pos:n.pos=true
 k:n.k=0
 fn:Rf.fn n.op
 xat:s.nodes[a]?=some x
 xpos:x.pos=true
 rk:rho a<rho i
 ends:Rf.ends s.nodes n 0=some (e1,e2)
 seen:∃ l g cc nn,Seen w b0 own at1 s.nodes i n p0 q0 p1 q1 p2 q2 p3 q3 mt pl gv cv nv l g cc nn
 d0:0<dd
 c1:e1=Pg.sc dd (p0,q0)
 c2:e2=Pg.sc dd (p1,q1)
 lo:0<=p1
 lo2:0<q1
 bits:∀ z∈[p1,q1],Bits 1 z
 b1:Rf.VBits 6100 e2
theorem pos_mul_of {d x:Int}(hd:0<d):(0<=d*x↔0<=x)/\(0<d*x↔0<x):=by
 constructor
 ·constructor
  ·intro h
   rcases Int.lt_or_le x 0 with h1 | h1
   ·have:=Int.mul_neg_of_pos_of_neg hd h1;omega
   ·exact h1
  ·exact fun h=>Int.mul_nonneg (by omega) h
 ·constructor
  ·intro h
   rcases Int.lt_or_le 0 x with h1 | h1
   ·exact h1
   ·have:=Int.mul_nonpos_of_nonneg_of_nonpos (show (0:Int)<=d by omega) h1;omega
  ·exact fun h=>Int.mul_pos hd h
section
variable {w:World} {b0 fb:Nat} {own:Nat->Option Own} {at1:Nat->Nat} {i:Nat} {n:Nd} {s:Rf.St} {rho:Nat->Nat} {c:Nat}
theorem probe_pre (h:Net w b0 own at1 fb s)(hI:Inv s.nodes rho c)(hn:s.nodes[i]?=some n)(hp:n.probe=true):∃ a x e1 e2 p0 q0 p1 q1 p2 q2 p3 q3 mt pl gv cv nv dd,Probe w b0 own at1 s rho i n a x e1 e2 p0 q0 p1 q1 p2 q2 p3 q3 mt pl gv cv nv dd:=by
 have hN:=hI.at' i n hn
 obtain ⟨ht,hne⟩:=(h.nd i n hn).prb hp
 have hS:∃ a',n.args=[a']/\n.pos=true/\Rf.fn n.op/\n.out=[]/\Rf.Pos s.nodes a'/\n.k=0:=by
  cases hN.shp with
  | con ht ha hp' hc=>rw [hp] at hp';cases hp'
  | frac v ht ha hp' hv=>rw [hp] at hp';cases hp'
  | una v w a' ht ha' hp'=>
   obtain ⟨k1,k2,k3,k4,k5,k6⟩:=hp' hp
   exact ⟨a',ha',k1,k2,k3,k4,k6⟩
  | bin a' b v w x y ht ha' hp'=>rw [hp] at hp';cases hp'
  | nest a' v w x y ht ha' hp' hn' ok=>rw [hp] at hp';cases hp'
 obtain ⟨a,ha,hpos,hop,ho,⟨x,hx1,hx2⟩,hk⟩:=hS
 obtain ⟨r,hr⟩:∃ r,n.read=[r]:=List.length_eq_one_iff.1 (by rw [hN.len,ha];rfl)
 have hto:=hN.fst ho
 have hhad:n.had=[Rf.one]:=by
  have h1:=hN.hadl
  have h2:=hN.had0
  rw [ho] at h1
  obtain ⟨m,hm⟩:=List.length_eq_one_iff.1 h1
  rw [hm] at h2 ⊢
  simp at h2
  rw [h2]
 obtain ⟨m,x',r',g1,g2,g3,g4⟩:=Rf.ends_some hI hN (sd:=0) (a:=a) (by rw [ha];rfl)
 rw [hx1] at g1
 cases g1
 have hNx:=hI.at' a x hx1
 have hup:Rf.Up m:=(hNx.up hx2).2 m (List.mem_of_getElem? g3)
 have hmb:=hNx.hadb r' m g3
 have hr'l:r'<=3000:=by have:=hNx.outu;have:=hNx.hadl;have:=(List.getElem?_eq_some_iff.1 g3).1;omega
 obtain ⟨b1,b2⟩:=Rf.lo_bits hmb hr'l
 obtain ⟨l1,l2,_⟩:=Rf.lo_up hup
 obtain ⟨p0,q0,p1,q1,p2,q2,p3,q3,mt,pl,gv,cv,nv,l,g,cc,nn,hs⟩:=h.seen hI hn
 have hcor:Rf.corners s.nodes n=some [Rf.vat m (1,0),Rf.vat m (0,1)]:=by
  unfold Rf.corners
  rw [Pg.bare_two ht,g4,hto,Option.map_some,Option.map_some,Pg.map_one]
  have e:(⟨((1,0):Rf.V).1,((0,1):Rf.V).1,((1,0):Rf.V).2,((0,1):Rf.V).2⟩:Mt)=Rf.one:=rfl
  rw [e]
  simp only [Pg.vat_one]
 have hcof:=hs.cof
 have hl:=hs.cor
 rw [hcor] at hl
 cases hl
 obtain ⟨dd,hd,c1,c2,_,_⟩:=hcof.of2
 have hq:0<=p1/\0<q1:=by
  rw [c2] at l1 l2
  exact ⟨(pos_mul_of hd).1.1 l1,(pos_mul_of hd).2.1 l2⟩
 have hb:∀ z∈[p1,q1],Bits 1 z:=by
  rw [c2] at b1 b2
  intro z hz
  simp at hz
  rcases hz with rfl | rfl
  ·exact bits_up (N:=6100) (by decide) (Nat.lt_of_le_of_lt (Pg.abs_sc hd _) b1)
  ·exact bits_up (N:=6100) (by decide) (Nat.lt_of_le_of_lt (Pg.abs_sc hd _) b2)
 exact ⟨a,x,_,_,p0,q0,p1,q1,p2,q2,p3,q3,mt,pl,gv,cv,nv,dd,ht,hne,ha,⟨r,hr⟩,ho,hto,hhad,hpos,hk,hop,hx1,hx2,(hN.arg 0 a (by rw [ha];rfl)).2,g4,⟨_,g,cc,nn,hs⟩,hd,c1,c2,hq.1,hq.2,hb,⟨b1,b2⟩⟩
theorem arg_pos (h:Net w b0 own at1 fb s)(hI:Inv s.nodes rho c){a:Nat}{x:Nd}(hx:s.nodes[a]?=some x)(hp:x.pos=true):∃ ys:List Value,w.heap[at1 a]?=some (.cells (.bool false::ys).toArray 205 (0,0)):=by
 obtain ⟨p0,q0,p1,q1,p2,q2,p3,q3,mt,pl,gv,cv,nv,hb,_⟩:=(h.nd a x hx).ex
 obtain ⟨xs,h1,_⟩:=hb.nd.ex
 rw [hp] at h1
 exact ⟨_,h1⟩
theorem kind_uns {op:Rf.Op}(h:Rf.fn op):kindZ op=10\/kindZ op=11\/kindZ op=12\/kindZ op=13:=by
 rcases h with rfl | rfl | rfl | rfl
 ·exact Or.inl rfl
 ·exact Or.inr (Or.inl rfl)
 ·exact Or.inr (Or.inr (Or.inl rfl))
 ·exact Or.inr (Or.inr (Or.inr rfl))
theorem settle_of (hturn:∀ (w:World) (b0 fb:Nat) (own:Nat->Option Own) (at1:Nat->Nat) (s:Rf.St) (rho:Nat->Nat) (c i:Nat) (n:Nd) (ns':List Nd) (a:Nat) (x:Nd) (e1 e2:Rf.V) (p0 q0 p1 q1 p2 q2 p3 q3 mt pl:Int) (gv cv nv:Value) (dd:Int),Net w b0 own at1 fb s->b0<=w.heap.size->c<=3000->Inv s.nodes rho c->s.nodes[i]?=some n->n.probe=true->Probe w b0 own at1 s rho i n a x e1 e2 p0 q0 p1 q1 p2 q2 p3 q3 mt pl gv cv nv dd->(n.op=.sqrt->0<p1)->Rf.turn (s.nodes.set i {n with read:=[0],probe:=false}) i {n with read:=[0],probe:=false} e2=some ns'->∀ w1 xs,Chg w w1 []->Hold true w1 [p1,q1] xs->
  Calls Tryz.prog 236 #[.int .i64 (kindZ n.op),ptrB (at1 a),.agg xs.toArray] w1 fun e w2=>∃ m,∃ ys:List Value,e=.returned (ptrB m)/\Chg w1 w2 []/\w1.heap.size<=m/\w2.heap[m]?=some (.cells ys.toArray 205 (0,0))/\ys.length=27/\(∀ y∈ys,One y)/\∀ w3,Chg w2 w3 [at1 i]->w3.heap[at1 i]?=some (.cells ys.toArray 205 (0,0))->Res w b0 own at1 fb s.nodes.length true ⟨ns',s.clock⟩ w3):SettleOk:=by
 intro w b0 fb own at1 s rho c i n ns' h hb0 hc3 hI hn hset
 have hs0:(⟨s.nodes,s.clock⟩:Rf.St)=s:=rfl
 have still:∀ {w':World},Chg w w' []->ns'=s.nodes->Res w b0 own at1 fb s.nodes.length true ⟨ns',s.clock⟩ w':=by
  intro w' hc e
  subst e
  exact ⟨own,Kept.still hc,fun _=>⟨at1,h.still hI hc,fun _ _=>rfl⟩⟩
 unfold Rf.settle at hset
 cases hp:n.probe with
 | false=>
  rw [hp] at hset
  simp only [Bool.false_eq_true,if_false,Option.some.injEq] at hset
  obtain ⟨p0,q0,p1,q1,p2,q2,p3,q3,mt,pl,gv,cv,nv,l,g,cc,nn,hs⟩:=h.seen hI hn
  have hu:unsZ n=0:=by unfold unsZ;rw [hp];rfl
  refine (settle_none (h.pos2 hs) (Or.inl hu)).mono ?_
  rintro e w' ⟨v,rfl,hc⟩
  exact ⟨v,rfl,still hc hset.symm⟩
 | true=>
  rw [hp] at hset
  simp only [if_true] at hset
  obtain ⟨a,x,e1,e2,p0,q0,p1,q1,p2,q2,p3,q3,mt,pl,gv,cv,nv,dd,hpr⟩:=probe_pre h hI hn hp
  obtain ⟨l,g,cc,nn,hs⟩:=hpr.seen
  rw [hpr.ends,Option.bind_some] at hset
  have hu:unsZ n=kindZ n.op:=by unfold unsZ;rw [hp];rfl
  have hkn:Rf.known n.op e2 e1=enoughZ (kindZ n.op) p0 q0 p1 q1:=by
   rw [enough_eq hpr.fn,hpr.c1,hpr.c2]
   exact Pg.known_sc hpr.fn hpr.d0 _ _
  have hpos:=h.pos2 hs
  rw [hu] at hpos
  simp only at hset
  by_cases hk:Rf.known n.op e2 e1=true
  ·rw [if_pos hk] at hset
   obtain ⟨ns1,hput,hset⟩:=Option.bind_eq_some_iff.1 hset
   have hns1:=(put_eq hput).1
   subst hns1
   obtain ⟨r,hr⟩:=hpr.read
   have hrd:n.read.set 0 0=[0]:=by rw [hr];rfl
   rw [hrd] at hset
   have hrA:rArg n=some a:=by unfold rArg;rw [hpr.t,hpr.args];rfl
   have hsq:n.op=.sqrt->0<p1:=by
    intro e
    rw [e] at hk
    have hk':decide (e1.1*e2.2<=2*(e2.1*e1.2))=true:=hk
    rcases Int.lt_or_le 0 p1 with h1 | h1
    ·exact h1
    ·exfalso
     have hp1:p1=0:=by have:=hpr.lo;omega
     -- the upper end is above the lower one
     have hN:=hI.at' i n hn
     obtain ⟨m,x',r',g1,g2,g3,g4⟩:=Rf.ends_some hI hN (sd:=0) (a:=a) (by rw [hpr.args];rfl)
     rw [hpr.xat] at g1
     cases g1
     rw [hpr.ends] at g4
     have g5:e1=Rf.vat m (1,0)/\e2=Rf.vat m (0,1):=by
      have:=Option.some.inj g4
      exact ⟨congrArg Prod.fst this,congrArg Prod.snd this⟩
     have hNx:=hI.at' a x hpr.xat
     have hup:Rf.Up m:=(hNx.up hpr.xpos).2 m (List.mem_of_getElem? g3)
     obtain ⟨_,_,l3⟩:=Rf.lo_up hup
     rw [g5.1,g5.2] at hk
     have h3:=l3 hk
     rw [<-g5.2,hpr.c2,hp1] at h3
     simp [Pg.sc] at h3
   refine settle_calls hpos (kind_uns hpr.fn) (by rw [<-hkn];exact hk) fun w1 xs c1 hh=>?_
   rw [hrA]
   refine (hturn w b0 fb own at1 s rho c i n ns' a x e1 e2 p0 q0 p1 q1 p2 q2 p3 q3 mt pl gv cv nv dd h hb0 hc3 hI hn hp hpr hsq hset w1 xs c1 hh).mono ?_
   rintro e w2 ⟨m,ys,rfl,c2,hm,k1,k2,k3,k4⟩
   have hlt:at1 i<w1.heap.size:=Nat.lt_of_lt_of_le hpos.nd.lt c1.on.size
   refine ⟨m,ys,rfl,by omega,k1,k2,k3,?_,k4⟩
   have:=(hpos.keep c1).keep c2
   rw [hrA] at this
   exact this
  ·rw [if_neg hk] at hset
   have hk':enoughZ (kindZ n.op) p0 q0 p1 q1=false:=by
    rw [<-hkn]
    simpa using hk
   refine (settle_none hpos (Or.inr ⟨kind_uns hpr.fn,hk'⟩)).mono ?_
   rintro e w' ⟨v,rfl,hc⟩
   exact ⟨v,rfl,still hc (Option.some.inj hset).symm⟩
end
end Ab
end Go.Proofs.YteghhlfmcjmnoaaGreatDoor
