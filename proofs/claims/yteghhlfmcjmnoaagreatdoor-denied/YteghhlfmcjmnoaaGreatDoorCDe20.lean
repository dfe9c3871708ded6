import Derived.Test.YteghhlfmcjmnoaaGreatDoorCDe19
import Derived.Test.YteghhlfmcjmnoaaGreatDoorCDe17
import Derived.Test.YteghhlfmcjmnoaaGreatDoorCDe16
import Derived.Test.YteghhlfmcjmnoaaGreatDoorCDe09
set_option linter.unusedSimpArgs false
set_option linter.unusedVariables false
set_option maxRecDepth 100000
set_option maxHeartbeats 2000000
namespace Go.Proofs.YteghhlfmcjmnoaaGreatDoor
open Go.RowKit
namespace Ab
open Rf (Nd Inv NInv Wt)
theorem sT_rep {w:World} {k:Nat} {kd x:Int} {tv lv rv:Value} (h:w.heap[k]?=some (.cells #[.int .i64 kd,.int .i64 x,tv,lv,rv] 163 (0,0))) (o1:One tv) (o2:One lv) (o3:One rv) (tm:List AT):RepW Z w (ph1 0 k) (ph1 0 k) (sT kd x tv lv rv tm) w:=by
 refine rep_ext rfl ?_ ?_ ?_
 ·intro b B hB
  have:=look_mem hB
  simp only [sT,List.mem_singleton,Prod.mk.injEq] at this
  obtain ⟨rfl,rfl⟩:=this
  exact ⟨rfl,rfl,rfl,k,0,rfl,[],[.int .i64 kd,.int .i64 x,tv,lv,rv],[],h,rfl,rfl,rfl,⟨rfl,o1⟩,⟨rfl,o2⟩,⟨rfl,o3⟩,trivial⟩
 ·intro b hb
  have:1≤b:=hb
  unfold ph1
  rw [if_neg (by omega)]
 ·intro b k' o hb'
  unfold ph1 at hb'
  split at hb'
  ·cases hb';exact lt_of_heap h
  ·cases hb'
theorem sU_tm {d:Nat} {r:AT} {ts:List AT} (h:ts.length=79) (hs:putT (List.replicate 79 .top) (some d) r=slot [(d,r)] 0 79):(sU (slot [(d,r)] 0 79)).tmps=putT (keepT [] [] 0 ts) (some d) r:=by
 rw [keep_none,h]
 exact hs.symm
theorem tup_rel {w:World} {φ:Nat→Option (Nat×Nat)} {ν:List (Int×Nat)} {v:Value} {e:Int} (o:One v):relT Z φ ν w (tuT v e) (.tuple #[v,.int .i64 e]):=⟨[v,.int .i64 e],rfl,⟨rfl,o⟩,rfl,trivial⟩
theorem tailT {d:Nat} {r:AT} {v:Value} {e:Int} {ks:List (K (List AT))} (ht:(tTail ks (sU (slot [(d,r)] 0 79))).bind retL=some (tuT v e,true)) {R:Ending→World→Prop} {w':World} (hR:∀ w2,Chg w' w2 []→R (.returned (.tuple #[v,.int .i64 e])) w2) {kcs:List (K Act)} {a:Act} (hsr:∀ φ' ν' w'',SR Z φ' ν' w'' ks kcs) (hr:Rep Z w' (fun _=>none) (fun _=>none) (sU (slot [(d,r)] 0 79)) a w'):sem Z.P R kcs .normal a w':=by
 obtain ⟨tr,h1,h2⟩:=bnd ht
 match tr,h2 with
 | .ret r s,h2=>
  simp only [retL,Option.some.injEq,Prod.mk.injEq] at h2
  obtain ⟨rfl,hc⟩:=h2
  refine run_ok (tabSp_ok tP_ok) bP_ok (drawA_ok mixed (tabSp_ok tP_ok)) (fun r s=>r=tuT v e∧clean s=true) (fun _ _=>False) (fun _ _ h=>h.elim) ?_ _ _ _ _ h1 ⟨rfl,hc⟩ kcs _ a w' (hsr _ _ _) hr
  rintro r s φ x w2 ⟨rfl,hc⟩ hrel hw
  rw [tup_val hrel lit_val]
  exact hR w2 (Chg.of_below (RepF.below hw hc))
 | .br _ _ _,h2=>cases h2
 | .need _ _,h2=>cases h2
 | .stop _ _,h2=>cases h2
theorem lastT {d:Nat} {w0 w:World} {ψ φ:Nat→Option (Nat×Nat)} {s:AS} {a:Act} {ks ks2:List (K (List AT))} {kcs:List (K Act)} {f:FuncId} {vs:List AV} {R:Ending→World→Prop} (h:callAt Z s ks=some (f,vs,some d,ks2)) (hen:Enters Z.P f) (hfr:noFr ks=true) (hsr:∀ φ' ν' w'',SR Z φ' ν' w'' ks kcs) (hr:Rep Z w0 ψ φ s a w) (hl:s.tmps.length=79) (hs:∀ r,putT (List.replicate 79 .top) (some d) r=slot [(d,r)] 0 79)
  (H:∀ xs:List Value,All2 (relV Z φ s.nums w) vs xs→Calls Z.P f xs.toArray w fun e w'=>∃ v x,∃ r:AT,∃ e':Int,e=.returned x∧relT Z (fun _=>none) [] w' r x∧(tTail ks2 (sU (slot [(d,r)] 0 79))).bind retL=some (tuT v e',true)∧∀ w2,Chg w' w2 []→R (.returned (.tuple #[v,.int .i64 e'])) w2):sem Z.P R kcs .normal a w:=by
 refine callAt_ok h hen hfr (hsr φ s.nums w) hr fun xs hxs=>(H xs hxs).mono ?_
 rintro e w' ⟨v,x,r,e',rfl,ho,ht,hR⟩
 refine ⟨x,rfl,fun kcs2 hf2 hsr2=>?_⟩
 exact tailT ht hR hsr2 (rep_aft (kb:=[]) (kt:=[]) hr rep_emp (sU_tm hl (hs r)) (fun b hb=>by simp at hb) ho)
theorem Told2.on {w w1 w2 w3:World} {x:Option Wt} {e:Ending} (h1:Chg w w1 []) (h:Told2 w1 x e w2) (h3:Chg w2 w3 []):Told2 w x e w3:=by
 cases x with
 | none=>exact ⟨(h1.trans h.1).trans h3,h.2⟩
 | some t=>
  obtain ⟨hc,v,he,hp⟩:=h
  exact ⟨(h1.trans hc).trans h3,v,he,PartAt.keep h3.on t v hp⟩
theorem TermsAt.one {rb:Nat} {w:World} {ts:List Int} {tv:Value} (h:TermsAt rb w ts tv):One tv:=by
 rcases h with ⟨_,rfl⟩ | ⟨tb,cap,cur,rfl,_⟩ <;> rfl
theorem Enc.one {rb:Nat} {w:World}:∀ {t:Rd.Tr} {v:Value},Enc rb w t v→One v
 | .nil,_,h=>by rw [show _=Value.pointer none from h];rfl
 | .node _ _ _ _ _,_,⟨b,tv,lv,rv,h,_⟩=>by rw [h];rfl
theorem Told2.one {w w':World} {x:Option Wt} {e:Ending} (h:Told2 w x e w'):∃ v e',e=.returned (.tuple #[v,.int .i64 e'])∧One v∧((x=none∧v=nilP∧e'=5)∨(∃ t,x=some t∧e'=0∧PartAt w' t v)):=by
 cases x with
 | none=>exact ⟨nilP,5,h.2,rfl,Or.inl ⟨rfl,rfl,rfl⟩⟩
 | some t=>
  obtain ⟨hc,v,he,hp⟩:=h
  obtain ⟨k,rfl⟩:=PartAt.ptr t v hp
  exact ⟨ptrB k,0,he,rfl,Or.inr ⟨t,rfl,rfl,hp⟩⟩
section
variable {w:World} {b rb:Nat} {kd x:Int} {tv lv rv:Value} {R:Ending→World→Prop}
theorem ptr0_v {w0 w':World} {φ:Nat→Option (Nat×Nat)} {ν:List (Int×Nat)} {s:AS} {k:Nat} {u:Value} (hw:RepW Z w0 (ph1 0 k) φ s w') (h:relV Z φ ν w' (.one (.ptr 0 0)) u):u=ptrB k:=ptr_val (hw.base 0 (k,0) rfl) h
theorem of_1 (hn:x.natAbs < 1000000000000000000) (hb:w.heap[b]?=some (.cells #[.int .i64 1,.int .i64 x,tv,lv,rv] 163 (0,0))) (o1:One tv) (o2:One lv) (o3:One rv):Calls Tryz.prog 66 #[ptrB b] w (Told2 w (some (.fr x 1))):=by
 refine ext_run (φ:=ph1 0 b) (s:=sT 1 x tv lv rv ofT) (vs:=[.one (.ptr 0 0)]) (args:=[ptrB b]) (fn_of Tryz.func66 rfl rfl) (tabSp_ok tP_ok) bP_ok (by kernel_rfl) ⟨⟨b,0,rfl,rfl⟩,trivial⟩ (sT_rep hb o1 o2 o3 _) (u_1 x tv lv rv) (fun r s=>r=tupE (.ptr 2 0) 0∧IsPt s 2 1 [x,1] (.lit nilP) (.lit nilP)∧clean s=true) ⟨holds1 hn,rfl,u_1p x tv lv rv,u_1c x tv lv rv⟩ ?_
 rintro r s φ v w' ⟨rfl,hI,hc⟩ hrel hw
 have hch:Chg w w' []:=Chg.of_below (RepF.below hw hc)
 obtain ⟨m,ys,j1,j2,j3⟩:=hI.at hw lit_val lit_val
 exact .yes (v:=ptrB m) rfl hch (by rw [tup_val hrel (ptr_v j1)]) (pt_fr j2 j3)
theorem of_C (hkd:kd=2∨kd=3∨kd=4) (hb:w.heap[b]?=some (.cells #[.int .i64 kd,.int .i64 x,tv,lv,rv] 163 (0,0))) (o1:One tv) (o2:One lv) (o3:One rv) (hcall:∀ w1,Chg w w1 []→Calls Tryz.prog 103 #[ptrB b] w1 fun e w2=>∃ v,e=.returned v∧One v∧∀ w3,Chg w2 w3 []→R (.returned (.tuple #[v,.int .i64 0])) w3):Calls Tryz.prog 66 #[ptrB b] w R:=by
 have F:=fn_of Tryz.func66 rfl rfl
 refine calls_x F (φ:=ph1 0 b) (vs:=[.one (.ptr 0 0)]) (args:=[ptrB b]) (s:=sT kd x tv lv rv ofT) (by kernel_rfl) ⟨⟨b,0,rfl,rfl⟩,trivial⟩ (sT_rep hb o1 o2 o3 _) ?_
 refine xrun' (tabSp_ok tP_ok) bP_ok ph1_kb (nrm_R ph1_kb) (u_C x tv lv rv hkd) (fun _ _=>False) (fun ks s=>ks=bef (pD 26) Tryz.f66∧s=sT kd x tv lv rv (slot [(25,P0)] 0 79)) ⟨rfl,rfl⟩ (fun _ _ _ _ _ h=>h.elim) ?_
 rintro ks s ⟨rfl,rfl⟩
 refine ⟨fr_of.1,fun kcs φ1 a1 w1 hsr1 hr1=>?_⟩
 have c1:Chg w w1 []:=Chg.of_below (RepF.below hr1.wd rfl)
 refine lastT (z_C x kd tv lv rv) (fn_of Tryz.func103 rfl rfl).en fr_of.1 hsr1 hr1 rfl (fun r=>by kernel_rfl) fun us hus=>?_
 match us,hus with
 | [u1],⟨hu1,_⟩=>
 rw [ptr0_v hr1.wd hu1]
 refine (hcall w1 c1).mono ?_
 rintro e w2 ⟨v,rfl,ho,hR⟩
 exact ⟨v,v,litT v,0,rfl,⟨rfl,ho⟩,y_C v,hR⟩
theorem of_L (hkd:kd=5∨kd=6∨kd=7∨kd=8∨kd=9∨kd=10∨kd=11∨kd=12∨kd=13) (hb:w.heap[b]?=some (.cells #[.int .i64 kd,.int .i64 x,tv,lv,rv] 163 (0,0))) (o1:One tv) (o2:One lv) (o3:One rv) {xl:Option Wt} (hcall:∀ w1,Chg w w1 []→Calls Tryz.prog 66 #[lv] w1 (Told2 w1 xl))
  (hno:xl=none→∀ w3,Chg w w3 []→R (.returned (.tuple #[nilP,.int .i64 5])) w3)
  (hyes:∀ t v w2 kcs a,xl=some t→Chg w w2 []→PartAt w2 t v→One v→(∀ φ' ν' w'',SR Z φ' ν' w'' (aft (pD 32) Tryz.f66) kcs)→Rep Z w2 (ph1 0 b) (ph1 0 b) (sT kd x tv lv rv (slot [(0,P0),(32,tuT v 0)] 0 79)) a w2→sem Z.P R kcs .normal a w2):Calls Tryz.prog 66 #[ptrB b] w R:=by
 have F:=fn_of Tryz.func66 rfl rfl
 refine calls_x F (φ:=ph1 0 b) (vs:=[.one (.ptr 0 0)]) (args:=[ptrB b]) (s:=sT kd x tv lv rv ofT) (by kernel_rfl) ⟨⟨b,0,rfl,rfl⟩,trivial⟩ (sT_rep hb o1 o2 o3 _) ?_
 refine xrun' (tabSp_ok tP_ok) bP_ok ph1_kb (nrm_R ph1_kb) (u_L x tv lv rv hkd) (fun _ _=>False) (fun ks s=>ks=bef (pD 32) Tryz.f66∧s=sT kd x tv lv rv (slot [(0,P0),(31,litT lv)] 0 79)) ⟨rfl,rfl⟩ (fun _ _ _ _ _ h=>h.elim) ?_
 rintro ks s ⟨rfl,rfl⟩
 refine ⟨fr_of.2.1,fun kcs φ1 a1 w1 hsr1 hr1=>?_⟩
 have c1:Chg w w1 []:=Chg.of_below (RepF.below hr1.wd rfl)
 refine callAt_ok (z_L x kd tv lv rv) F.en fr_of.2.1 (hsr1 φ1 [] w1) hr1 fun us hus=>?_
 match us,hus with
 | [u1],⟨hu1,_⟩=>
 have hu1:u1=lv:=hu1.1
 rw [hu1]
 refine (hcall w1 c1).mono ?_
 rintro e w2 hT
 have c2:=hT.1
 obtain ⟨v,e',rfl,ho,h⟩:=hT.one
 refine ⟨_,rfl,fun kcs2 hf2 hsr2=>?_⟩
 rcases h with ⟨hx,rfl,rfl⟩ | ⟨t,hx,rfl,hp⟩
 ·exact tailT u_L5 (hR:=fun w3 hc3=>hno hx w3 ((c1.trans c2).trans hc3)) hsr2 (rep_aft (kb:=[]) (kt:=[]) hr1 rep_emp (sU_tm rfl (by kernel_rfl)) (fun b hb=>by simp at hb) (tup_rel ho))
 ·have c12:=c1.trans c2
  refine hyes t v w2 kcs2 _ hx c12 hp ho hsr2 ?_
  refine rep_aft (kb:=[0]) (kt:=[0]) (r:=tuT v 0) hr1 (sT_rep (c12.at hb (by simp)) o1 o2 o3 _) (by kernel_rfl) (fun b' hb'=>?_) (tup_rel ho)
  have:b'=0:=by simpa using hb'
  subst this
  exact (hr1.wd.base 0 (b,0) rfl).symm
theorem of_M (hb:w.heap[b]?=some (.cells #[.int .i64 5,.int .i64 x,tv,lv,rv] 163 (0,0))) (o1:One tv) (o2:One lv) (o3:One rv) {xl:Option Wt} (hok:∀ t,xl=some t→t.Ok) (hcall:∀ w1,Chg w w1 []→Calls Tryz.prog 66 #[lv] w1 (Told2 w1 xl)):Calls Tryz.prog 66 #[ptrB b] w (Told2 w (xl.map negW)):=by
 refine of_L (Or.inl rfl) hb o1 o2 o3 hcall (fun e w3 hc=>.no (by rw [e];rfl) hc rfl) ?_
 intro t v w2 kcs a hx c12 hp ho hsr hr
 refine xrun' (tabSp_ok tP_ok) bP_ok ph1_kb (nrm_R ph1_kb) (u_M x tv lv rv v) (fun _ _=>False) (fun ks s=>ks=bef (pD 45) Tryz.f66∧s=sT 5 x tv lv rv (slot [(44,litT v)] 0 79)) ⟨rfl,rfl⟩ (fun _ _ _ _ _ h=>h.elim) ?_ kcs _ _ _ (hsr _ _ _) hr
 rintro ks s ⟨rfl,rfl⟩
 refine ⟨fr_of.2.2.1,fun kcs φ3 a3 w3 hsr3 hr3=>?_⟩
 have c3:Chg w2 w3 []:=Chg.of_below (RepF.below hr3.wd rfl)
 refine lastT (z_M x 5 tv lv rv v) (fn_of Tryz.func104 rfl rfl).en fr_of.2.2.1 hsr3 hr3 rfl (fun r=>by kernel_rfl) fun us hus=>?_
 match us,hus with
 | [u1],⟨hu1,_⟩=>
 have hu1:u1=v:=hu1.1
 rw [hu1]
 refine (minus_ok (hok t hx) (PartAt.keep c3.on t v hp)).mono ?_
 rintro e w4 ⟨v',rfl,c4,hp'⟩
 obtain ⟨k,rfl⟩:=PartAt.ptr _ v' hp'
 exact ⟨ptrB k,ptrB k,litT (ptrB k),0,rfl,⟨rfl,rfl⟩,y_M _,fun w5 c5=>.yes (by rw [hx];rfl) (((c12.trans c3).trans c4).trans c5) rfl (PartAt.keep c5.on _ _ hp')⟩
theorem of_F {op:Rf.Op} (hop:Rf.fn op) (hb:w.heap[b]?=some (.cells #[.int .i64 (kindZ op),.int .i64 x,tv,lv,rv] 163 (0,0))) (o1:One tv) (o2:One lv) (o3:One rv) {xl:Option Wt} (hok:∀ t,xl=some t→t.Ok) (hcall:∀ w1,Chg w w1 []→Calls Tryz.prog 66 #[lv] w1 (Told2 w1 xl)):Calls Tryz.prog 66 #[ptrB b] w (Told2 w (xl.bind (fnW op))):=by
 have hk:=kind_uns hop
 refine of_L (by omega) hb o1 o2 o3 hcall (fun e w3 hc=>.no (by rw [e];rfl) hc rfl) ?_
 intro t v w2 kcs a hx c12 hp ho hsr hr
 refine xrun' (tabSp_ok tP_ok) bP_ok ph1_kb (nrm_R ph1_kb) (u_F x tv lv rv v hk) (fun _ _=>False) (fun ks s=>ks=bef (pD 56) Tryz.f66∧s=sT (kindZ op) x tv lv rv (slot [(54,.val (.one (.int .i64 (kindZ op)))),(55,litT v)] 0 79)) ⟨rfl,rfl⟩ (fun _ _ _ _ _ h=>h.elim) ?_ kcs _ _ _ (hsr _ _ _) hr
 rintro ks s ⟨rfl,rfl⟩
 refine ⟨fr_of.2.2.2.1,fun kcs φ3 a3 w3 hsr3 hr3=>?_⟩
 have c3:Chg w2 w3 []:=Chg.of_below (RepF.below hr3.wd rfl)
 refine lastT (z_F x (kindZ op) tv lv rv v) (fn_of Tryz.func105 rfl rfl).en fr_of.2.2.2.1 hsr3 hr3 rfl (fun r=>by kernel_rfl) fun us hus=>?_
 match us,hus with
 | [u1,u2],⟨hu1,hu2,_⟩=>
 have hu1:u1=.int .i64 (kindZ op):=hu1
 have hu2:u2=v:=hu2.1
 rw [hu1,hu2]
 refine (function_ok hop (hok t hx) (PartAt.keep c3.on t v hp)).mono ?_
 rintro e w4 hT
 obtain ⟨v',e',rfl,ho',h⟩:=hT.one
 refine ⟨v',_,tuT v' e',e',rfl,tup_rel ho',y_F _ _,fun w5 c5=>?_⟩
 rw [hx]
 exact hT.on (c12.trans c3) c5
theorem of_B (kk:Rf.Kind) (hb:w.heap[b]?=some (.cells #[.int .i64 (kdK kk),.int .i64 x,tv,lv,rv] 163 (0,0))) (o1:One tv) (o2:One lv) (o3:One rv) {xl xr:Option Wt} (hok:∀ t,xl=some t→t.Ok) (hok2:∀ t,xr=some t→t.Ok) (hcall:∀ w1,Chg w w1 []→Calls Tryz.prog 66 #[lv] w1 (Told2 w1 xl)) (hcall2:∀ w1,Chg w w1 []→Calls Tryz.prog 66 #[rv] w1 (Told2 w1 xr)):Calls Tryz.prog 66 #[ptrB b] w (Told2 w (xl.bind fun u=>xr.bind fun v=>opW kk u v)):=by
 have F:=fn_of Tryz.func66 rfl rfl
 have hk:kdK kk=6∨kdK kk=7∨kdK kk=8∨kdK kk=9:=by cases kk <;> simp [kdK]
 refine of_L (by omega) hb o1 o2 o3 hcall (fun e w3 hc=>.no (by rw [e];rfl) hc rfl) ?_
 intro t v w2 kcs a hx c12 hp ho hsr hr
 refine xrun' (tabSp_ok tP_ok) bP_ok ph1_kb (nrm_R ph1_kb) (u_B x tv lv rv v kk) (fun _ _=>False) (fun ks s=>ks=bef (pD 64) Tryz.f66∧s=sT (kdK kk) x tv lv rv (slot [(0,P0),(4,litT v),(63,litT rv)] 0 79)) ⟨rfl,rfl⟩ (fun _ _ _ _ _ h=>h.elim) ?_ kcs _ _ _ (hsr _ _ _) hr
 rintro ks s ⟨rfl,rfl⟩
 obtain ⟨_,_,_,_,f64,f76⟩:=fr_of
 refine ⟨f64,fun kcs φ3 a3 w3 hsr3 hr3=>?_⟩
 have c3:Chg w2 w3 []:=Chg.of_below (RepF.below hr3.wd rfl)
 have c13:=c12.trans c3
 refine callAt_ok (z_B x (kdK kk) tv lv rv v) F.en f64 (hsr3 φ3 [] w3) hr3 fun us hus=>?_
 match us,hus with
 | [u1],⟨hu1,_⟩=>
 have hu1:u1=rv:=hu1.1
 rw [hu1]
 refine (hcall2 w3 c13).mono ?_
 rintro e w4 hT
 have c4:=hT.1
 obtain ⟨v2,e',rfl,ho2,h⟩:=hT.one
 refine ⟨_,rfl,fun kcs4 hf4 hsr4=>?_⟩
 rcases h with ⟨hx2,rfl,rfl⟩ | ⟨t2,hx2,rfl,hp2⟩
 ·exact tailT u_B5 (hR:=fun w5 hc5=>.no (by rw [hx,hx2];rfl) ((c13.trans c4).trans hc5) rfl) hsr4 (rep_aft (kb:=[]) (kt:=[]) hr3 rep_emp (sU_tm rfl (by kernel_rfl)) (fun b hb=>by simp at hb) (tup_rel ho2))
 ·have c14:=c13.trans c4
  have hr4:Rep Z w4 (ph1 0 b) (ph1 0 b) (sT (kdK kk) x tv lv rv (slot [(0,P0),(4,litT v),(64,tuT v2 0)] 0 79)) (a3.put (some 64) (.tuple #[v2,.int .i64 0])) w4:=by
   refine rep_aft (kb:=[0]) (kt:=[0,4]) (r:=tuT v2 0) hr3 (sT_rep (c14.at hb (by simp)) o1 o2 o3 _) (by kernel_rfl) (fun b' hb'=>?_) (tup_rel ho2)
   have:b'=0:=by simpa using hb'
   subst this
   exact (hr3.wd.base 0 (b,0) rfl).symm
  refine xrun' (tabSp_ok tP_ok) bP_ok ph1_kb (nrm_R ph1_kb) (u_B2 x tv lv rv v v2 kk) (fun _ _=>False) (fun ks s=>ks=bef (pD 76) Tryz.f66∧s=sT (kdK kk) x tv lv rv (slot [(73,.val (.one (.int .i64 (kdK kk)))),(74,litT v),(75,litT v2)] 0 79)) ⟨rfl,rfl⟩ (fun _ _ _ _ _ h=>h.elim) ?_ kcs4 _ _ _ (hsr4 _ _ _) hr4
  rintro ks s ⟨rfl,rfl⟩
  refine ⟨f76,fun kcs φ5 a5 w5 hsr5 hr5=>?_⟩
  have c5:Chg w4 w5 []:=Chg.of_below (RepF.below hr5.wd rfl)
  refine lastT (z_B2 x (kdK kk) tv lv rv v v2) (fn_of Tryz.func106 rfl rfl).en f76 hsr5 hr5 rfl (fun r=>by kernel_rfl) fun us hus=>?_
  match us,hus with
  | [u1,u2,u3],⟨hu1,hu2,hu3,_⟩=>
  have hu1:u1=.int .i64 (kdK kk):=hu1
  have hu2:u2=v:=hu2.1
  have hu3:u3=v2:=hu3.1
  rw [hu1,hu2,hu3]
  refine (operation_ok kk (hok t hx) (PartAt.keep ((c3.trans c4).trans c5).on t v hp) (hok2 t2 hx2) (PartAt.keep c5.on t2 v2 hp2)).mono ?_
  rintro e w6 hT
  obtain ⟨v',e',rfl,ho',h⟩:=hT.one
  refine ⟨v',_,tuT v' e',e',rfl,tup_rel ho',y_B _ _,fun w7 c7=>?_⟩
  rw [hx,hx2]
  exact hT.on (c14.trans c5) c7
end
end Ab
theorem cst_cells {rb:Nat} {w:World} {ts:List Int} {tv:Value} (h:TermsAt rb w ts tv):∃ ao cap,tv=.slice ao ts.length cap∧∀ k,(h:k < ts.length)→∃ tb,ao=some ⟨tb,0,none⟩∧w.cell? ⟨tb,k,none⟩=some (.int .i64 ts[k]):=by
 rcases h with ⟨rfl,rfl⟩ | ⟨tb,cap,cur,rfl,_,h3,h4,h5⟩
 ·exact ⟨none,0,rfl,fun k h=>absurd h (Nat.not_lt_zero k)⟩
 ·refine ⟨some ⟨tb,0,none⟩,cap,rfl,fun k hk=>⟨tb,rfl,?_⟩⟩
  have hk2:cur.toList[k]?=some (.int .i64 ts[k]):=by
   have:(cur.toList.take ts.length)[k]?=(ts.map (Value.int .i64))[k]?:=by rw [h5]
   rw [List.getElem?_take_of_lt hk,List.getElem?_map,List.getElem?_eq_getElem hk] at this
   exact this
  exact cell_of_block h3 (by simpa using hk2)
namespace Ab
open Rf (Nd Inv NInv Wt)
theorem keep_chg {rb:Nat} {w w':World} (h:Chg w w' []):Keep rb w w':=Keep.of_below (h.below (Nat.le_refl _) (fun k hk=>by simp at hk))
theorem const_ok {rb:Nat} {w:World} {b:Nat} {kd x:Int} {ts:List Int} {tv lv rv:Value} (hkd:kd=2∨kd=3∨kd=4) (hn:ts.length≤9) (h2:kd=4→2≤ts.length) (hb:w.heap[b]?=some (.cells #[.int .i64 kd,.int .i64 x,tv,lv,rv] 163 (0,0))) (ht:TermsAt rb w ts tv) (o2:One lv) (o3:One rv):Calls Tryz.prog 66 #[ptrB b] w (Told2 w (some (.con (opKd kd) ts))):=by
 refine of_C hkd hb (TermsAt.one ht) o2 o3 fun w1 c1=>?_
 obtain ⟨ao,cap,rfl,hc⟩:=cst_cells (ht.keep (keep_chg c1))
 refine (constant_walk w1 b kd x ts ao cap lv rv (by omega) (c1.at hb (by simp)) hc).mono ?_
 rintro e w2 ⟨l,m,rfl,hown,hm,hbel⟩
 have c2:Chg w1 w2 []:=Chg.of_below hbel
 have hz:kindZ (opKd kd)=kd:=by rcases hkd with h | h | h <;> subst h <;> rfl
 have hp:PartAt w2 (.con (opKd kd) ts) (ptrB m):=by
  obtain ⟨ao',ln',cp',hl⟩:=own_slP hown
  refine ⟨m,[.bool false,.slice none 0 0,.bool false,.slice none 0 0],[0,0],l,nilP,nilP,rfl,?_,⟨rfl,mag_zero true w2,rfl,mag_zero true w2,trivial⟩,rfl,fun z hz=>zeros1 z (by simp at hz;simp [hz]),by rw [hl];rfl,rfl,rfl,fun e=>?_⟩
  ·rw [hz];exact hm
  ·have h4:kd=4:=by
    rcases hkd with h | h | h
    ·subst h;cases e
    ·subst h;cases e
    ·exact h
   have:=h2 h4
   rcases hown.2 with ⟨_,h⟩ | ⟨g,cap,cur,h,hg',h3,h5,_,_,h6⟩
   ·omega
   ·refine ⟨g,cap,cur.toList.drop ts.length,h,by omega,?_⟩
    rw [h3]
    have h6':cur.toList.take ts.length=ts.map (Value.int .i64):=by simpa using h6
    have:ts.map (fun t=>Value.int .i64 t)++cur.toList.drop ts.length=cur.toList:=by
     rw [show ts.map (fun t=>Value.int .i64 t)=cur.toList.take ts.length from h6'.symm]
     exact List.take_append_drop _ _
    rw [this]
 exact ⟨ptrB m,rfl,rfl,fun w3 c3=>.yes rfl ((c1.trans c2).trans c3) rfl (PartAt.keep c3.on _ _ hp)⟩
theorem of_ok {rb:Nat}:∀ (t:Rd.Tr),Rd.Wf t→32*Rd.cnt t≤6100→∀ (w:World) (v:Value),Enc rb w t v→Calls Tryz.prog 66 #[v] w (Told2 w (planT t)):=by
 intro t
 induction t with
 | nil=>intro h;exact h.elim
 | node n1 n2 a l r ihl ihr=>
  intro h hc w v he
  obtain ⟨kd,x,ts⟩:=a
  have hcn:Rd.cnt (.node n1 n2 (kd,x,ts) l r)=Rd.cnt l+Rd.cnt r+1:=rfl
  rw [hcn] at hc
  obtain ⟨b,tv,lv,rv,rfl,hrb,hb,ht,hl,hr⟩:=he
  have o1:=TermsAt.one ht
  have o2:=Enc.one hl
  have o3:=Enc.one hr
  rw [planT]
  simp only at h hb ht ⊢
  rcases h with ⟨hk,hn,_,rfl,rfl⟩ | ⟨hk,_,hts,rfl,rfl⟩ | ⟨hk,hts,h2,h9,_,rfl,rfl⟩ | ⟨hk,hwl,_,rfl⟩ | ⟨hk,hwl,hwr,_⟩
  ·subst hk
   rw [if_pos rfl]
   have:0≤x:=hn.1
   have:x < 1000000000:=hn.2
   exact of_1 (by omega) hb o1 o2 o3
  ·rw [if_neg (by omega),if_pos (by omega)]
   exact const_ok (by omega) (by rw [show ts=[] from hts];exact Nat.zero_le _) (by omega) hb ht o2 o3
  ·rw [if_neg (by omega),if_pos (by omega)]
   exact const_ok (by omega) h9 (fun _=>h2) hb ht o2 o3
  ·rw [if_neg (by omega),if_neg (by omega)]
   have ihl':∀ w1,Chg w w1 []→Calls Tryz.prog 66 #[lv] w1 (Told2 w1 (planT l)):=fun w1 c1=>ihl hwl (by omega) w1 lv (Enc.keep (keep_chg c1) hl)
   have hok:∀ t,planT l=some t→t.Ok:=fun t e=>(plan_ok l t hwl (by omega) e).1
   rcases hk with hk | hk
   ·subst hk
    rw [if_pos rfl]
    exact of_M hb o1 o2 o3 hok ihl'
   ·rw [if_neg (by omega),if_neg (by omega)]
    have hz:kd=kindZ (opKd kd)∧Rf.fn (opKd kd):=by
     rcases hk with hk | hk | hk | hk <;> subst hk
     ·exact ⟨rfl,Or.inl rfl⟩
     ·exact ⟨rfl,Or.inr (Or.inl rfl)⟩
     ·exact ⟨rfl,Or.inr (Or.inr (Or.inl rfl))⟩
     ·exact ⟨rfl,Or.inr (Or.inr (Or.inr rfl))⟩
    rw [hz.1] at hb
    exact of_F hz.2 hb o1 o2 o3 hok ihl'
  ·rw [if_neg (by omega),if_neg (by omega),if_neg (by omega),if_pos (by omega)]
   have ihl':∀ w1,Chg w w1 []→Calls Tryz.prog 66 #[lv] w1 (Told2 w1 (planT l)):=fun w1 c1=>ihl hwl (by omega) w1 lv (Enc.keep (keep_chg c1) hl)
   have hok:∀ t,planT l=some t→t.Ok:=fun t e=>(plan_ok l t hwl (by omega) e).1
   have ihr':∀ w1,Chg w w1 []→Calls Tryz.prog 66 #[rv] w1 (Told2 w1 (planT r)):=fun w1 c1=>ihr hwr (by omega) w1 rv (Enc.keep (keep_chg c1) hr)
   have hok2:∀ t,planT r=some t→t.Ok:=fun t e=>(plan_ok r t hwr (by omega) e).1
   have hz:kd=kdK (kkKd kd):=by rcases hk with hk | hk | hk | hk <;> subst hk <;> rfl
   rw [hz] at hb
   exact of_B (kkKd kd) hb o1 o2 o3 hok hok2 ihl' ihr'
end Ab
open Go.RowKit
theorem wpList_app {P:Program} {w:World} {ops:Array Oper} {rest:List Oper} {o:Oper} {a:Act} {Q:Exit→Act→World→Prop} (hgd:o.guard=none) (s x:Operand) (t:TypeId)
  (ho:o.op=.call { callee:=.builtin .append,args:=#[s,x],argTypes:=#[t,t] }) (v1 v2:Value) (hs:a.eval s=v1) (hx:a.eval x=v2) (v':Value) (w':World)
  (hr:(Builtin.append_ #[t,t] o.type #[v1,v2]).run P w=.ok v' w') (h:wpList P ops Q rest (a.put o.dst v') w'):wpList P ops Q (o::rest) a w:=by
 refine wpList_plain hgd fun _ hK=>?_
 unfold Oper.wp execOp
 simp only [ho,resolve,invoke,builtin,Sem.run_bind,Sem.run_pure,Result.andThen_ok,List.map_toArray,List.map_cons,List.map_nil,hs,hx,hr]
 exact hK _ _ h
namespace Rf
noncomputable def readK (f:Nat):Nat→St→Nat→Nat→Option (List Int)
 | 0,_,_,_=>some []
 | m+1,s,d,r=>match sym f s d r with
  | some (s',some z)=>(readK f m s' d (r+1)).map (z::·)
  | _=>none
def fuelF (t:Wt):Nat:=3002+3200*t.size
noncomputable def symsT (t:Wt) (k c:Nat):Option (List Int):=
 (of t []).bind fun x=>(x.1[x.2]?).bind fun n=>if n.pos=true then (readK (fuelF t) k ⟨x.1,c⟩ x.2 0).map (43::·) else readK (fuelF t) (k+1) ⟨x.1,c⟩ x.2 0
theorem readK_len {f:Nat}:∀ (m:Nat) (s:St) (d r:Nat) (l:List Int),readK f m s d r=some l→l.length=m
 | 0,s,d,r,l,h=>by cases h;rfl
 | m+1,s,d,r,l,h=>by
  unfold readK at h
  split at h
  ·rename_i s' z hs
   obtain ⟨l',h1,rfl⟩:=Option.map_eq_some_iff.1 h
   simp [readK_len m _ _ _ _ h1]
  ·cases h
theorem symsT_len {t:Wt} {k c:Nat} {l:List Int} (h:symsT t k c=some l):l.length=k+1:=by
 unfold symsT at h
 obtain ⟨x,h1,h2⟩:=Option.bind_eq_some_iff.1 h
 obtain ⟨n,h3,h4⟩:=Option.bind_eq_some_iff.1 h2
 split at h4
 ·obtain ⟨l',h5,rfl⟩:=Option.map_eq_some_iff.1 h4
  simp [readK_len _ _ _ _ _ h5]
 ·exact readK_len _ _ _ _ _ h4
end Rf
namespace Ab
open Rf (Nd Inv NInv Wt fuelF readK symsT)
theorem Net.apart {w w':World} {b0 fb g0:Nat} {own:Nat→Option Own} {at1:Nat→Nat} {s:Rf.St} (h:Net w b0 own at1 fb s) (hc:Chg w w' [g0]) (hq:g0 < w.heap.size→∃ cs:Array Value,w.heap[g0]?=some (.cells cs 100 (0,0))) (ho:own g0=none):Net w' b0 own at1 fb s:=by
 have ne:∀ {k:Nat} {cs:Array Value} {ty:TypeId},w.heap[k]?=some (.cells cs ty (0,0))→ty≠100→k ∉ [g0]:=by
  intro k cs ty hk hty hm
  simp at hm
  subst hm
  obtain ⟨cs0,hq⟩:=hq (lt_of_heap hk)
  rw [hq] at hk
  cases hk
  exact hty rfl
 have keepN:∀ {k:Nat} {zs:List Int} {hs:Bool} {uns mt lr rr pl:Int} {lp rp gv cv nv:Value},NodeAt w k zs hs uns mt lr rr pl lp rp gv cv nv→NodeAt w' k zs hs uns mt lr rr pl lp rp gv cv nv:=by
  intro k zs hs uns mt lr rr pl lp rp gv cv nv hn
  obtain ⟨xs,h1,_⟩:=hn.ex
  exact hn.keep hc.on (hc.low _ hn.lt (ne h1 (by decide)))
 refine ⟨fun i n hi=>?_,hc.at h.fuel (ne h.fuel (by decide)),h.fb0⟩
 have hk:=h.nd i n hi
 obtain ⟨p0,q0,p1,q1,p2,q2,p3,q3,mt,pl,gv,cv,nv,hb,l,hl1,hl2⟩:=hk.ex
 refine ⟨⟨p0,q0,p1,q1,p2,q2,p3,q3,mt,pl,gv,cv,nv,⟨keepN hb.nd,?_,?_,hb.nocon,?_⟩,l,hl1,hl2⟩,hk.hc,hk.own,hk.lo,hk.prb⟩
 ·rcases hb.giv with h | ⟨g,cap,rest,h1,h2,h3,h4,h5,h6⟩
  ·exact Or.inl h
  ·refine Or.inr ⟨g,cap,rest,h1,hc.at h2 ?_,h3,h4,h5,h6⟩
   intro hm
   simp at hm
   subst hm
   rw [ho] at h5
   cases h5
 ·intro ht
  obtain ⟨h1,cb,h2,h3⟩:=hb.con ht
  exact ⟨h1,cb,h2,h3.keep hc.on⟩
 ·refine ⟨hb.nst.1,fun hne=>?_⟩
  obtain ⟨nb',h1,⟨cs,h2⟩,h3⟩:=hb.nst.2 hne
  refine ⟨nb',h1,⟨cs,hc.at h2 (ne h2 (by decide))⟩,fun ht ha=>?_⟩
  obtain ⟨xs,zs,fst,fur,k1,k2,k3,k4,k5,k6⟩:=h3 ht ha
  refine ⟨xs,zs,fst,fur,hc.at k1 (ne k1 (by decide)),hold_on hc.on k2,k3,k4,k5,fun hop=>?_⟩
  obtain ⟨m1,x,m2,m3,m4,m5⟩:=k6 hop
  refine ⟨m1,x,m2,m3,m4,fun hl=>⟨(m5 hl).1,fun e=>?_⟩⟩
  obtain ⟨pb,r1,r2,r3,r4⟩:=(m5 hl).2 e
  exact ⟨pb,r1,r2,r3,keepN r4⟩
def Run (t:Wt) (c0:Nat) (w:World) (b0 nb fb:Nat) (own:Nat→Option Own) (s:Rf.St) (top r:Nat):Prop:=
 ∃ at1 rho c n,NbAt w b0 nb fb own at1 s top r∧s.clock=((c:Nat):Int)∧c≤c0∧Inv s.nodes rho c∧s.nodes[top]?=some n∧r≤n.out.length∧rho top≤3200*t.size
section
variable {t:Wt} {c0:Nat} {w w':World} {b0 nb fb:Nat} {own:Nat→Option Own} {s:Rf.St} {top r:Nat}
theorem Run.still (h:Run t c0 w b0 nb fb own s top r) (hc:Chg w w' []):Run t c0 w' b0 nb fb own s top r:=by
 obtain ⟨at1,rho,c,n,hN,h1,h2,hI,h4⟩:=h
 exact ⟨at1,rho,c,n,⟨hN.net.still hI hc,hc.at hN.blk (by simp),hN.ow,Nat.le_trans hN.bs hc.on.size,hN.nlo,hN.nw⟩,h1,h2,hI,h4⟩
theorem Run.apart (h:Run t c0 w b0 nb fb own s top r) {g0:Nat} (hc:Chg w w' [g0]) (hq:g0 < w.heap.size→∃ cs:Array Value,w.heap[g0]?=some (.cells cs 100 (0,0))) (ho:own g0=none):Run t c0 w' b0 nb fb own s top r:=by
 obtain ⟨at1,rho,c,n,hN,h1,h2,hI,h4⟩:=h
 refine ⟨at1,rho,c,n,⟨hN.net.apart hc hq ho,hc.at hN.blk ?_,hN.ow,Nat.le_trans hN.bs hc.on.size,hN.nlo,hN.nw⟩,h1,h2,hI,h4⟩
 intro hm
 simp at hm
 subst hm
 obtain ⟨cs,h⟩:=hq (lt_of_heap hN.blk)
 rw [hN.blk] at h
 exact absurd (Obj.cells.inj (Option.some.inj h)).2.1 (by decide)
theorem Run.cut (h:Run t c0 w b0 nb fb own s top r):∃ own',Run t c0 w b0 nb fb own' s top r∧(∀ k,k < w.heap.size→own' k=own k)∧∀ k,w.heap.size≤k→own' k=none:=by
 obtain ⟨at1,rho,c,n,hN,h1,h2,hI,h4⟩:=h
 refine ⟨fun k=>if k < w.heap.size then own k else none,⟨at1,rho,c,n,⟨⟨?_,hN.net.fuel,hN.net.fb0⟩,hN.blk,?_,hN.bs,hN.nlo,fun k hk=>?_⟩,h1,h2,hI,h4⟩,fun k hk=>if_pos hk,fun k hk=>if_neg (by omega)⟩
 ·have:=Nod.more (own':=fun k=>if k < w.heap.size then own k else none) (at2:=at1) (new:=[]) hN.net.nd hI (Chg.refl w) (fun k hk=>if_pos hk) (fun _ _=>rfl) (fun j mm hj=>by simp at hj)
  rw [List.append_nil] at this
  exact this
 ·show (if nb < w.heap.size then own nb else none)=none
  split
  ·exact hN.ow
  ·rfl
 ·show (if k < w.heap.size then own k else none)=none
  split
  ·exact hN.nw k hk
  ·rfl
theorem Run.low (h:Run t c0 w b0 nb fb own s top r):b0≤w.heap.size∧b0≤nb∧b0≤fb∧(∀ k,k < b0→own k=none)∧nb < w.heap.size∧fb < w.heap.size:=by
 obtain ⟨at1,rho,c,n,hN,_⟩:=h
 exact ⟨hN.bs,hN.nlo,hN.net.fb0,hN.nw,lt_of_heap hN.blk,lt_of_heap hN.net.fuel⟩
def NextS (t:Wt) (c0:Nat) (w:World) (b0 nb fb:Nat) (own:Nat→Option Own) (s:Rf.St) (top r:Nat) (e:Ending) (w':World):Prop:=
 On Z.bt w w'∧(∀ k,k < w.heap.size→own k=none→k≠fb→k≠nb→w'.heap[k]?=w.heap[k]?)∧
  ((e=.returned (.int .i64 0)∧∃ s',Rf.sym (fuelF t) s top r=some (s',none))∨∃ s' z own',e=.returned (.int .i64 (code z))∧Rf.sym (fuelF t) s top r=some (s',some z)∧Run t c0 w' b0 nb fb own' s' top (r+1)∧∀ k,k < w.heap.size→own k=none→own' k=none)
theorem next_run (h3:c0≤3000) (h:Run t c0 w b0 nb fb own s top r) (hr:r≤1000000):Calls Tryz.prog 78 #[ptrB nb] w (NextS t c0 w b0 nb fb own s top r):=by
 obtain ⟨at1,rho,c,n,hN,h1,h2,hI,h4,h5,h6⟩:=h
 have hf:c+rho top+2≤fuelF t:=by unfold fuelF;omega
 obtain ⟨x,hx,hp⟩:=Rf.total (fuelF t) s top r rho c h1 (by omega) hI n h4 h5 hf
 refine (next_ok hN h1 (by omega) hI h4 h5 hr hf hx fun hs=>?_).mono ?_
 ·obtain ⟨v,hv⟩:=Option.isSome_iff_exists.1 hs
  obtain ⟨rho',c',_,_,hI',_⟩:=hp.ex v hv
  exact ⟨rho',c',hI'⟩
 ·rintro e w' ⟨rfl,hon,hlow,hkept,hsome⟩
  obtain ⟨s',z⟩:=x
  refine ⟨hon,hkept,?_⟩
  cases z with
  | none=>exact Or.inl ⟨rfl,s',hx⟩
  | some z=>
   obtain ⟨rho',c',g1,g2,g3,g4,n',g5,g6⟩:=hp.ex z rfl
   obtain ⟨own',at2,hN',ho⟩:=hsome rfl
   refine Or.inr ⟨s',z,own',rfl,hx,⟨at2,rho',c',n',hN',g2,by omega,g3,g5,g6,?_⟩,ho⟩
   rw [g4.agree top (List.getElem?_eq_some_iff.1 h4).1]
   exact h6
theorem new_run {v:Value} {c:Nat} (hok:t.Ok) (hp:PartAt w t v) (hc:c≤3000):Calls Tryz.prog 76 #[v,.int .i64 c] w fun e w'=>∃ ns d own nb fb n,Rf.of t []=some (ns,d)∧ns[d]?=some n∧e=.returned (ptrB nb)∧Chg w w' []∧Run t c w' w.heap.size nb fb own ⟨ns,c⟩ d 0:=by
 refine (new_ok hok hp hc).mono ?_
 rintro e w' ⟨ns,d,own,at1,nb,fb,hof,he,hch,hN⟩
 obtain ⟨ns',rho',d',hof',gr,hd,hrk,_⟩:=Rf.of_inv t [] (fun _=>0) hok hc (Rf.inv_nil _ c)
 rw [hof] at hof'
 cases hof'
 exact ⟨ns,d,own,nb,fb,ns[d],hof,List.getElem?_eq_getElem hd,he,hch,at1,rho',c,ns[d],hN,rfl,Nat.le_refl _,gr.inv,List.getElem?_eq_getElem hd,Nat.zero_le _,hrk⟩
theorem sign_run {n:Nd} (h:Run t c0 w b0 nb fb own s top r) (hn:s.nodes[top]?=some n):Calls Tryz.prog 77 #[ptrB nb] w fun e w'=>e=.returned (.bool (!n.pos))∧Chg w w' []:=by
 obtain ⟨at1,rho,c,n',hN,_⟩:=h
 exact hassign_ok hN hn
end
end Ab
namespace Rf
open Nw
open Pg (Go HC)
def Dg (n:Nd):Prop:=∀ (i:Nat) (c:Int),n.out[i]?=some c→(i=0∧n.pos=false)∨c=-1∨c=0∨c=1
def GP (n:Nd):Prop:=HC n∧Dg n
theorem GP.fresh (pos:Bool) (t:List V) (args:List Nat):GP (fresh pos t args):=⟨HC.fresh pos t args,fun i c h=>by simp [Rf.fresh] at h⟩
theorem GP.of {n n':Nd} (h:GP n) (h1:n'.out=n.out) (h2:n'.had=n.had) (h3:n'.told=n.told) (h4:n'.pos=n.pos):GP n':=⟨h.1.of h1 h2 h3,fun i c hi=>by rw [h1] at hi;rw [h4];exact h.2 i c hi⟩
structure GG (ns ns':List Nd):Prop where
 go:Go ns ns'
 all:(∀ n∈ns,GP n)→∀ n∈ns',GP n
theorem GG.refl (ns:List Nd):GG ns ns:=⟨Go.refl _,fun h=>h⟩
theorem GG.trans {a b c:List Nd} (h:GG a b) (g:GG b c):GG a c:=⟨h.go.trans g.go,fun k=>g.all (h.all k)⟩
theorem more_gg {ns r:List Nd} {n:Nd} (h:more ns n=some r) (hn:GP n):GG ns r∧r=ns++[n]:=by
 unfold more at h
 split at h
 ·cases h
  refine ⟨⟨Go.more _ _,fun k m hm=>?_⟩,rfl⟩
  rcases List.mem_append.1 hm with hm | hm
  ·exact k m hm
  ·rw [List.mem_singleton.1 hm];exact hn
 ·cases h
theorem put_gg {ns r:List Nd} {i:Nat} {n n':Nd} (h:put ns i n'=some r) (hi:ns[i]?=some n) (h1:n'.out=n.out) (h2:n'.had=n.had) (h3:n'.told=n.told) (h4:n'.pos=n.pos):GG ns r∧r=ns.set i n':=by
 unfold put at h
 split at h
 ·cases h
  refine ⟨⟨Go.set hi h4 (fun r m e=>by rw [h2];exact e) (fun r c e=>by rw [h1];exact e),fun k m hm=>?_⟩,rfl⟩
  rcases List.mem_or_eq_of_mem_set hm with hm | hm
  ·exact k m hm
  ·rw [hm];exact (k n (List.mem_of_getElem? hi)).of h1 h2 h3 h4
 ·cases h
theorem at_more {ns r:List Nd} {n m:Nd} {i:Nat} (h:r=ns++[m]) (hi:ns[i]?=some n):r[i]?=some n:=by
 rw [h,List.getElem?_append_left (List.getElem?_eq_some_iff.1 hi).1]
 exact hi
theorem with_op {pos:Bool} {t:List V} {args:List Nat} {n':Nd} (h1:n'.out=[]) (h2:n'.had=[one]) (h3:n'.told=one) (h4:n'.pos=pos):GP n':=(GP.fresh pos t args).of h1 h2 h3 h4
theorem outright_gg {ns r:List Nd} {op:Op} {p q:Int} {d i:Nat} {n:Nd} (h:outright ns op p q=some (r,d)):GG ns r∧(ns[i]?=some n→r[i]?=some n):=by
 unfold outright at h
 obtain ⟨n1,e1,h⟩:=Option.bind_eq_some_iff.1 h
 obtain ⟨g1,r1⟩:=more_gg e1 (with_op (t:=[]) (args:=[]) (pos:=true) rfl rfl rfl rfl)
 split at h
 ·obtain ⟨n2,e2,h⟩:=Option.map_eq_some_iff.1 h
  obtain ⟨g2,r2⟩:=more_gg e2 (GP.fresh _ _ _)
  cases h
  exact ⟨g1.trans g2,fun hi=>at_more r2 (at_more r1 hi)⟩
 ·cases h
  exact ⟨g1,fun hi=>at_more r1 hi⟩
theorem nest_gg {ns r:List Nd} {op:Op} {k x d i:Nat} {sq:Option Nat} {n:Nd} (h:nest ns op k x sq=some (r,d)):GG ns r∧(ns[i]?=some n→r[i]?=some n):=by
 have hn:∀ a b c e,GP (nestNd a b c x e):=fun a b c e=>with_op (t:=[]) (args:=[]) (pos:=true) rfl rfl rfl rfl
 unfold nest at h
 split at h
 ·split at h
  ·obtain ⟨n1,e1,h⟩:=Option.map_eq_some_iff.1 h
   obtain ⟨g1,r1⟩:=more_gg e1 (hn _ _ _ _)
   cases h
   exact ⟨g1,fun hi=>at_more r1 hi⟩
  ·obtain ⟨nx,_,h⟩:=Option.bind_eq_some_iff.1 h
   obtain ⟨n1,e1,h⟩:=Option.bind_eq_some_iff.1 h
   obtain ⟨g1,r1⟩:=more_gg e1 (GP.fresh _ _ _)
   obtain ⟨n2,e2,h⟩:=Option.map_eq_some_iff.1 h
   obtain ⟨g2,r2⟩:=more_gg e2 (hn _ _ _ _)
   cases h
   exact ⟨g1.trans g2,fun hi=>at_more r2 (at_more r1 hi)⟩
 ·obtain ⟨n1,e1,h⟩:=Option.map_eq_some_iff.1 h
  obtain ⟨g1,r1⟩:=more_gg e1 (hn _ _ _ _)
  cases h
  exact ⟨g1,fun hi=>at_more r1 hi⟩
theorem deeper_gg {ns r:List Nd} {m:Nd} {d i:Nat} {n:Nd} (h:deeper ns m=some (r,d)):GG ns r∧(ns[i]?=some n→r[i]?=some n):=by
 unfold deeper at h
 split at h
 ·obtain ⟨a,_,h⟩:=Option.bind_eq_some_iff.1 h
  obtain ⟨n1,e1,h⟩:=Option.map_eq_some_iff.1 h
  obtain ⟨g1,r1⟩:=more_gg e1 (with_op (t:=[]) (args:=[]) (pos:=true) rfl rfl rfl rfl)
  cases h
  exact ⟨g1,fun hi=>at_more r1 hi⟩
 ·obtain ⟨x,_,h⟩:=Option.bind_eq_some_iff.1 h
  exact nest_gg h
theorem turn_gg {ns r:List Nd} {i:Nat} {n n0:Nd} {lo:V} (h:turn ns i n lo=some r) (hi:ns[i]?=some n0) (h1:n.out=n0.out) (h2:n.had=n0.had) (h3:n.told=n0.told) (h4:n.pos=n0.pos):GG ns r:=by
 unfold turn at h
 obtain ⟨x,_,h⟩:=Option.bind_eq_some_iff.1 h
 split at h
 ·obtain ⟨ab,_,h⟩:=Option.bind_eq_some_iff.1 h
  exact (put_gg h hi h1 h2 h3 h4).1
 ·obtain ⟨zb,e1,h⟩:=Option.bind_eq_some_iff.1 h
  have g1:GG ns zb.1∧zb.1[i]?=some n0:=by
   split at e1
   ·obtain ⟨n1,e1,h⟩:=Option.map_eq_some_iff.1 e1
    obtain ⟨g1,r1⟩:=more_gg e1 (GP.fresh _ _ _)
    cases h
    exact ⟨g1,at_more r1 hi⟩
   ·cases e1
    exact ⟨GG.refl _,hi⟩
  obtain ⟨⟨nb1,nb2⟩,e2,h⟩:=Option.bind_eq_some_iff.1 h
  obtain ⟨g2,k2⟩:=nest_gg (i:=i) (n:=n0) e2
  have k2:=k2 g1.2
  obtain ⟨rb,e3,h⟩:=Option.bind_eq_some_iff.1 h
  have g3:GG nb1 rb.1∧rb.1[i]?=some n0:=by
   split at e3
   ·obtain ⟨n1,e1,h⟩:=Option.map_eq_some_iff.1 e3
    obtain ⟨g1,r1⟩:=more_gg e1 (GP.fresh _ _ _)
    cases h
    exact ⟨g1,at_more r1 k2⟩
   ·cases e3
    exact ⟨GG.refl _,k2⟩
  have g03:=(g1.1.trans g2).trans g3.1
  split at h
  ·exact g03.trans (put_gg h g3.2 h1 h2 h3 h4).1
  ·obtain ⟨⟨fb1,fb2⟩,e4,h⟩:=Option.bind_eq_some_iff.1 h
   obtain ⟨g4,k4⟩:=outright_gg (i:=i) (n:=n0) e4
   exact (g03.trans g4).trans (put_gg h (k4 g3.2) h1 h2 h3 h4).1
theorem give_gg {s s1:St} {i:Nat} {n:Nd} {c:Int} (h:give s i n c=some s1) (hi:s.nodes[i]?=some n) (hc:c∈tries n):GG s.nodes s1.nodes:=by
 unfold give at h
 obtain ⟨ns,e,h⟩:=Option.map_eq_some_iff.1 h
 cases h
 unfold put at e
 split at e
 ·cases e
  refine ⟨Go.set hi rfl (fun r m e=>?_) (fun r c e=>?_),fun k m hm=>?_⟩
  ·show (n.had++_)[r]?=_
   rw [List.getElem?_append_left (List.getElem?_eq_some_iff.1 e).1]
   exact e
  ·show (n.out++_)[r]?=_
   rw [List.getElem?_append_left (List.getElem?_eq_some_iff.1 e).1]
   exact e
  ·rcases List.mem_or_eq_of_mem_set hm with hm | hm
   ·exact k m hm
   ·rw [hm]
    obtain ⟨k1,k2⟩:=k n (List.mem_of_getElem? hi)
    refine ⟨k1.give c,fun j d hj=>?_⟩
    by_cases hl:j < n.out.length
    ·rw [show (n.out++[c])[j]?=n.out[j]? from List.getElem?_append_left hl] at hj
     exact k2 j d hj
    ·rw [show (n.out++[c])[j]?=[c][j - n.out.length]? from List.getElem?_append_right (by omega)] at hj
     have h0:j - n.out.length=0:=by
      have:=(List.getElem?_eq_some_iff.1 hj).1
      simp at this
      omega
     rw [h0] at hj
     simp at hj
     subst hj
     unfold tries at hc
     split at hc
     ·rename_i hh
      refine Or.inl ⟨?_,hh.1⟩
      rw [hh.2] at h0
      simpa using h0
     ·simp at hc
      omega
 ·cases e
theorem wide_gg {s s1:St} {i sd:Nat} {n:Nd} (h:wide s i n sd=some s1) (hi:s.nodes[i]?=some n):GG s.nodes s1.nodes:=by
 unfold wide at h
 split at h
 ·obtain ⟨⟨d1,d2⟩,e1,h⟩:=Option.bind_eq_some_iff.1 h
  obtain ⟨g1,k1⟩:=deeper_gg (i:=i) (n:=n) e1
  obtain ⟨ns,e2,h⟩:=Option.map_eq_some_iff.1 h
  cases h
  exact g1.trans (put_gg e2 (k1 hi) rfl rfl rfl rfl).1
 ·cases h
  exact GG.refl _
theorem settle_gg {ns r:List Nd} {i:Nat} {n n0:Nd} (h:settle ns i n=some r) (hi:ns[i]?=some n0) (h1:n.out=n0.out) (h2:n.had=n0.had) (h3:n.told=n0.told) (h4:n.pos=n0.pos):GG ns r:=by
 unfold settle at h
 split at h
 ·obtain ⟨e,_,h⟩:=Option.bind_eq_some_iff.1 h
  split at h
  ·obtain ⟨ns1,e1,h⟩:=Option.bind_eq_some_iff.1 h
   obtain ⟨g1,r1⟩:=put_gg e1 hi h1 h2 h3 h4
   have hlt:=(List.getElem?_eq_some_iff.1 hi).1
   exact g1.trans (turn_gg h (n0:={ n with read:=n.read.set 0 0,probe:=false }) (by rw [r1];exact List.getElem?_set_self hlt) rfl rfl rfl rfl)
  ·cases h;exact GG.refl _
 ·cases h;exact GG.refl _
theorem after_gg {s:St} {i sd:Nat} {x:St×Bool} (h:after s i sd=some x):GG s.nodes x.1.nodes:=by
 unfold after at h
 obtain ⟨n,hi,h⟩:=Option.bind_eq_some_iff.1 h
 obtain ⟨ns,e1,h⟩:=Option.bind_eq_some_iff.1 h
 obtain ⟨g1,r1⟩:=put_gg e1 hi rfl rfl rfl rfl
 have hlt:=(List.getElem?_eq_some_iff.1 hi).1
 split at h
 ·cases h;exact g1
 ·obtain ⟨ns1,e2,h⟩:=Option.map_eq_some_iff.1 h
  cases h
  exact g1.trans (settle_gg e2 (n0:={ n with read:=bump n.read sd }) (by rw [r1];exact List.getElem?_set_self hlt) rfl rfl rfl rfl)
theorem reads_gg {rec:St→Nat→Nat→Option (St×Option Int)} (hrec:∀ s i j x,rec s i j=some x→GG s.nodes x.1.nodes) {s:St} {i:Nat} {n:Nd} {x:St×Bool} (h:reads rec s i n=some x) (hi:s.nodes[i]?=some n):GG s.nodes x.1.nodes:=by
 unfold reads at h
 split at h
 ·obtain ⟨m,_,h⟩:=Option.bind_eq_some_iff.1 h
  obtain ⟨ns,e1,h⟩:=Option.map_eq_some_iff.1 h
  cases h
  exact (put_gg e1 hi rfl rfl rfl rfl).1
 ·obtain ⟨sd,_,h⟩:=Option.bind_eq_some_iff.1 h
  obtain ⟨s1,e1,h⟩:=Option.bind_eq_some_iff.1 h
  obtain ⟨n1,_,h⟩:=Option.bind_eq_some_iff.1 h
  obtain ⟨a,_,h⟩:=Option.bind_eq_some_iff.1 h
  obtain ⟨r,_,h⟩:=Option.bind_eq_some_iff.1 h
  obtain ⟨y,e2,h⟩:=Option.bind_eq_some_iff.1 h
  have g:=(wide_gg e1 hi).trans (hrec _ _ _ _ e2)
  split at h
  ·cases h;exact g
  ·exact g.trans (after_gg h)
theorem sym_gg:∀ (f:Nat) (s:St) (i j:Nat) (x:St×Option Int),sym f s i j=some x→GG s.nodes x.1.nodes
 | 0,s,i,j,x,h=>by cases h
 | f+1,s,i,j,x,h=>by
  unfold sym at h
  obtain ⟨n,hi,h⟩:=Option.bind_eq_some_iff.1 h
  split at h
  ·cases h;exact GG.refl _
  ·obtain ⟨o,ho,h⟩:=Option.bind_eq_some_iff.1 h
   split at h
   ·rename_i c
    split at h
    ·cases h;exact GG.refl _
    ·obtain ⟨s1,e1,h⟩:=Option.bind_eq_some_iff.1 h
     have hc:c∈tries n:=by
      split at ho
      ·cases ho
      ·unfold next at ho
       split at ho
       ·cases ho
       ·obtain ⟨l,_,e⟩:=Option.map_eq_some_iff.1 ho
        exact List.mem_of_find?_eq_some e
     exact (give_gg e1 hi hc).trans (sym_gg f _ _ _ _ h)
   ·obtain ⟨y,e1,h⟩:=Option.bind_eq_some_iff.1 h
    have g:=reads_gg (fun s i j x h=>sym_gg f s i j x h) e1 hi
    split at h
    ·exact g.trans (sym_gg f _ _ _ _ h)
    ·cases h;exact g
end Rf
namespace Rf
open Nw
namespace C
def more (ns:List Nd) (n:Nd):Option (List Nd):=some (ns++[n])
def put (ns:List Nd) (i:Nat) (n:Nd):Option (List Nd):=some (ns.set i n)
def outright (ns:List Nd) (op:Op) (p q:Int):Option (List Nd×Nat):=
 (more ns (row op p q)).bind fun ns1=>if op=.exp then (more ns1 (raised ns.length)).map fun ns2=>(ns2,ns.length+1) else some (ns1,ns.length)
def nest (ns:List Nd) (op:Op) (k x:Nat) (sq:Option Nat):Option (List Nd×Nat):=
 if 0 < k∧op≠.ln1p then
  match sq with
  | some s=>(more ns (nestNd op k s x (some s))).map fun ns1=>(ns1,ns.length)
  | none=>(ns[x]?).bind fun nx=>(more ns (two .mul nx.pos nx.pos x x)).bind fun ns1=>(more ns1 (nestNd op k ns.length x (some ns.length))).map fun ns2=>(ns2,ns.length+1)
 else (more ns (nestNd op k x x sq)).map fun ns1=>(ns1,ns.length)
def deeper (ns:List Nd) (n:Nd):Option (List Nd×Nat):=
 if n.op=.sqrt then (n.args[0]?).bind fun a=>(more ns { fresh true n.t [a] with op:=n.op,nest:=true }).map fun ns1=>(ns1,ns.length)
 else n.x.bind fun x=>nest ns n.op (n.k+1) x n.square
def turn (ns:List Nd) (i:Nat) (n:Nd) (lo:V):Option (List Nd):=
 (n.args[0]?).bind fun x=>
 if n.op=.sqrt then (near lo.1 lo.2 20000 1).bind fun ab=>put ns i { n with t:=[(0,0),(ab.2,0),(ab.1,ab.2),(0,ab.1)],nest:=true }
 else
  (if 0 < lo.1 then (more ns (fresh true (restCols n.op lo) [x])).map fun ns1=>(ns1,ns.length) else some (ns,x)).bind fun zb=>
  (nest zb.1 n.op 0 zb.2 none).bind fun nb=>
  (if n.op=.exp then (more nb.1 (raised nb.2)).map fun ns3=>(ns3,nb.1.length) else some nb).bind fun rb=>
  if lo.1=0 then put rb.1 i { n with args:=[rb.2] }
  else (outright rb.1 n.op lo.1 lo.2).bind fun fb=>
   put fb.1 i { n with t:=(if n.op=.exp then Kind.mul else Kind.add).cols,args:=[fb.2,rb.2],read:=[0,0] }
def give (s:St) (i:Nat) (n:Nd) (c:Int):Option St:=
 (put s.nodes i { n with out:=n.out++[c],told:=n.told.mul (Mt.sym c),had:=n.had++[n.told.mul (Mt.sym c)] }).map fun ns=>⟨ns,s.clock - 1⟩
def wide (s:St) (i:Nat) (n:Nd) (sd:Nat):Option St:=
 if sd=n.args.length then
  (deeper s.nodes n).bind fun d=>(put d.1 i { n with args:=n.args++[d.2],read:=n.read++[0] }).map fun ns=>⟨ns,s.clock⟩
 else some s
def settle (ns:List Nd) (i:Nat) (n:Nd):Option (List Nd):=
 if n.probe then
  (ends ns n 0).bind fun e=>
  if known n.op e.2 e.1 then (put ns i { n with read:=n.read.set 0 0,probe:=false }).bind fun ns1=>turn ns1 i { n with read:=n.read.set 0 0,probe:=false } e.2
  else some ns
 else some ns
def after (s:St) (i sd:Nat):Option (St×Bool):=
 (s.nodes[i]?).bind fun n=>
 (put s.nodes i { n with read:=bump n.read sd }).bind fun ns=>
 if s.clock - 1 < 0 then some (⟨ns,s.clock - 1⟩,false) else
 (settle ns i { n with read:=bump n.read sd }).map fun ns1=>(⟨ns1,s.clock - 1⟩,true)
def reads (rec:St→Nat→Nat→Option (St×Option Int)) (s:St) (i:Nat) (n:Nd):Option (St×Bool):=
 if n.t=[] then
  (constant n n.k).bind fun m=>(put s.nodes i { n with part:=n.part.mul m,k:=n.k+1 }).map fun ns=>(⟨ns,s.clock - 1⟩,decide (0≤s.clock - 1))
 else
  (side s.nodes n).bind fun sd=>(wide s i n sd).bind fun s1=>
  (s1.nodes[i]?).bind fun n1=>(n1.args[sd]?).bind fun a=>(n1.read[sd]?).bind fun r=>
  (rec s1 a r).bind fun x=>match x.2 with
   | none=>some (x.1,false)
   | some _=>after x.1 i sd
def sym:Nat→St→Nat→Nat→Option (St×Option Int)
 | 0,_,_,_=>none
 | f+1,s,i,j=>
  (s.nodes[i]?).bind fun n=>
  match n.out[j]? with
  | some c=>some (s,some c)
  | none=>
   (if n.probe then some none else next s.nodes n).bind fun o=>match o with
   | some c=>if s.clock - 1 < 0 then some (⟨s.nodes,s.clock - 1⟩,none) else (give s i n c).bind fun s1=>sym f s1 i j
   | none=>(reads (sym f) s i n).bind fun x=>if x.2 then sym f x.1 i j else some (x.1,none)
def of:Wt→List Nd→Option (List Nd×Nat)
 | .fr p q,ns=>(more ns (fresh (decide (0≤p)) [(p,q)] [])).map fun ns1=>(ns1,ns.length)
 | .con op ts,ns=>(more ns { fresh true [] [] with op:=op,terms:=ts }).map fun ns1=>(ns1,ns.length)
 | .neg t,ns=>(of t ns).bind fun x=>(more x.1 (fresh false [(-1,0),(0,1)] [x.2])).map fun ns1=>(ns1,x.1.length)
 | .two k a b,ns=>(of a ns).bind fun x=>(of b x.1).bind fun y=>(y.1[x.2]?).bind fun nx=>(y.1[y.2]?).bind fun ny=>(more y.1 (two k nx.pos ny.pos x.2 y.2)).map fun ns1=>(ns1,y.1.length)
 | .fn op (.fr p q),ns=>outright ns op p q
 | .fn op t,ns=>(of t ns).bind fun x=>(x.1[x.2]?).bind fun nx=>
   (if nx.pos then some x else (more x.1 (fresh true [(1,0),(0,1)] [x.2])).map fun ns1=>(ns1,x.1.length)).bind fun y=>
   (more y.1 { fresh true [(1,0),(0,1)] [y.2] with op:=op,probe:=true }).map fun ns1=>(ns1,y.1.length)
end C
def Le' {α:Type} (x y:Option α):Prop:=∀ a,x=some a→y=some a
theorem Le'.refl {α:Type} (x:Option α):Le' x x:=fun _ h=>h
theorem Le'.bind {α β:Type} {x y:Option α} {f g:α→Option β} (h:Le' x y) (hf:∀ a,Le' (f a) (g a)):Le' (x.bind f) (y.bind g):=by
 intro b hb
 obtain ⟨a,h1,h2⟩:=Option.bind_eq_some_iff.1 hb
 rw [h a h1]
 exact hf a b h2
theorem Le'.map {α β:Type} {x y:Option α} {f:α→β} (h:Le' x y):Le' (x.map f) (y.map f):=by
 intro b hb
 obtain ⟨a,h1,h2⟩:=Option.map_eq_some_iff.1 hb
 rw [h a h1,←h2];rfl
theorem Le'.ite {α:Type} {c:Prop} [Decidable c] {x y x' y':Option α} (h1:Le' x x') (h2:Le' y y'):Le' (if c then x else y) (if c then x' else y'):=by
 split
 ·exact h1
 ·exact h2
theorem more_le (ns:List Nd) (n:Nd):Le' (more ns n) (C.more ns n):=by
 intro a h
 unfold more at h
 split at h
 ·exact h
 ·cases h
theorem put_le (ns:List Nd) (i:Nat) (n:Nd):Le' (put ns i n) (C.put ns i n):=by
 intro a h
 unfold put at h
 split at h
 ·exact h
 ·cases h
theorem outright_le (ns:List Nd) (op:Op) (p q:Int):Le' (outright ns op p q) (C.outright ns op p q):=
 Le'.bind (more_le _ _) fun _=>Le'.ite (Le'.map (more_le _ _)) (Le'.refl _)
theorem nest_le (ns:List Nd) (op:Op) (k x:Nat) (sq:Option Nat):Le' (nest ns op k x sq) (C.nest ns op k x sq):=by
 unfold nest C.nest
 refine Le'.ite ?_ (Le'.map (more_le _ _))
 cases sq with
 | some s=>exact Le'.map (more_le _ _)
 | none=>exact Le'.bind (Le'.refl _) fun _=>Le'.bind (more_le _ _) fun _=>Le'.map (more_le _ _)
theorem deeper_le (ns:List Nd) (n:Nd):Le' (deeper ns n) (C.deeper ns n):=
 Le'.ite (Le'.bind (Le'.refl _) fun _=>Le'.map (more_le _ _)) (Le'.bind (Le'.refl _) fun _=>nest_le _ _ _ _ _)
theorem turn_le (ns:List Nd) (i:Nat) (n:Nd) (lo:V):Le' (turn ns i n lo) (C.turn ns i n lo):=
 Le'.bind (Le'.refl _) fun _=>Le'.ite (Le'.bind (Le'.refl _) fun _=>put_le _ _ _) <|
  Le'.bind (Le'.ite (Le'.map (more_le _ _)) (Le'.refl _)) fun _=>Le'.bind (nest_le _ _ _ _ _) fun _=>Le'.bind (Le'.ite (Le'.map (more_le _ _)) (Le'.refl _)) fun _=>
  Le'.ite (put_le _ _ _) (Le'.bind (outright_le _ _ _ _) fun _=>put_le _ _ _)
theorem give_le (s:St) (i:Nat) (n:Nd) (c:Int):Le' (give s i n c) (C.give s i n c):=Le'.map (put_le _ _ _)
theorem wide_le (s:St) (i:Nat) (n:Nd) (sd:Nat):Le' (wide s i n sd) (C.wide s i n sd):=Le'.ite (Le'.bind (deeper_le _ _) fun _=>Le'.map (put_le _ _ _)) (Le'.refl _)
theorem settle_le (ns:List Nd) (i:Nat) (n:Nd):Le' (settle ns i n) (C.settle ns i n):=
 Le'.ite (Le'.bind (Le'.refl _) fun _=>Le'.ite (Le'.bind (put_le _ _ _) fun _=>turn_le _ _ _ _) (Le'.refl _)) (Le'.refl _)
theorem after_le' (s:St) (i sd:Nat):Le' (after s i sd) (C.after s i sd):=
 Le'.bind (Le'.refl _) fun _=>Le'.bind (put_le _ _ _) fun _=>Le'.ite (Le'.refl _) (Le'.map (settle_le _ _ _))
theorem reads_le {rec rec':St→Nat→Nat→Option (St×Option Int)} (h:∀ s i j,Le' (rec s i j) (rec' s i j)) (s:St) (i:Nat) (n:Nd):Le' (reads rec s i n) (C.reads rec' s i n):=by
 refine Le'.ite (Le'.bind (Le'.refl _) fun _=>Le'.map (put_le _ _ _)) (Le'.bind (Le'.refl _) fun _=>Le'.bind (wide_le _ _ _ _) fun _=>Le'.bind (Le'.refl _) fun _=>Le'.bind (Le'.refl _) fun _=>Le'.bind (Le'.refl _) fun _=>Le'.bind (h _ _ _) fun x=>?_)
 cases x.2 with
 | none=>exact Le'.refl _
 | some _=>exact after_le' _ _ _
theorem sym_le':∀ (f:Nat) (s:St) (i j:Nat),Le' (sym f s i j) (C.sym f s i j)
 | 0,_,_,_=>Le'.refl _
 | f+1,s,i,j=>by
  unfold sym C.sym
  refine Le'.bind (Le'.refl _) fun n=>?_
  cases n.out[j]? with
  | some c=>exact Le'.refl _
  | none=>
   refine Le'.bind (Le'.refl _) fun o=>?_
   cases o with
   | some c=>exact Le'.ite (Le'.refl _) (Le'.bind (give_le _ _ _ _) fun s1=>sym_le' f s1 i j)
   | none=>exact Le'.bind (reads_le (sym_le' f) _ _ _) fun x=>Le'.ite (sym_le' f x.1 i j) (Le'.refl _)
theorem of_le:∀ (t:Wt) (ns:List Nd),Le' (of t ns) (C.of t ns)
 | .fr p q,ns=>by unfold of C.of;exact Le'.map (more_le _ _)
 | .con op ts,ns=>by unfold of C.of;exact Le'.map (more_le _ _)
 | .neg t,ns=>by unfold of C.of;exact Le'.bind (of_le t ns) fun _=>Le'.map (more_le _ _)
 | .two k a b,ns=>by unfold of C.of;exact Le'.bind (of_le a ns) fun x=>Le'.bind (of_le b x.1) fun _=>Le'.bind (Le'.refl _) fun _=>Le'.bind (Le'.refl _) fun _=>Le'.map (more_le _ _)
 | .fn op (.fr p q),ns=>by unfold of C.of;exact outright_le _ _ _ _
 | .fn op (.con o ts),ns=>fn_le (of_le (.con o ts) ns)
 | .fn op (.neg t),ns=>fn_le (of_le (.neg t) ns)
 | .fn op (.two k a b),ns=>fn_le (of_le (.two k a b) ns)
 | .fn op (.fn o t),ns=>fn_le (of_le (.fn o t) ns)
where
 fn_le {x y:Option (List Nd×Nat)} {op:Op} (h:Le' x y):Le' (x.bind fun x=>(x.1[x.2]?).bind fun nx=>
   (if nx.pos then some x else (more x.1 (fresh true [(1,0),(0,1)] [x.2])).map fun ns1=>(ns1,x.1.length)).bind fun y=>
   (more y.1 { fresh true [(1,0),(0,1)] [y.2] with op:=op,probe:=true }).map fun ns1=>(ns1,y.1.length))
   (y.bind fun x=>(x.1[x.2]?).bind fun nx=>
   (if nx.pos then some x else (C.more x.1 (fresh true [(1,0),(0,1)] [x.2])).map fun ns1=>(ns1,x.1.length)).bind fun y=>
   (C.more y.1 { fresh true [(1,0),(0,1)] [y.2] with op:=op,probe:=true }).map fun ns1=>(ns1,y.1.length)):=
  Le'.bind h fun _=>Le'.bind (Le'.refl _) fun _=>Le'.bind (Le'.ite (Le'.refl _) (Le'.map (more_le _ _))) fun _=>Le'.map (more_le _ _)
end Rf
namespace Rf
open Nw
open Pg (Go HC)
structure Cm (m:Mt):Prop where
 a:m.a≤0
 b:m.b≤0
 c:0≤m.c
 d:0≤m.d
 det:m.a*m.d - m.b*m.c≠0
theorem Cm.start:Cm (one.mul (Mt.sym 45)):=⟨by decide,by decide,by decide,by decide,by decide⟩
theorem Cm.digit {m:Mt} (h:Cm m) {c:Int} (hc:c=-1∨c=0∨c=1):Cm (m.mul (Mt.sym c)):=by
 obtain ⟨h1,h2,h3,h4,h5⟩:=h
 rcases hc with rfl | rfl | rfl
 ·refine ⟨?_,?_,?_,?_,?_⟩ <;> simp [Mt.mul,Mt.sym]
  ·omega
  ·omega
  ·omega
  ·omega
  ·intro e
   apply h5
   have:(m.a+m.b)*(m.d*2) - m.b*2*(m.c+m.d)=2*(m.a*m.d - m.b*m.c):=by grind
   omega
 ·refine ⟨?_,?_,?_,?_,?_⟩ <;> simp [Mt.mul,Mt.sym]
  ·omega
  ·omega
  ·omega
  ·omega
  ·intro e
   apply h5
   have:(m.a*3+m.b)*(m.c+m.d*3) - (m.a+m.b*3)*(m.c*3+m.d)=8*(m.a*m.d - m.b*m.c):=by grind
   omega
 ·refine ⟨?_,?_,?_,?_,?_⟩ <;> simp [Mt.mul,Mt.sym]
  ·omega
  ·omega
  ·omega
  ·omega
  ·intro e
   apply h5
   have:m.a*2*(m.c+m.d) - (m.a+m.b)*(m.c*2)=2*(m.a*m.d - m.b*m.c):=by grind
   omega
theorem Cm.had {m:Nd} (h:GP m) (h0:m.out[0]?=some 45):∀ (k:Nat) (x:Mt),m.had[k+1]?=some x→Cm x
 | 0,x,hx=>by
  have:=h.1.step 0 45 one h0 h.1.fst
  rw [hx] at this
  cases this
  exact Cm.start
 | k+1,x,hx=>by
  have hl:k+2 < m.had.length:=(List.getElem?_eq_some_iff.1 hx).1
  have hk:k+1 < m.out.length:=by rw [h.1.len] at hl;omega
  have ho:m.out[k+1]?=some m.out[k+1]:=List.getElem?_eq_getElem hk
  have hy:m.had[k+1]?=some (m.had[k+1]'(by omega)):=List.getElem?_eq_getElem (by omega)
  have:=h.1.step (k+1) _ _ ho hy
  rw [hx] at this
  cases this
  refine (Cm.had h h0 k _ hy).digit ?_
  rcases h.2 (k+1) _ ho with ⟨e,_⟩ | e
  ·omega
  ·exact e
theorem Cm.can {m:Mt} (h:Cm m) {s:Int} (hs:s∈([-1,1,0]:List Int)):can [vag one (vat ⟨1,0,0,1⟩ (vat m (1,0))),vag one (vat ⟨1,0,0,1⟩ (vat m (0,1)))] s=false:=by
 obtain ⟨h1,h2,h3,h4,h5⟩:=h
 have q1:m.a≠0∨m.b≠0:=by
  by_cases e:m.a=0
  ·right
   intro e2
   rw [e,e2] at h5
   simp at h5
  ·exact Or.inl e
 have q2:m.c≠0∨m.d≠0:=by
  by_cases e:m.c=0
  ·right
   intro e2
   rw [e,e2] at h5
   simp at h5
  ·exact Or.inl e
 have q3:m.a≠0∨m.c≠0:=by
  by_cases e:m.a=0
  ·right
   intro e2
   rw [e,e2] at h5
   simp at h5
  ·exact Or.inl e
 clear h5
 obtain ⟨a,b,c,d⟩:=m
 simp only at*
 simp only [List.mem_cons,List.not_mem_nil,or_false] at hs
 rcases hs with rfl | rfl | rfl <;> simp [Rf.can,fits,ups,downs,vag,vat,Mt.at1,Mt.at2,Mt.ag1,Mt.ag2,one,Mt.sym] <;> (rw [Bool.eq_iff_iff];simp only [Bool.or_eq_true,decide_eq_true_eq];omega)
def N3 (k:Nat):Nd:={ fresh true [(1,0),(0,1)] [2] with read:=[k] }
theorem never3:∀ (f:Nat) (s:St) (rho:Nat→Nat) (c k:Nat) (m:Nd),s.clock=(c:Int)→c≤3000→Inv s.nodes rho c→s.nodes[3]?=some (N3 (k+1))→s.nodes[2]?=some m→(∀ n∈s.nodes,GP n)→m.pos=false→m.out[0]?=some 45→c+rho 3+2≤f→∀ x,sym f s 3 0=some x→x.2=none
 | 0,s,rho,c,k,m,hcl,hc,hI,h3,h2,hG,hp,h45,hf,x,hx=>by cases hx
 | f+1,s,rho,c,k,m,hcl,hc,hI,h3,h2,hG,hp,h45,hf,x,hx=>by
  have hN3:=hI.at' 3 _ h3
  have hr2:rho 2 < rho 3:=(hN3.arg 0 2 rfl).2
  have hrd:k+1≤m.out.length:=hN3.rd 0 2 (k+1) m rfl rfl h2
  unfold sym at hx
  rw [h3,Option.bind_some] at hx
  rw [show (N3 (k+1)).out[0]?=none from rfl] at hx
  simp only at hx
  rw [if_neg (show ¬(N3 (k+1)).probe=true by simp [N3,fresh])] at hx
  have hw:waits s.nodes (N3 (k+1)).args (N3 (k+1)).read=false:=by
   simp [N3,fresh,waits,h2]
  have hnext:next s.nodes (N3 (k+1))=none∨next s.nodes (N3 (k+1))=some none:=by
   unfold next
   rw [if_neg (by rw [hw];decide)]
   have hcor:corners s.nodes (N3 (k+1))=(m.had[k+1]?).map fun h=>[vag one (vat ⟨1,0,0,1⟩ (vat h (1,0))),vag one (vat ⟨1,0,0,1⟩ (vat h (0,1)))]:=by
    show ((bare s.nodes (N3 (k+1))).map _)=_
    unfold bare
    simp only [N3,fresh]
    unfold ends
    simp only [List.getElem?_cons_zero,Option.bind_some,h2]
    cases m.had[k+1]? <;> rfl
   rw [hcor]
   cases hh:m.had[k+1]? with
   | none=>exact Or.inl rfl
   | some y=>
    right
    have hC:=Cm.had (hG m (List.mem_of_getElem? h2)) h45 k y hh
    simp only [Option.map_some,Option.some.injEq]
    refine List.find?_eq_none.2 fun z hz=>?_
    have hz':z∈([-1,1,0]:List Int):=hz
    rw [hC.can hz']
    decide
  rcases hnext with e | e
  ·rw [e] at hx;cases hx
  ·rw [e,Option.bind_some] at hx
   simp only at hx
   obtain ⟨y,e1,hx⟩:=Option.bind_eq_some_iff.1 hx
   unfold reads at e1
   rw [if_neg (show ¬(N3 (k+1)).t=[] by simp [N3,fresh])] at e1
   rw [show side s.nodes (N3 (k+1))=some 0 from rfl,Option.bind_some] at e1
   rw [show wide s 3 (N3 (k+1)) 0=some s by unfold wide;rw [if_neg (by simp [N3,fresh])],Option.bind_some] at e1
   rw [h3,Option.bind_some,show (N3 (k+1)).args[0]?=some 2 from rfl,Option.bind_some,show (N3 (k+1)).read[0]?=some (k+1) from rfl,Option.bind_some] at e1
   obtain ⟨z,ez,e1⟩:=Option.bind_eq_some_iff.1 e1
   obtain ⟨z',ez',hP⟩:=total f s 2 (k+1) rho c hcl hc hI m h2 hrd (by omega)
   rw [ez] at ez'
   cases ez'
   obtain ⟨s1,v⟩:=z
   cases v with
   | none=>
    cases e1
    simp at hx
    rw [←hx]
   | some v=>
    simp only at e1
    obtain ⟨rho',c',g1,g2,g3,g4,n',g5,g6⟩:=hP.ex v rfl
    have hgg:=sym_gg f s 2 (k+1) _ ez
    have h3':s1.nodes[3]?=some (N3 (k+1)):=g4.same 3 _ h3 hr2
    obtain ⟨m',q1,q2,q3,q4⟩:=hgg.go.at' 2 m h2
    rw [g5] at q1
    cases q1
    obtain ⟨s2,b,a1,a2⟩:=after_inv (i:=3) (sd:=0) g2 g3 (by omega) h3' (a:=2) (r:=k+1) rfl rfl g5 g6 (fun _=>rfl)
    have hgg2:=after_gg a1
    rw [a1] at e1
    cases e1
    have h32:b=true→s2.nodes[3]?=some (N3 (k+2)):=by
     intro hb
     unfold after at a1
     rw [h3',Option.bind_some] at a1
     obtain ⟨ns,p1,a1⟩:=Option.bind_eq_some_iff.1 a1
     have hlt:=(List.getElem?_eq_some_iff.1 h3').1
     have hns:ns=s1.nodes.set 3 (N3 (k+2)):=(put_gg p1 h3' rfl rfl rfl rfl).2
     split at a1
     ·cases a1;cases hb
     ·obtain ⟨ns1,p2,a1⟩:=Option.map_eq_some_iff.1 a1
      cases a1
      unfold settle at p2
      rw [if_neg (by simp [N3,fresh])] at p2
      cases p2
      rw [hns]
      exact List.getElem?_set_self hlt
    cases b with
    | false=>
     simp at hx
     rw [←hx]
    | true=>
     simp at hx
     obtain ⟨rho2,c2,t1,t2,t3,t4,_⟩:=a2 rfl
     obtain ⟨m2,r1,r2,r3,r4⟩:=hgg2.go.at' 2 n' g5
     have hl:=(List.getElem?_eq_some_iff.1 h3).1
     have hl1:=(List.getElem?_eq_some_iff.1 h3').1
     have e3:rho2 3=rho 3:=by rw [t4.agree 3 hl1,g4.agree 3 hl]
     exact never3 f s2 rho2 c2 (k+1) m2 t2 (by omega) t3 (h32 rfl) r1 (hgg2.all (hgg.all hG)) (by rw [r2,q2,hp]) (r4 0 45 (q4 0 45 h45)) (by omega) x hx
end Rf
end Go.Proofs.YteghhlfmcjmnoaaGreatDoor
