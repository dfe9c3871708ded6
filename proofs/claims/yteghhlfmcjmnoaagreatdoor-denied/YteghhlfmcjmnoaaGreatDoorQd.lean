import Derived.Test.YteghhlfmcjmnoaaGreatDoorQb
set_option linter.unusedSimpArgs false
set_option linter.unusedVariables false
namespace Go.Proofs.YteghhlfmcjmnoaaGreatDoor
open Go.RowKit
namespace Ab
open Rf (Nd Inv NInv Wt)
def sA (kd : Int) (tv lv rv : Value) (tm : List AT) : AS := ⟨tm, [(0, ext (.int .i64 kd :: anys 4 ++ [.lit tv, .lit lv, .lit rv]) 93)], 1, [], []⟩
def maS (p q : Int) (tv lv rv : Value) (tm : List AT) : AS := ⟨tm, [(0, ext (.int .i64 1 :: numCs true 0 2 ++ [.lit tv, .lit lv, .lit rv]) 93)], 1, [(p, 1), (q, 1)], []⟩
def sE (d : Nat) (v : Value) : AS := ⟨slot [(d, litT v)] 0 83, [], 0, [], []⟩
def pD (d : Nat) (o : Oper) : Bool := o.dst == some d
noncomputable def rN : Nat × Array Oper × List (K (List AT)) := drwR (opCalls 156) Tryz.f124
noncomputable def rC : Nat × Array Oper × List (K (List AT)) := drwR (opCalls 157) Tryz.f124
noncomputable def rF : Nat × Array Oper × List (K (List AT)) := drwR (opCalls 158) Tryz.f124
def stM (ks : List (K (List AT))) : Bool := atDrw (fun o => opCalls 156 o || opCalls 157 o || opCalls 158 o) ks || atOp (fun o => opCalls 124 o || opCalls 160 o) ks
abbrev maT : List AT := P0 :: List.replicate 82 .und
noncomputable def mRun (kt : List Nat) (ks : List (K (List AT))) (s : AS) : Option XT := (run Z (tabSp tS) bT (drawA Z (tabSp tS)) stM 400 ks s).bind (outX (nrm [0] [] 1 []) (nrm [0] kt 1 []))
noncomputable def mK : List (K (List AT)) := [.code (bodyOf Tryz.f124), .top Tryz.f124]
noncomputable def mTail (ks : List (K (List AT))) (s : AS) : Option Tr := run Z (tabSp tS) bT (drawA Z (tabSp tS)) (fun _ => false) 50 ks s
def retL : Tr → Option (AT × Bool)
  | .ret r s => some (r, clean s)
  | _ => none
section
variable (p q : Int) (tv lv rv v v1 v2 : Value)
set_option maxRecDepth 100000 in
theorem w_N : mRun [0] mK (maS p q tv lv rv maT) = some (.stp (.code (.region rN.1 rN.2.1 true) :: rN.2.2) (maS p q tv lv rv (slot [(0, P0)] 0 83))) := by kernel_rfl
set_option maxRecDepth 100000 in
theorem w_C {kd : Int} (h : kd = 2 ∨ kd = 3 ∨ kd = 4) : mRun [0] mK (sA kd tv lv rv maT) = some (.stp (.code (.region rC.1 rC.2.1 true) :: rC.2.2) (sA kd tv lv rv (slot [(0, P0)] 0 83))) := by
  rcases h with rfl | rfl | rfl <;> kernel_rfl
set_option maxRecDepth 100000 in
theorem w_F {kd : Int} (h : kd = 10 ∨ kd = 11 ∨ kd = 12 ∨ kd = 13) : mRun [0] mK (sA kd tv lv rv maT) = some (.stp (.code (.region rF.1 rF.2.1 true) :: rF.2.2) (sA kd tv lv rv (slot [(0, P0)] 0 83))) := by
  rcases h with rfl | rfl | rfl | rfl <;> kernel_rfl
set_option maxRecDepth 100000 in
theorem w_M : mRun [0, 58] mK (sA 5 tv lv rv maT) = some (.stp (bef (pD 59) Tryz.f124) (sA 5 tv lv rv (slot [(0, P0), (58, litT lv)] 0 83))) := by kernel_rfl
set_option maxRecDepth 100000 in
theorem w_B (kd : Rf.Kind) : mRun [0, 69] mK (sA (kdK kd) tv lv rv maT) = some (.stp (bef (pD 70) Tryz.f124) (sA (kdK kd) tv lv rv (slot [(0, P0), (69, litT lv)] 0 83))) := by
  cases kd <;> kernel_rfl
set_option maxRecDepth 100000 in
theorem w_B2 (kd : Rf.Kind) : mRun [0, 3, 74] (aft (pD 70) Tryz.f124) (sA (kdK kd) tv lv rv (slot [(0, P0), (70, litT v1)] 0 83)) = some (.stp (bef (pD 75) Tryz.f124) (sA (kdK kd) tv lv rv (slot [(0, P0), (3, litT v1), (74, litT rv)] 0 83))) := by
  cases kd <;> kernel_rfl
set_option maxRecDepth 100000 in
theorem w_B3 (kd : Rf.Kind) : mRun [0, 79, 80, 81] (aft (pD 75) Tryz.f124) (sA (kdK kd) tv lv rv (slot [(0, P0), (3, litT v1), (75, litT v2)] 0 83)) = some (.stp (bef (pD 82) Tryz.f124) (sA (kdK kd) tv lv rv (slot [(0, P0), (79, .val (.one (.int .i64 (kdK kd)))), (80, litT v1), (81, litT v2)] 0 83))) := by
  cases kd <;> kernel_rfl
theorem t_N : (mTail (.ops rN.2.1 [11] :: rN.2.2) (sE 23 v)).bind retL = some (litT v, true) := by kernel_rfl
theorem t_C : (mTail (.ops rC.2.1 [11] :: rC.2.2) (sE 38 v)).bind retL = some (litT v, true) := by kernel_rfl
theorem t_F : (mTail (.ops rF.2.1 [9] :: rF.2.2) (sE 52 v)).bind retL = some (litT v, true) := by kernel_rfl
theorem t_M : (mTail (aft (pD 60) Tryz.f124) (sE 60 v)).bind retL = some (litT v, true) := by kernel_rfl
theorem t_B : (mTail (aft (pD 82) Tryz.f124) (sE 82 v)).bind retL = some (litT v, true) := by kernel_rfl
noncomputable def dN : AS := ((drawA Z (tabSp tS) (rN.2.1.extract 0 10) (maS p q tv lv rv (slot [(0, P0)] 0 83))).getD (⟨[], [], 0, [], []⟩, [])).1
noncomputable def dC (kd : Int) : AS := ((drawA Z (tabSp tS) (rC.2.1.extract 0 10) (sA kd tv lv rv (slot [(0, P0)] 0 83))).getD (⟨[], [], 0, [], []⟩, [])).1
noncomputable def dF (kd : Int) : AS := ((drawA Z (tabSp tS) (rF.2.1.extract 0 8) (sA kd tv lv rv (slot [(0, P0)] 0 83))).getD (⟨[], [], 0, [], []⟩, [])).1
set_option maxRecDepth 100000 in
theorem d_N : drawA Z (tabSp tS) (rN.2.1.extract 0 10) (maS p q tv lv rv (slot [(0, P0)] 0 83)) = some (dN p q tv lv rv, []) := by kernel_rfl
set_option maxRecDepth 100000 in
theorem d_C (kd : Int) : drawA Z (tabSp tS) (rC.2.1.extract 0 10) (sA kd tv lv rv (slot [(0, P0)] 0 83)) = some (dC tv lv rv kd, []) := by kernel_rfl
set_option maxRecDepth 100000 in
theorem d_F (kd : Int) : drawA Z (tabSp tS) (rF.2.1.extract 0 8) (sA kd tv lv rv (slot [(0, P0)] 0 83)) = some (dF tv lv rv kd, []) := by kernel_rfl
set_option maxRecDepth 100000 in
theorem bar_N : barB rN.2.1 10 = true ∧ 10 < rN.2.1.size ∧ (List.range rN.2.1.size).drop 10 = [10, 11] := ⟨by kernel_rfl, Nat.lt_of_lt_of_eq (by decide : 10 < 12) (by kernel_rfl), by kernel_rfl⟩
set_option maxRecDepth 100000 in
theorem bar_C : barB rC.2.1 10 = true ∧ 10 < rC.2.1.size ∧ (List.range rC.2.1.size).drop 10 = [10, 11] := ⟨by kernel_rfl, Nat.lt_of_lt_of_eq (by decide : 10 < 12) (by kernel_rfl), by kernel_rfl⟩
set_option maxRecDepth 100000 in
theorem bar_F : barB rF.2.1 8 = true ∧ 8 < rF.2.1.size ∧ (List.range rF.2.1.size).drop 8 = [8, 9] := ⟨by kernel_rfl, Nat.lt_of_lt_of_eq (by decide : 8 < 10) (by kernel_rfl), by kernel_rfl⟩
set_option maxRecDepth 100000 in
theorem c_N : callAt Z (dN p q tv lv rv) (.ops rN.2.1 [10, 11] :: rN.2.2) = some (156, [.agg (numCs true 0 1), .agg (numCs true 1 1)], some 23, .ops rN.2.1 [11] :: rN.2.2) := by kernel_rfl
set_option maxRecDepth 100000 in
theorem c_C (kd : Int) : callAt Z (dC tv lv rv kd) (.ops rC.2.1 [10, 11] :: rC.2.2) = some (157, [.one (.ptr 10 0)], some 38, .ops rC.2.1 [11] :: rC.2.2) := by kernel_rfl
set_option maxRecDepth 100000 in
theorem c_F (kd : Int) : callAt Z (dF tv lv rv kd) (.ops rF.2.1 [8, 9] :: rF.2.2) = some (158, [.one (.int .i64 kd), .one (.lit lv)], some 52, .ops rF.2.1 [9] :: rF.2.2) := by kernel_rfl
set_option maxRecDepth 100000 in
theorem c_M : callAt Z (sA 5 tv lv rv (slot [(0, P0), (58, litT lv)] 0 83)) (bef (pD 59) Tryz.f124) = some (124, [.one (.lit lv)], some 59, bef (pD 60) Tryz.f124) := by kernel_rfl
set_option maxRecDepth 100000 in
theorem c_M2 : callAt Z (sE 59 v) (bef (pD 60) Tryz.f124) = some (159, [.one (.lit v)], some 60, aft (pD 60) Tryz.f124) := by kernel_rfl
set_option maxRecDepth 100000 in
theorem c_B (kd : Int) : callAt Z (sA kd tv lv rv (slot [(0, P0), (69, litT lv)] 0 83)) (bef (pD 70) Tryz.f124) = some (124, [.one (.lit lv)], some 70, aft (pD 70) Tryz.f124) := by kernel_rfl
set_option maxRecDepth 100000 in
theorem c_B2 (kd : Int) : callAt Z (sA kd tv lv rv (slot [(0, P0), (3, litT v1), (74, litT rv)] 0 83)) (bef (pD 75) Tryz.f124) = some (124, [.one (.lit rv)], some 75, aft (pD 75) Tryz.f124) := by kernel_rfl
set_option maxRecDepth 100000 in
theorem c_B3 (kd : Int) : callAt Z (sA kd tv lv rv (slot [(0, P0), (79, .val (.one (.int .i64 kd))), (80, litT v1), (81, litT v2)] 0 83)) (bef (pD 82) Tryz.f124) = some (160, [.one (.int .i64 kd), .one (.lit v1), .one (.lit v2)], some 82, aft (pD 82) Tryz.f124) := by kernel_rfl
set_option maxRecDepth 100000 in
theorem fr_all : noFr (rN.2.2) = true ∧ noFr (rC.2.2) = true ∧ noFr (rF.2.2) = true ∧ noFr (bef (pD 59) Tryz.f124) = true ∧ noFr (bef (pD 60) Tryz.f124) = true ∧ noFr (bef (pD 70) Tryz.f124) = true ∧ noFr (bef (pD 75) Tryz.f124) = true ∧ noFr (bef (pD 82) Tryz.f124) = true ∧ noFr (aft (pD 60) Tryz.f124) = true ∧ noFr (aft (pD 70) Tryz.f124) = true ∧ noFr (aft (pD 75) Tryz.f124) = true ∧ noFr (aft (pD 82) Tryz.f124) = true := ⟨by kernel_rfl, by kernel_rfl, by kernel_rfl, by kernel_rfl, by kernel_rfl, by kernel_rfl, by kernel_rfl, by kernel_rfl, by kernel_rfl, by kernel_rfl, by kernel_rfl, by kernel_rfl⟩
theorem dN_nums : (dN p q tv lv rv).nums = [(p, 1), (q, 1)] := by kernel_rfl
theorem dN_len : (dN p q tv lv rv).tmps.length = 83 := by kernel_rfl
theorem dN_cl : clean (dN p q tv lv rv) = true := by kernel_rfl
theorem dC_len (kd : Int) : (dC tv lv rv kd).tmps.length = 83 := by kernel_rfl
theorem dC_cl (kd : Int) : clean (dC tv lv rv kd) = true := by kernel_rfl
theorem dF_len (kd : Int) : (dF tv lv rv kd).tmps.length = 83 := by kernel_rfl
theorem dF_cl (kd : Int) : clean (dF tv lv rv kd) = true := by kernel_rfl
theorem dC_look (kd : Int) : look (dC tv lv rv kd).boxes 10 = some ⟨.int .i64 kd :: .lit tv :: (bxc (dC tv lv rv kd) 10).drop 2, 224, true, false, false⟩ := by kernel_rfl
theorem dC_num (kd : Int) : numOf (dC tv lv rv kd).nums ((bxc (dC tv lv rv kd) 10).drop 2) = some [0, 0, 0, 0, 0, 0, 0, 0] := by kernel_rfl
theorem keep_none : ∀ (ts : List AT) (i : Nat), keepT [] [] i ts = List.replicate ts.length .top
  | [], _ => rfl
  | t :: r, i => by show AT.top :: keepT [] [] (i + 1) r = _; rw [keep_none r (i + 1)]; rfl
theorem sE_tm {d : Nat} {v : Value} {ts : List AT} (h : ts.length = 83) (hs : putT (List.replicate 83 .top) (some d) (litT v) = slot [(d, litT v)] 0 83) : (sE d v).tmps = putT (keepT [] [] 0 ts) (some d) (litT v) := by
  rw [keep_none, h]
  exact hs.symm
end
end Ab
end Go.Proofs.YteghhlfmcjmnoaaGreatDoor
set_option linter.unusedSimpArgs false
set_option linter.unusedVariables false
namespace Go.Proofs.YteghhlfmcjmnoaaGreatDoor
open Go.RowKit
namespace Ab
open Rf (Nd Inv NInv Wt)
theorem NewNd.on {w w2 w3 : World} {zs : List Int} {hs : Bool} {uns : Int} {lp rp cv : Value} {e : Ending} (h : NewNd w zs hs uns lp rp cv e w2) (hc : Chg w2 w3 []) : NewNd w zs hs uns lp rp cv e w3 := by
  obtain ⟨m, h1, h2, h3, h4⟩ := h
  exact ⟨m, h1, h2.trans hc, h3, h4.keep hc.on (hc.low m h4.lt (by simp))⟩
theorem NewNd.up {w w1 w2 : World} {zs : List Int} {hs : Bool} {uns : Int} {lp rp cv : Value} {e : Ending} (h : NewNd w1 zs hs uns lp rp cv e w2) (hc : Chg w w1 []) : NewNd w zs hs uns lp rp cv e w2 := by
  obtain ⟨m, h1, h2, h3, h4⟩ := h
  exact ⟨m, h1, hc.trans h2, Nat.le_trans hc.on.size h3, h4⟩
theorem PartB.on {w w' : World} {k : Nat} {kd : Int} {xs : List Value} {tv lv rv : Value} (h : PartB w k kd xs tv lv rv) (hc : Chg w w' []) : PartB w' k kd xs tv lv rv := hc.at h (by simp)
theorem sA_rep {w : World} {k : Nat} {kd : Int} {xs : List Value} {tv lv rv : Value} (h : PartB w k kd xs tv lv rv) (h4 : xs.length = 4) (hx : ∀ x ∈ xs, One x) (o1 : One tv) (o2 : One lv) (o3 : One rv) (tm : List AT) : RepW Z w (ph1 0 k) (ph1 0 k) (sA kd tv lv rv tm) w := by
  refine rep_ext rfl ?_ ?_ ?_
  · intro b B hB
    have := look_mem hB
    simp only [sA, List.mem_singleton, Prod.mk.injEq] at this
    obtain ⟨rfl, rfl⟩ := this
    refine ⟨rfl, rfl, rfl, k, 0, rfl, [], .int .i64 kd :: xs ++ [tv, lv, rv], [], (show w.heap[k]? = some (.cells ([] ++ (Value.int .i64 kd :: xs ++ [tv, lv, rv]) ++ []).toArray 93 (0, 0)) by simpa [PartB] using h), rfl, rfl, ?_⟩
    exact (any_all 4 xs h4 hx).append ⟨⟨rfl, o1⟩, ⟨rfl, o2⟩, ⟨rfl, o3⟩, trivial⟩
  · intro b hb
    have : 1 ≤ b := hb
    unfold ph1
    rw [if_neg (by omega)]
  · intro b k' o hb'
    unfold ph1 at hb'
    split at hb'
    · cases hb'; exact lt_of_heap h
    · cases hb'
theorem maS_rep {w : World} {k : Nat} {p q : Int} {xs : List Value} {tv lv rv : Value} (h : PartB w k 1 xs tv lv rv) (hh : Hold true w [p, q] xs) (hb : ∀ z ∈ [p, q], Bits 1 z) (o1 : One tv) (o2 : One lv) (o3 : One rv) (tm : List AT) : RepW Z w (ph1 0 k) (ph1 0 k) (maS p q tv lv rv tm) w := by
  refine rep_ext rfl ?_ ?_ ?_
  · intro b B hB
    have := look_mem hB
    simp only [maS, List.mem_singleton, Prod.mk.injEq] at this
    obtain ⟨rfl, rfl⟩ := this
    refine ⟨rfl, rfl, rfl, k, 0, rfl, [], .int .i64 1 :: xs ++ [tv, lv, rv], [], (show w.heap[k]? = some (.cells ([] ++ (Value.int .i64 1 :: xs ++ [tv, lv, rv]) ++ []).toArray 93 (0, 0)) by simpa [PartB] using h), rfl, rfl, ?_⟩
    refine (hold_cs [p, q] xs 0 _ hh hb fun j z hz => ?_).append ⟨⟨rfl, o1⟩, ⟨rfl, o2⟩, ⟨rfl, o3⟩, trivial⟩
    match j, hz with
    | 0, hz => cases hz; rfl
    | 1, hz => cases hz; rfl
    | j + 2, hz => simp at hz
  · intro b hb
    have : 1 ≤ b := hb
    unfold ph1
    rw [if_neg (by omega)]
  · intro b k' o hb'
    unfold ph1 at hb'
    split at hb'
    · cases hb'; exact lt_of_heap h
    · cases hb'
theorem ph1_kb {k : Nat} : ∀ b x, ph1 0 k b = some x → [0].contains b = true := by
  intro b x e
  unfold ph1 at e
  split at e
  · subst_vars; rfl
  · cases e
theorem tail_ok {d : Nat} {v : Value} {ks : List (K (List AT))} (ht : (mTail ks (sE d v)).bind retL = some (litT v, true)) {R : Ending → World → Prop} {w' : World} (hR : ∀ w2, Chg w' w2 [] → R (.returned v) w2) {kcs : List (K Act)} {a : Act} (hsr : ∀ φ' ν' w'', SR Z φ' ν' w'' ks kcs) (hr : Rep Z w' (fun _ => none) (fun _ => none) (sE d v) a w') : sem Z.P R kcs .normal a w' := by
  obtain ⟨tr, h1, h2⟩ := bnd ht
  match tr, h2 with
  | .ret r s, h2 =>
    simp only [retL, Option.some.injEq, Prod.mk.injEq] at h2
    obtain ⟨rfl, hc⟩ := h2
    refine run_ok (tabSp_ok tS_ok) bT_ok (drawA_ok mixed (tabSp_ok tS_ok)) (fun r s => r = litT v ∧ clean s = true) (fun _ _ => False) (fun _ _ h => h.elim) ?_ _ _ _ _ h1 ⟨rfl, hc⟩ kcs _ a w' (hsr _ _ _) hr
    rintro r s φ x w2 ⟨rfl, hc⟩ hrel hw
    have hx : x = v := hrel.1
    rw [hx]
    exact hR w2 (Chg.of_below (RepF.below hw hc))
  | .br _ _ _, h2 => cases h2
  | .need _ _, h2 => cases h2
  | .stop _ _, h2 => cases h2
theorem last_ok {d : Nat} {w0 w : World} {ψ φ : Nat → Option (Nat × Nat)} {s : AS} {a : Act} {ks ks2 : List (K (List AT))} {kcs : List (K Act)} {f : FuncId} {vs : List AV} {R : Ending → World → Prop} (h : callAt Z s ks = some (f, vs, some d, ks2)) (hen : Enters Z.P f) (hfr : noFr ks = true) (hsr : ∀ φ' ν' w'', SR Z φ' ν' w'' ks kcs) (hr : Rep Z w0 ψ φ s a w) (hl : s.tmps.length = 83) (hs : ∀ v, putT (List.replicate 83 .top) (some d) (litT v) = slot [(d, litT v)] 0 83) (ht : ∀ v, (mTail ks2 (sE d v)).bind retL = some (litT v, true))
    (H : ∀ xs : List Value, All2 (relV Z φ s.nums w) vs xs → Calls Z.P f xs.toArray w fun e w' => ∃ v, e = .returned v ∧ One v ∧ ∀ w2, Chg w' w2 [] → R (.returned v) w2) : sem Z.P R kcs .normal a w := by
  refine callAt_ok h hen hfr (hsr φ s.nums w) hr fun xs hxs => (H xs hxs).mono ?_
  rintro e w' ⟨v, rfl, ho, hR⟩
  refine ⟨v, rfl, fun kcs2 hf2 hsr2 => ?_⟩
  exact tail_ok (ht v) hR hsr2 (rep_aft (kb := []) (kt := []) hr rep_emp (sE_tm hl (hs v)) (fun b hb => by simp at hb) ⟨rfl, ho⟩)
section
variable {w : World} {k : Nat} {kd : Int} {xs : List Value} {tv lv rv : Value} {R : Ending → World → Prop}
theorem ptr_one (m : Nat) : One (ptrB m) := rfl
theorem made_N {p q : Int} (hB : PartB w k 1 xs tv lv rv) (hh : Hold true w [p, q] xs) (hb : ∀ z ∈ [p, q], Bits 1 z) (o1 : One tv) (o2 : One lv) (o3 : One rv) : Calls Tryz.prog 124 #[ptrB k] w (NewNd w [p, q, 0, 0, 0, 0, 0, 0] (decide (p < 0)) 0 nilP nilP nilP) := by
  have F := fn_of Tryz.func124 rfl rfl
  refine calls_x F (φ := ph1 0 k) (vs := [.one (.ptr 0 0)]) (args := [ptrB k]) (s := maS p q tv lv rv maT) (by kernel_rfl) ⟨⟨k, 0, rfl, rfl⟩, trivial⟩ (maS_rep hB hh hb o1 o2 o3 _) ?_
  refine xrun' (tabSp_ok tS_ok) bT_ok ph1_kb (nrm_R ph1_kb) (w_N p q tv lv rv) (fun _ _ => False) (fun ks s => ks = .code (.region rN.1 rN.2.1 true) :: rN.2.2 ∧ s = maS p q tv lv rv (slot [(0, P0)] 0 83)) ⟨rfl, rfl⟩ (fun _ _ _ _ _ h => h.elim) ?_
  rintro ks s ⟨rfl, rfl⟩
  have hfr : noFr rN.2.2 = true := fr_all.1
  refine ⟨by simpa [noFr] using hfr, fun kcs φ1 a1 w1 hsr1 hr1 => ?_⟩
  obtain ⟨bb, bj, bd⟩ := bar_N
  match kcs, hsr1 φ1 [] w1 with
  | .code cc :: kcs', ⟨hcc, hsr2⟩ =>
  subst hcc
  show (Code.region rN.1 rN.2.1 true).wp Z.P _ a1 w1
  refine draw_bar mixed (tabSp_ok tS_ok) bj bb (d_N p q tv lv rv) holds_nil hr1 ?_
  intro φ2 a2 w2 hr2
  rw [bd]
  have c2 : Chg w w2 [] := Chg.of_below (RepF.below hr2.wd (dN_cl p q tv lv rv))
  show sem Z.P _ (.ops rN.2.1 [10, 11] :: kcs') .normal a2 w2
  refine last_ok (c_N p q tv lv rv) (fn_of Tryz.func156 rfl rfl).en (by simpa [noFr] using hfr) (fun φ' ν' w'' => ⟨rfl, rfl, SR.any hfr hsr2⟩) hr2 (dN_len p q tv lv rv) (fun v => by kernel_rfl) t_N ?_
  intro us hus
  match us, hus with
  | [u1, u2], ⟨⟨x1, hu1, hx1⟩, ⟨x2, hu2, hx2⟩, _⟩ =>
  rw [hu1, hu2]
  have hn := dN_nums p q tv lv rv
  have h1 : Hold true w2 [p] x1 := cs_hold [p] 0 x1 hx1 (by
    intro j z hz
    rw [hn]
    match j, hz with
    | 0, hz => cases hz; exact ⟨1, rfl⟩
    | j + 1, hz => simp at hz)
  have h2 : Hold true w2 [q] x2 := cs_hold [q] 1 x2 hx2 (by
    intro j z hz
    rw [hn]
    match j, hz with
    | 0, hz => cases hz; exact ⟨1, rfl⟩
    | j + 1, hz => simp at hz)
  refine (frac_calls h1 h2 (hb p (by simp)) (hb q (by simp))).mono ?_
  rintro e w3 hN
  obtain ⟨m, he, hN2⟩ := id hN
  rw [he] at hN
  exact ⟨ptrB m, he, ptr_one m, fun w4 hc4 => (hN.on hc4).up c2⟩
theorem made_C (hkd : kd = 2 ∨ kd = 3 ∨ kd = 4) (hB : PartB w k kd xs tv lv rv) (h4 : xs.length = 4) (hx : ∀ x ∈ xs, One x) (o1 : One tv) (o2 : One lv) (o3 : One rv) : Calls Tryz.prog 124 #[ptrB k] w fun e w' => ∃ cb, ∃ cs : List Value, NewNd w [1, 0, 0, 1, 0, 0, 0, 0] false 0 nilP nilP (ptrB cb) e w' ∧ w'.heap[cb]? = some (.cells (.int .i64 kd :: tv :: cs).toArray 224 (0, 0)) ∧ Hold true w' [0, 0, 0, 0, 0, 0, 0, 0] cs ∧ w.heap.size ≤ cb := by
  have F := fn_of Tryz.func124 rfl rfl
  refine calls_x F (φ := ph1 0 k) (vs := [.one (.ptr 0 0)]) (args := [ptrB k]) (s := sA kd tv lv rv maT) (by kernel_rfl) ⟨⟨k, 0, rfl, rfl⟩, trivial⟩ (sA_rep hB h4 hx o1 o2 o3 _) ?_
  refine xrun' (tabSp_ok tS_ok) bT_ok ph1_kb (nrm_R ph1_kb) (w_C tv lv rv hkd) (fun _ _ => False) (fun ks s => ks = .code (.region rC.1 rC.2.1 true) :: rC.2.2 ∧ s = sA kd tv lv rv (slot [(0, P0)] 0 83)) ⟨rfl, rfl⟩ (fun _ _ _ _ _ h => h.elim) ?_
  rintro ks s ⟨rfl, rfl⟩
  have hfr : noFr rC.2.2 = true := fr_all.2.1
  refine ⟨by simpa [noFr] using hfr, fun kcs φ1 a1 w1 hsr1 hr1 => ?_⟩
  obtain ⟨bb, bj, bd⟩ := bar_C
  match kcs, hsr1 φ1 [] w1 with
  | .code cc :: kcs', ⟨hcc, hsr2⟩ =>
  subst hcc
  show (Code.region rC.1 rC.2.1 true).wp Z.P _ a1 w1
  refine draw_bar mixed (tabSp_ok tS_ok) bj bb (d_C tv lv rv kd) holds_nil hr1 ?_
  intro φ2 a2 w2 hr2
  rw [bd]
  have c2 : Chg w w2 [] := Chg.of_below (RepF.below hr2.wd (dC_cl tv lv rv kd))
  show sem Z.P _ (.ops rC.2.1 [10, 11] :: kcs') .normal a2 w2
  refine last_ok (c_C tv lv rv kd) (fn_of Tryz.func157 rfl rfl).en (by simpa [noFr] using hfr) (fun φ' ν' w'' => ⟨rfl, rfl, SR.any hfr hsr2⟩) hr2 (dC_len tv lv rv kd) (fun v => by kernel_rfl) t_C ?_
  intro us hus
  match us, hus with
  | [u1], ⟨hu1, _⟩ =>
  obtain ⟨cb, ys, k1, k2, k3, k4⟩ := own_blk hr2.wd (dC_look tv lv rv kd) rfl rfl
  have hu : u1 = ptrB cb := ptr_v (ν := (dC tv lv rv kd).nums) (w := w2) k1 u1 hu1
  rw [hu]
  refine (const_calls (ptr_one cb)).mono ?_
  rintro e w3 hN
  obtain ⟨m, he, hc3, hN2⟩ := id hN
  rw [he] at hN
  refine ⟨ptrB m, he, ptr_one m, fun w4 hc4 => ?_⟩
  match ys, k3 with
  | y1 :: y2 :: ys, ⟨g1, g2, g4⟩ =>
  have g1 : y1 = .int .i64 kd := g1
  rw [g1, show y2 = tv from g2.1] at k2
  have hc := hc3.trans hc4
  exact ⟨cb, ys, (hN.on hc4).up c2, hc.at k2 (by simp), hold_on hc.on (numOf_ok _ _ _ (dC_num tv lv rv kd) g4), k4⟩
theorem made_F (hkd : kd = 10 ∨ kd = 11 ∨ kd = 12 ∨ kd = 13) (hB : PartB w k kd xs tv lv rv) (h4 : xs.length = 4) (hx : ∀ x ∈ xs, One x) (o1 : One tv) (o2 : One lv) (o3 : One rv) (hcall : ∀ w1, Chg w w1 [] → Calls Tryz.prog 158 #[.int .i64 kd, lv] w1 fun e w2 => ∃ v, e = .returned v ∧ One v ∧ ∀ w3, Chg w2 w3 [] → R (.returned v) w3) : Calls Tryz.prog 124 #[ptrB k] w R := by
  have F := fn_of Tryz.func124 rfl rfl
  refine calls_x F (φ := ph1 0 k) (vs := [.one (.ptr 0 0)]) (args := [ptrB k]) (s := sA kd tv lv rv maT) (by kernel_rfl) ⟨⟨k, 0, rfl, rfl⟩, trivial⟩ (sA_rep hB h4 hx o1 o2 o3 _) ?_
  refine xrun' (tabSp_ok tS_ok) bT_ok ph1_kb (nrm_R ph1_kb) (w_F tv lv rv hkd) (fun _ _ => False) (fun ks s => ks = .code (.region rF.1 rF.2.1 true) :: rF.2.2 ∧ s = sA kd tv lv rv (slot [(0, P0)] 0 83)) ⟨rfl, rfl⟩ (fun _ _ _ _ _ h => h.elim) ?_
  rintro ks s ⟨rfl, rfl⟩
  have hfr : noFr rF.2.2 = true := fr_all.2.2.1
  refine ⟨by simpa [noFr] using hfr, fun kcs φ1 a1 w1 hsr1 hr1 => ?_⟩
  obtain ⟨bb, bj, bd⟩ := bar_F
  match kcs, hsr1 φ1 [] w1 with
  | .code cc :: kcs', ⟨hcc, hsr2⟩ =>
  subst hcc
  show (Code.region rF.1 rF.2.1 true).wp Z.P _ a1 w1
  refine draw_bar mixed (tabSp_ok tS_ok) bj bb (d_F tv lv rv kd) holds_nil hr1 ?_
  intro φ2 a2 w2 hr2
  rw [bd]
  have c2 : Chg w w2 [] := Chg.of_below (RepF.below hr2.wd (dF_cl tv lv rv kd))
  show sem Z.P _ (.ops rF.2.1 [8, 9] :: kcs') .normal a2 w2
  refine last_ok (c_F tv lv rv kd) (fn_of Tryz.func158 rfl rfl).en (by simpa [noFr] using hfr) (fun φ' ν' w'' => ⟨rfl, rfl, SR.any hfr hsr2⟩) hr2 (dF_len tv lv rv kd) (fun v => by kernel_rfl) t_F ?_
  intro us hus
  match us, hus with
  | [u1, u2], ⟨hu1, hu2, _⟩ =>
  have hu1 : u1 = .int .i64 kd := hu1
  have hu2 : u2 = lv := hu2.1
  rw [hu1, hu2]
  exact hcall w2 c2
theorem made_M (hB : PartB w k 5 xs tv lv rv) (h4 : xs.length = 4) (hx : ∀ x ∈ xs, One x) (o1 : One tv) (o2 : One lv) (o3 : One rv) (hcall : ∀ w1, Chg w w1 [] → Calls Tryz.prog 124 #[lv] w1 fun e w2 => ∃ m, e = .returned (ptrB m) ∧ (∃ b, ∃ ys : List Value, w2.heap[m]? = some (.cells (.bool b :: ys).toArray 205 (0, 0))) ∧ ∀ e3 w3, NewNd w2 [-1, 0, 0, 1, 0, 0, 0, 0] true 0 nilP (ptrB m) nilP e3 w3 → R e3 w3) : Calls Tryz.prog 124 #[ptrB k] w R := by
  have F := fn_of Tryz.func124 rfl rfl
  refine calls_x F (φ := ph1 0 k) (vs := [.one (.ptr 0 0)]) (args := [ptrB k]) (s := sA 5 tv lv rv maT) (by kernel_rfl) ⟨⟨k, 0, rfl, rfl⟩, trivial⟩ (sA_rep hB h4 hx o1 o2 o3 _) ?_
  refine xrun' (tabSp_ok tS_ok) bT_ok ph1_kb (nrm_R ph1_kb) (w_M tv lv rv) (fun _ _ => False) (fun ks s => ks = bef (pD 59) Tryz.f124 ∧ s = sA 5 tv lv rv (slot [(0, P0), (58, litT lv)] 0 83)) ⟨rfl, rfl⟩ (fun _ _ _ _ _ h => h.elim) ?_
  rintro ks s ⟨rfl, rfl⟩
  obtain ⟨_, _, _, f59, f60, _⟩ := fr_all
  refine ⟨f59, fun kcs φ1 a1 w1 hsr1 hr1 => ?_⟩
  have c1 : Chg w w1 [] := Chg.of_below (RepF.below hr1.wd rfl)
  refine callAt_ok (c_M tv lv rv) F.en f59 (hsr1 φ1 [] w1) hr1 fun us hus => ?_
  match us, hus with
  | [u1], ⟨hu1, _⟩ =>
  have hu1 : u1 = lv := hu1.1
  rw [hu1]
  refine (hcall w1 c1).mono ?_
  rintro e w2 ⟨m, rfl, ⟨b, hm⟩, hR⟩
  refine ⟨ptrB m, rfl, fun kcs2 hf2 hsr2 => ?_⟩
  have hr2 : Rep Z w2 (fun _ => none) (fun _ => none) (sE 59 (ptrB m)) (a1.put (some 59) (ptrB m)) w2 := rep_aft (kb := []) (kt := []) hr1 rep_emp (sE_tm (by rfl) (by kernel_rfl)) (fun b hb => by simp at hb) ⟨rfl, ptr_one m⟩
  refine last_ok (c_M2 (ptrB m)) (fn_of Tryz.func159 rfl rfl).en f60 hsr2 hr2 (by rfl) (fun v => by kernel_rfl) t_M ?_
  intro us hus
  match us, hus with
  | [u1], ⟨hu1, _⟩ =>
  have hu1 : u1 = ptrB m := hu1.1
  rw [hu1]
  refine (minus_calls hm).mono ?_
  rintro e w3 hN
  obtain ⟨m', he, hN2⟩ := id hN
  rw [he] at hN
  exact ⟨ptrB m', he, ptr_one m', fun w4 hc4 => hR _ _ (hN.on hc4)⟩
theorem made_B (kk : Rf.Kind) (hB : PartB w k (kdK kk) xs tv lv rv) (h4 : xs.length = 4) (hx : ∀ x ∈ xs, One x) (o1 : One tv) (o2 : One lv) (o3 : One rv) (hcall : ∀ w1, Chg w w1 [] → Calls Tryz.prog 124 #[lv] w1 fun e w2 => ∃ m1, e = .returned (ptrB m1) ∧ Chg w1 w2 [] ∧ ∀ w3, Chg w2 w3 [] → Calls Tryz.prog 124 #[rv] w3 fun e w4 => ∃ m2, e = .returned (ptrB m2) ∧ Chg w3 w4 [] ∧ ∀ w5, Chg w4 w5 [] → ∃ a b, (∃ ys : List Value, w5.heap[m1]? = some (.cells (.bool a :: ys).toArray 205 (0, 0))) ∧ (∃ ys : List Value, w5.heap[m2]? = some (.cells (.bool b :: ys).toArray 205 (0, 0))) ∧ ∀ e6 w6, NewNd w5 (opZ kk) (opS kk a b) 0 (ptrB m1) (ptrB m2) nilP e6 w6 → R e6 w6) : Calls Tryz.prog 124 #[ptrB k] w R := by
  have F := fn_of Tryz.func124 rfl rfl
  refine calls_x F (φ := ph1 0 k) (vs := [.one (.ptr 0 0)]) (args := [ptrB k]) (s := sA (kdK kk) tv lv rv maT) (by kernel_rfl) ⟨⟨k, 0, rfl, rfl⟩, trivial⟩ (sA_rep hB h4 hx o1 o2 o3 _) ?_
  refine xrun' (tabSp_ok tS_ok) bT_ok ph1_kb (nrm_R ph1_kb) (w_B tv lv rv kk) (fun _ _ => False) (fun ks s => ks = bef (pD 70) Tryz.f124 ∧ s = sA (kdK kk) tv lv rv (slot [(0, P0), (69, litT lv)] 0 83)) ⟨rfl, rfl⟩ (fun _ _ _ _ _ h => h.elim) ?_
  rintro ks s ⟨rfl, rfl⟩
  obtain ⟨_, _, _, _, _, f70, f75, f82, _⟩ := fr_all
  refine ⟨f70, fun kcs φ1 a1 w1 hsr1 hr1 => ?_⟩
  have c1 : Chg w w1 [] := Chg.of_below (RepF.below hr1.wd rfl)
  refine callAt_ok (c_B tv lv rv (kdK kk)) F.en f70 (hsr1 φ1 [] w1) hr1 fun us hus => ?_
  match us, hus with
  | [u1], ⟨hu1, _⟩ =>
  have hu1 : u1 = lv := hu1.1
  rw [hu1]
  refine (hcall w1 c1).mono ?_
  rintro e w2 ⟨m1, rfl, c2, hcall2⟩
  refine ⟨ptrB m1, rfl, fun kcs2 hf2 hsr2 => ?_⟩
  have hr2 : Rep Z w2 (ph1 0 k) (ph1 0 k) (sA (kdK kk) tv lv rv (slot [(0, P0), (70, litT (ptrB m1))] 0 83)) (a1.put (some 70) (ptrB m1)) w2 := rep_aft (kb := [0]) (kt := [0]) (r := litT (ptrB m1)) hr1 (sA_rep ((hB.on c1).on c2) h4 hx o1 o2 o3 _) (by kernel_rfl) (fun b hb => by
    have : b = 0 := by simpa using hb
    subst this
    exact (hr1.wd.base 0 (k, 0) rfl).symm) ⟨rfl, ptr_one m1⟩
  refine xrun' (tabSp_ok tS_ok) bT_ok ph1_kb (nrm_R ph1_kb) (w_B2 tv lv rv (ptrB m1) kk) (fun _ _ => False) (fun ks s => ks = bef (pD 75) Tryz.f124 ∧ s = sA (kdK kk) tv lv rv (slot [(0, P0), (3, litT (ptrB m1)), (74, litT rv)] 0 83)) ⟨rfl, rfl⟩ (fun _ _ _ _ _ h => h.elim) ?_ kcs2 _ _ _ (hsr2 _ _ _) hr2
  rintro ks s ⟨rfl, rfl⟩
  refine ⟨f75, fun kcs φ3 a3 w3 hsr3 hr3 => ?_⟩
  have c3 : Chg w2 w3 [] := Chg.of_below (RepF.below hr3.wd rfl)
  refine callAt_ok (c_B2 tv lv rv (ptrB m1) (kdK kk)) F.en f75 (hsr3 φ3 [] w3) hr3 fun us hus => ?_
  match us, hus with
  | [u1], ⟨hu1, _⟩ =>
  have hu1 : u1 = rv := hu1.1
  rw [hu1]
  refine (hcall2 w3 c3).mono ?_
  rintro e w4 ⟨m2, rfl, c4, hcall3⟩
  refine ⟨ptrB m2, rfl, fun kcs4 hf4 hsr4 => ?_⟩
  have hr4 : Rep Z w4 (ph1 0 k) (ph1 0 k) (sA (kdK kk) tv lv rv (slot [(0, P0), (3, litT (ptrB m1)), (75, litT (ptrB m2))] 0 83)) (a3.put (some 75) (ptrB m2)) w4 := rep_aft (kb := [0]) (kt := [0, 3]) (r := litT (ptrB m2)) hr3 (sA_rep ((((hB.on c1).on c2).on c3).on c4) h4 hx o1 o2 o3 _) (by kernel_rfl) (fun b hb => by
    have : b = 0 := by simpa using hb
    subst this
    exact (hr3.wd.base 0 (k, 0) rfl).symm) ⟨rfl, ptr_one m2⟩
  refine xrun' (tabSp_ok tS_ok) bT_ok ph1_kb (nrm_R ph1_kb) (w_B3 tv lv rv (ptrB m1) (ptrB m2) kk) (fun _ _ => False) (fun ks s => ks = bef (pD 82) Tryz.f124 ∧ s = sA (kdK kk) tv lv rv (slot [(0, P0), (79, .val (.one (.int .i64 (kdK kk)))), (80, litT (ptrB m1)), (81, litT (ptrB m2))] 0 83)) ⟨rfl, rfl⟩ (fun _ _ _ _ _ h => h.elim) ?_ kcs4 _ _ _ (hsr4 _ _ _) hr4
  rintro ks s ⟨rfl, rfl⟩
  refine ⟨f82, fun kcs φ5 a5 w5 hsr5 hr5 => ?_⟩
  have c5 : Chg w4 w5 [] := Chg.of_below (RepF.below hr5.wd rfl)
  refine last_ok (c_B3 tv lv rv (ptrB m1) (ptrB m2) (kdK kk)) (fn_of Tryz.func160 rfl rfl).en f82 hsr5 hr5 (by rfl) (fun v => by kernel_rfl) t_B ?_
  intro us hus
  match us, hus with
  | [u1, u2, u3], ⟨hu1, hu2, hu3, _⟩ =>
  have hu1 : u1 = .int .i64 (kdK kk) := hu1
  have hu2 : u2 = ptrB m1 := hu2.1
  have hu3 : u3 = ptrB m2 := hu3.1
  rw [hu1, hu2, hu3]
  obtain ⟨a, b, ha, hb, hR⟩ := hcall3 w5 c5
  refine (oper_calls kk ha hb).mono ?_
  rintro e w6 hN
  obtain ⟨m', he, hN2⟩ := id hN
  rw [he] at hN
  exact ⟨ptrB m', he, ptr_one m', fun w7 hc7 => hR _ _ (hN.on hc7)⟩
end
end Ab
end Go.Proofs.YteghhlfmcjmnoaaGreatDoor
