import Derived.Test.YteghhlfmcjmnoaaGreatDoorNu
set_option linter.unusedSimpArgs false
set_option linter.unusedVariables false
namespace Go.Proofs.YteghhlfmcjmnoaaGreatDoor
open Go.RowKit
namespace Ab
noncomputable def rdLL (a b c d p0 q0 p1 q1 p2 q2 p3 q3 : Int) : List Int := [p0 * a + p2 * c, q0 * a + q2 * c, p1 * a + p3 * c, q1 * a + q3 * c, p0 * b + p2 * d, q0 * b + q2 * d, p1 * b + p3 * d, q1 * b + q3 * d]
noncomputable def rdRL (a b c d p0 q0 p1 q1 p2 q2 p3 q3 : Int) : List Int := [p0 * a + p1 * c, q0 * a + q1 * c, p0 * b + p1 * d, q0 * b + q1 * d, p2 * a + p3 * c, q2 * a + q3 * c, p2 * b + p3 * d, q2 * b + q3 * d]
def spC (a b c d mt : Int) : Spec := fun f _ ν _ _ vs => bif f == 216 then (match vs with
  | [.one (.ptr 4 0), .one (.sint .i64 n)] => some ([(a, 2), (b, 2), (c, 2), (d, 2)], .val (.agg (numCs true ν.length 4)), [n = mt], none)
  | _ => none) else none
section
variable (p0 q0 p1 q1 p2 q2 p3 q3 : Int) (hs : Bool) (uns mt lr rr pl c cd : Int) (lp rp cst nst gv gv2 : Value)
noncomputable def wrS (zs : List Int) (u : Nat) (lr rr mt c : Int) (m : Nat) : AS := ⟨slot [] 0 m, [(0, ndW hs uns mt lr rr pl (.lit lp) (.lit rp) (.lit cst) (.lit nst) (.lit gv)), (6, fuW c)], 7, zs.map fun z => (z, u), [0, 6, 0]⟩
set_option maxRecDepth 100000 in
theorem rl_1 : (run Z (tabSp tN) bW (drawA Z (tabSp tN)) (atOp (opCalls 125)) 400 [.code (bodyOf Tryz.f209), .top Tryz.f209] (goS p0 q0 p1 q1 p2 q2 p3 q3 hs uns mt lr rr pl c lp rp cst nst gv (argT 37))).bind (outX (nrm [0, 6] [] 7 []) (nrm [0, 6] [0, 1, 9, 10] 7 []))
    = some (.stp (bef (opCalls 125) Tryz.f209) (goS p0 q0 p1 q1 p2 q2 p3 q3 hs uns mt lr rr pl c lp rp cst nst gv (slot [(0, P0), (1, P6), (9, .val (.agg [.lit lp, .sint .i64 lr])), (10, P6)] 0 39))) := by kernel_rfl
set_option maxRecDepth 100000 in
theorem rl_2 : (run Z (tabSp tN) bW (drawA Z (tabSp tN)) (fun _ => false) 400 (aft (opCalls 125) Tryz.f209) (goS p0 q0 p1 q1 p2 q2 p3 q3 hs uns mt lr rr pl c lp rp cst nst gv (slot [(0, P0), (1, P6), (11, sintT cd)] 0 39))).bind (outX (nrm [0, 6] [] 7 []) (nrm [0, 6] [] 7 []))
    = some (.br (decide (cd = 0)) (.ret (.val (.one (.bool false))) (goS p0 q0 p1 q1 p2 q2 p3 q3 hs uns mt lr rr pl c lp rp cst nst gv (slot [] 0 39))) (.br (decide (c < 1)) (.ret (.val (.one (.bool false))) (goS p0 q0 p1 q1 p2 q2 p3 q3 hs uns mt lr rr pl c lp rp cst nst gv (slot [] 0 39))) (.ret (.val (.one (.bool true))) (wrS hs uns pl lp rp cst nst gv (hvL (rdLL (symA cd) (symB cd) (symC cd) (symD cd) p0 q0 p1 q1 p2 q2 p3 q3)) 19 (IntKind.i64.wrap (lr + 1)) rr mt (IntKind.i64.wrap (c - 1)) 39)))) := by kernel_rfl
set_option maxRecDepth 100000 in
theorem rl_3 : (run Z (tabSp tN) bW (drawA Z (tabSp tN)) (fun _ => false) 400 (aft (opCalls 125) Tryz.f209) ⟨slot [(11, .val (.one (.int .i64 0)))] 0 39, [], 0, [], []⟩).bind (outX (nrm [] [] 0 []) (nrm [] [] 0 [])) = some (.ret (.val (.one (.bool false))) ⟨slot [] 0 39, [], 0, [], []⟩) := by kernel_rfl
set_option maxRecDepth 100000 in
theorem rc_1 (ma mb mc md : Int) : (run Z (orSp (spC ma mb mc md mt) (tabSp tN)) bW (drawA Z (orSp (spC ma mb mc md mt) (tabSp tN))) (fun _ => false) 400 [.code (bodyOf Tryz.f207), .top Tryz.f207] (sW [p0, q0, p1, q1, p2, q2, p3, q3] hs uns mt lr rr pl c (.lit lp) (.lit rp) (.ptr 4 0) (.lit nst) (.lit gv) [(4, ext [] 224)] (argT 33))).bind (outX (nrm [0, 6, 4] [] 7 []) (nrm [0, 6, 4] [] 7 []))
    = some (.br (decide (c < 1)) (.ret (.val (.one (.bool false))) (sW [p0, q0, p1, q1, p2, q2, p3, q3] hs uns mt lr rr pl c (.lit lp) (.lit rp) (.ptr 4 0) (.lit nst) (.lit gv) [(4, ext [] 224)] (slot [] 0 35))) (.need [mt = mt] (.ret (.val (.one (.bool true))) ⟨slot [] 0 35, [(0, ndW hs uns (IntKind.i64.wrap (mt + 1)) lr rr pl (.lit lp) (.lit rp) (.ptr 4 0) (.lit nst) (.lit gv)), (6, fuW (IntKind.i64.wrap (c - 1))), (4, ext [] 224)], 7, (hvL (rdRL ma mb mc md p0 q0 p1 q1 p2 q2 p3 q3)).map fun z => (z, 19), [0, 6, 0]⟩))) := by kernel_rfl
end
theorem wrap_dec {c : Int} (h1 : 1 ≤ c) (h2 : c ≤ 3000) : IntKind.i64.wrap (c - 1) = c - 1 := by
  unfold IntKind.wrap
  simp [IntKind.bits, IntKind.signed]
  omega
theorem wrap_inc {c : Int} (h1 : 0 ≤ c) (h2 : c ≤ 1000000) : IntKind.i64.wrap (c + 1) = c + 1 := by
  unfold IntKind.wrap
  simp [IntKind.bits, IntKind.signed]
  omega
structure AftRd (w2 : World) (k fb : Nat) (cd : Int) (R : Ending → World → Prop) (K : Int → Int → Int → Int → Int → Int → Int → Int → Bool → Int → Int → Int → Int → Int → Int → Value → Value → Value → Value → Value → Prop) : Prop where
  none : cd = 0 → ∀ w3, Chg w2 w3 [] → R (.returned (.bool false)) w3
  some : cd ≠ 0 → ∃ p0 q0 p1 q1 p2 q2 p3 q3 hs uns mt lr rr pl c lp rp gv cv nv, Pos2 w2 k fb [p0, q0, p1, q1, p2, q2, p3, q3] hs uns mt lr rr pl c lp rp gv cv nv ∧ c ≤ 3000 ∧ 0 ≤ lr ∧ lr ≤ 1000000 ∧ 0 ≤ rr ∧ rr ≤ 1000000 ∧ (c < 1 → ∀ w3, Chg w2 w3 [] → R (.returned (.bool false)) w3) ∧ (1 ≤ c → K p0 q0 p1 q1 p2 q2 p3 q3 hs uns mt lr rr pl c lp rp gv cv nv)
section
variable {w : World} {k fb : Nat} {p0 q0 p1 q1 p2 q2 p3 q3 : Int} {hs : Bool} {uns mt lr rr pl c : Int} {lp rp gv cv nv : Value} {R : Ending → World → Prop}
set_option maxRecDepth 100000 in
set_option maxHeartbeats 800000 in
theorem readLeft_calls (h : Pos2 w k fb [p0, q0, p1, q1, p2, q2, p3, q3] hs uns mt lr rr pl c lp rp gv cv nv)
    (hun : ∀ w1, Chg w w1 [] → Calls Tryz.prog 125 #[.agg #[lp, .int .i64 lr], ptrB fb] w1 fun e w2 => ∃ cd, e = .returned (.int .i64 cd) ∧
      AftRd w2 k fb cd R fun p0 q0 p1 q1 p2 q2 p3 q3 hs uns mt lr rr pl c lp rp gv cv nv => (∀ z ∈ hvL (rdLL (symA cd) (symB cd) (symC cd) (symD cd) p0 q0 p1 q1 p2 q2 p3 q3), Bits 10 z) ∧ ∀ w3, Chg w2 w3 [k, fb] → Pos2 w3 k fb (hvL (rdLL (symA cd) (symB cd) (symC cd) (symD cd) p0 q0 p1 q1 p2 q2 p3 q3)) hs uns mt (lr + 1) rr pl (c - 1) lp rp gv cv nv → R (.returned (.bool true)) w3) :
    Calls Tryz.prog 209 #[ptrB k, ptrB fb] w R := by
  have F := fn_of Tryz.func209 rfl rfl
  refine calls_x F (φ := phW k fb fun _ => none) (vs := [.one (.ptr 0 0), .one (.ptr 6 0)]) (args := [ptrB k, ptrB fb]) (s := goS p0 q0 p1 q1 p2 q2 p3 q3 hs uns mt lr rr pl c lp rp cv nv gv (argT 37)) (by kernel_rfl) ⟨⟨k, 0, rfl, rfl⟩, ⟨fb, 0, rfl, rfl⟩, trivial⟩ (h.rep _) ?_
  refine xrun' (tabSp_ok tN_ok) bW_ok (phN_kb rfl rfl) (nrm_R (phN_kb rfl rfl)) (rl_1 p0 q0 p1 q1 p2 q2 p3 q3 hs uns mt lr rr pl c lp rp cv nv gv) (fun _ _ => False) (fun ks s => ks = bef (opCalls 125) Tryz.f209 ∧ s = goS p0 q0 p1 q1 p2 q2 p3 q3 hs uns mt lr rr pl c lp rp cv nv gv (slot [(0, P0), (1, P6), (9, .val (.agg [.lit lp, .sint .i64 lr])), (10, P6)] 0 39)) ⟨rfl, rfl⟩ (fun _ _ _ _ _ h => h.elim) ?_
  rintro ks s ⟨rfl, rfl⟩
  refine ⟨by kernel_rfl, fun kcs φ1 a1 w1 hsr1 hr1 => ?_⟩
  have c1 := rep_chg0 hr1.wd rfl
  refine callAt_ok (f := 125) (vs := [.agg [.lit lp, .sint .i64 lr], .one (.ptr 6 0)]) (dst := some 11) (ks2 := aft (opCalls 125) Tryz.f209) (by kernel_rfl) (fn_of Tryz.func125 rfl rfl).en (by kernel_rfl) (hsr1 φ1 [] w1) hr1 ?_
  intro ys hys
  match ys, hys with
  | [y, y2], ⟨⟨zs, hy, hz⟩, hy2, _⟩ =>
  match zs, hz with
  | [z1, z2], ⟨hz1, hz2, _⟩ =>
  have hz1 : z1 = lp := hz1.1
  have hz2 : z2 = .int .i64 lr := hz2
  rw [ptr_val (hr1.wd.base 6 (fb, 0) rfl) hy2, hy, hz1, hz2]
  refine (hun w1 c1).mono ?_
  rintro e w2 ⟨cd, rfl, hA⟩
  refine ⟨_, rfl, fun kcs2 hf2 hsr2 => ?_⟩
  by_cases hcd : cd = 0
  · subst hcd
    have hr2 : Rep Z w2 (fun _ => none) (fun _ => none) ⟨slot [(11, .val (.one (.int .i64 0)))] 0 39, [], 0, [], []⟩ (a1.put (some 11) (.int .i64 0)) w2 := rep_aft (kb := []) (kt := []) (dst := some 11) (r := .val (.one (.int .i64 0))) hr1 (rep_none _) (by kernel_rfl) (fun b hb => by simp at hb) rfl
    refine xrun' (tabSp_ok tN_ok) bW_ok (fun b x e => by cases e) (nrm_R (fun b x e => by cases e)) rl_3 (fun r s => r = .val (.one (.bool false)) ∧ s.dirty = []) (fun _ _ => False) ⟨rfl, rfl⟩ ?_ (fun _ _ h => h.elim) kcs2 _ _ _ (hsr2 _ _ _) hr2
    rintro r s φ5 v w5 ⟨rfl, hd⟩ hv _ hw5
    rw [hv false (Or.inl rfl)]
    exact hA.none rfl w5 (rep_chg0 hw5 hd)
  · obtain ⟨p0, q0, p1, q1, p2, q2, p3, q3, hs, uns, mt, lr, rr, pl, c, lp, rp, gv, cv, nv, h2, hc3, l1, l2, _, _, hno, hyes⟩ := hA.some hcd
    have hr2 : Rep Z w2 (phW k fb fun _ => none) (phW k fb fun _ => none) (goS p0 q0 p1 q1 p2 q2 p3 q3 hs uns mt lr rr pl c lp rp cv nv gv (slot [(0, P0), (1, P6), (11, sintT cd)] 0 39)) (a1.put (some 11) (.int .i64 cd)) w2 := by
      refine rep_aft (kb := [0, 6]) (kt := [0, 1]) (dst := some 11) (r := sintT cd) hr1 (h2.rep _) (by kernel_rfl) ?_ rfl
      intro b hb
      have hb' : b = 0 ∨ b = 6 := by simpa using hb
      rcases hb' with rfl | rfl
      · rw [hr1.wd.base 0 (k, 0) rfl]; rfl
      · rw [hr1.wd.base 6 (fb, 0) rfl]; rfl
    refine xrun' (tabSp_ok tN_ok) bW_ok (phN_kb rfl rfl) (nrm_R (phN_kb rfl rfl)) (rl_2 p0 q0 p1 q1 p2 q2 p3 q3 hs uns mt lr rr pl c cd lp rp cv nv gv)
      (fun r s => (r = .val (.one (.bool false)) ∧ s.dirty = [] ∧ c < 1) ∨ (r = .val (.one (.bool true)) ∧ ¬ c < 1 ∧ s = wrS hs uns pl lp rp cv nv gv (hvL (rdLL (symA cd) (symB cd) (symC cd) (symD cd) p0 q0 p1 q1 p2 q2 p3 q3)) 19 (IntKind.i64.wrap (lr + 1)) rr mt (IntKind.i64.wrap (c - 1)) 39))
      (fun _ _ => False) ⟨fun e => absurd (of_decide_eq_true e) hcd, fun _ => ⟨fun e2 => Or.inl ⟨rfl, rfl, of_decide_eq_true e2⟩, fun e2 => Or.inr ⟨rfl, of_decide_eq_false e2, rfl⟩⟩⟩ ?_ (fun _ _ h => h.elim) kcs2 _ _ _ (hsr2 _ _ _) hr2
    rintro r s φ3 v w3 (⟨rfl, hd, h1⟩ | ⟨rfl, h1, rfl⟩) hv _ hw3
    · rw [hv false (Or.inl rfl)]
      exact hno h1 w3 (rep_chg0 hw3 hd)
    · rw [hv true (Or.inl rfl)]
      obtain ⟨hB, hR⟩ := hyes (by omega)
      have hc23 : Chg w2 w3 [k, fb] := sW_chg hw3 rfl
      have := h2.out hw3 (zs' := hvL (rdLL (symA cd) (symB cd) (symC cd) (symD cd) p0 q0 p1 q1 p2 q2 p3 q3)) (hs' := hs) (uns' := uns) (mt' := mt) (lr' := IntKind.i64.wrap (lr + 1)) (rr' := rr) (pl' := pl) (c' := IntKind.i64.wrap (c - 1)) (lp' := lp) (rp' := rp) (gv' := gv) (cv' := cv) (nv' := nv) rfl rfl rfl map_nums hB
      rw [wrap_dec (by omega) hc3, wrap_inc l1 l2] at this
      exact hR w3 hc23 this
end
end Ab
end Go.Proofs.YteghhlfmcjmnoaaGreatDoor
set_option linter.unusedSimpArgs false
set_option linter.unusedVariables false
namespace Go.Proofs.YteghhlfmcjmnoaaGreatDoor
open Go.RowKit
namespace Ab
theorem spC_ok {w : World} {ψ : Nat → Option (Nat × Nat)} {cb : Nat} {a b c d mt : Int} (hψ : ψ 4 = some (cb, 0)) (hb : ∀ z ∈ [a, b, c, d], Bits 2 z) (hcon : ∀ W, On Z.bt w W → Calls Tryz.prog 216 #[ptrB cb, .int .i64 mt] W fun e w' => ∃ xs : List Value, e = .returned (.agg xs.toArray) ∧ Hold true w' [a, b, c, d] xs ∧ Below W.heap.size W w') : SpecOk Z w ψ (spC a b c d mt) := by
  intro f dd ν id bx vs ν' r p nbx h
  unfold spC at h
  cases hf : f == 216 with
  | false => rw [hf] at h; cases h
  | true =>
    rw [hf] at h
    have : f = 216 := by simpa using hf
    subst this
    refine ⟨(fn_of Tryz.func216 rfl rfl).en, fun hp μ hμ φ w1 xs hφ _ hon hbx hxs => ?_⟩
    simp only [cond_true] at h
    split at h
    · rename_i n
      cases h
      match xs, hxs with
      | [x1, x2], ⟨h1, h2, _⟩ =>
      have hn : n = mt := hp (n = mt) (by simp)
      have h2 : x2 = .int .i64 n := h2
      rw [ptr_val (hφ 4 _ hψ) h1, h2, hn]
      refine (hcon w1 hon).mono ?_
      rintro e w' ⟨ys, rfl, g1, g2⟩
      refine ⟨_, rfl, g2, ys, rfl, ?_⟩
      refine hold_cs [a, b, c, d] ys ν.length μ g1 hb fun j z hz => ?_
      refine hμ _ _ ?_
      rw [List.getElem?_append_right (by omega), show ν.length + j - ν.length = j by omega]
      match j, hz with
      | 0, hz => cases hz; rfl
      | 1, hz => cases hz; rfl
      | 2, hz => cases hz; rfl
      | 3, hz => cases hz; rfl
      | j + 4, hz => simp at hz
    · cases h
section
variable {w w' : World} {k fb : Nat} {zs : List Int} {p0 q0 p1 q1 p2 q2 p3 q3 : Int} {hs : Bool} {uns mt lr rr pl c : Int} {lp rp gv cv nv : Value} {R : Ending → World → Prop}
theorem Pos2.repX (h : Pos2 w k fb zs hs uns mt lr rr pl c lp rp gv cv nv) {exφ : Nat → Option (Nat × Nat)} {ex : List (Nat × Box)} {rpC cvC nvC : AC} (hr : relC Z (phW k fb exφ) (zs.map fun z => (z, 10)) w rpC rp) (hc : relC Z (phW k fb exφ) (zs.map fun z => (z, 10)) w cvC cv) (hm : relC Z (phW k fb exφ) (zs.map fun z => (z, 10)) w nvC nv)
    (hex : ∀ b B, look ex b = some B → B.own = false ∧ B.tip = false ∧ B.ro = true ∧ ∃ k' o, phW k fb exφ b = some (k', o) ∧ k' ≠ k ∧ k' ≠ fb ∧ Seg Z (phW k fb exφ) (zs.map fun z => (z, 10)) w k' o B.ty B.cs) (hlt : ∀ b k' o, exφ b = some (k', o) → k' < w.heap.size) (tm : List AT) : RepW Z w (phW k fb exφ) (phW k fb exφ) (sW zs hs uns mt lr rr pl c (.lit lp) rpC cvC nvC (.lit gv) ex tm) w :=
  sW_rep (lpC := .lit lp) (gvC := .lit gv) h.nd h.h8 h.bits h.fu ⟨rfl, h.o1⟩ hr ⟨rfl, h.o3⟩ hc hm hex hlt tm
theorem phX_kb {exφ : Nat → Option (Nat × Nat)} {kb : List Nat} (h0 : kb.contains 0 = true) (h6 : kb.contains 6 = true) (hx : ∀ b x, exφ b = some x → kb.contains b = true) : ∀ b x, phW k fb exφ b = some x → kb.contains b = true := by
  intro b x h
  unfold phW at h
  split at h
  · subst_vars; exact h0
  · split at h
    · subst_vars; exact h6
    · split at h
      · exact hx b x h
      · cases h
def ph1 (i k : Nat) : Nat → Option (Nat × Nat) := fun b => if b = i then some (k, 0) else none
def ph2 (i k j m : Nat) : Nat → Option (Nat × Nat) := fun b => if b = i then some (k, 0) else if b = j then some (m, 0) else none
theorem Pos2.ty_ne (h : Pos2 w k fb zs hs uns mt lr rr pl c lp rp gv cv nv) {b : Nat} {cs : List Value} {ty : TypeId} (hb : w.heap[b]? = some (.cells cs.toArray ty (0, 0))) (h1 : ty ≠ 205) (h2 : ty ≠ 195) : b ≠ k ∧ b ≠ fb := by
  constructor
  · rintro rfl
    obtain ⟨ys, hy, _⟩ := h.nd.ex
    rw [hb] at hy
    exact h1 (Obj.cells.inj (Option.some.inj hy)).2.1
  · rintro rfl
    have hy := h.fu
    rw [hb] at hy
    exact h2 (Obj.cells.inj (Option.some.inj hy)).2.1
set_option maxRecDepth 100000 in
set_option maxHeartbeats 800000 in
theorem readConstant_calls (h : Pos2 w k fb [p0, q0, p1, q1, p2, q2, p3, q3] hs uns mt lr rr pl c lp rp gv cv nv) {cb : Nat} (hcv : cv = ptrB cb) (hblk : ∃ cs : List Value, w.heap[cb]? = some (.cells cs.toArray 224 (0, 0))) (hc3 : c ≤ 3000) (hm0 : 0 ≤ mt) (hm1 : mt ≤ 1000000)
    {ma mb mc md : Int} (hb : ∀ z ∈ [ma, mb, mc, md], Bits 2 z) (hcon : ∀ W, On Z.bt w W → Calls Tryz.prog 216 #[ptrB cb, .int .i64 mt] W fun e w' => ∃ xs : List Value, e = .returned (.agg xs.toArray) ∧ Hold true w' [ma, mb, mc, md] xs ∧ Below W.heap.size W w')
    (hno : c < 1 → ∀ w1, Chg w w1 [] → R (.returned (.bool false)) w1)
    (hbits : 1 ≤ c → ∀ z ∈ hvL (rdRL ma mb mc md p0 q0 p1 q1 p2 q2 p3 q3), Bits 10 z)
    (hyes : 1 ≤ c → ∀ w1, Chg w w1 [k, fb] → Pos2 w1 k fb (hvL (rdRL ma mb mc md p0 q0 p1 q1 p2 q2 p3 q3)) hs uns (mt + 1) lr rr pl (c - 1) lp rp gv cv nv → R (.returned (.bool true)) w1) :
    Calls Tryz.prog 207 #[ptrB k, ptrB fb] w R := by
  obtain ⟨cs, hcs⟩ := hblk
  obtain ⟨n1, n2⟩ := h.ty_ne hcs (by decide) (by decide)
  have F := fn_of Tryz.func207 rfl rfl
  have hrep := h.repX (exφ := ph1 4 cb) (ex := [(4, ext [] 224)]) (rpC := .lit rp) (cvC := .ptr 4 0) (nvC := .lit nv) ⟨rfl, h.o2⟩ ⟨cb, 0, rfl, hcv⟩ ⟨rfl, h.o5⟩ (by
    intro b B hB
    have := look_mem hB
    simp at this
    obtain ⟨rfl, rfl⟩ := this
    exact ⟨rfl, rfl, rfl, cb, 0, rfl, n1, n2, [], [], cs, hcs, rfl, trivial⟩) (by
    intro b k' o hb'
    unfold ph1 at hb'
    split at hb'
    · cases hb'; exact lt_of_heap hcs
    · cases hb') (argT 33)
  have hkb : ∀ b x, phW k fb (ph1 4 cb) b = some x → [0, 6, 4].contains b = true := phX_kb rfl rfl fun b x e => by
    unfold ph1 at e
    split at e
    · subst_vars; rfl
    · cases e
  refine calls_x F (φ := phW k fb (ph1 4 cb)) (vs := [.one (.ptr 0 0), .one (.ptr 6 0)]) (args := [ptrB k, ptrB fb]) (by kernel_rfl) ⟨⟨k, 0, rfl, rfl⟩, ⟨fb, 0, rfl, rfl⟩, trivial⟩ hrep ?_
  refine xrun' (orSp_ok (spC_ok (cb := cb) rfl hb hcon) (tabSp_ok tN_ok)) bW_ok hkb (nrm_R hkb) (rc_1 p0 q0 p1 q1 p2 q2 p3 q3 hs uns mt lr rr pl c lp rp nv gv ma mb mc md)
    (fun r s => (r = .val (.one (.bool false)) ∧ s.dirty = [] ∧ c < 1) ∨ (r = .val (.one (.bool true)) ∧ ¬ c < 1 ∧ s.dirty = [0, 6, 0] ∧ look s.boxes 0 = some (ndW hs uns (IntKind.i64.wrap (mt + 1)) lr rr pl (.lit lp) (.lit rp) (.ptr 4 0) (.lit nv) (.lit gv)) ∧ look s.boxes 6 = some (fuW (IntKind.i64.wrap (c - 1))) ∧ s.nums = (hvL (rdRL ma mb mc md p0 q0 p1 q1 p2 q2 p3 q3)).map fun z => (z, 19)))
    (fun _ _ => False) ⟨fun e => Or.inl ⟨rfl, rfl, of_decide_eq_true e⟩, fun e => ⟨fun x hx => by simp at hx; exact hx, Or.inr ⟨rfl, of_decide_eq_false e, rfl, rfl, rfl, rfl⟩⟩⟩ ?_ (fun _ _ h => h.elim)
  rintro r s φ3 v w3 (⟨rfl, hd, h1⟩ | ⟨rfl, h1, hd, l0, l6, ln⟩) hv _ hw3
  · rw [hv false (Or.inl rfl)]
    exact hno h1 w3 (rep_chg0 hw3 hd)
  · rw [hv true (Or.inl rfl)]
    have hB := hbits (by omega)
    obtain ⟨⟨lp2, rp2, gv2, cv2, nv2, g1, ⟨e1, g2⟩, ⟨e2, g3⟩, ⟨e3, g4⟩, ⟨k4, o4, e4, g5⟩, ⟨e5, g6⟩⟩, g7⟩ := sW_out (ns := []) hw3 l0 l6 (h.nd.shape h.h8) (fuel_shape h.fu) (zs := hvL (rdRL ma mb mc md p0 q0 p1 q1 p2 q2 p3 q3)) rfl (by rw [ln]; exact map_nums)
    rw [hw3.base 4 (cb, 0) rfl] at e4
    cases e4
    have g5' : cv2 = cv := by rw [g5, hcv]; rfl
    rw [e1, e2, e3, e5, g5', wrap_inc hm0 hm1] at g1
    rw [wrap_dec (by omega) hc3] at g7
    exact hyes (by omega) w3 (sW_chg hw3 (by rw [hd]; rfl)) ⟨g1, g7, hB, rfl, h.o1, h.o2, h.o3, h.o4, h.o5⟩
end
end Ab
end Go.Proofs.YteghhlfmcjmnoaaGreatDoor
set_option linter.unusedSimpArgs false
set_option linter.unusedVariables false
namespace Go.Proofs.YteghhlfmcjmnoaaGreatDoor
open Go.RowKit
namespace Ab
section
variable (p0 q0 p1 q1 p2 q2 p3 q3 : Int) (hs : Bool) (uns mt lr rr pl c cd : Int) (lp rp cst nst gv gv2 : Value)
def rrS (tm : List AT) : AS := sW [p0, q0, p1, q1, p2, q2, p3, q3] hs uns mt lr rr pl c (.lit lp) (.ptr 2 0) (.lit cst) (.ptr 5 0) (.lit gv) [(2, ext [] 205), (5, ext [] 273)] tm
set_option maxRecDepth 100000 in
theorem rr_1 : (run Z (tabSp tN) bW (drawA Z (tabSp tN)) (atOp (opCalls 125)) 400 [.code (bodyOf Tryz.f210), .top Tryz.f210] (goS p0 q0 p1 q1 p2 q2 p3 q3 hs uns mt lr rr pl c lp rp cst nilP gv (argT 66))).bind (outX (nrm [0, 6] [] 7 []) (nrm [0, 6] [0, 1, 36, 37] 7 []))
    = some (.stp (bef (opCalls 125) Tryz.f210) (goS p0 q0 p1 q1 p2 q2 p3 q3 hs uns mt lr rr pl c lp rp cst nilP gv (slot [(0, P0), (1, P6), (36, .val (.agg [.lit rp, .sint .i64 rr])), (37, P6)] 0 68))) := by kernel_rfl
set_option maxRecDepth 100000 in
theorem rr_2 : (run Z (tabSp tN) bW (drawA Z (tabSp tN)) (atOp (opCalls 125)) 400 [.code (bodyOf Tryz.f210), .top Tryz.f210] (rrS p0 q0 p1 q1 p2 q2 p3 q3 hs uns mt lr rr pl c lp cst gv (argT 66))).bind (outX (nrm [0, 6, 2, 5] [] 7 []) (nrm [0, 6, 2, 5] [0, 1, 36, 37] 7 []))
    = some (.stp (bef (opCalls 125) Tryz.f210) (rrS p0 q0 p1 q1 p2 q2 p3 q3 hs uns mt lr rr pl c lp cst gv (slot [(0, P0), (1, P6), (36, .val (.agg [.ptr 2 0, .sint .i64 rr])), (37, P6)] 0 68))) := by kernel_rfl
set_option maxRecDepth 100000 in
theorem rr_3 : (run Z (tabSp tN) bW (drawA Z (tabSp tN)) (atOp (opCalls 224)) 400 (aft (opCalls 125) Tryz.f210) (goS p0 q0 p1 q1 p2 q2 p3 q3 hs uns mt lr rr pl c lp rp cst nst gv (slot [(0, P0), (1, P6), (38, sintT cd)] 0 68))).bind (outX (nrm [0, 6] [] 7 []) (nrm [0, 6] [66] 7 []))
    = some (.br (decide (cd = 0)) (.ret (.val (.one (.bool false))) (goS p0 q0 p1 q1 p2 q2 p3 q3 hs uns mt lr rr pl c lp rp cst nst gv (slot [] 0 68))) (.br (decide (c < 1)) (.ret (.val (.one (.bool false))) (goS p0 q0 p1 q1 p2 q2 p3 q3 hs uns mt lr rr pl c lp rp cst nst gv (slot [] 0 68))) (.stp (bef (opCalls 224) Tryz.f210) ⟨slot [(66, P0)] 0 68, [(0, ndW hs uns mt lr (IntKind.i64.wrap (rr + 1)) pl (.lit lp) (.lit rp) (.lit cst) (.lit nst) (.lit gv)), (6, fuW (IntKind.i64.wrap (c - 1)))], 7, (hvL (rdRL (symA cd) (symB cd) (symC cd) (symD cd) p0 q0 p1 q1 p2 q2 p3 q3)).map fun z => (z, 19), [0, 6, 0]⟩))) := by kernel_rfl
set_option maxRecDepth 100000 in
theorem rr_4 : (run Z (tabSp tN) bW (drawA Z (tabSp tN)) (fun _ => false) 400 (aft (opCalls 224) Tryz.f210) ⟨slot [] 0 68, [], 0, [], []⟩).bind (outX (nrm [] [] 0 []) (nrm [] [] 0 [])) = some (.ret (.val (.one (.bool true))) ⟨slot [] 0 68, [], 0, [], []⟩) := by kernel_rfl
set_option maxRecDepth 100000 in
theorem rr_5 : (run Z (tabSp tN) bW (drawA Z (tabSp tN)) (fun _ => false) 400 (aft (opCalls 125) Tryz.f210) ⟨slot [(38, .val (.one (.int .i64 0)))] 0 68, [], 0, [], []⟩).bind (outX (nrm [] [] 0 []) (nrm [] [] 0 [])) = some (.ret (.val (.one (.bool false))) ⟨slot [] 0 68, [], 0, [], []⟩) := by kernel_rfl
end
section
variable {w : World} {k fb : Nat} {p0 q0 p1 q1 p2 q2 p3 q3 : Int} {hs : Bool} {uns mt lr rr pl c : Int} {lp rp gv cv nv : Value} {R : Ending → World → Prop}
abbrev RrA (w2 : World) (k fb : Nat) (cd : Int) (R : Ending → World → Prop) : Prop := AftRd w2 k fb cd R fun p0 q0 p1 q1 p2 q2 p3 q3 hs uns mt lr rr pl c lp rp gv cv nv => (∀ z ∈ hvL (rdRL (symA cd) (symB cd) (symC cd) (symD cd) p0 q0 p1 q1 p2 q2 p3 q3), Bits 10 z) ∧ ∀ w3, Chg w2 w3 [k, fb] → Pos2 w3 k fb (hvL (rdRL (symA cd) (symB cd) (symC cd) (symD cd) p0 q0 p1 q1 p2 q2 p3 q3)) hs uns mt lr (rr + 1) pl (c - 1) lp rp gv cv nv → Calls Tryz.prog 224 #[ptrB k] w3 fun e w4 => ∃ v, e = .returned v ∧ ∀ w5, Chg w4 w5 [] → R (.returned (.bool true)) w5
set_option maxRecDepth 100000 in
set_option maxHeartbeats 800000 in
theorem rr_tail {w0 : World} {ψ φ1 : Nat → Option (Nat × Nat)} {s1 : AS} {a1 : Act} {w1 w2 : World} {cd : Int} (hr1 : Rep Z w0 ψ φ1 s1 a1 w1) (hk0 : putT (keepT [] [] 0 s1.tmps) (some 38) (.val (.one (.int .i64 0))) = slot [(38, .val (.one (.int .i64 0)))] 0 68) (hk1 : putT (keepT [0, 6] [0, 1] 0 s1.tmps) (some 38) (sintT cd) = slot [(0, P0), (1, P6), (38, sintT cd)] 0 68) (hp0 : φ1 0 = some (k, 0)) (hp6 : φ1 6 = some (fb, 0)) (hA : RrA w2 k fb cd R) :
    ∀ kcs2 : List (K Act), (∀ φ' ν' w'', SR Z φ' ν' w'' (aft (opCalls 125) Tryz.f210) kcs2) → sem Z.P R kcs2 .normal (a1.put (some 38) (.int .i64 cd)) w2 := by
  intro kcs2 hsr2
  by_cases hcd : cd = 0
  · subst hcd
    have hr2 : Rep Z w2 (fun _ => none) (fun _ => none) ⟨slot [(38, .val (.one (.int .i64 0)))] 0 68, [], 0, [], []⟩ (a1.put (some 38) (.int .i64 0)) w2 := rep_aft (kb := []) (kt := []) (dst := some 38) (r := .val (.one (.int .i64 0))) hr1 (rep_none _) hk0.symm (fun b hb => by simp at hb) rfl
    refine xrun' (tabSp_ok tN_ok) bW_ok (fun b x e => by cases e) (nrm_R (fun b x e => by cases e)) rr_5 (fun r s => r = .val (.one (.bool false)) ∧ s.dirty = []) (fun _ _ => False) ⟨rfl, rfl⟩ ?_ (fun _ _ h => h.elim) kcs2 _ _ _ (hsr2 _ _ _) hr2
    rintro r s φ5 v w5 ⟨rfl, hd⟩ hv _ hw5
    rw [hv false (Or.inl rfl)]
    exact hA.none rfl w5 (rep_chg0 hw5 hd)
  · obtain ⟨p0, q0, p1, q1, p2, q2, p3, q3, hs, uns, mt, lr, rr, pl, c, lp, rp, gv, cv, nv, h2, hc3, _, _, l1, l2, hno, hyes⟩ := hA.some hcd
    have hr2 : Rep Z w2 (phW k fb fun _ => none) (phW k fb fun _ => none) (goS p0 q0 p1 q1 p2 q2 p3 q3 hs uns mt lr rr pl c lp rp cv nv gv (slot [(0, P0), (1, P6), (38, sintT cd)] 0 68)) (a1.put (some 38) (.int .i64 cd)) w2 := by
      refine rep_aft (kb := [0, 6]) (kt := [0, 1]) (dst := some 38) (r := sintT cd) hr1 (h2.rep _) hk1.symm ?_ rfl
      intro b hb
      have hb' : b = 0 ∨ b = 6 := by simpa using hb
      rcases hb' with rfl | rfl
      · rw [hp0]; rfl
      · rw [hp6]; rfl
    refine xrun' (tabSp_ok tN_ok) bW_ok (phN_kb rfl rfl) (nrm_R (phN_kb rfl rfl)) (rr_3 p0 q0 p1 q1 p2 q2 p3 q3 hs uns mt lr rr pl c cd lp rp cv nv gv)
      (fun r s => r = .val (.one (.bool false)) ∧ s.dirty = [] ∧ c < 1)
      (fun ks s => ¬ c < 1 ∧ ks = bef (opCalls 224) Tryz.f210 ∧ s = ⟨slot [(66, P0)] 0 68, [(0, ndW hs uns mt lr (IntKind.i64.wrap (rr + 1)) pl (.lit lp) (.lit rp) (.lit cv) (.lit nv) (.lit gv)), (6, fuW (IntKind.i64.wrap (c - 1)))], 7, (hvL (rdRL (symA cd) (symB cd) (symC cd) (symD cd) p0 q0 p1 q1 p2 q2 p3 q3)).map fun z => (z, 19), [0, 6, 0]⟩)
      ⟨fun e => absurd (of_decide_eq_true e) hcd, fun _ => ⟨fun e2 => ⟨rfl, rfl, of_decide_eq_true e2⟩, fun e2 => ⟨of_decide_eq_false e2, rfl, rfl⟩⟩⟩ ?_ ?_ kcs2 _ _ _ (hsr2 _ _ _) hr2
    · rintro r s φ3 v w3 ⟨rfl, hd, h1⟩ hv _ hw3
      rw [hv false (Or.inl rfl)]
      exact hno h1 w3 (rep_chg0 hw3 hd)
    · rintro ks s ⟨h1, rfl, rfl⟩
      refine ⟨by kernel_rfl, fun kcs3 φ3 a3 w3 hsr3 hr3 => ?_⟩
      obtain ⟨hB, hR⟩ := hyes (by omega)
      have hc23 : Chg w2 w3 [k, fb] := sW_chg hr3.wd rfl
      have hp := h2.out hr3.wd (zs' := hvL (rdRL (symA cd) (symB cd) (symC cd) (symD cd) p0 q0 p1 q1 p2 q2 p3 q3)) (hs' := hs) (uns' := uns) (mt' := mt) (lr' := lr) (rr' := IntKind.i64.wrap (rr + 1)) (pl' := pl) (c' := IntKind.i64.wrap (c - 1)) (lp' := lp) (rp' := rp) (gv' := gv) (cv' := cv) (nv' := nv) rfl rfl rfl map_nums hB
      rw [wrap_dec (by omega) hc3, wrap_inc l1 l2] at hp
      refine callAt_ok (f := 224) (vs := [.one (.ptr 0 0)]) (dst := some 67) (ks2 := aft (opCalls 224) Tryz.f210) (by kernel_rfl) (fn_of Tryz.func224 rfl rfl).en (by kernel_rfl) (hsr3 φ3 [] w3) hr3 ?_
      intro ys hys
      match ys, hys with
      | [y], ⟨hy, _⟩ =>
      rw [ptr_val (hr3.wd.base 0 (k, 0) rfl) hy]
      refine (hR w3 hc23 hp).mono ?_
      rintro e w4 ⟨v, rfl, hF⟩
      refine ⟨_, rfl, fun kcs4 hf4 hsr4 => ?_⟩
      have hr4 : Rep Z w4 (fun _ => none) (fun _ => none) ⟨slot [] 0 68, [], 0, [], []⟩ (a3.put (some 67) v) w4 := rep_aft (kb := []) (kt := []) (dst := some 67) (r := .top) hr3 (rep_none _) (by kernel_rfl) (fun b hb => by simp at hb) trivial
      refine xrun' (tabSp_ok tN_ok) bW_ok (fun b x e => by cases e) (nrm_R (fun b x e => by cases e)) rr_4 (fun r s => r = .val (.one (.bool true)) ∧ s.dirty = []) (fun _ _ => False) ⟨rfl, rfl⟩ ?_ (fun _ _ h => h.elim) kcs4 _ _ _ (hsr4 _ _ _) hr4
      rintro r s φ5 v w5 ⟨rfl, hd⟩ hv _ hw5
      rw [hv true (Or.inl rfl)]
      exact hF w5 (rep_chg0 hw5 hd)
set_option maxRecDepth 100000 in
set_option maxHeartbeats 800000 in
theorem readRight_nil (h : Pos2 w k fb [p0, q0, p1, q1, p2, q2, p3, q3] hs uns mt lr rr pl c lp rp gv cv nv) (hnv : nv = nilP)
    (hun : ∀ w1, Chg w w1 [] → Calls Tryz.prog 125 #[.agg #[rp, .int .i64 rr], ptrB fb] w1 fun e w2 => ∃ cd, e = .returned (.int .i64 cd) ∧ RrA w2 k fb cd R) :
    Calls Tryz.prog 210 #[ptrB k, ptrB fb] w R := by
  subst hnv
  have F := fn_of Tryz.func210 rfl rfl
  refine calls_x F (φ := phW k fb fun _ => none) (vs := [.one (.ptr 0 0), .one (.ptr 6 0)]) (args := [ptrB k, ptrB fb]) (s := goS p0 q0 p1 q1 p2 q2 p3 q3 hs uns mt lr rr pl c lp rp cv nilP gv (argT 66)) (by kernel_rfl) ⟨⟨k, 0, rfl, rfl⟩, ⟨fb, 0, rfl, rfl⟩, trivial⟩ (h.rep _) ?_
  refine xrun' (tabSp_ok tN_ok) bW_ok (phN_kb rfl rfl) (nrm_R (phN_kb rfl rfl)) (rr_1 p0 q0 p1 q1 p2 q2 p3 q3 hs uns mt lr rr pl c lp rp cv gv) (fun _ _ => False) (fun ks s => ks = bef (opCalls 125) Tryz.f210 ∧ s = goS p0 q0 p1 q1 p2 q2 p3 q3 hs uns mt lr rr pl c lp rp cv nilP gv (slot [(0, P0), (1, P6), (36, .val (.agg [.lit rp, .sint .i64 rr])), (37, P6)] 0 68)) ⟨rfl, rfl⟩ (fun _ _ _ _ _ h => h.elim) ?_
  rintro ks s ⟨rfl, rfl⟩
  refine ⟨by kernel_rfl, fun kcs φ1 a1 w1 hsr1 hr1 => ?_⟩
  have c1 := rep_chg0 hr1.wd rfl
  refine callAt_ok (f := 125) (vs := [.agg [.lit rp, .sint .i64 rr], .one (.ptr 6 0)]) (dst := some 38) (ks2 := aft (opCalls 125) Tryz.f210) (by kernel_rfl) (fn_of Tryz.func125 rfl rfl).en (by kernel_rfl) (hsr1 φ1 [] w1) hr1 ?_
  intro ys hys
  match ys, hys with
  | [y, y2], ⟨⟨zs, hy, hz⟩, hy2, _⟩ =>
  match zs, hz with
  | [z1, z2], ⟨hz1, hz2, _⟩ =>
  have hz1 : z1 = rp := hz1.1
  have hz2 : z2 = .int .i64 rr := hz2
  rw [ptr_val (hr1.wd.base 6 (fb, 0) rfl) hy2, hy, hz1, hz2]
  refine (hun w1 c1).mono ?_
  rintro e w2 ⟨cd, rfl, hA⟩
  exact ⟨_, rfl, fun kcs2 hf2 hsr2 => rr_tail hr1 (by kernel_rfl) (by kernel_rfl) (hr1.wd.base 0 (k, 0) rfl) (hr1.wd.base 6 (fb, 0) rfl) hA kcs2 hsr2⟩
theorem ph2_kb {i a j b : Nat} {kb : List Nat} (h1 : kb.contains i = true) (h2 : kb.contains j = true) : ∀ x y, ph2 i a j b x = some y → kb.contains x = true := by
  intro x y e
  unfold ph2 at e
  split at e
  · subst_vars; exact h1
  · split at e
    · subst_vars; exact h2
    · cases e
set_option maxRecDepth 100000 in
set_option maxHeartbeats 800000 in
theorem readRight_ptr (h : Pos2 w k fb [p0, q0, p1, q1, p2, q2, p3, q3] hs uns mt lr rr pl c lp rp gv cv nv) {nb r : Nat} (hnv : nv = ptrB nb) (hrp : rp = ptrB r) (hnb : ∃ cs : List Value, w.heap[nb]? = some (.cells cs.toArray 273 (0, 0))) (hrb : ∃ cs : List Value, w.heap[r]? = some (.cells cs.toArray 205 (0, 0))) (hrk : r ≠ k)
    (hun : ∀ w1, Chg w w1 [] → Calls Tryz.prog 125 #[.agg #[rp, .int .i64 rr], ptrB fb] w1 fun e w2 => ∃ cd, e = .returned (.int .i64 cd) ∧ RrA w2 k fb cd R) :
    Calls Tryz.prog 210 #[ptrB k, ptrB fb] w R := by
  obtain ⟨cs, hcs⟩ := hnb
  obtain ⟨ds, hds⟩ := hrb
  obtain ⟨n1, n2⟩ := h.ty_ne hcs (by decide) (by decide)
  have hrf : r ≠ fb := by
    rintro rfl
    have hy := h.fu
    rw [hds] at hy
    exact absurd (Obj.cells.inj (Option.some.inj hy)).2.1 (by decide)
  have F := fn_of Tryz.func210 rfl rfl
  have hrep := h.repX (exφ := ph2 2 r 5 nb) (ex := [(2, ext [] 205), (5, ext [] 273)]) (rpC := .ptr 2 0) (cvC := .lit cv) (nvC := .ptr 5 0) ⟨r, 0, rfl, hrp⟩ ⟨rfl, h.o4⟩ ⟨nb, 0, rfl, hnv⟩ (by
    intro b B hB
    have := look_mem hB
    simp at this
    rcases this with ⟨rfl, rfl⟩ | ⟨rfl, rfl⟩
    · exact ⟨rfl, rfl, rfl, r, 0, rfl, hrk, hrf, [], [], ds, hds, rfl, trivial⟩
    · exact ⟨rfl, rfl, rfl, nb, 0, rfl, n1, n2, [], [], cs, hcs, rfl, trivial⟩) (by
    intro b k' o hb'
    unfold ph2 at hb'
    split at hb'
    · cases hb'; exact lt_of_heap hds
    · split at hb'
      · cases hb'; exact lt_of_heap hcs
      · cases hb') (argT 66)
  have hkb : ∀ b x, phW k fb (ph2 2 r 5 nb) b = some x → [0, 6, 2, 5].contains b = true := phX_kb rfl rfl (ph2_kb rfl rfl)
  refine calls_x F (φ := phW k fb (ph2 2 r 5 nb)) (vs := [.one (.ptr 0 0), .one (.ptr 6 0)]) (args := [ptrB k, ptrB fb]) (by kernel_rfl) ⟨⟨k, 0, rfl, rfl⟩, ⟨fb, 0, rfl, rfl⟩, trivial⟩ hrep ?_
  refine xrun' (tabSp_ok tN_ok) bW_ok hkb (nrm_R hkb) (rr_2 p0 q0 p1 q1 p2 q2 p3 q3 hs uns mt lr rr pl c lp cv gv) (fun _ _ => False) (fun ks s => ks = bef (opCalls 125) Tryz.f210 ∧ s = rrS p0 q0 p1 q1 p2 q2 p3 q3 hs uns mt lr rr pl c lp cv gv (slot [(0, P0), (1, P6), (36, .val (.agg [.ptr 2 0, .sint .i64 rr])), (37, P6)] 0 68)) ⟨rfl, rfl⟩ (fun _ _ _ _ _ h => h.elim) ?_
  rintro ks s ⟨rfl, rfl⟩
  refine ⟨by kernel_rfl, fun kcs φ1 a1 w1 hsr1 hr1 => ?_⟩
  have c1 := rep_chg0 hr1.wd rfl
  refine callAt_ok (f := 125) (vs := [.agg [.ptr 2 0, .sint .i64 rr], .one (.ptr 6 0)]) (dst := some 38) (ks2 := aft (opCalls 125) Tryz.f210) (by kernel_rfl) (fn_of Tryz.func125 rfl rfl).en (by kernel_rfl) (hsr1 φ1 [] w1) hr1 ?_
  intro ys hys
  match ys, hys with
  | [y, y2], ⟨⟨zs, hy, hz⟩, hy2, _⟩ =>
  match zs, hz with
  | [z1, z2], ⟨hz1, hz2, _⟩ =>
  have hz1 : z1 = rp := (ptr_val (ν := []) (w := w1) (hr1.wd.base 2 (r, 0) rfl) hz1).trans hrp.symm
  have hz2 : z2 = .int .i64 rr := hz2
  rw [ptr_val (hr1.wd.base 6 (fb, 0) rfl) hy2, hy, hz1, hz2]
  refine (hun w1 c1).mono ?_
  rintro e w2 ⟨cd, rfl, hA⟩
  exact ⟨_, rfl, fun kcs2 hf2 hsr2 => rr_tail hr1 (by kernel_rfl) (by kernel_rfl) (hr1.wd.base 0 (k, 0) rfl) (hr1.wd.base 6 (fb, 0) rfl) hA kcs2 hsr2⟩
end
end Ab
end Go.Proofs.YteghhlfmcjmnoaaGreatDoor
set_option linter.unusedSimpArgs false
set_option linter.unusedVariables false
namespace Go.Proofs.YteghhlfmcjmnoaaGreatDoor
open Go.RowKit
namespace Ab
open Rf (Nd Inv NInv)
structure Kept (w w' : World) (own own' : Nat → Option Own) (fb : Nat) : Prop where
  on : On Z.bt w w'
  low : ∀ k, k < w.heap.size → own k = none → k ≠ fb → w'.heap[k]? = w.heap[k]?
  own : ∀ k, k < w.heap.size → own k = none → own' k = none
theorem Kept.trans {a b c : World} {o1 o2 o3 : Nat → Option Own} {fb : Nat} (h : Kept a b o1 o2 fb) (g : Kept b c o2 o3 fb) : Kept a c o1 o3 fb := by
  refine ⟨h.on.trans g.on, fun k hk ho hf => ?_, fun k hk ho => g.own k (Nat.lt_of_lt_of_le hk h.on.size) (h.own k hk ho)⟩
  rw [g.low k (Nat.lt_of_lt_of_le hk h.on.size) (h.own k hk ho) hf, h.low k hk ho hf]
theorem Kept.of_chg {w w' : World} {own own' : Nat → Option Own} {fb : Nat} {D : List Nat} (h : Chg w w' D) (hD : ∀ k ∈ D, k < w.heap.size → own k = none → k = fb) (ho : ∀ k, k < w.heap.size → own k = none → own' k = none) : Kept w w' own own' fb :=
  ⟨h.on, fun k hk hn hf => h.low k hk fun hm => hf (hD k hm hk hn), ho⟩
theorem Kept.still {w w' : World} {own : Nat → Option Own} {fb : Nat} (h : Chg w w' []) : Kept w w' own own fb := Kept.of_chg h (fun k hk => by cases hk) fun _ _ e => e
section
variable {w w' w'' : World} {b0 fb : Nat} {own own' : Nat → Option Own} {at1 at2 : Nat → Nat} {D : List Nat} {i : Nat} {n n' : Nd} {s : Rf.St} {rho : Nat → Nat} {c : Nat}
theorem isD_nil : IsD w own i [] := fun k hk => by cases hk
theorem Net.still (h : Net w b0 own at1 fb s) (hI : Inv s.nodes rho c) (hc : Chg w w' []) : Net w' b0 own at1 fb s := by
  refine h.step (i := s.nodes.length) hI (fun _ _ _ => rfl) (Pg.Go.refl _) hc isD_nil (fun _ _ _ e _ => e) (fun _ _ => rfl) (hc.at h.fuel (by simp)) ?_
  intro j m hj hor
  have := (List.getElem?_eq_some_iff.1 hj).1
  omega
def Res (w : World) (b0 : Nat) (own : Nat → Option Own) (at1 : Nat → Nat) (fb len : Nat) (ok : Bool) (s' : Rf.St) (w' : World) : Prop := ∃ own', Kept w w' own own' fb ∧ (ok = true → ∃ at2, Net w' b0 own' at2 fb s' ∧ ∀ a, a < len → at2 a = at1 a)
theorem Res.no {len : Nat} {s' : Rf.St} (h : Kept w w' own own' fb) : Res w b0 own at1 fb len false s' w' := ⟨own', h, fun e => by cases e⟩
theorem Res.still {len : Nat} {ok : Bool} {s' : Rf.St} (h : Res w b0 own at1 fb len ok s' w') (hI : ok = true → ∃ rho c, Inv s'.nodes rho c) (hc : Chg w' w'' []) : Res w b0 own at1 fb len ok s' w'' := by
  obtain ⟨own', h1, h2⟩ := h
  refine ⟨own', h1.trans (Kept.still hc), fun e => ?_⟩
  obtain ⟨at2, h3, h4⟩ := h2 e
  obtain ⟨rho, c, hI⟩ := hI e
  exact ⟨at2, h3.still hI hc, h4⟩
theorem Res.after {len len1 : Nat} {ok : Bool} {s' : Rf.St} {own1 : Nat → Option Own} {at' : Nat → Nat} (hk : Kept w w' own own1 fb) (hat : ∀ a, a < len → at' a = at1 a) (hl : len ≤ len1) (h : Res w' b0 own1 at' fb len1 ok s' w'') : Res w b0 own at1 fb len ok s' w'' := by
  obtain ⟨own', h1, h2⟩ := h
  refine ⟨own', hk.trans h1, fun e => ?_⟩
  obtain ⟨at2, h3, h4⟩ := h2 e
  exact ⟨at2, h3, fun a ha => (h4 a (by omega)).trans (hat a ha)⟩
def SymOk (f : Nat) : Prop := ∀ (w : World) (b0 fb : Nat) (own : Nat → Option Own) (at1 : Nat → Nat) (s : Rf.St) (rho : Nat → Nat) (c i j : Nat) (n : Nd) (x : Rf.St × Option Int), Net w b0 own at1 fb s → b0 ≤ w.heap.size → s.clock = (c : Int) → c ≤ 3000 → Inv s.nodes rho c → s.nodes[i]? = some n → j ≤ n.out.length → c + rho i + 2 ≤ f → Rf.sym f s i j = some x →
  Calls Tryz.prog 161 #[ptrB (at1 i), .int .i64 j, ptrB fb] w fun e w' => e = .returned (.int .i64 (codeO x.2)) ∧ Res w b0 own at1 fb s.nodes.length x.2.isSome x.1 w'
theorem Net.pos2 (h : Net w b0 own at1 fb s) {p0 q0 p1 q1 p2 q2 p3 q3 mt pl : Int} {gv cv nv : Value} {l : List Rf.V} {g : Option (Nat × Nat)} {cc nn : Option Nat} (hs : Seen w b0 own at1 s.nodes i n p0 q0 p1 q1 p2 q2 p3 q3 mt pl gv cv nv l g cc nn) : Pos2 w (at1 i) fb [p0, q0, p1, q1, p2, q2, p3, q3] (!n.pos) (unsZ n) mt (lRd n) (rRd n) pl s.clock (ptrV at1 (lArg n)) (ptrV at1 (rArg n)) gv cv nv := by
  obtain ⟨o1, o2, o3⟩ := hs.blk.ones
  exact ⟨hs.blk.nd, h.fuel, hs.bits, rfl, one_ptrV _, one_ptrV _, o1, o2, o3⟩
theorem eight {zs : List Int} (h : zs.length = 8) : ∃ a b c d e f g h, zs = [a, b, c, d, e, f, g, h] := by
  match zs, h with
  | [a, b, c, d, e, f, g, h], _ => exact ⟨a, b, c, d, e, f, g, h, rfl⟩
theorem cof_hv {l : List Rf.V} {zs : List Int} (h8 : zs.length = 8) (h : Pg.Cof l (colsZ zs)) : Pg.Cof l (colsZ (hvL zs)) := by
  obtain ⟨p0, q0, p1, q1, p2, q2, p3, q3, rfl⟩ := eight h8
  obtain ⟨t, ht, e⟩ := halved_sc p0 q0 p1 q1 p2 q2 p3 q3
  exact Pg.Cof.over h ht e
theorem hv_len {zs : List Int} (h8 : zs.length = 8) : (hvL zs).length = 8 := by
  obtain ⟨p0, q0, p1, q1, p2, q2, p3, q3, rfl⟩ := eight h8
  rfl
theorem readL_eq (a b c d p0 q0 p1 q1 p2 q2 p3 q3 : Int) : Pg.readL [(p0, q0), (p1, q1), (p2, q2), (p3, q3)] ⟨a, b, c, d⟩ = colsZ (rdLL a b c d p0 q0 p1 q1 p2 q2 p3 q3) := by
  unfold Pg.readL rdLL colsZ Pg.rd1 Pg.rd2 Pg.sc Pg.vadd
  simp [Int.mul_comm]
theorem readR_eq (a b c d p0 q0 p1 q1 p2 q2 p3 q3 : Int) : Pg.readR [(p0, q0), (p1, q1), (p2, q2), (p3, q3)] ⟨a, b, c, d⟩ = colsZ (rdRL a b c d p0 q0 p1 q1 p2 q2 p3 q3) := by
  unfold Pg.readR rdRL colsZ Pg.rd1 Pg.rd2 Pg.sc Pg.vadd
  simp [Int.mul_comm]
theorem give_eq (v p0 q0 p1 q1 p2 q2 p3 q3 : Int) : [(p0, q0), (p1, q1), (p2, q2), (p3, q3)].map (Rf.vag (Mt.sym v)) = colsZ (givL (code v) p0 q0 p1 q1 p2 q2 p3 q3) := by
  obtain ⟨h1, h2, h3, h4⟩ := sym_code v
  unfold givL colsZ Rf.vag Mt.ag1 Mt.ag2
  rw [h1, h2, h3, h4]
  simp
  have k : ∀ a b x y : Int, a * x + -b * y = a * x - b * y := fun a b x y => by rw [Int.neg_mul]; omega
  simp only [k, and_self]
theorem code_ne (v : Int) : code v ≠ 0 := by
  unfold code
  split
  · decide
  · split
    · decide
    · split
      · decide
      · split
        · decide
        · split
          · decide
          · split <;> decide
theorem Net.upd (h : Net w b0 own at1 fb s) (hI : Inv s.nodes rho c) (hn : s.nodes[i]? = some n) (hs : SameN n n') (hhc : Pg.HC n') (hgo : Pg.Go s.nodes (s.nodes.set i n')) (hc : Chg w w' D) (hD : ∀ k ∈ D, k = at1 i ∨ k = fb ∨ (own k = some (.gv i) ∧ ∀ cs ty m, w.heap[k]? = some (.cells cs ty m) → ty = 100) ∨ w.heap.size ≤ k) (hown : ∀ k o, k < w.heap.size → own k = some o → own' k = some o)
    {p0 q0 p1 q1 p2 q2 p3 q3 mt mt' pl cl : Int} {gv gv' cv nv : Value} {zs' : List Int} (hb : Blk w b0 own at1 i n p0 q0 p1 q1 p2 q2 p3 q3 mt pl gv cv nv) (hk : n'.k = n.k ∧ mt' = mt ∨ n.t = [] ∧ n'.k = n.k + 1 ∧ mt' = mt + 1)
    (hp : Pos2 w' (at1 i) fb zs' (!n'.pos) (unsZ n') mt' (lRd n') (rRd n') pl cl (ptrV at1 (lArg n')) (ptrV at1 (rArg n')) gv' cv nv) (hg : GivOk w' b0 own' i n'.out gv') {l' : List Rf.V} (hcor : Rf.corners s.nodes n' = some l') (hcof : Pg.Cof l' (colsZ zs')) : Net w' b0 own' at1 fb ⟨s.nodes.set i n', cl⟩ := by
  have hIs : IsD w own i D := by
    intro k hk cs ty m hcs
    rcases hD k hk with rfl | rfl | ⟨e, e'⟩ | e
    · obtain ⟨xs, h1, _⟩ := hb.nd.ex
      rw [hcs] at h1
      exact Or.inl ⟨(Obj.cells.inj (Option.some.inj h1)).2.1, (h.nd i n hn).own⟩
    · have h1 := h.fuel
      rw [hcs] at h1
      exact Or.inr (Or.inr (Obj.cells.inj (Option.some.inj h1)).2.1)
    · exact Or.inr (Or.inl ⟨e' cs ty m hcs, e⟩)
    · have := lt_of_heap hcs
      omega
  obtain ⟨r0, s0, r1, s1, r2, s2, r3, s3, rfl⟩ := eight hp.h8
  refine h.put hI hn hgo hc hIs hown hp.fu ⟨⟨r0, s0, r1, s1, r2, s2, r3, s3, mt', pl, gv', cv, nv, hb.upd hown hs hc hIs hI hn hk hp.nd hg, l', hgo.corners hcor, hcof⟩, hhc, hown _ _ hb.nd.lt (h.nd i n hn).own, (h.nd i n hn).lo, by rw [hs.probe, hs.t, hs.nest]; exact (h.nd i n hn).prb⟩
end
end Ab
end Go.Proofs.YteghhlfmcjmnoaaGreatDoor
