import Derived.Test.YteghhlfmcjmnoaaGreatDoorOe
set_option linter.unusedSimpArgs false
set_option linter.unusedVariables false
namespace Go.Proofs.YteghhlfmcjmnoaaGreatDoor
open Go.RowKit
namespace Ab
def b5 (kd : Int) (fst fur : Value) (xs : List Value) : Box := ext (.sint .i64 kd :: .lit fst :: .lit fur :: xs.map .lit) 273
def spN (cols : List Int) (lv nv : Value) (k : Int) (B5 : Box) : Spec := fun f _ ν id bx vs => bif f == 223 then (match vs with
  | [.one (.ptr 5 0), .one (.sint .i64 m)] => (bx 5).map fun B => (cols.map (fun z => (z, 1)), .val (.one (.ptr id 0)), [m = k, B = B5], some ⟨.sbool false :: numCs true ν.length 8 ++ [.lit nilP, .sint .i64 0, .lit lv, .sint .i64 0, .lit nilP, .sint .i64 0, .lit nilS', .sint .i64 0, .lit nv, .sint .i64 k], 205, true, false, false⟩)
  | _ => none) else none
theorem lits_eq {φ : Nat → Option (Nat × Nat)} {ν : List (Int × Nat)} {w : World} : ∀ (xs ys : List Value), All2 (relC Z φ ν w) (xs.map .lit) ys → ys = xs
  | [], [], _ => rfl
  | [], _ :: _, h => h.elim
  | _ :: _, [], h => h.elim
  | x :: xs, y :: ys, ⟨h1, h2⟩ => by rw [lits_eq xs ys h2, h1.1]
theorem lits_of {φ : Nat → Option (Nat × Nat)} {ν : List (Int × Nat)} {w : World} : ∀ (xs : List Value), (∀ x ∈ xs, One x) → All2 (relC Z φ ν w) (xs.map .lit) xs
  | [], _ => trivial
  | x :: xs, h => ⟨⟨rfl, h x (by simp)⟩, lits_of xs fun y hy => h y (by simp [hy])⟩
theorem spN_ok {w : World} {ψ : Nat → Option (Nat × Nat)} {nb : Nat} {kd k : Int} {fst fur : Value} {xs : List Value} {zs : List Int} (hψ : ψ 5 = some (nb, 0)) (hx : Hold true w zs xs) (h8 : zs.length = 8) (hb : ∀ z ∈ zs, Bits 1 z) (o1 : One fst) (o2 : One fur) (hf : kd ≠ 10 → (fac1 kd k).natAbs < 1000000000000000000 ∧ (fac2 kd k).natAbs < 1000000000000000000) : SpecOk Z w ψ (spN (if kd = 10 then zs else nsC kd k) (if 0 < k then fur else fst) (ptrB nb) k (b5 kd fst fur xs)) := by
  intro f dd ν id bx vs ν' r p nbx h
  unfold spN at h
  cases hf' : f == 223 with
  | false => rw [hf'] at h; cases h
  | true =>
    rw [hf'] at h
    have : f = 223 := by simpa using hf'
    subst this
    refine ⟨(fn_of Tryz.func223 rfl rfl).en, fun hp μ hμ φ w1 ys hφ _ hon hbx hys => ?_⟩
    simp only [cond_true] at h
    split at h
    · rename_i m
      obtain ⟨B, hB, h⟩ := mpd h
      cases h
      match ys, hys with
      | [y1, y2], ⟨h1, h2, _⟩ =>
      have hm : m = k := hp (m = k) (by simp)
      have hBe : B = b5 kd fst fur xs := hp (B = b5 kd fst fur xs) (by simp)
      have h2 : y2 = .int .i64 m := h2
      rw [ptr_val (hφ 5 _ hψ) h1, h2, hm]
      obtain ⟨k', o, pre, us, post, g1, g2, g3, g4⟩ := hbx 5 B hB
      rw [hφ 5 _ hψ] at g1
      cases g1
      have hpre : pre = [] := List.length_eq_zero_iff.1 g3
      subst hpre
      rw [hBe] at g4 g2
      match us, g4 with
      | u1 :: u2 :: u3 :: us, ⟨e1, e2, e3, e4⟩ =>
      have e1 : u1 = .int .i64 kd := e1
      have e2 : u2 = fst := e2.1
      have e3 : u3 = fur := e3.1
      have e4 := lits_eq xs us e4
      subst e1 e2 e3 e4
      refine (nest_calls (w := w1) (nb := nb) (kd := kd) (k := k) (post := post) g2 (hold_on hon hx) h8 hb o1 o2 hf).mono ?_
      rintro e w' ⟨mm, rfl, hbel, hge, hnd⟩
      obtain ⟨xs2, n1, n2⟩ := hnd.ex
      have hcl : (if kd = 10 then zs else nsC kd k).length = 8 := by split; exact h8; rfl
      refine ⟨_, rfl, hbel, rfl, fun e => (by cases e), mm, 0, [], _, [], hge, by simpa using n1, rfl, ?_, ⟨mm, 0, upd_same _ _ _, rfl⟩, fun _ => ⟨rfl, rfl⟩⟩
      have hbits : ∀ z ∈ (if kd = 10 then zs else nsC kd k), Bits 1 z := by
        split
        · exact hb
        · rename_i hkd
          obtain ⟨f1, f2⟩ := hf hkd
          have big : ∀ z : Int, z.natAbs < 1000000000000000000 → Bits 1 z := fun z hz => bits_up (N := 60) (by decide) (Nat.lt_trans hz (by decide))
          intro z hz
          simp only [nsC, List.mem_cons, List.not_mem_nil, or_false] at hz
          rcases hz with rfl | rfl | rfl | rfl | rfl | rfl | rfl | rfl
          all_goals first | exact big _ f1 | exact big _ f2 | exact big _ (by decide)
      have hx2 : All2 (relC Z φ μ w') (numCs true ν.length 8) xs2 := by
        rw [← hcl]
        refine hold_cs _ xs2 ν.length μ n2 hbits fun j z hz => hμ _ _ ?_
        rw [List.getElem?_append_right (by omega), show ν.length + j - ν.length = j by omega, List.getElem?_map, hz]
        rfl
      have olv : One (if 0 < k then u3 else u2) := by split <;> assumption
      exact All2.append (show All2 (relC Z φ μ w') (.sbool false :: numCs true ν.length 8) (.bool false :: xs2) from ⟨rfl, hx2⟩) ⟨⟨rfl, rfl⟩, rfl, ⟨rfl, olv⟩, rfl, ⟨rfl, rfl⟩, rfl, ⟨rfl, rfl⟩, rfl, ⟨rfl, rfl⟩, rfl, trivial⟩
    · cases h
section
variable (p0 q0 p1 q1 p2 q2 p3 q3 c0 c1 c2 c3 c4 c5 c6 c7 : Int) (hs : Bool) (uns mt lr rr pl c kd : Int) (lp cst gv fst fur lv nv x0 x1 x2 x3 x4 x5 x6 x7 x8 x9 x10 x11 x12 x13 x14 x15 : Value)
def nvB : AC → AC → Box := fun rp nv => ⟨ndC hs uns mt lr rr pl (.lit lp) rp (.lit cst) nv (.lit gv), 205, false, false, false⟩
set_option maxRecDepth 100000 in
theorem rr_6 : (run Z (orSp (spN [c0, c1, c2, c3, c4, c5, c6, c7] lv nv (IntKind.i64.wrap (pl + 1)) (b5 kd fst fur [x0, x1, x2, x3, x4, x5, x6, x7, x8, x9, x10, x11, x12, x13, x14, x15])) (tabSp tN)) bW (drawA Z (orSp (spN [c0, c1, c2, c3, c4, c5, c6, c7] lv nv (IntKind.i64.wrap (pl + 1)) (b5 kd fst fur [x0, x1, x2, x3, x4, x5, x6, x7, x8, x9, x10, x11, x12, x13, x14, x15])) (tabSp tN))) (atOp (opCalls 125)) 400 [.code (bodyOf Tryz.f210), .top Tryz.f210] (sW [p0, q0, p1, q1, p2, q2, p3, q3] hs uns mt lr rr pl c (.lit lp) (.lit nilP) (.lit cst) (.ptr 5 0) (.lit gv) [(5, b5 kd fst fur [x0, x1, x2, x3, x4, x5, x6, x7, x8, x9, x10, x11, x12, x13, x14, x15])] (argT 66))).bind (outX (nrm [0, 6, 17, 5] [] 22 []) (nrm [0, 6, 17, 5] [0, 1, 36, 37] 22 []))
    = some (.need [IntKind.i64.wrap (pl + 1) = IntKind.i64.wrap (pl + 1), b5 kd fst fur [x0, x1, x2, x3, x4, x5, x6, x7, x8, x9, x10, x11, x12, x13, x14, x15] = b5 kd fst fur [x0, x1, x2, x3, x4, x5, x6, x7, x8, x9, x10, x11, x12, x13, x14, x15]] (.stp (bef (opCalls 125) Tryz.f210)
      ⟨slot [(0, P0), (1, P6), (36, .val (.agg [.ptr 17 0, .sint .i64 rr])), (37, P6)] 0 68, [(0, nvB hs uns mt lr rr pl lp cst gv (.ptr 17 0) (.ptr 5 0)), (6, fuW c), (17, ⟨.sbool false :: numCs true 8 8 ++ [.lit nilP, .sint .i64 0, .lit lv, .sint .i64 0, .lit nilP, .sint .i64 0, .lit nilS', .sint .i64 0, .lit nv, .sint .i64 (IntKind.i64.wrap (pl + 1))], 205, true, false, false⟩), (5, b5 kd fst fur [x0, x1, x2, x3, x4, x5, x6, x7, x8, x9, x10, x11, x12, x13, x14, x15])], 22, [(p0, 10), (q0, 10), (p1, 10), (q1, 10), (p2, 10), (q2, 10), (p3, 10), (q3, 10), (c0, 1), (c1, 1), (c2, 1), (c3, 1), (c4, 1), (c5, 1), (c6, 1), (c7, 1)], [0]⟩)) := by kernel_rfl
end
theorem sixteen {xs : List Value} (h : xs.length = 16) : ∃ x0 x1 x2 x3 x4 x5 x6 x7 x8 x9 x10 x11 x12 x13 x14 x15, xs = [x0, x1, x2, x3, x4, x5, x6, x7, x8, x9, x10, x11, x12, x13, x14, x15] := by
  match xs, h with
  | [x0, x1, x2, x3, x4, x5, x6, x7, x8, x9, x10, x11, x12, x13, x14, x15], _ => exact ⟨x0, x1, x2, x3, x4, x5, x6, x7, x8, x9, x10, x11, x12, x13, x14, x15, rfl⟩
section
variable {w : World} {k fb : Nat} {p0 q0 p1 q1 p2 q2 p3 q3 : Int} {hs : Bool} {uns mt lr rr pl c : Int} {lp rp gv cv nv : Value} {R : Ending → World → Prop}
set_option maxRecDepth 100000 in
set_option maxHeartbeats 1600000 in
theorem readRight_nest (h : Pos2 w k fb [p0, q0, p1, q1, p2, q2, p3, q3] hs uns mt lr rr pl c lp nilP gv cv nv) {nb : Nat} {kd : Int} {fst fur : Value} {xs : List Value} {zs : List Int} (hnv : nv = ptrB nb) (hblk : w.heap[nb]? = some (.cells (.int .i64 kd :: fst :: fur :: xs).toArray 273 (0, 0))) (hx : Hold true w zs xs) (h8 : zs.length = 8) (hb : ∀ z ∈ zs, Bits 1 z) (o1 : One fst) (o2 : One fur) (hf : kd ≠ 10 → (fac1 kd (IntKind.i64.wrap (pl + 1))).natAbs < 1000000000000000000 ∧ (fac2 kd (IntKind.i64.wrap (pl + 1))).natAbs < 1000000000000000000)
    (hun : ∀ w1 m, Chg w w1 [k] → w.heap.size ≤ m → Pos2 w1 k fb [p0, q0, p1, q1, p2, q2, p3, q3] hs uns mt lr rr pl c lp (ptrB m) gv cv nv → NodeAt w1 m (if kd = 10 then zs else nsC kd (IntKind.i64.wrap (pl + 1))) false 0 0 0 0 (IntKind.i64.wrap (pl + 1)) (if 0 < IntKind.i64.wrap (pl + 1) then fur else fst) nilP nilS' nilP (ptrB nb) → Calls Tryz.prog 125 #[.agg #[ptrB m, .int .i64 rr], ptrB fb] w1 fun e w2 => ∃ cd, e = .returned (.int .i64 cd) ∧ RrA w2 k fb cd R) :
    Calls Tryz.prog 210 #[ptrB k, ptrB fb] w R := by
  obtain ⟨n1, n2⟩ := h.ty_ne hblk (by decide) (by decide)
  have hxl := hold_len zs xs hx
  rw [h8] at hxl
  have hones : ∀ x ∈ xs, One x := all_ones (C := Z) (φ := fun _ => none) (ν := zs.map fun z => (z, 1)) (w := w) (hold_cs zs xs 0 _ hx hb fun j z hz => by rw [Nat.zero_add, List.getElem?_map, hz]; rfl)
  have hsp := spN_ok (ψ := phW k fb (ph1 5 nb)) (nb := nb) (kd := kd) (k := IntKind.i64.wrap (pl + 1)) (fst := fst) (fur := fur) rfl hx h8 hb o1 o2 hf
  obtain ⟨c0, c1, c2, c3, c4, c5, c6, c7, hcols⟩ := eight (zs := if kd = 10 then zs else nsC kd (IntKind.i64.wrap (pl + 1))) (by split; exact h8; rfl)
  rw [hcols] at hsp hun
  obtain ⟨x0, x1, x2, x3, x4, x5, x6, x7, x8, x9, x10, x11, x12, x13, x14, x15, rfl⟩ := sixteen hxl
  have F := fn_of Tryz.func210 rfl rfl
  have hrep := h.repX (exφ := ph1 5 nb) (ex := [(5, b5 kd fst fur [x0, x1, x2, x3, x4, x5, x6, x7, x8, x9, x10, x11, x12, x13, x14, x15])]) (rpC := .lit nilP) (cvC := .lit cv) (nvC := .ptr 5 0) ⟨rfl, rfl⟩ ⟨rfl, h.o4⟩ ⟨nb, 0, rfl, hnv⟩ (by
    intro b B hB
    have := look_mem hB
    simp only [List.mem_cons, List.not_mem_nil, or_false, Prod.mk.injEq] at this
    obtain ⟨rfl, rfl⟩ := this
    exact ⟨rfl, rfl, rfl, nb, 0, rfl, n1, n2, [], .int .i64 kd :: fst :: fur :: [x0, x1, x2, x3, x4, x5, x6, x7, x8, x9, x10, x11, x12, x13, x14, x15], [], hblk, rfl, rfl, ⟨rfl, o1⟩, ⟨rfl, o2⟩, lits_of _ hones⟩) (by
    intro b k' o hb'
    unfold ph1 at hb'
    split at hb'
    · cases hb'; exact lt_of_heap hblk
    · cases hb') (argT 66)
  have hkb : ∀ b x, phW k fb (ph1 5 nb) b = some x → [0, 6, 17, 5].contains b = true := phX_kb rfl rfl fun b x e => by
    unfold ph1 at e
    split at e
    · subst_vars; rfl
    · cases e
  refine calls_x F (φ := phW k fb (ph1 5 nb)) (vs := [.one (.ptr 0 0), .one (.ptr 6 0)]) (args := [ptrB k, ptrB fb]) (by kernel_rfl) ⟨⟨k, 0, rfl, rfl⟩, ⟨fb, 0, rfl, rfl⟩, trivial⟩ hrep ?_
  refine xrun' (orSp_ok hsp (tabSp_ok tN_ok)) bW_ok hkb (nrm_R hkb) (rr_6 p0 q0 p1 q1 p2 q2 p3 q3 c0 c1 c2 c3 c4 c5 c6 c7 hs uns mt lr rr pl c kd lp cv gv fst fur (if 0 < IntKind.i64.wrap (pl + 1) then fur else fst) (ptrB nb) x0 x1 x2 x3 x4 x5 x6 x7 x8 x9 x10 x11 x12 x13 x14 x15) (fun _ _ => False)
    (fun ks s => ks = bef (opCalls 125) Tryz.f210 ∧ s = ⟨slot [(0, P0), (1, P6), (36, .val (.agg [.ptr 17 0, .sint .i64 rr])), (37, P6)] 0 68, [(0, nvB hs uns mt lr rr pl lp cv gv (.ptr 17 0) (.ptr 5 0)), (6, fuW c), (17, ⟨.sbool false :: numCs true 8 8 ++ [.lit nilP, .sint .i64 0, .lit (if 0 < IntKind.i64.wrap (pl + 1) then fur else fst), .sint .i64 0, .lit nilP, .sint .i64 0, .lit nilS', .sint .i64 0, .lit (ptrB nb), .sint .i64 (IntKind.i64.wrap (pl + 1))], 205, true, false, false⟩), (5, b5 kd fst fur [x0, x1, x2, x3, x4, x5, x6, x7, x8, x9, x10, x11, x12, x13, x14, x15])], 22, [(p0, 10), (q0, 10), (p1, 10), (q1, 10), (p2, 10), (q2, 10), (p3, 10), (q3, 10), (c0, 1), (c1, 1), (c2, 1), (c3, 1), (c4, 1), (c5, 1), (c6, 1), (c7, 1)], [0]⟩)
    ⟨fun x hx => by simp at hx; exact hx, rfl, rfl⟩ (fun _ _ _ _ _ h => h.elim) ?_
  rintro ks s ⟨rfl, rfl⟩
  refine ⟨by kernel_rfl, fun kcs φ1 a1 w1 hsr1 hr1 => ?_⟩
  obtain ⟨m, ys, k1, k2, k3, k4⟩ := own_blk hr1.wd (b := 17) rfl rfl rfl
  have hch : Chg w w1 [k] := ⟨hr1.wd.on, fun j hj hn => hr1.wd.low j hj fun b hb o e => by
    simp only [List.mem_singleton] at hb
    subst hb
    rw [hr1.wd.base 0 (k, 0) rfl] at e
    cases e
    exact hn (by simp)⟩
  have hnode : NodeAt w1 m [c0, c1, c2, c3, c4, c5, c6, c7] false 0 0 0 0 (IntKind.i64.wrap (pl + 1)) (if 0 < IntKind.i64.wrap (pl + 1) then fur else fst) nilP nilS' nilP (ptrB nb) := by
    refine node_at (j := 8) k3 k2 rfl ?_ (fun x hx => hx) (fun x hx => hx.1) (fun x hx => hx) (fun x hx => hx.1) (fun x hx => hx) (fun x hx => hx.1) (fun x hx => hx) (fun x hx => hx.1) (fun x hx => hx) (fun x hx => hx.1) (fun x hx => hx)
    intro i z hz
    refine ⟨1, ?_⟩
    match i, hz with
    | 0, hz => cases hz; rfl
    | 1, hz => cases hz; rfl
    | 2, hz => cases hz; rfl
    | 3, hz => cases hz; rfl
    | 4, hz => cases hz; rfl
    | 5, hz => cases hz; rfl
    | 6, hz => cases hz; rfl
    | 7, hz => cases hz; rfl
    | i + 8, hz => simp at hz
  have hp1 : Pos2 w1 k fb [p0, q0, p1, q1, p2, q2, p3, q3] hs uns mt lr rr pl c lp (ptrB m) gv cv nv := by
    obtain ⟨⟨lp2, rp2, gv2, cv2, nv2, g1, ⟨e1, g2⟩, ⟨kr, orr, e2, g3⟩, ⟨e3, g4⟩, ⟨e4, g5⟩, ⟨kn, on, e5, g6⟩⟩, g7⟩ := sW_out (ns := []) hr1.wd (hs := hs) (uns := uns) (mt := mt) (lr := lr) (rr := rr) (pl := pl) (c := c) (lpC := .lit lp) (rpC := .ptr 17 0) (gvC := .lit gv) (cvC := .lit cv) (nvC := .ptr 5 0) rfl rfl (h.nd.shape h.h8) (fuel_shape h.fu) (zs := [p0, q0, p1, q1, p2, q2, p3, q3]) rfl (by
      intro i z hz
      refine ⟨10, ?_⟩
      match i, hz with
      | 0, hz => cases hz; rfl
      | 1, hz => cases hz; rfl
      | 2, hz => cases hz; rfl
      | 3, hz => cases hz; rfl
      | 4, hz => cases hz; rfl
      | 5, hz => cases hz; rfl
      | 6, hz => cases hz; rfl
      | 7, hz => cases hz; rfl
      | i + 8, hz => simp at hz)
    rw [k1] at e2
    cases e2
    rw [hr1.wd.base 5 (nb, 0) rfl] at e5
    cases e5
    have g3' : rp2 = ptrB m := by rw [g3]; rfl
    have g6' : nv2 = nv := by rw [g6, hnv]; rfl
    rw [e1, g3', e3, e4, g6'] at g1
    exact ⟨g1, g7, h.bits, rfl, h.o1, rfl, h.o3, h.o4, h.o5⟩
  refine callAt_ok (f := 125) (vs := [.agg [.ptr 17 0, .sint .i64 rr], .one (.ptr 6 0)]) (dst := some 38) (ks2 := aft (opCalls 125) Tryz.f210) (by kernel_rfl) (fn_of Tryz.func125 rfl rfl).en (by kernel_rfl) (hsr1 φ1 [] w1) hr1 ?_
  intro us hus
  match us, hus with
  | [y, y2], ⟨⟨zz, hy, hz⟩, hy2, _⟩ =>
  match zz, hz with
  | [z1, z2], ⟨hz1, hz2, _⟩ =>
  have hz1 : z1 = ptrB m := ptr_val (ν := []) (w := w1) k1 hz1
  have hz2 : z2 = .int .i64 rr := hz2
  rw [ptr_val (hr1.wd.base 6 (fb, 0) rfl) hy2, hy, hz1, hz2]
  refine (hun w1 m hch k4 hp1 hnode).mono ?_
  rintro e w2 ⟨cd, rfl, hA⟩
  exact ⟨_, rfl, fun kcs2 hf2 hsr2 => rr_tail hr1 (by kernel_rfl) (by kernel_rfl) (hr1.wd.base 0 (k, 0) rfl) (hr1.wd.base 6 (fb, 0) rfl) hA kcs2 hsr2⟩
end
end Ab
end Go.Proofs.YteghhlfmcjmnoaaGreatDoor
set_option linter.unusedSimpArgs false
set_option linter.unusedVariables false
namespace Go.Proofs.YteghhlfmcjmnoaaGreatDoor
open Go.RowKit
namespace Ab
open Rf (Nd Inv NInv)
section
variable {w w1 : World} {b0 fb m nb : Nat} {own own' : Nat → Option Own} {at1 at2 : Nat → Nat} {i : Nat} {n n1 mN : Nd} {s : Rf.St} {rho : Nat → Nat} {c : Nat}
theorem nest_nodeOk {ns1 : List Nd} {N a : Nat} {xa : Nd} {zs : List Int} {pl : Int} {v u x y : Rf.V} (hnode : NodeAt w1 (at2 N) zs false 0 0 0 0 pl (ptrB (at2 a)) nilP nilS' nilP (ptrB nb)) (h8 : zs.length = 8) (f1 : mN.pos = true) (f2 : mN.probe = false) (f3 : mN.t = [v, u, x, y]) (f4 : mN.args = [a]) (f5 : mN.read = [0]) (f6 : mN.out = []) (f7 : mN.told = Rf.one) (f8 : mN.had = [Rf.one]) (f9 : mN.nest = true) (hxa : ns1[a]? = some xa) (hx0 : xa.had[0]? = some Rf.one) (hblk : ∃ cs : List Value, w1.heap[nb]? = some (.cells cs.toArray 273 (0, 0))) (hnst : NstAt w1 b0 own' at2 N mN nb pl) (hcof : Pg.Cof mN.t (colsZ zs)) (how : own' (at2 N) = some (.nd N)) (hlo : b0 ≤ at2 N) : NodeOk w1 b0 own' at2 ns1 N mN := by
  obtain ⟨r0, s0, r1, s1, r2, s2, r3, s3, rfl⟩ := eight h8
  refine ⟨⟨r0, s0, r1, s1, r2, s2, r3, s3, 0, pl, nilS', nilP, ptrB nb, ⟨?_, Or.inl ⟨rfl, f6⟩, fun e => ?_, fun _ => rfl, fun e => ?_, fun _ => ⟨nb, rfl, hblk, fun _ _ => hnst⟩⟩, mN.t, ?_, hcof⟩, ⟨by rw [f8, f6]; rfl, by rw [f8]; rfl, by rw [f8, f6, f7]; rfl, fun r cc mm h => by rw [f6] at h; simp at h⟩, how, hlo, fun e => by rw [f2] at e; cases e⟩
  · have e1 : lArg mN = some a := by unfold lArg; rw [f3, f4]; rfl
    have e2 : rArg mN = none := by unfold rArg; rw [f3, f4]; rfl
    have e3 : lRd mN = 0 := by unfold lRd; rw [f3, f5]; rfl
    have e4 : rRd mN = 0 := by unfold rRd; rw [f3, f5]; rfl
    have e5 : unsZ mN = 0 := by unfold unsZ; rw [f2]; rfl
    rw [e1, e2, e3, e4, e5, f1]
    exact hnode
  · rw [f3] at e; cases e
  · rw [f9] at e; cases e
  · rw [f3]
    exact Pg.corners_nest f3 f4 f5 hxa hx0 f7
theorem two_nodeOk {ns1 : List Nd} {N x : Nat} {xa : Nd} {p : Bool} (hp : p = true) (hnode : NodeAt w1 (at2 N) [1, 0, 0, 0, 0, 0, 0, 1] false 0 0 0 0 0 (ptrB (at2 x)) (ptrB (at2 x)) nilS' nilP nilP) (hxa : ns1[x]? = some xa) (hx0 : xa.had[0]? = some Rf.one) (how : own' (at2 N) = some (.nd N)) (hlo : b0 ≤ at2 N) : NodeOk w1 b0 own' at2 ns1 N (Rf.two .mul p p x x) := by
  subst hp
  refine ⟨⟨1, 0, 0, 0, 0, 0, 0, 1, 0, 0, nilS', nilP, nilP, ⟨hnode, Or.inl ⟨rfl, rfl⟩, fun e => (by cases e), fun _ => rfl, fun _ => rfl, fun e => (by cases e)⟩, Rf.Kind.mul.cols, Pg.corners_new4 rfl rfl rfl hxa hx0 hxa hx0 rfl, ?_⟩, Pg.HC.fresh _ _ _, how, hlo, fun e => by cases e⟩
  exact .mk4 (e := 1) (by decide) (Pg.sc_one _).symm (Pg.sc_one _).symm (Pg.sc_one _).symm (Pg.sc_one _).symm
theorem wide_gen (h : Net w b0 own at1 fb s) (hI : Inv s.nodes rho c) (hn : s.nodes[i]? = some n) {a0 r0 : Nat} {v u x y : Rf.V} (ht : n.t = [v, u, x, y]) (ha : n.args = [a0]) (hr : n.read = [r0]) (hne : n.nest = true) {dd : Nat} {new ns1 : List Nd} (e1 : n1 = { n with args := n.args ++ [dd], read := n.read ++ [0] }) (hns : ns1 = (s.nodes ++ new).set i n1) {p0 q0 p1 q1 p2 q2 p3 q3 mt pl : Int} {gv cv nv : Value} {l : List Rf.V} {g : Option (Nat × Nat)} {cc nn : Option Nat} (hs : Seen w b0 own at1 s.nodes i n p0 q0 p1 q1 p2 q2 p3 q3 mt pl gv cv nv l g cc nn) (hch : Chg w w1 [at1 i]) (hp1 : Pos2 w1 (at1 i) fb [p0, q0, p1, q1, p2, q2, p3, q3] (!n.pos) (unsZ n) mt (lRd n) (rRd n) pl s.clock (ptrV at1 (lArg n)) (ptrB m) gv cv nv)
    (hat : ∀ a, a < s.nodes.length → at2 a = at1 a) (hatd : at2 dd = m) {xd : Nd} (hdd : ns1[dd]? = some xd) (hd0 : xd.had[0]? = some Rf.one) (hown : ∀ k o, k < w.heap.size → own k = some o → o ≠ .pd i → own' k = some o) (hownN : ∀ k, k < w.heap.size → own k = none → own' k = none) (hnew : ∀ j mm, (s.nodes ++ new)[j]? = some mm → s.nodes.length ≤ j → NodeOk w1 b0 own' at2 ns1 j mm) :
    Kept w w1 own own' fb ∧ Net w1 b0 own' at2 fb ⟨ns1, s.clock⟩ := by
  have hi := (List.getElem?_eq_some_iff.1 hn).1
  have hN := hI.at' i n hn
  have hgo1 : Pg.Go s.nodes (s.nodes ++ new) := Pg.Go.more _ _
  have hn' : (s.nodes ++ new)[i]? = some n := by rw [List.getElem?_append_left hi]; exact hn
  have hgo : Pg.Go s.nodes ns1 := by
    rw [hns]
    exact hgo1.trans (go_same hn' (by rw [e1]) (by rw [e1]) (by rw [e1]))
  have hoi := (h.nd i n hn).own
  have hIs : IsD w own i [at1 i] := by
    intro k hk cs ty mm hcs
    simp at hk
    subst hk
    obtain ⟨xs, h1, _⟩ := hs.blk.nd.ex
    rw [hcs] at h1
    exact Or.inl ⟨(Obj.cells.inj (Option.some.inj h1)).2.1, hoi⟩
  have hati := hat i hi
  refine ⟨Kept.of_chg hch (fun k hk hlt hno => ?_) hownN, h.step (i := i) hI (fun j hj hne => ?_) hgo hch hIs hown hat (hp1.fu) fun j mm hj hor => ?_⟩
  · simp at hk
    subst hk
    rw [hoi] at hno
    cases hno
  · rw [hns, List.getElem?_set_ne (fun e => hne e.symm), List.getElem?_append_left hj]
  · by_cases hji : j = i
    · subst hji
      rw [hns, List.getElem?_set_self (by simp; omega)] at hj
      cases hj
      have hnb : ∀ nb : Nat, (∃ cs : List Value, w.heap[nb]? = some (.cells cs.toArray 273 (0, 0))) → ∃ cs : List Value, w1.heap[nb]? = some (.cells cs.toArray 273 (0, 0)) := by
        rintro nb ⟨cs, hcs⟩
        refine ⟨cs, hch.at hcs ?_⟩
        intro hk
        rcases hIs nb hk _ _ _ hcs with ⟨e, _⟩ | ⟨e, _⟩ | e <;> exact absurd e (by decide)
      refine ⟨⟨p0, q0, p1, q1, p2, q2, p3, q3, mt, pl, gv, cv, nv, ⟨?_, ?_, fun e => ?_, fun _ => hs.blk.nocon (by rw [ht]; simp), ?_⟩, l, ?_, hs.cof⟩, (h.nd j n hn).hc.of (by rw [e1]) (by rw [e1]) (by rw [e1]), by rw [hati]; exact hown _ _ hs.blk.nd.lt hoi (by intro e; cases e), by rw [hati]; exact (h.nd j n hn).lo, by rw [e1]; exact (h.nd j n hn).prb⟩
      · have f1 : lArg n1 = lArg n := by unfold lArg; rw [e1, ha]; simp [ht]
        have f2 : rArg n1 = some dd := by unfold rArg; rw [e1, ha]; simp [ht]
        have f3 : lRd n1 = lRd n := by unfold lRd; rw [e1, hr]; simp [ht]
        have f4 : rRd n1 = rRd n := by unfold rRd; rw [e1, hr]; simp [ht]
        have f5 : unsZ n1 = unsZ n := by rw [e1]; rfl
        have f6 : n1.pos = n.pos := by rw [e1]
        have f7 : ptrV at2 (lArg n) = ptrV at1 (lArg n) := by
          cases e : lArg n with
          | none => rfl
          | some a => simp only [ptrV]; rw [hat a (lArg_lt hN a e)]
        rw [f1, f2, f3, f4, f5, f6, f7, hati]
        show NodeAt w1 (at1 j) _ _ _ _ _ _ _ _ (ptrB (at2 dd)) _ _ _
        rw [hatd]
        exact hp1.nd
      · rw [e1]
        rcases hs.blk.giv with ⟨g1, g2⟩ | ⟨g', cap, rest, g1, g2, g3, g4, g5, g6⟩
        · exact Or.inl ⟨g1, g2⟩
        · refine Or.inr ⟨g', cap, rest, g1, hch.at g2 ?_, g3, g4, hown _ _ (lt_of_heap g2) g5 (by intro e; cases e), g6⟩
          intro hm
          simp at hm
          subst hm
          rw [hoi] at g5
          cases g5
      · rw [e1] at e
        simp only at e
        rw [ht] at e
        cases e
      · refine ⟨fun e => ?_, fun e => ?_⟩
        · rw [e1] at e
          simp only at e
          rw [hne] at e
          cases e
        · obtain ⟨nb, k1, k2, _⟩ := hs.blk.nst.2 hne
          refine ⟨nb, k1, hnb nb k2, fun _ hl => ?_⟩
          rw [e1, ha] at hl
          simp at hl
      · rw [e1]
        exact Pg.corners_wide ht ha hr (hgo.corners hs.cor) hdd hd0
    · rcases hor with e | e
      · exact absurd e hji
      · refine hnew j mm ?_ e
        rw [hns, List.getElem?_set_ne (fun e => hji e.symm)] at hj
        exact hj
end
end Ab
end Go.Proofs.YteghhlfmcjmnoaaGreatDoor
set_option linter.unusedSimpArgs false
set_option linter.unusedVariables false
namespace Go.Proofs.YteghhlfmcjmnoaaGreatDoor
open Go.RowKit
namespace Ab
open Rf (Nd Inv NInv)
theorem more_eq {ns ns' : List Nd} {n : Nd} (h : Rf.more ns n = some ns') : ns' = ns ++ [n] := by
  unfold Rf.more at h
  split at h
  · cases h; rfl
  · cases h
def atA (len m : Nat) (at1 : Nat → Nat) : Nat → Nat := fun j => if j < len then at1 j else m
def atB (len pb m : Nat) (at1 : Nat → Nat) : Nat → Nat := fun j => if j < len then at1 j else if j = len then pb else m
def ownA (m : Nat) (o : Own) (own : Nat → Option Own) : Nat → Option Own := fun k => if k = m then some o else own k
theorem atA_lt {len m a : Nat} {at1 : Nat → Nat} (h : a < len) : atA len m at1 a = at1 a := by unfold atA; rw [if_pos h]
theorem atA_ge {len m a : Nat} {at1 : Nat → Nat} (h : len ≤ a) : atA len m at1 a = m := by unfold atA; rw [if_neg (by omega)]
theorem atB_lt {len pb m a : Nat} {at1 : Nat → Nat} (h : a < len) : atB len pb m at1 a = at1 a := by unfold atB; rw [if_pos h]
theorem atB_eq {len pb m : Nat} {at1 : Nat → Nat} : atB len pb m at1 len = pb := by unfold atB; rw [if_neg (by omega), if_pos rfl]
theorem atB_gt {len pb m a : Nat} {at1 : Nat → Nat} (h : len < a) : atB len pb m at1 a = m := by unfold atB; rw [if_neg (by omega), if_neg (by omega)]
theorem ownA_eq {m : Nat} {o : Own} {own : Nat → Option Own} : ownA m o own m = some o := by unfold ownA; rw [if_pos rfl]
theorem ownA_ne {m k : Nat} {o : Own} {own : Nat → Option Own} (h : k ≠ m) : ownA m o own k = own k := by unfold ownA; rw [if_neg h]
structure Nst (w : World) (b0 : Nat) (own : Nat → Option Own) (at' : Nat → Nat) (i : Nat) (n : Nd) (nb : Nat) (pl : Int) (xs : List Value) (zs : List Int) (fst fur : Value) : Prop where
  blk : w.heap[nb]? = some (.cells (.int .i64 (kindZ n.op) :: fst :: fur :: xs).toArray 273 (0, 0))
  hold : Hold true w zs xs
  len : zs.length = 8
  bits : ∀ z ∈ zs, Bits 1 z
  root : n.op = .sqrt → ∃ a, n.args[0]? = some a ∧ fst = ptrB (at' a) ∧ fur = ptrB (at' a) ∧ Pg.Cof n.t (colsZ zs)
  fn : n.op ≠ .sqrt → pl = n.k ∧ ∃ x, n.x = some x ∧ fst = ptrB (at' x) ∧ (n.op = .ln1p → fur = ptrB (at' x)) ∧ (n.op ≠ .ln1p → (∀ s, n.square = some s → fur = ptrB (at' s)) ∧
      (n.square = none → ∃ pb, fur = ptrB pb ∧ own pb = some (.pd i) ∧ b0 ≤ pb ∧ NodeAt w pb [1, 0, 0, 0, 0, 0, 0, 1] false 0 0 0 0 0 (ptrB (at' x)) (ptrB (at' x)) nilS' nilP nilP))
theorem Nst.of {w : World} {b0 : Nat} {own : Nat → Option Own} {at' : Nat → Nat} {i : Nat} {n : Nd} {nb : Nat} {pl : Int} (h : NstAt w b0 own at' i n nb pl) : ∃ xs zs fst fur, Nst w b0 own at' i n nb pl xs zs fst fur := by
  obtain ⟨xs, zs, fst, fur, h1, h2, h3, h4, h5, h6⟩ := h
  exact ⟨xs, zs, fst, fur, h1, h2, h3, h4, h5, h6⟩
theorem Nst.at {w : World} {b0 : Nat} {own : Nat → Option Own} {at' : Nat → Nat} {i : Nat} {n : Nd} {nb : Nat} {pl : Int} {xs : List Value} {zs : List Int} {fst fur : Value} (h : Nst w b0 own at' i n nb pl xs zs fst fur) : NstAt w b0 own at' i n nb pl := ⟨xs, zs, fst, fur, h.blk, h.hold, h.len, h.bits, h.root, h.fn⟩
theorem Nst.ones {w : World} {b0 : Nat} {own : Nat → Option Own} {at' : Nat → Nat} {i : Nat} {n : Nd} {nb : Nat} {pl : Int} {xs : List Value} {zs : List Int} {fst fur : Value} (h : Nst w b0 own at' i n nb pl xs zs fst fur) : One fst ∧ One fur := by
  by_cases hs : n.op = .sqrt
  · obtain ⟨a, _, h1, h2, _⟩ := h.root hs
    rw [h1, h2]
    exact ⟨rfl, rfl⟩
  · obtain ⟨_, x, _, h1, h2, h3⟩ := h.fn hs
    refine ⟨by rw [h1]; rfl, ?_⟩
    by_cases hl : n.op = .ln1p
    · rw [h2 hl]; rfl
    · cases hq : n.square with
      | none => obtain ⟨pb, e, _⟩ := (h3 hl).2 hq; rw [e]; rfl
      | some sq => rw [(h3 hl).1 sq hq]; rfl
theorem kind_fn {op : Rf.Op} (h : Rf.fn op) (hs : op ≠ .sqrt) : kindZ op ≠ 10 ∧ ((kindZ op = 11 ∧ op = .exp) ∨ (kindZ op = 12 ∧ op = .ln1p) ∨ (kindZ op = 13 ∧ op = .atan)) := by
  rcases h with e | e | e | e
  · exact absurd e hs
  · subst e; exact ⟨by decide, Or.inl ⟨rfl, rfl⟩⟩
  · subst e; exact ⟨by decide, Or.inr (Or.inl ⟨rfl, rfl⟩)⟩
  · subst e; exact ⟨by decide, Or.inr (Or.inr ⟨rfl, rfl⟩)⟩
theorem cols_fn {op : Rf.Op} (h : Rf.fn op) (hs : op ≠ .sqrt) {k : Nat} (hk : k ≤ 3001) : colsZ (nsC (kindZ op) (k : Int)) = [(0, 0), ((Rf.shape op k).1, 0), (0, 1), (0, (Rf.shape op k).2)] ∧ (fac1 (kindZ op) k).natAbs < 1000000000000000000 ∧ (fac2 (kindZ op) k).natAbs < 1000000000000000000 := by
  obtain ⟨_, h2⟩ := kind_fn h hs
  obtain ⟨e1, e2⟩ := fac_eq (k := k) (by omega) h2
  obtain ⟨b1, b2, _, _⟩ := Rf.shape_bits op hk
  unfold nsC colsZ
  rw [e1, e2]
  refine ⟨rfl, ?_, ?_⟩
  · exact Nat.lt_trans (show _ < 2 ^ 24 from b1) (by decide)
  · exact Nat.lt_trans (show _ < 2 ^ 24 from b2) (by decide)
section
variable {w w1 : World} {b0 fb m nb : Nat} {own : Nat → Option Own} {at1 : Nat → Nat} {i : Nat} {n n1 mN : Nd} {s : Rf.St} {rho : Nat → Nat} {c : Nat}
theorem wideA (h : Net w b0 own at1 fb s) (hb0 : b0 ≤ w.heap.size) (hI : Inv s.nodes rho c) (hn : s.nodes[i]? = some n) {a0 r0 : Nat} {v u x y : Rf.V} (ht : n.t = [v, u, x, y]) (ha : n.args = [a0]) (hr : n.read = [r0]) (hne : n.nest = true) {ns1 : List Nd} (e1 : n1 = { n with args := n.args ++ [s.nodes.length], read := n.read ++ [0] }) (hns : ns1 = (s.nodes ++ [mN]).set i n1) {p0 q0 p1 q1 p2 q2 p3 q3 mt pl : Int} {gv cv nv : Value} {l : List Rf.V} {g : Option (Nat × Nat)} {cc nn : Option Nat} (hs : Seen w b0 own at1 s.nodes i n p0 q0 p1 q1 p2 q2 p3 q3 mt pl gv cv nv l g cc nn) (hch : Chg w w1 [at1 i]) (hm : w.heap.size ≤ m) (hp1 : Pos2 w1 (at1 i) fb [p0, q0, p1, q1, p2, q2, p3, q3] (!n.pos) (unsZ n) mt (lRd n) (rRd n) pl s.clock (ptrV at1 (lArg n)) (ptrB m) gv cv nv)
    {a : Nat} (hla : a < s.nodes.length) {zs : List Int} {pl' : Int} {v' u' x' y' : Rf.V} (hnode : NodeAt w1 m zs false 0 0 0 0 pl' (ptrB (at1 a)) nilP nilS' nilP (ptrB nb)) (h8 : zs.length = 8) (f1 : mN.pos = true) (f2 : mN.probe = false) (f3 : mN.t = [v', u', x', y']) (f4 : mN.args = [a]) (f5 : mN.read = [0]) (f6 : mN.out = []) (f7 : mN.told = Rf.one) (f8 : mN.had = [Rf.one]) (f9 : mN.nest = true) (hblk : ∃ cs : List Value, w1.heap[nb]? = some (.cells cs.toArray 273 (0, 0))) (hnst : NstAt w1 b0 (ownA m (.nd s.nodes.length) own) (atA s.nodes.length m at1) s.nodes.length mN nb pl') (hcof : Pg.Cof mN.t (colsZ zs)) :
    ∃ own' at2, Kept w w1 own own' fb ∧ Net w1 b0 own' at2 fb ⟨ns1, s.clock⟩ ∧ (∀ a, a < s.nodes.length → at2 a = at1 a) ∧ at2 s.nodes.length = m := by
  have hi := (List.getElem?_eq_some_iff.1 hn).1
  have hn' : (s.nodes ++ [mN])[i]? = some n := by rw [List.getElem?_append_left hi]; exact hn
  have hgo : Pg.Go s.nodes ns1 := by
    rw [hns]
    exact (Pg.Go.more _ _).trans (go_same hn' (by rw [e1]) (by rw [e1]) (by rw [e1]))
  have hdd : ns1[s.nodes.length]? = some mN := by
    rw [hns, List.getElem?_set_ne (by omega), List.getElem?_append_right (Nat.le_refl _)]
    simp
  obtain ⟨xa, g1, _, g3, _⟩ := hgo.at' a _ (List.getElem?_eq_getElem hla)
  have hx0 := g3 0 _ (h.nd a _ (List.getElem?_eq_getElem hla)).hc.fst
  obtain ⟨k1, k2⟩ := wide_gen h hI hn ht ha hr hne e1 hns hs hch hp1 (at2 := atA s.nodes.length m at1) (own' := ownA m (.nd s.nodes.length) own) (fun a ha => atA_lt ha) (atA_ge (Nat.le_refl _)) hdd (by rw [f8]; rfl) (fun k o hk ho _ => by rw [ownA_ne (by omega)]; exact ho) (fun k hk ho => by rw [ownA_ne (by omega)]; exact ho) (by
    intro j mm hj hge
    have hjl := (List.getElem?_eq_some_iff.1 hj).1
    have hje : j = s.nodes.length := by simp at hjl; omega
    subst hje
    rw [List.getElem?_append_right (Nat.le_refl _)] at hj
    simp at hj
    subst hj
    refine nest_nodeOk (a := a) ?_ h8 f1 f2 f3 f4 f5 f6 f7 f8 f9 g1 hx0 hblk hnst hcof ?_ ?_
    · rw [atA_ge (Nat.le_refl _), atA_lt hla]; exact hnode
    · rw [atA_ge (Nat.le_refl _)]; exact ownA_eq
    · rw [atA_ge (Nat.le_refl _)]; omega)
  exact ⟨_, _, k1, k2, fun a ha => atA_lt ha, atA_ge (Nat.le_refl _)⟩
theorem wideB (h : Net w b0 own at1 fb s) (hb0 : b0 ≤ w.heap.size) (hI : Inv s.nodes rho c) (hn : s.nodes[i]? = some n) {a0 r0 : Nat} {v u x y : Rf.V} (ht : n.t = [v, u, x, y]) (ha : n.args = [a0]) (hr : n.read = [r0]) (hne : n.nest = true) {ns1 : List Nd} {xx pb : Nat} {px : Bool} (hpx : px = true) (e1 : n1 = { n with args := n.args ++ [s.nodes.length + 1], read := n.read ++ [0] }) (hns : ns1 = (s.nodes ++ [Rf.two .mul px px xx xx] ++ [mN]).set i n1) {p0 q0 p1 q1 p2 q2 p3 q3 mt pl : Int} {gv cv nv : Value} {l : List Rf.V} {g : Option (Nat × Nat)} {cc nn : Option Nat} (hs : Seen w b0 own at1 s.nodes i n p0 q0 p1 q1 p2 q2 p3 q3 mt pl gv cv nv l g cc nn) (hch : Chg w w1 [at1 i]) (hm : w.heap.size ≤ m) (hp1 : Pos2 w1 (at1 i) fb [p0, q0, p1, q1, p2, q2, p3, q3] (!n.pos) (unsZ n) mt (lRd n) (rRd n) pl s.clock (ptrV at1 (lArg n)) (ptrB m) gv cv nv)
    (hlx : xx < s.nodes.length) (hpb : own pb = some (.pd i)) (hpb0 : b0 ≤ pb) (hpbn : NodeAt w pb [1, 0, 0, 0, 0, 0, 0, 1] false 0 0 0 0 0 (ptrB (at1 xx)) (ptrB (at1 xx)) nilS' nilP nilP) {zs : List Int} {pl' : Int} {v' u' x' y' : Rf.V} (hnode : NodeAt w1 m zs false 0 0 0 0 pl' (ptrB pb) nilP nilS' nilP (ptrB nb)) (h8 : zs.length = 8) (f1 : mN.pos = true) (f2 : mN.probe = false) (f3 : mN.t = [v', u', x', y']) (f4 : mN.args = [s.nodes.length]) (f5 : mN.read = [0]) (f6 : mN.out = []) (f7 : mN.told = Rf.one) (f8 : mN.had = [Rf.one]) (f9 : mN.nest = true) (hblk : ∃ cs : List Value, w1.heap[nb]? = some (.cells cs.toArray 273 (0, 0))) (hnst : NstAt w1 b0 (ownA m (.nd (s.nodes.length + 1)) (ownA pb (.nd s.nodes.length) own)) (atB s.nodes.length pb m at1) (s.nodes.length + 1) mN nb pl') (hcof : Pg.Cof mN.t (colsZ zs)) :
    ∃ own' at2, Kept w w1 own own' fb ∧ Net w1 b0 own' at2 fb ⟨ns1, s.clock⟩ ∧ (∀ a, a < s.nodes.length → at2 a = at1 a) ∧ at2 (s.nodes.length + 1) = m := by
  have hi := (List.getElem?_eq_some_iff.1 hn).1
  have hns' : ns1 = (s.nodes ++ [Rf.two .mul px px xx xx, mN]).set i n1 := by rw [hns]; simp
  have hn' : (s.nodes ++ [Rf.two .mul px px xx xx, mN])[i]? = some n := by rw [List.getElem?_append_left hi]; exact hn
  have hgo : Pg.Go s.nodes ns1 := by
    rw [hns']
    exact (Pg.Go.more _ _).trans (go_same hn' (by rw [e1]) (by rw [e1]) (by rw [e1]))
  have hd1 : ns1[s.nodes.length]? = some (Rf.two .mul px px xx xx) := by
    rw [hns', List.getElem?_set_ne (by omega), List.getElem?_append_right (Nat.le_refl _)]
    simp
  have hd2 : ns1[s.nodes.length + 1]? = some mN := by
    rw [hns', List.getElem?_set_ne (by omega), List.getElem?_append_right (by omega)]
    simp
  obtain ⟨xa, g1, _, g3, _⟩ := hgo.at' xx _ (List.getElem?_eq_getElem hlx)
  have hx0 := g3 0 _ (h.nd xx _ (List.getElem?_eq_getElem hlx)).hc.fst
  have hpblt := hpbn.lt
  have hpi : pb ∉ [at1 i] := by
    intro e
    simp at e
    subst e
    rw [(h.nd i n hn).own] at hpb
    cases hpb
  have hpb1 : NodeAt w1 pb [1, 0, 0, 0, 0, 0, 0, 1] false 0 0 0 0 0 (ptrB (at1 xx)) (ptrB (at1 xx)) nilS' nilP nilP := hpbn.keep hch.on (hch.low pb hpblt hpi)
  obtain ⟨k1, k2⟩ := wide_gen h hI hn ht ha hr hne e1 hns' hs hch hp1 (at2 := atB s.nodes.length pb m at1) (own' := ownA m (.nd (s.nodes.length + 1)) (ownA pb (.nd s.nodes.length) own)) (fun a ha => atB_lt ha) (atB_gt (by omega)) hd2 (by rw [f8]; rfl)
    (fun k o hk ho hnp => by
      rw [ownA_ne (by omega), ownA_ne (fun e => by rw [e, hpb] at ho; cases ho; exact hnp rfl)]; exact ho)
    (fun k hk ho => by rw [ownA_ne (by omega), ownA_ne (fun e => by rw [e, hpb] at ho; cases ho)]; exact ho) (by
    intro j mm hj hge
    have hjl := (List.getElem?_eq_some_iff.1 hj).1
    have hje : j = s.nodes.length ∨ j = s.nodes.length + 1 := by simp at hjl; omega
    rcases hje with rfl | rfl
    · rw [List.getElem?_append_right (Nat.le_refl _)] at hj
      simp at hj
      subst hj
      refine two_nodeOk hpx ?_ g1 hx0 ?_ ?_
      · rw [atB_eq, atB_lt hlx]; exact hpb1
      · rw [atB_eq, ownA_ne (by omega)]; exact ownA_eq
      · rw [atB_eq]; exact hpb0
    · rw [List.getElem?_append_right (by omega)] at hj
      simp at hj
      subst hj
      refine nest_nodeOk (a := s.nodes.length) ?_ h8 f1 f2 f3 f4 f5 f6 f7 f8 f9 hd1 rfl hblk hnst hcof ?_ ?_
      · rw [atB_gt (by omega), atB_eq]; exact hnode
      · rw [atB_gt (by omega)]; exact ownA_eq
      · rw [atB_gt (by omega)]; omega)
  exact ⟨_, _, k1, k2, fun a ha => atB_lt ha, atB_gt (by omega)⟩
end
end Ab
end Go.Proofs.YteghhlfmcjmnoaaGreatDoor
