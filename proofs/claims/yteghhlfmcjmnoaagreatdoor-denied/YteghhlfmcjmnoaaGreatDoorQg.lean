import Derived.Test.YteghhlfmcjmnoaaGreatDoorQd
set_option linter.unusedSimpArgs false
set_option linter.unusedVariables false
namespace Go.Proofs.YteghhlfmcjmnoaaGreatDoor
open Go.RowKit
namespace Ab
open Rf (Nd Inv NInv Wt)
noncomputable def bG : FuncId → Option Func := fun f => bif f == 40 then some Tryz.f40 else bT f
theorem bG_ok : BodiesOk Z bG := by
  intro f fn h
  unfold bG at h
  exact body_if h (fn_of Tryz.func40 rfl rfl) fun h => bT_ok f fn h
def stG (ks : List (K (List AT))) : Bool := atOp (opCalls 124) ks
def sG1 (p q : Int) (tv lv rv : Value) (tm : List AT) : AS := ⟨tm, [(1, ext (.int .i64 1 :: numCs true 0 2 ++ [.lit tv, .lit lv, .lit rv]) 93)], 2, [(p, 1), (q, 1)], []⟩
def sG2 (kd' : Int) (tm : List AT) : AS := ⟨tm, [(1, ext [.int .i64 kd'] 93)], 2, [], []⟩
def sG3 (hs : Bool) (tm : List AT) : AS := ⟨tm, [(1, ext [.bool hs] 205)], 2, [], []⟩
abbrev gT0 (kd : Int) : List AT := .val (.one (.int .i64 kd)) :: .val (.one (.ptr 1 0)) :: List.replicate 31 .und
noncomputable def gRun (kt : List Nat) (ks : List (K (List AT))) (s : AS) : Option XT := (run Z (tabSp tS) bG (drawA Z (tabSp tS)) stG 400 ks s).bind (outX (nrm [1] [] 2 []) (nrm [1] kt 2 []))
noncomputable def gK : List (K (List AT)) := [.code (bodyOf Tryz.f158), .top Tryz.f158]
noncomputable def gF (kd p q : Int) (tv lv rv : Value) : Option Tr := run Z (tabSp tS) bG (drawA Z (tabSp tS)) (fun _ => false) 600 gK (sG1 p q tv lv rv (gT0 kd))
noncomputable def gFs (kd p q : Int) (tv lv rv : Value) : AS := (((gF kd p q tv lv rv).bind (leafT [])).map (·.2)).getD ⟨[], [], 0, [], []⟩
noncomputable def gA (kd : Int) (hs : Bool) : Option Tr := run Z (tabSp tS) bG (drawA Z (tabSp tS)) (fun _ => false) 400 (aft (pD 15) Tryz.f158) (sG3 hs (slot [(0, .val (.one (.int .i64 kd))), (15, .val (.one (.ptr 1 0)))] 0 33))
noncomputable def gAs (kd : Int) (hs : Bool) : AS := (((gA kd hs).bind (leafT [])).map (·.2)).getD ⟨[], [], 0, [], []⟩
def T2 (p q : Int) : Int := lowT (p * p) (q * q)
def B2 (p q : Int) : Int := lowB (p * p) (q * q)
section
variable (p q : Int) (tv lv rv : Value)
set_option maxRecDepth 100000 in
theorem g_10 : gF 10 p q tv lv rv = some (.need [0 < p ∧ 0 < q ∧ (Rf.near p q 20000 1).isSome = true] (.ret (.val (.one (.ptr 5 0))) (gFs 10 p q tv lv rv))) := by kernel_rfl
set_option maxRecDepth 100000 in
theorem g_10n : IsNe (gFs 10 p q tv lv rv) 5 (.bool false) [1, 0, 0, 1, 0, 0, 0, 0] (.ptr 3 0) (.lit nilP) (.lit nilP) 0 := ⟨by kernel_rfl, by kernel_rfl, by kernel_rfl⟩
set_option maxRecDepth 100000 in
theorem g_10c : IsCn (gFs 10 p q tv lv rv) 3 10 [0, 0, 0, 0, nearA p q * q, nearB p q * p, nearB p q * q, nearA p q * q] := ⟨by kernel_rfl, by kernel_rfl⟩
set_option maxRecDepth 100000 in
theorem g_10l : clean (gFs 10 p q tv lv rv) = true := by kernel_rfl
set_option maxRecDepth 100000 in
theorem g_12 : gF 12 p q tv lv rv = some (.need [0 < gcdZ (p * p) (q * q)] (.ret (.val (.one (.ptr 13 0))) (gFs 12 p q tv lv rv))) := by kernel_rfl
set_option maxRecDepth 100000 in
theorem g_12n : IsNe (gFs 12 p q tv lv rv) 13 (.bool false) [1, 0, 0, 1, 0, 0, 0, 0] (.ptr 10 0) (.lit nilP) (.lit nilP) 0 := ⟨by kernel_rfl, by kernel_rfl, by kernel_rfl⟩
set_option maxRecDepth 100000 in
theorem g_12c : IsCn (gFs 12 p q tv lv rv) 10 12 [p, q, T2 p q, B2 p q, 0, 0, 0, 0] := ⟨by kernel_rfl, by kernel_rfl⟩
set_option maxRecDepth 100000 in
theorem g_12l : clean (gFs 12 p q tv lv rv) = true := by kernel_rfl
set_option maxRecDepth 100000 in
theorem g_13 : gF 13 p q tv lv rv = some (.need [0 < gcdZ (p * p) (q * q)] (.ret (.val (.one (.ptr 13 0))) (gFs 13 p q tv lv rv))) := by kernel_rfl
set_option maxRecDepth 100000 in
theorem g_13n : IsNe (gFs 13 p q tv lv rv) 13 (.bool false) [1, 0, 0, 1, 0, 0, 0, 0] (.ptr 10 0) (.lit nilP) (.lit nilP) 0 := ⟨by kernel_rfl, by kernel_rfl, by kernel_rfl⟩
set_option maxRecDepth 100000 in
theorem g_13c : IsCn (gFs 13 p q tv lv rv) 10 13 [p, q, T2 p q, B2 p q, 0, 0, 0, 0] := ⟨by kernel_rfl, by kernel_rfl⟩
set_option maxRecDepth 100000 in
theorem g_13l : clean (gFs 13 p q tv lv rv) = true := by kernel_rfl
set_option maxRecDepth 100000 in
theorem g_11 : gF 11 p q tv lv rv = some (.need [0 < gcdZ (p * p) (q * q)] (.ret (.val (.one (.ptr 14 0))) (gFs 11 p q tv lv rv))) := by kernel_rfl
set_option maxRecDepth 100000 in
theorem g_11n : IsNe (gFs 11 p q tv lv rv) 14 (.bool false) [1, -1, 1, 1, 0, 0, 0, 0] (.lit nilP) (.lit nilP) (.ptr 13 0) 0 := ⟨by kernel_rfl, by kernel_rfl, by kernel_rfl⟩
set_option maxRecDepth 100000 in
theorem g_11m : IsNe (gFs 11 p q tv lv rv) 13 (.bool false) [1, 0, 0, 1, 0, 0, 0, 0] (.ptr 10 0) (.lit nilP) (.lit nilP) 0 := ⟨by kernel_rfl, by kernel_rfl, by kernel_rfl⟩
set_option maxRecDepth 100000 in
theorem g_11c : IsCn (gFs 11 p q tv lv rv) 10 11 [p, q, T2 p q, B2 p q, 0, 0, 0, 0] := ⟨by kernel_rfl, by kernel_rfl⟩
set_option maxRecDepth 100000 in
theorem g_11l : clean (gFs 11 p q tv lv rv) = true := by kernel_rfl
set_option maxRecDepth 100000 in
theorem g_f (kd : Int) : gA kd false = some (.ret (.val (.one (.ptr 3 0))) (gAs kd false)) := by kernel_rfl
set_option maxRecDepth 100000 in
theorem g_fn (kd : Int) : IsNe (gAs kd false) 3 (.bool false) [1, 0, 0, 1, 0, 0, 0, 0] (.lit nilP) (.lit nilP) (.ptr 1 0) kd := ⟨by kernel_rfl, by kernel_rfl, by kernel_rfl⟩
set_option maxRecDepth 100000 in
theorem g_fl (kd : Int) : clean (gAs kd false) = true := by kernel_rfl
set_option maxRecDepth 100000 in
theorem g_t (kd : Int) : gA kd true = some (.ret (.val (.one (.ptr 5 0))) (gAs kd true)) := by kernel_rfl
set_option maxRecDepth 100000 in
theorem g_tn (kd : Int) : IsNe (gAs kd true) 5 (.bool false) [1, 0, 0, 1, 0, 0, 0, 0] (.lit nilP) (.lit nilP) (.ptr 3 0) kd := ⟨by kernel_rfl, by kernel_rfl, by kernel_rfl⟩
set_option maxRecDepth 100000 in
theorem g_tm (kd : Int) : IsNe (gAs kd true) 3 (.bool false) [1, 0, 0, 1, 0, 0, 0, 0] (.lit nilP) (.lit nilP) (.ptr 1 0) 0 := ⟨by kernel_rfl, by kernel_rfl, by kernel_rfl⟩
set_option maxRecDepth 100000 in
theorem g_tl (kd : Int) : clean (gAs kd true) = true := by kernel_rfl
def kds : List Int := [2, 3, 4, 5, 6, 7, 8, 9, 10, 11, 12, 13]
set_option maxRecDepth 100000 in
theorem g_s (kd : Int) {kd' : Int} (h : kd' ∈ kds) : gRun [0, 14] gK (sG2 kd' (gT0 kd)) = some (.stp (bef (pD 15) Tryz.f158) (sG2 kd' (slot [(0, .val (.one (.int .i64 kd))), (14, .val (.one (.ptr 1 0)))] 0 33))) := by
  simp only [kds, List.mem_cons, List.not_mem_nil, or_false] at h
  rcases h with rfl | rfl | rfl | rfl | rfl | rfl | rfl | rfl | rfl | rfl | rfl | rfl <;> kernel_rfl
set_option maxRecDepth 100000 in
theorem g_sc (kd kd' : Int) : callAt Z (sG2 kd' (slot [(0, .val (.one (.int .i64 kd))), (14, .val (.one (.ptr 1 0)))] 0 33)) (bef (pD 15) Tryz.f158) = some (124, [.one (.ptr 1 0)], some 15, aft (pD 15) Tryz.f158) := by kernel_rfl
set_option maxRecDepth 100000 in
theorem g_sf : noFr (bef (pD 15) Tryz.f158) = true := by kernel_rfl
end
section
variable {w : World} {k : Nat} {kd : Int} {xs : List Value} {tv lv rv : Value} {R : Ending → World → Prop}
theorem sG1_rep {w : World} {k : Nat} {p q : Int} {xs : List Value} {tv lv rv : Value} (h : PartB w k 1 xs tv lv rv) (hh : Hold true w [p, q] xs) (hb : ∀ z ∈ [p, q], Bits 1 z) (o1 : One tv) (o2 : One lv) (o3 : One rv) (tm : List AT) : RepW Z w (ph1 1 k) (ph1 1 k) (sG1 p q tv lv rv tm) w := by
  refine rep_ext rfl ?_ ?_ ?_
  · intro b B hB
    have := look_mem hB
    simp only [sG1, List.mem_singleton, Prod.mk.injEq] at this
    obtain ⟨rfl, rfl⟩ := this
    refine ⟨rfl, rfl, rfl, k, 0, rfl, [], .int .i64 1 :: xs ++ [tv, lv, rv], [], (show w.heap[k]? = some (.cells ([] ++ (Value.int .i64 1 :: xs ++ [tv, lv, rv]) ++ []).toArray 93 (0, 0)) by simpa [PartB] using h), rfl, rfl, ?_⟩
    refine (hold_cs [p, q] xs 0 _ hh hb fun j z hz => ?_).append ⟨⟨rfl, o1⟩, ⟨rfl, o2⟩, ⟨rfl, o3⟩, trivial⟩
    match j, hz with
    | 0, hz => cases hz; rfl
    | 1, hz => cases hz; rfl
    | j + 2, hz => simp at hz
  · intro b hb
    have : 2 ≤ b := hb
    unfold ph1
    rw [if_neg (by omega)]
  · intro b k' o hb'
    unfold ph1 at hb'
    split at hb'
    · cases hb'; exact lt_of_heap h
    · cases hb'
theorem head_rep {w : World} {k : Nat} {c : AC} {x : Value} {ys : List Value} {ty : TypeId} {tm : List AT} (h : w.heap[k]? = some (.cells (x :: ys).toArray ty (0, 0))) (hx : relC Z (ph1 1 k) [] w c x) : RepW Z w (ph1 1 k) (ph1 1 k) ⟨tm, [(1, ext [c] ty)], 2, [], []⟩ w := by
  refine rep_ext rfl ?_ ?_ ?_
  · intro b B hB
    have := look_mem hB
    simp only [List.mem_singleton, Prod.mk.injEq] at this
    obtain ⟨rfl, rfl⟩ := this
    exact ⟨rfl, rfl, rfl, k, 0, rfl, [], [x], ys, h, rfl, hx, trivial⟩
  · intro b hb
    have : 2 ≤ b := hb
    unfold ph1
    rw [if_neg (by omega)]
  · intro b k' o hb'
    unfold ph1 at hb'
    split at hb'
    · cases hb'; exact lt_of_heap h
    · cases hb'
theorem ph1_kb1 {k : Nat} : ∀ b x, ph1 1 k b = some x → [1].contains b = true := by
  intro b x e
  unfold ph1 at e
  split at e
  · subst_vars; rfl
  · cases e
def NewC (w : World) (kd : Int) (zs : List Int) (e : Ending) (w' : World) : Prop := ∃ cb, ∃ cs : List Value, NewNd w [1, 0, 0, 1, 0, 0, 0, 0] false 0 nilP nilP (ptrB cb) e w' ∧ w'.heap[cb]? = some (.cells (.int .i64 kd :: nilS' :: cs).toArray 224 (0, 0)) ∧ Hold true w' zs cs
def NewX (w : World) (zs : List Int) (e : Ending) (w' : World) : Prop := ∃ far, ∃ cb, ∃ cs : List Value, NewNd w [1, -1, 1, 1, 0, 0, 0, 0] false 0 nilP (ptrB far) nilP e w' ∧ w.heap.size ≤ far ∧ NodeAt w' far [1, 0, 0, 1, 0, 0, 0, 0] false 0 0 0 0 0 nilP nilP nilS' (ptrB cb) nilP ∧ w'.heap[cb]? = some (.cells (.int .i64 11 :: nilS' :: cs).toArray 224 (0, 0)) ∧ Hold true w' zs cs ∧ e ≠ .returned (ptrB far)
theorem fn_run {p q : Int} (hB : PartB w k 1 xs tv lv rv) (hh : Hold true w [p, q] xs) (hb : ∀ z ∈ [p, q], Bits 1 z) (o1 : One tv) (o2 : One lv) (o3 : One rv) {tr : Tr} (ht : gF kd p q tv lv rv = some tr) (G : AT → AS → Prop) (hok : tr.ok G fun _ _ => False) (hG : ∀ r s φ v w', G r s → relT Z φ s.nums w' r v → RepW Z w (ph1 1 k) φ s w' → R (.returned v) w') : Calls Tryz.prog 158 #[.int .i64 kd, ptrB k] w R :=
  ext_run (s := sG1 p q tv lv rv (gT0 kd)) (vs := [.one (.int .i64 kd), .one (.ptr 1 0)]) (args := [.int .i64 kd, ptrB k]) (fn_of Tryz.func158 rfl rfl) (tabSp_ok tS_ok) bG_ok (by kernel_rfl) ⟨rfl, ⟨k, 0, rfl, rfl⟩, trivial⟩ (sG1_rep hB hh hb o1 o2 o3 _) ht G hok hG
theorem newC_of {s : AS} {φ ψ : Nat → Option (Nat × Nat)} {v : Value} {w' : World} {N C : Nat} {zs : List Int} (hn : IsNe s N (.bool false) [1, 0, 0, 1, 0, 0, 0, 0] (.ptr C 0) (.lit nilP) (.lit nilP) 0) (hcn : IsCn s C kd zs) (hc : clean s = true) (hrel : relT Z φ s.nums w' (.val (.one (.ptr N 0))) v) (hw : RepW Z w ψ φ s w') : NewC w kd zs (.returned v) w' := by
  obtain ⟨m, hm⟩ := own_phi hw hn.look rfl rfl
  obtain ⟨cb, hcb⟩ := own_phi hw hcn.look rfl rfl
  have hv : v = ptrB m := ptr_v (ν := s.nums) (w := w') hm v hrel
  obtain ⟨k1, k2⟩ := hn.at (hs := false) hw hm (fun x hx => hx) (ptr_v hcb) lit_val lit_val
  obtain ⟨cs, j1, j2, j3⟩ := hcn.at hw hcb
  exact ⟨cb, cs, ⟨m, by rw [hv], Chg.of_below (RepF.below hw hc), k1, k2⟩, j2, j3⟩
theorem fn_10 {p q : Int} (hB : PartB w k 1 xs tv lv rv) (hh : Hold true w [p, q] xs) (hb : ∀ z ∈ [p, q], Bits 1 z) (o1 : One tv) (o2 : One lv) (o3 : One rv) (hp : 0 < p) (hq : 0 < q) (hn : (Rf.near p q 20000 1).isSome = true) : Calls Tryz.prog 158 #[.int .i64 10, ptrB k] w (NewC w 10 [0, 0, 0, 0, nearA p q * q, nearB p q * p, nearB p q * q, nearA p q * q]) := by
  refine fn_run hB hh hb o1 o2 o3 (g_10 p q tv lv rv) (fun r s => r = .val (.one (.ptr 5 0)) ∧ IsNe s 5 (.bool false) [1, 0, 0, 1, 0, 0, 0, 0] (.ptr 3 0) (.lit nilP) (.lit nilP) 0 ∧ IsCn s 3 10 [0, 0, 0, 0, nearA p q * q, nearB p q * p, nearB p q * q, nearA p q * q] ∧ clean s = true) ⟨holds1 ⟨hp, hq, hn⟩, rfl, g_10n p q tv lv rv, g_10c p q tv lv rv, g_10l p q tv lv rv⟩ ?_
  rintro r s φ v w' ⟨rfl, a1, a2, a3⟩ hrel hw
  exact newC_of a1 a2 a3 hrel hw
theorem fn_12 {p q : Int} (hB : PartB w k 1 xs tv lv rv) (hh : Hold true w [p, q] xs) (hb : ∀ z ∈ [p, q], Bits 1 z) (o1 : One tv) (o2 : One lv) (o3 : One rv) (hg : 0 < gcdZ (p * p) (q * q)) : Calls Tryz.prog 158 #[.int .i64 12, ptrB k] w (NewC w 12 [p, q, T2 p q, B2 p q, 0, 0, 0, 0]) := by
  refine fn_run hB hh hb o1 o2 o3 (g_12 p q tv lv rv) (fun r s => r = .val (.one (.ptr 13 0)) ∧ IsNe s 13 (.bool false) [1, 0, 0, 1, 0, 0, 0, 0] (.ptr 10 0) (.lit nilP) (.lit nilP) 0 ∧ IsCn s 10 12 [p, q, T2 p q, B2 p q, 0, 0, 0, 0] ∧ clean s = true) ⟨holds1 hg, rfl, g_12n p q tv lv rv, g_12c p q tv lv rv, g_12l p q tv lv rv⟩ ?_
  rintro r s φ v w' ⟨rfl, a1, a2, a3⟩ hrel hw
  exact newC_of a1 a2 a3 hrel hw
theorem fn_13 {p q : Int} (hB : PartB w k 1 xs tv lv rv) (hh : Hold true w [p, q] xs) (hb : ∀ z ∈ [p, q], Bits 1 z) (o1 : One tv) (o2 : One lv) (o3 : One rv) (hg : 0 < gcdZ (p * p) (q * q)) : Calls Tryz.prog 158 #[.int .i64 13, ptrB k] w (NewC w 13 [p, q, T2 p q, B2 p q, 0, 0, 0, 0]) := by
  refine fn_run hB hh hb o1 o2 o3 (g_13 p q tv lv rv) (fun r s => r = .val (.one (.ptr 13 0)) ∧ IsNe s 13 (.bool false) [1, 0, 0, 1, 0, 0, 0, 0] (.ptr 10 0) (.lit nilP) (.lit nilP) 0 ∧ IsCn s 10 13 [p, q, T2 p q, B2 p q, 0, 0, 0, 0] ∧ clean s = true) ⟨holds1 hg, rfl, g_13n p q tv lv rv, g_13c p q tv lv rv, g_13l p q tv lv rv⟩ ?_
  rintro r s φ v w' ⟨rfl, a1, a2, a3⟩ hrel hw
  exact newC_of a1 a2 a3 hrel hw
theorem ptr_ne {m m' : Nat} (h : m ≠ m') : Ending.returned (ptrB m) ≠ .returned (ptrB m') := by
  intro e
  exact h (by injection e with e; injection e with e; injection e with e; injection e)
theorem fn_11 {p q : Int} (hB : PartB w k 1 xs tv lv rv) (hh : Hold true w [p, q] xs) (hb : ∀ z ∈ [p, q], Bits 1 z) (o1 : One tv) (o2 : One lv) (o3 : One rv) (hg : 0 < gcdZ (p * p) (q * q)) : Calls Tryz.prog 158 #[.int .i64 11, ptrB k] w (NewX w [p, q, T2 p q, B2 p q, 0, 0, 0, 0]) := by
  refine fn_run hB hh hb o1 o2 o3 (g_11 p q tv lv rv) (fun r s => r = .val (.one (.ptr 14 0)) ∧ IsNe s 14 (.bool false) [1, -1, 1, 1, 0, 0, 0, 0] (.lit nilP) (.lit nilP) (.ptr 13 0) 0 ∧ IsNe s 13 (.bool false) [1, 0, 0, 1, 0, 0, 0, 0] (.ptr 10 0) (.lit nilP) (.lit nilP) 0 ∧ IsCn s 10 11 [p, q, T2 p q, B2 p q, 0, 0, 0, 0] ∧ clean s = true) ⟨holds1 hg, rfl, g_11n p q tv lv rv, g_11m p q tv lv rv, g_11c p q tv lv rv, g_11l p q tv lv rv⟩ ?_
  rintro r s φ v w' ⟨rfl, hn, hm2, hcn, hc⟩ hrel hw
  obtain ⟨m, hm⟩ := own_phi hw hn.look rfl rfl
  obtain ⟨far, hfar⟩ := own_phi hw hm2.look rfl rfl
  obtain ⟨cb, hcb⟩ := own_phi hw hcn.look rfl rfl
  have hv : v = ptrB m := ptr_v (ν := s.nums) (w := w') hm v hrel
  obtain ⟨k1, k2⟩ := hn.at (hs := false) hw hm (fun x hx => hx) lit_val lit_val (ptr_v hfar)
  obtain ⟨i1, i2⟩ := hm2.at (hs := false) hw hfar (fun x hx => hx) (ptr_v hcb) lit_val lit_val
  obtain ⟨cs, j1, j2, j3⟩ := hcn.at hw hcb
  refine ⟨far, cb, cs, ⟨m, by rw [hv], Chg.of_below (RepF.below hw hc), k1, k2⟩, i1, i2, j2, j3, ?_⟩
  rw [hv]
  exact ptr_ne (own_ne hw hn.look rfl hm2.look hm hfar (by decide))
theorem fn_gen {kd' : Int} {zs : List Value} (hkd' : kd' ∈ kds) (hB : w.heap[k]? = some (.cells (.int .i64 kd' :: zs).toArray 93 (0, 0)))
    (hcall : ∀ w1, Chg w w1 [] → Calls Tryz.prog 124 #[ptrB k] w1 fun e w2 => ∃ m b, e = .returned (ptrB m) ∧ (∃ ys : List Value, w2.heap[m]? = some (.cells (.bool b :: ys).toArray 205 (0, 0))) ∧ ∀ e3 w3, (b = false → NewNd w2 [1, 0, 0, 1, 0, 0, 0, 0] false kd nilP (ptrB m) nilP e3 w3 → R e3 w3) ∧ (b = true → ∀ x, w2.heap.size ≤ x → NodeAt w3 x [1, 0, 0, 1, 0, 0, 0, 0] false 0 0 0 0 0 nilP (ptrB m) nilS' nilP nilP → NewNd w2 [1, 0, 0, 1, 0, 0, 0, 0] false kd nilP (ptrB x) nilP e3 w3 → e3 ≠ .returned (ptrB x) → R e3 w3)) : Calls Tryz.prog 158 #[.int .i64 kd, ptrB k] w R := by
  have F := fn_of Tryz.func158 rfl rfl
  refine calls_x F (φ := ph1 1 k) (vs := [.one (.int .i64 kd), .one (.ptr 1 0)]) (args := [.int .i64 kd, ptrB k]) (s := sG2 kd' (gT0 kd)) (by kernel_rfl) ⟨rfl, ⟨k, 0, rfl, rfl⟩, trivial⟩ (head_rep hB rfl) ?_
  refine xrun' (tabSp_ok tS_ok) bG_ok ph1_kb1 (nrm_R ph1_kb1) (g_s kd hkd') (fun _ _ => False) (fun ks s => ks = bef (pD 15) Tryz.f158 ∧ s = sG2 kd' (slot [(0, .val (.one (.int .i64 kd))), (14, .val (.one (.ptr 1 0)))] 0 33)) ⟨rfl, rfl⟩ (fun _ _ _ _ _ h => h.elim) ?_
  rintro ks s ⟨rfl, rfl⟩
  refine ⟨g_sf, fun kcs φ1 a1 w1 hsr1 hr1 => ?_⟩
  have c1 : Chg w w1 [] := Chg.of_below (RepF.below hr1.wd rfl)
  refine callAt_ok (g_sc kd kd') (fn_of Tryz.func124 rfl rfl).en g_sf (hsr1 φ1 [] w1) hr1 fun us hus => ?_
  match us, hus with
  | [u1], ⟨hu1, _⟩ =>
  have hu1 : u1 = ptrB k := ptr_v (ν := []) (w := w1) (hr1.wd.base 1 (k, 0) rfl) u1 hu1
  rw [hu1]
  refine (hcall w1 c1).mono ?_
  rintro e w2 ⟨m, b, rfl, ⟨ys, hm⟩, hR⟩
  refine ⟨ptrB m, rfl, fun kcs2 hf2 hsr2 => ?_⟩
  have hr2 : Rep Z w2 (ph1 1 m) (ph1 1 m) (sG3 b (slot [(0, .val (.one (.int .i64 kd))), (15, .val (.one (.ptr 1 0)))] 0 33)) (a1.put (some 15) (ptrB m)) w2 := rep_aft (kb := []) (kt := [0]) (r := .val (.one (.ptr 1 0))) hr1 (head_rep hm rfl) (by kernel_rfl) (fun b hb => by simp at hb) ⟨m, 0, rfl, rfl⟩
  cases b with
  | false =>
    refine run_ok (tabSp_ok tS_ok) bG_ok (drawA_ok mixed (tabSp_ok tS_ok)) (fun r s => r = .val (.one (.ptr 3 0)) ∧ IsNe s 3 (.bool false) [1, 0, 0, 1, 0, 0, 0, 0] (.lit nilP) (.lit nilP) (.ptr 1 0) kd ∧ clean s = true) (fun _ _ => False) (fun _ _ h => h.elim) ?_ _ _ _ _ (g_f kd) ⟨rfl, g_fn kd, g_fl kd⟩ kcs2 _ _ w2 (hsr2 _ _ _) hr2
    rintro r s φ v w' ⟨rfl, hn, hc⟩ hrel hw
    obtain ⟨m', hm'⟩ := own_phi hw hn.look rfl rfl
    have hv : v = ptrB m' := ptr_v (ν := s.nums) (w := w') hm' v hrel
    have hx1 : φ 1 = some (m, 0) := hw.base 1 (m, 0) rfl
    obtain ⟨k1, k2⟩ := hn.at (hs := false) hw hm' (fun x hx => hx) lit_val lit_val (ptr_v hx1)
    exact (hR _ _).1 rfl ⟨m', by rw [hv], Chg.of_below (RepF.below hw hc), k1, k2⟩
  | true =>
    refine run_ok (tabSp_ok tS_ok) bG_ok (drawA_ok mixed (tabSp_ok tS_ok)) (fun r s => r = .val (.one (.ptr 5 0)) ∧ IsNe s 5 (.bool false) [1, 0, 0, 1, 0, 0, 0, 0] (.lit nilP) (.lit nilP) (.ptr 3 0) kd ∧ IsNe s 3 (.bool false) [1, 0, 0, 1, 0, 0, 0, 0] (.lit nilP) (.lit nilP) (.ptr 1 0) 0 ∧ clean s = true) (fun _ _ => False) (fun _ _ h => h.elim) ?_ _ _ _ _ (g_t kd) ⟨rfl, g_tn kd, g_tm kd, g_tl kd⟩ kcs2 _ _ w2 (hsr2 _ _ _) hr2
    rintro r s φ v w' ⟨rfl, hn, hx, hc⟩ hrel hw
    obtain ⟨m', hm'⟩ := own_phi hw hn.look rfl rfl
    obtain ⟨x, hxx⟩ := own_phi hw hx.look rfl rfl
    have hv : v = ptrB m' := ptr_v (ν := s.nums) (w := w') hm' v hrel
    have hx1 : φ 1 = some (m, 0) := hw.base 1 (m, 0) rfl
    obtain ⟨k1, k2⟩ := hn.at (hs := false) hw hm' (fun x hx => hx) lit_val lit_val (ptr_v hxx)
    obtain ⟨i1, i2⟩ := hx.at (hs := false) hw hxx (fun x hx => hx) lit_val lit_val (ptr_v hx1)
    refine (hR _ _).2 rfl x i1 i2 ⟨m', by rw [hv], Chg.of_below (RepF.below hw hc), k1, k2⟩ ?_
    rw [hv]
    exact ptr_ne (own_ne hw hn.look rfl hx.look hm' hxx (by decide))
end
end Ab
end Go.Proofs.YteghhlfmcjmnoaaGreatDoor
set_option linter.unusedSimpArgs false
set_option linter.unusedVariables false
namespace Go.Proofs.YteghhlfmcjmnoaaGreatDoor
open Go.RowKit
namespace Ab
open Rf (Nd Inv NInv Wt)
section
variable {w w' : World} {b0 : Nat} {own own' : Nat → Option Own} {at1 at2 : Nat → Nat} {ns ns1 : List Nd} {rho : Nat → Nat} {c N : Nat}
theorem nod_add (h : Nod w b0 own at1 ns) (hI : Inv ns rho c) (hch : Chg w w' []) {blks : List Nat} {new : List Nd} (hge : ∀ m ∈ blks, w.heap.size ≤ m) (hnew : ∀ j mm, new[j]? = some mm → NodeOk w' b0 (ownL ns.length blks own) (atL ns.length blks at1) (ns ++ new) (ns.length + j) mm) :
    (∀ k, k < w.heap.size → ownL ns.length blks own k = own k) ∧ Nod w' b0 (ownL ns.length blks own) (atL ns.length blks at1) (ns ++ new) ∧ ∀ a, a < ns.length → atL ns.length blks at1 a = at1 a := by
  have ho : ∀ k, k < w.heap.size → ownL ns.length blks own k = own k := fun k hk => ownL_no fun hm => absurd (hge k hm) (by omega)
  have ha : ∀ a, a < ns.length → atL ns.length blks at1 a = at1 a := fun a h => atL_lt h
  exact ⟨ho, h.more hI hch ho ha hnew, ha⟩
theorem leaf_ok {pos : Bool} {p q : Int} (hnode : NodeAt w (at2 N) [p, q, 0, 0, 0, 0, 0, 0] (!pos) 0 0 0 0 0 nilP nilP nilS' nilP nilP) (how : own' (at2 N) = some (.nd N)) (hlo : b0 ≤ at2 N) : NodeOk w b0 own' at2 ns1 N (Rf.fresh pos [(p, q)] []) := by
  refine ⟨⟨p, q, 0, 0, 0, 0, 0, 0, 0, 0, nilS', nilP, nilP, ⟨hnode, Or.inl ⟨rfl, rfl⟩, fun e => (by cases e), fun _ => rfl, fun _ => rfl, fun e => (by cases e)⟩, [(p, q)], ?_, ?_⟩, Pg.HC.fresh _ _ _, how, hlo, fun e => by cases e⟩
  · show some ([(p, q)].map (Rf.vag Rf.one)) = _
    simp [Rf.vag_one]
  · exact ⟨⟨1, by decide, by simp [Pg.pad, Pg.sc]⟩, rfl⟩
theorem una_ok {a : Nat} {xa : Nd} {zs : List Int} {u v : Rf.V} {mN : Nd} (hnode : NodeAt w (at2 N) zs (!mN.pos) (unsZ mN) 0 0 0 0 nilP (ptrB (at2 a)) nilS' nilP nilP) (h8 : zs.length = 8) (f3 : mN.t = [u, v]) (f4 : mN.args = [a]) (f5 : mN.read = [0]) (f6 : mN.out = []) (f7 : mN.told = Rf.one) (f8 : mN.had = [Rf.one]) (f9 : mN.nest = false) (f2 : mN.probe = true → mN.t = [(1, 0), (0, 1)]) (hxa : ns1[a]? = some xa) (hx0 : xa.had[0]? = some Rf.one) (hcof : Pg.Cof [u, v] (colsZ zs)) (how : own' (at2 N) = some (.nd N)) (hlo : b0 ≤ at2 N) : NodeOk w b0 own' at2 ns1 N mN := by
  obtain ⟨r0, s0, r1, s1, r2, s2, r3, s3, rfl⟩ := eight h8
  refine ⟨⟨r0, s0, r1, s1, r2, s2, r3, s3, 0, 0, nilS', nilP, nilP, ⟨?_, Or.inl ⟨rfl, f6⟩, fun e => ?_, fun _ => rfl, fun _ => rfl, fun e => ?_⟩, [u, v], Pg.corners_new2 f3 (by rw [f4]; rfl) (by rw [f5]; rfl) hxa hx0 f7, hcof⟩, ⟨by rw [f8, f6]; rfl, by rw [f8]; rfl, by rw [f8, f6, f7]; rfl, fun r cc mm h => by rw [f6] at h; simp at h⟩, how, hlo, fun e => ⟨f2 e, f9⟩⟩
  · have e1 : lArg mN = none := by unfold lArg; rw [f3]; rfl
    have e2 : rArg mN = some a := by unfold rArg; rw [f3, f4]; rfl
    have e3 : lRd mN = 0 := by unfold lRd; rw [f3]; rfl
    have e4 : rRd mN = 0 := by unfold rRd; rw [f3, f5]; rfl
    rw [e1, e2, e3, e4]
    exact hnode
  · rw [f3] at e; cases e
  · rw [f9] at e; cases e
theorem bin_ok {a b : Nat} {xa xb : Nd} {zs : List Int} {kk : Rf.Kind} {pa pb : Bool} (hnode : NodeAt w (at2 N) zs (!(Rf.two kk pa pb a b).pos) 0 0 0 0 0 (ptrB (at2 a)) (ptrB (at2 b)) nilS' nilP nilP) (h8 : zs.length = 8) (hxa : ns1[a]? = some xa) (hx0 : xa.had[0]? = some Rf.one) (hxb : ns1[b]? = some xb) (hb0' : xb.had[0]? = some Rf.one) (hcof : Pg.Cof kk.cols (colsZ zs)) (how : own' (at2 N) = some (.nd N)) (hlo : b0 ≤ at2 N) : NodeOk w b0 own' at2 ns1 N (Rf.two kk pa pb a b) := by
  obtain ⟨r0, s0, r1, s1, r2, s2, r3, s3, rfl⟩ := eight h8
  have h4 : ∃ u v y z, kk.cols = [u, v, y, z] := by cases kk <;> exact ⟨_, _, _, _, rfl⟩
  obtain ⟨u, v, y, z, h4⟩ := h4
  have f3 : (Rf.two kk pa pb a b).t = [u, v, y, z] := h4
  rw [h4] at hcof
  refine ⟨⟨r0, s0, r1, s1, r2, s2, r3, s3, 0, 0, nilS', nilP, nilP, ⟨?_, Or.inl ⟨rfl, rfl⟩, fun e => ?_, fun _ => rfl, fun _ => rfl, fun e => (by cases e)⟩, [u, v, y, z], Pg.corners_new4 f3 rfl rfl hxa hx0 hxb hb0' rfl, hcof⟩, ⟨rfl, rfl, rfl, fun r cc mm h => by simp [Rf.two, Rf.fresh] at h⟩, how, hlo, fun e => by cases e⟩
  · have e1 : lArg (Rf.two kk pa pb a b) = some a := by unfold lArg; rw [f3]; rfl
    have e2 : rArg (Rf.two kk pa pb a b) = some b := by unfold rArg; rw [f3]; rfl
    have e3 : lRd (Rf.two kk pa pb a b) = 0 := by unfold lRd; rw [f3]; rfl
    have e4 : rRd (Rf.two kk pa pb a b) = 0 := by unfold rRd; rw [f3]; rfl
    rw [e1, e2, e3, e4]
    exact hnode
  · rw [f3] at e; cases e
theorem con_okG {cb : Nat} {op : Rf.Op} {ts : List Int} (hnode : NodeAt w (at2 N) [1, 0, 0, 1, 0, 0, 0, 0] false 0 0 0 0 0 nilP nilP nilS' (ptrB cb) nilP) (hcon : ConAt w { Rf.fresh true [] [] with op := op, terms := ts } cb) (how : own' (at2 N) = some (.nd N)) (hlo : b0 ≤ at2 N) : NodeOk w b0 own' at2 ns1 N { Rf.fresh true [] [] with op := op, terms := ts } := by
  refine ⟨⟨1, 0, 0, 1, 0, 0, 0, 0, 0, 0, nilS', ptrB cb, nilP, ⟨hnode, Or.inl ⟨rfl, rfl⟩, fun _ => ⟨rfl, cb, rfl, hcon⟩, fun e => absurd rfl e, fun _ => rfl, fun e => (by cases e)⟩, [(1, 0), (0, 1)], Pg.corners_con rfl rfl rfl, ?_⟩, (Pg.HC.fresh true [] []).of rfl rfl rfl, how, hlo, fun e => by cases e⟩
  exact .mk2 (e := 1) (by decide) (Pg.sc_one _).symm (Pg.sc_one _).symm (Pg.sc_one _).symm (Pg.sc_one _).symm
end
theorem cof_op (kk : Rf.Kind) : Pg.Cof kk.cols (colsZ (opZ kk)) := by
  cases kk <;> exact .mk4 (e := 1) (by decide) (Pg.sc_one _).symm (Pg.sc_one _).symm (Pg.sc_one _).symm (Pg.sc_one _).symm
theorem cof_neg : Pg.Cof [((-1, 0) : Rf.V), (0, 1)] (colsZ [-1, 0, 0, 1, 0, 0, 0, 0]) := .mk2 (e := 1) (by decide) (Pg.sc_one _).symm (Pg.sc_one _).symm (Pg.sc_one _).symm (Pg.sc_one _).symm
theorem con_frozen {w W : World} (hW : On Z.bt w W) {cb : Nat} {cs : Array Value} (hblk : w.heap[cb]? = some (.cells cs 224 (0, 0))) : W.heap[cb]? = some (.cells cs 224 (0, 0)) := by
  rcases hW.blk cb _ hblk with e | ⟨e, _⟩
  · exact e
  · have e' : bt0.contains 224 = true := e
    exact absurd e' (by decide)
abbrev RB := Go.Proofs.YteghhlfmcjmnoaaGreatDoor.Bits
theorem rb0 {n : Nat} : RB n 0 := by
  show (0 : Int).natAbs < 2 ^ n
  simp [Nat.pow_pos]
theorem con_gen {w : World} {cb : Nat} {nd : Nd} (cs : List Value) (hblk : w.heap[cb]? = some (.cells cs.toArray 224 (0, 0))) (hok : Rf.ConOk nd) (pb : RB 6100 nd.p) (qb : RB 6100 nd.q) (hm : ∀ k : Nat, k ≤ 3000 → ∃ a b c d, Rf.constant nd k = some ⟨a, b, c, d⟩ ∧ ∀ W, On Z.bt w W → Calls Tryz.prog 216 #[ptrB cb, .int .i64 k] W fun e w' => ∃ xs : List Value, e = .returned (.agg xs.toArray) ∧ Hold true w' [a, b, c, d] xs ∧ Below W.heap.size W w') : ConAt w nd cb := by
  refine ⟨⟨_, hblk⟩, fun k hk => ?_⟩
  obtain ⟨a, b, c, d, h1, h2⟩ := hm k hk
  obtain ⟨m, hm1, hm2⟩ := Rf.const_ok (n := nd) hok (k := k) hk pb qb
  rw [h1] at hm1
  have hmm : m = ⟨a, b, c, d⟩ := (Option.some.inj hm1).symm
  rw [hmm] at hm2
  refine ⟨1, a, b, c, d, by decide, by rw [h1]; simp [Pg.msc], ?_, h2⟩
  have k2 : ∀ {z : Int}, z.natAbs < 2 ^ 18400 → Bits 2 z := fun h => bits_up (N := 18400) (by decide) h
  intro z hz
  simp at hz
  rcases hz with rfl | rfl | rfl | rfl
  · exact k2 hm2.a
  · exact k2 hm2.b
  · exact k2 hm2.c
  · exact k2 hm2.d
theorem zeros1 : ∀ z ∈ ([0, 0, 0, 0, 0, 0, 0, 0] : List Int), Bits 1 z := bits0
theorem con_pi {w : World} {cb : Nat} {ts : List Int} {tv : Value} {cs : List Value} (ot : One tv) (hblk : w.heap[cb]? = some (.cells (.int .i64 2 :: tv :: cs).toArray 224 (0, 0))) (hold : Hold true w [0, 0, 0, 0, 0, 0, 0, 0] cs) : ConAt w { Rf.fresh true [] [] with op := .pi, terms := ts } cb := by
  refine con_gen _ hblk (Or.inl rfl) rb0 rb0 fun k hk => ⟨_, _, _, _, pi_eq (by omega) rfl, fun W hW => ?_⟩
  exact con_run (con_frozen hW hblk) ot (hold_on hW hold) rfl zeros1 (con2 0 0 0 0 0 0 0 0 k) (holds1 ⟨by omega, by omega⟩)
theorem eterm_small {k : Nat} (hk : k ≤ 3000) : (eterm (k : Int)).natAbs < 1000000000000000000 := by
  have h1 := e_eq (n := { Rf.fresh true [] [] with op := .e }) (k := k) (by omega) rfl
  have h2 : Rf.constant { Rf.fresh true [] [] with op := .e } k = some ⟨Rf.eterm k, 1, 1, 0⟩ := rfl
  rw [h2] at h1
  have h3 : Rf.eterm k = eterm (k : Int) := congrArg Mt.a (Option.some.inj h1)
  rw [← h3]
  unfold Rf.eterm
  split
  · decide
  · split <;> omega
theorem con_e {w : World} {cb : Nat} {ts : List Int} {tv : Value} {cs : List Value} (ot : One tv) (hblk : w.heap[cb]? = some (.cells (.int .i64 3 :: tv :: cs).toArray 224 (0, 0))) (hold : Hold true w [0, 0, 0, 0, 0, 0, 0, 0] cs) : ConAt w { Rf.fresh true [] [] with op := .e, terms := ts } cb := by
  refine con_gen _ hblk (Or.inr (Or.inl rfl)) rb0 rb0 fun k hk => ⟨_, _, _, _, e_eq (by omega) rfl, fun W hW => ?_⟩
  exact con_run (con_frozen hW hblk) ot (hold_on hW hold) rfl zeros1 (con3 0 0 0 0 0 0 0 0 k) (holds1 (eterm_small hk))
theorem con_root {w : World} {cb : Nat} {p q : Int} {cs : List Value} (hp : 0 < p) (hq : 0 < q) (bp : RB 6100 p) (bq : RB 6100 q) (hblk : w.heap[cb]? = some (.cells (.int .i64 10 :: nilS' :: cs).toArray 224 (0, 0))) (hold : Hold true w [0, 0, 0, 0, nearA p q * q, nearB p q * p, nearB p q * q, nearA p q * q] cs) : ConAt w (Rf.row .sqrt p q) cb := by
  obtain ⟨a, b, hn, _, _, ba, bb⟩ := Rf.near_ok hp hq bp bq
  have hA : nearA p q = a := by unfold nearA; rw [hn]; rfl
  have hB : nearB p q = b := by unfold nearB; rw [hn]; rfl
  rw [hA, hB] at hold
  refine con_gen _ hblk (Or.inr (Or.inr (Or.inr ⟨Or.inl rfl, hp, hq⟩))) bp bq fun k hk => ⟨a * q, b * p, b * q, a * q, ?_, fun W hW => ?_⟩
  · show (Rf.near p q 20000 1).map _ = _
    rw [hn]
    rfl
  · have m1 : ∀ {x y : Int} {u v : Nat}, u + v ≤ 10000000 → RB u x → RB v y → Bits 1 (x * y) := by
      intro x y u v huv hx hy
      refine bits_up (N := u + v) (by omega) ?_
      rw [Int.natAbs_mul, Nat.pow_add]
      exact Nat.mul_lt_mul'' hx hy
    refine con_run (con_frozen hW hblk) rfl (hold_on hW hold) rfl ?_ (con10 0 0 0 0 (a * q) (b * p) (b * q) (a * q) k) holds_nil
    intro z hz
    have hz' : z = 0 ∨ z = a * q ∨ z = b * p ∨ z = b * q := by
      simp only [List.mem_cons, List.not_mem_nil, or_false] at hz
      rcases hz with h | h | h | h | h | h | h | h <;> simp [h]
    rcases hz' with rfl | rfl | rfl | rfl
    · exact zeros1 0 (by simp)
    · exact m1 (by decide) ba bq
    · exact m1 (by decide) bb bp
    · exact m1 (by decide) bb bq
end Ab
end Go.Proofs.YteghhlfmcjmnoaaGreatDoor
set_option linter.unusedSimpArgs false
set_option linter.unusedVariables false
namespace Go.Proofs.YteghhlfmcjmnoaaGreatDoor
open Go.RowKit
namespace Ab
open Rf (Nd Inv NInv Wt)
noncomputable def sCf (tv : Value) (k : Int) : AS := ⟨.val (.one (.ptr 0 0)) :: .val (.one (.sint .i64 k)) :: List.replicate 34 .und, [(0, ext [.int .i64 4, .lit tv] 224)], 1, [], []⟩
def stC (ks : List (K (List AT))) : Bool := atOp (opCalls 229) ks
noncomputable def cfT (tv : Value) (k : Int) : Option Tr := run Z (tabSp tN) bC (drawA Z (tabSp tN)) stC 400 [.code (bodyOf Tryz.f216), .top Tryz.f216] (sCf tv k)
def atS : Option Tr → AS
  | some (.stop ks s) => s
  | _ => ⟨[], [], 0, [], []⟩
noncomputable def cfS (tv : Value) (k : Int) : AS := atS (cfT tv k)
def put25 (s : AS) (t : Int) : AS := ⟨putT s.tmps (some 25) (sintT t), s.boxes, s.next, s.nums, s.dirty⟩
section
variable (tv : Value) (k t : Int)
set_option maxRecDepth 100000 in
theorem cf_w : cfT tv k = some (.stop (bef (pD 25) Tryz.f216) (cfS tv k)) := by kernel_rfl
set_option maxRecDepth 100000 in
theorem cf_c : callAt Z (cfS tv k) (bef (pD 25) Tryz.f216) = some (229, [.one (.lit tv), .one (.sint .i64 k)], some 25, aft (pD 25) Tryz.f216) := by kernel_rfl
set_option maxRecDepth 100000 in
theorem cf_f : noFr (bef (pD 25) Tryz.f216) = true := by kernel_rfl
set_option maxRecDepth 100000 in
theorem cf_t : ((run Z (tabSp tN) bC (drawA Z (tabSp tN)) (fun _ => false) 400 (aft (pD 25) Tryz.f216) (put25 (cfS tv k) t)).bind outcome).bind (outN true) = some ([t.natAbs < 1000000000000000000], .one (.ns [t, 1, 1, 0]), 1) := by kernel_rfl
end
set_option maxRecDepth 100000 in
theorem cf_cl (tv : Value) (k : Int) : clean (cfS tv k) = true := by kernel_rfl
theorem cf_run {w : World} {cb g cap len k : Nat} {t : Int} {xs : List Value} {tv : Value} (htv : tv = .slice (some ⟨g, 0, none⟩) len cap) (hblk : w.heap[cb]? = some (.cells (.int .i64 4 :: tv :: xs).toArray 224 (0, 0))) (h2 : 2 ≤ len) (hlen : len ≤ 1000000) (hk : k ≤ 1000000) (ht : t.natAbs < 1000000000000000000) (hc : ∀ w', Chg w w' [] → w'.cell? ⟨g, cfAt len k, none⟩ = some (.int .i64 t)) :
    Calls Tryz.prog 216 #[ptrB cb, .int .i64 k] w fun e w' => ∃ ys : List Value, e = .returned (.agg ys.toArray) ∧ Hold true w' [t, 1, 1, 0] ys ∧ Below w.heap.size w w' := by
  have ot : One tv := by rw [htv]; rfl
  have hrep : RepW Z w (ph1 0 cb) (ph1 0 cb) (sCf tv k) w := by
    refine rep_ext rfl ?_ ?_ ?_
    · intro b B hB
      have := look_mem hB
      simp [sCf] at this
      obtain ⟨rfl, rfl⟩ := this
      exact ⟨rfl, rfl, rfl, cb, 0, rfl, [], [.int .i64 4, tv], xs, hblk, rfl, rfl, ⟨rfl, ot⟩, trivial⟩
    · intro b hb
      have : 1 ≤ b := hb
      unfold ph1
      rw [if_neg (by omega)]
    · intro b k' o hb'
      unfold ph1 at hb'
      split at hb'
      · cases hb'; exact lt_of_heap hblk
      · cases hb'
  refine calls_x (fn_of Tryz.func216 rfl rfl) (φ := ph1 0 cb) (vs := [.one (.ptr 0 0), .one (.sint .i64 k)]) (args := [ptrB cb, .int .i64 k]) (s := sCf tv k) (by kernel_rfl) ⟨⟨cb, 0, rfl, rfl⟩, rfl, trivial⟩ hrep ?_
  intro kcs0 φ0 a0 w00 hsr0 hr0
  refine run_ok (tabSp_ok tN_ok) bC_ok (drawA_ok mixed (tabSp_ok tN_ok)) (fun _ _ => False) (fun ks s => ks = bef (pD 25) Tryz.f216 ∧ callAt Z s (bef (pD 25) Tryz.f216) = some (229, [.one (.lit tv), .one (.sint .i64 k)], some 25, aft (pD 25) Tryz.f216) ∧ clean s = true ∧ ((run Z (tabSp tN) bC (drawA Z (tabSp tN)) (fun _ => false) 400 (aft (pD 25) Tryz.f216) (put25 s t)).bind outcome).bind (outN true) = some ([t.natAbs < 1000000000000000000], .one (.ns [t, 1, 1, 0]), 1)) ?_ (fun _ _ _ _ _ h => h.elim) _ _ _ _ (cf_w tv k) ⟨rfl, cf_c tv k, cf_cl tv k, cf_t tv k t⟩ kcs0 _ a0 w00 hsr0 hr0
  rintro ks s ⟨rfl, hcc, hcl, hct⟩ kcs φ a w1 hsr hr
  have b1 : Below w.heap.size w w1 := RepF.below hr.wd hcl
  refine callAt_ok hcc (fn_of Tryz.func229 rfl rfl).en cf_f hsr hr fun us hus => ?_
  match us, hus with
  | [u1, u2], ⟨hu1, hu2, _⟩ =>
  have hu1 : u1 = tv := hu1.1
  have hu2 : u2 = .int .i64 k := hu2
  rw [hu1, hu2, htv]
  refine (cfTerm_any w1 g cap len k t h2 hlen hk (hc w1 (Chg.of_below b1))).mono ?_
  rintro e w2 ⟨rfl, rfl⟩
  refine ⟨_, rfl, fun kcs2 hf2 hsr2 => ?_⟩
  have hr2 : Rep Z w (ph1 0 cb) φ (put25 s t) (a.put (some 25) (.int .i64 t)) w2 := ⟨⟨hr.wd.box, hr.wd.own, hr.wd.inj, hr.wd.tip, hr.wd.fresh, hr.wd.lt, hr.wd.low, hr.wd.on, hr.wd.base, hr.wd.exa⟩, by rw [put_defers]; exact hr.defers, putT_ok (dst := some 25) hr.tmps (show relT Z φ s.nums w2 (sintT t) (.int .i64 t) from rfl)⟩
  obtain ⟨o, q1, q2⟩ := bnd hct
  obtain ⟨tr, q3, q4⟩ := bnd q1
  refine run_ok (tabSp_ok tN_ok) bC_ok (drawA_ok mixed (tabSp_ok tN_ok)) _ _ (fun _ _ h => h.elim) ?_ _ _ _ _ q3 (outcome_ok q4 (outN_ok q2 (holds1 ht) (Nat.le_refl _))) kcs2 _ _ w2 (hsr2 _ _ _) hr2
  rintro r0 st φ3 v w3 ⟨hcl, r', h7, h8'⟩ hrel hw
  obtain ⟨ys, e1, e2⟩ := h8' w3 v (rvOf_ok h7 hrel)
  refine ⟨ys, by rw [e1], ?_, RepF.below hw hcl⟩
  exact (numsT_ok (k := true) (w := w3) _ [t, 1, 1, 0] _ ys (show numsT true ([t, 1, 1, 0].map fun z => .num true z 1) = some ([t, 1, 1, 0], _) from rfl) e2).1
theorem con_cf {w : World} {cb : Nat} {ts : List Int} {tv : Value} {cs : List Value} (hr : IntRow w ts tv) (h2 : 2 ≤ ts.length) (hb : ∀ a ∈ ts, RB 40 a) (hblk : w.heap[cb]? = some (.cells (.int .i64 4 :: tv :: cs).toArray 224 (0, 0))) : ConAt w { Rf.fresh true [] [] with op := .cf, terms := ts } cb := by
  obtain ⟨g, cap, rest, e1, e0, e2⟩ := hr
  refine con_gen _ hblk (Or.inr (Or.inr (Or.inl ⟨rfl, h2, hb⟩))) rb0 rb0 fun k hk => ?_
  have hm := Nat.mod_lt (k - 1) (show 0 < ts.length - 1 by omega)
  have hlt : cfAt ts.length k < ts.length := by
    unfold cfAt
    split <;> omega
  have hg : ts[cfAt ts.length k]? = some ts[cfAt ts.length k] := List.getElem?_eq_getElem hlt
  refine ⟨ts[cfAt ts.length k], 1, 1, 0, ?_, fun W hW => ?_⟩
  · show (ts[if k = 0 then 0 else 1 + (k - 1) % (ts.length - 1)]?).map _ = _
    have : ts[if k = 0 then 0 else 1 + (k - 1) % (ts.length - 1)]? = some ts[cfAt ts.length k] := hg
    rw [this]
    rfl
  · have hbt := hb _ (List.getElem_mem hlt)
    have hbt' : (ts[cfAt ts.length k]).natAbs < 2 ^ 40 := hbt
    refine cf_run e1 (con_frozen hW hblk) h2 e0 (by omega) (Nat.lt_trans hbt' (by decide)) fun w' hc => ?_
    have e3 := on_frozen (hW.trans hc.on) e2 (by decide)
    show w'.cell? _ = _
    rw [cell_at e3]
    simp [List.getElem?_append_left, hlt]
end Ab
end Go.Proofs.YteghhlfmcjmnoaaGreatDoor
