import Derived.Test.YteghhlfmcjmnoaaGreatDoorQj
set_option linter.unusedSimpArgs false
set_option linter.unusedVariables false
namespace Go.Proofs.YteghhlfmcjmnoaaGreatDoor
open Go.RowKit
namespace Ab
open Rf (Nd Inv NInv Wt)
def sHs (b : Bool) : AS := ⟨P0 :: List.replicate 18 .und, [(0, ext [.ptr 1 0] 197), (1, ext [.bool b] 205)], 2, [], []⟩
def phH (x y : Nat) : Nat → Option (Nat × Nat)
  | 0 => some (x, 0)
  | 1 => some (y, 0)
  | _ => none
set_option maxRecDepth 100000 in
theorem hs_t (b : Bool) : (run Z (tabSp tN) bT (drawA Z (tabSp tN)) (fun _ => false) 100 [.code (bodyOf Tryz.f77), .top Tryz.f77] (sHs b)).bind retL = some (.val (.one (.bool b)), true) := by kernel_rfl
theorem hassign_ok {w : World} {b0 nb fb : Nat} {own : Nat → Option Own} {at1 : Nat → Nat} {s : Rf.St} {top r : Nat} {n : Nd} (h : NbAt w b0 nb fb own at1 s top r) (hn : s.nodes[top]? = some n) : Calls Tryz.prog 77 #[ptrB nb] w fun e w' => e = .returned (.bool (!n.pos)) ∧ Chg w w' [] := by
  obtain ⟨⟨ys, hblk⟩, _⟩ := nod_blk (own := own) (b0 := b0) (at1 := at1) (ns := s.nodes) h.net.nd hn
  generalize (!n.pos) = b at hblk ⊢
  have hrep : RepW Z w (phH nb (at1 top)) (phH nb (at1 top)) (sHs b) w := by
    refine rep_ext rfl ?_ ?_ ?_
    · intro b' B hB
      have := look_mem hB
      simp [sHs] at this
      rcases this with ⟨rfl, rfl⟩ | ⟨rfl, rfl⟩
      · exact ⟨rfl, rfl, rfl, nb, 0, rfl, [], [ptrB (at1 top)], [.int .i64 r, ptrB fb], h.blk, rfl, ⟨at1 top, 0, rfl, rfl⟩, trivial⟩
      · exact ⟨rfl, rfl, rfl, at1 top, 0, rfl, [], [.bool b], ys, hblk, rfl, rfl, trivial⟩
    · intro b hb
      have : 2 ≤ b := hb
      match b, this with
      | b + 2, _ => rfl
    · intro b k' o hb'
      match b, hb' with
      | 0, hb' => cases hb'; exact lt_of_heap h.blk
      | 1, hb' => cases hb'; exact lt_of_heap hblk
      | b + 2, hb' => cases hb'
  obtain ⟨tr, h1, h2⟩ := bnd (hs_t b)
  match tr, h2 with
  | .ret r s, h2 =>
    simp only [retL, Option.some.injEq, Prod.mk.injEq] at h2
    obtain ⟨rfl, hc⟩ := h2
    refine ext_run (s := sHs b) (vs := [.one (.ptr 0 0)]) (args := [ptrB nb]) (fn_of Tryz.func77 rfl rfl) (tabSp_ok tN_ok) bT_ok (by kernel_rfl) ⟨⟨nb, 0, rfl, rfl⟩, trivial⟩ hrep h1 (fun r s => r = .val (.one (.bool b)) ∧ clean s = true) ⟨rfl, hc⟩ ?_
    rintro r s φ v w' ⟨rfl, hc⟩ hrel hw
    have hv : v = .bool b := hrel
    exact ⟨by rw [hv], Chg.of_below (RepF.below hw hc)⟩
  | .br _ _ _, h2 => cases h2
  | .need _ _, h2 => cases h2
  | .stop _ _, h2 => cases h2
end Ab
end Go.Proofs.YteghhlfmcjmnoaaGreatDoor
set_option linter.unusedSimpArgs false
set_option linter.unusedVariables false
namespace Go.Proofs.YteghhlfmcjmnoaaGreatDoor
open Go.RowKit
namespace Ab
open Rf (Nd Inv NInv Wt)
def woN (k a b c d : Int) : Int := bif k == 6 then a * d + c * b else bif k == 7 then a * d + -c * b else bif k == 8 then a * c else a * d
def woD (k a b c d : Int) : Int := bif k == 6 then b * d else bif k == 7 then b * d else bif k == 8 then b * d else b * c
def fWo : List G → Option RG
  | [.i .i64 k, .ns [a, b], .ns [c, d]] => some (.one (.ns [bif k == 6 then lowT (a * d + c * b) (b * d) else bif k == 7 then lowT (a * d + -c * b) (b * d) else bif k == 8 then lowT (a * c) (b * d) else lowT (a * d) (b * c), bif k == 6 then lowB (a * d + c * b) (b * d) else bif k == 7 then lowB (a * d + -c * b) (b * d) else bif k == 8 then lowB (a * c) (b * d) else lowB (a * d) (b * c)]))
  | _ => none
def ndWo : List G → List Prop
  | [.i .i64 k, .ns [a, b], .ns [c, d]] => [0 < gcdZ (woN k a b c d) (woD k a b c d)]
  | _ => []
set_option maxRecDepth 100000 in
theorem wo_te : TEok Z 144 (teN true fWo ndWo 41 [0, 10, 10]) := by
  refine walkN (l := tF) tF_ok nobody (fn_of Tryz.func144 rfl rfl) ?_
  intro gs out h
  unfold fWo at h
  split at h
  · rename_i k a b c d
    cases h
    refine ⟨[(k == 6) = true → 0 < gcdZ (a * d + c * b) (b * d), (k == 6) = false → (k == 7) = true → 0 < gcdZ (a * d + -c * b) (b * d), (k == 6) = false → (k == 7) = false → (k == 8) = true → 0 < gcdZ (a * c) (b * d), (k == 6) = false → (k == 7) = false → (k == 8) = false → 0 < gcdZ (a * d) (b * c)], 41, by kernel_rfl, by decide, fun hn _ => ?_⟩
    have h0 : 0 < gcdZ (woN k a b c d) (woD k a b c d) := hn.one
    unfold woN woD at h0
    refine holds_cons (fun e => ?_) (holds_cons (fun e1 e2 => ?_) (holds_cons (fun e1 e2 e3 => ?_) (holds_cons (fun e1 e2 e3 => ?_) holds_nil)))
    · rw [e] at h0; exact h0
    · rw [e1, e2] at h0; exact h0
    · rw [e1, e2, e3] at h0; exact h0
    · rw [e1, e2, e3] at h0; exact h0
  · cases h
noncomputable def tP : List (FuncId × TE) := (144, teN true fWo ndWo 41 [0, 10, 10]) :: tS
theorem tP_ok : AllTE Z tP := ⟨wo_te, tS_ok⟩
noncomputable def bP : FuncId → Option Func := fun f => bif f == 40 then some Tryz.f40 else bif f == 101 then some Tryz.f101 else bif f == 143 then some Tryz.f143 else none
theorem bP_ok : BodiesOk Z bP := by
  intro f fn h
  unfold bP at h
  exact body_if h (fn_of Tryz.func40 rfl rfl) fun h => body_if h (fn_of Tryz.func101 rfl rfl) fun h => body_if h (fn_of Tryz.func143 rfl rfl) fun h => by cases h
def pFr (i : Nat) : Box := ext (.int .i64 1 :: numCs true i 2) 93
def pKd (kd : Int) : Box := ext [.int .i64 kd] 93
def stP (fn : Func) (vs : List AV) (bx : List (Nat × Box)) (ns : List (Int × Nat)) : AS := ⟨vs.map .val ++ List.replicate (fn.ntmps - vs.length) .und, bx, 3, ns, []⟩
noncomputable def goP (fn : Func) (s : AS) : Option Tr := run Z (tabSp tP) bP (drawA Z (tabSp tP)) (fun _ => false) 400 [.code (bodyOf fn), .top fn] s
noncomputable def lP (fn : Func) (s : AS) (l : List Bool) : AS := (((goP fn s).bind (leafT l)).map (·.2)).getD ⟨[], [], 0, [], []⟩
abbrev q1V : AV := .one (.ptr 1 0)
abbrev q2V : AV := .one (.ptr 2 0)
abbrev inV (k : Int) : AV := .one (.int .i64 k)
noncomputable def mnF (p q : Int) : AS := stP Tryz.f104 [q1V] [(1, pFr 0)] [(p, 1), (q, 1)]
noncomputable def mnK (kd' : Int) : AS := stP Tryz.f104 [q1V] [(1, pKd kd')] []
noncomputable def fuF (kd p q : Int) : AS := stP Tryz.f105 [inV kd, q1V] [(1, pFr 0)] [(p, 1), (q, 1)]
noncomputable def fuK (kd kd' : Int) : AS := stP Tryz.f105 [inV kd, q1V] [(1, pKd kd')] []
noncomputable def opFK (kd p q kd' : Int) : AS := stP Tryz.f106 [inV kd, q1V, q2V] [(1, pFr 0), (2, pKd kd')] [(p, 1), (q, 1)]
noncomputable def opKF (kd kd' p q : Int) : AS := stP Tryz.f106 [inV kd, q1V, q2V] [(1, pKd kd'), (2, pFr 0)] [(p, 1), (q, 1)]
noncomputable def opKK (kd kd1 kd2 : Int) : AS := stP Tryz.f106 [inV kd, q1V, q2V] [(1, pKd kd1), (2, pKd kd2)] []
structure IsPt (s : AS) (b : Nat) (kd : Int) (zs : List Int) (lc rc : AC) : Prop where
  look : look s.boxes b = some ⟨.int .i64 kd :: ((bxc s b).drop 1).take 4 ++ [.lit nilS', lc, rc], 93, true, false, false⟩
  num : numOf s.nums (((bxc s b).drop 1).take 4) = some zs
abbrev tupE (c : AC) (e : Int) : AT := .tup [.one c, .one (.int .i64 e)]
section
variable (p q : Int)
set_option maxRecDepth 100000 in
theorem mnF_t : goP Tryz.f104 (mnF p q) = some (.ret (.val (.one (.ptr 4 0))) (lP Tryz.f104 (mnF p q) [])) := by kernel_rfl
set_option maxRecDepth 100000 in
theorem mnF_p : IsPt (lP Tryz.f104 (mnF p q) []) 4 1 [-p, q] (.lit nilP) (.lit nilP) := ⟨by kernel_rfl, by kernel_rfl⟩
set_option maxRecDepth 100000 in
theorem mnF_c : clean (lP Tryz.f104 (mnF p q) []) = true := by kernel_rfl
set_option maxRecDepth 100000 in
theorem mnK_t {kd' : Int} (h : kd' ∈ kds) : goP Tryz.f104 (mnK kd') = some (.ret (.val (.one (.ptr 3 0))) (lP Tryz.f104 (mnK kd') [])) ∧ IsPt (lP Tryz.f104 (mnK kd') []) 3 5 [0, 0] (.ptr 1 0) (.lit nilP) ∧ clean (lP Tryz.f104 (mnK kd') []) = true := by
  simp only [kds, List.mem_cons, List.not_mem_nil, or_false] at h
  rcases h with rfl | rfl | rfl | rfl | rfl | rfl | rfl | rfl | rfl | rfl | rfl | rfl <;> exact ⟨by kernel_rfl, ⟨by kernel_rfl, by kernel_rfl⟩, by kernel_rfl⟩
set_option maxRecDepth 100000 in
theorem fuF_t {kd : Int} (h : kd = 10 ∨ kd = 11 ∨ kd = 12 ∨ kd = 13) : goP Tryz.f105 (fuF kd p q) = some (.br (decide (Nm.cmp p 0 = -1)) (.ret (tupE (.lit nilP) 5) (lP Tryz.f105 (fuF kd p q) [true])) (.br (decide (Nm.cmp p 0 = 0)) (.ret (tupE (.ptr 4 0) 0) (lP Tryz.f105 (fuF kd p q) [false, true])) (.ret (tupE (.ptr 3 0) 0) (lP Tryz.f105 (fuF kd p q) [false, false])))) ∧ clean (lP Tryz.f105 (fuF kd p q) [true]) = true ∧ IsPt (lP Tryz.f105 (fuF kd p q) [false, true]) 4 1 [if kd = 11 then 1 else 0, 1] (.lit nilP) (.lit nilP) ∧ clean (lP Tryz.f105 (fuF kd p q) [false, true]) = true ∧ IsPt (lP Tryz.f105 (fuF kd p q) [false, false]) 3 kd [0, 0] (.ptr 1 0) (.lit nilP) ∧ clean (lP Tryz.f105 (fuF kd p q) [false, false]) = true := by
  rcases h with rfl | rfl | rfl | rfl <;> exact ⟨by kernel_rfl, by kernel_rfl, ⟨by kernel_rfl, by kernel_rfl⟩, by kernel_rfl, ⟨by kernel_rfl, by kernel_rfl⟩, by kernel_rfl⟩
set_option maxRecDepth 100000 in
theorem fuK_t (kd : Int) {kd' : Int} (h : kd' ∈ kds) : goP Tryz.f105 (fuK kd kd') = some (.ret (tupE (.ptr 3 0) 0) (lP Tryz.f105 (fuK kd kd') [])) ∧ IsPt (lP Tryz.f105 (fuK kd kd') []) 3 kd [0, 0] (.ptr 1 0) (.lit nilP) ∧ clean (lP Tryz.f105 (fuK kd kd') []) = true := by
  simp only [kds, List.mem_cons, List.not_mem_nil, or_false] at h
  rcases h with rfl | rfl | rfl | rfl | rfl | rfl | rfl | rfl | rfl | rfl | rfl | rfl <;> exact ⟨by kernel_rfl, ⟨by kernel_rfl, by kernel_rfl⟩, by kernel_rfl⟩
end
end Ab
end Go.Proofs.YteghhlfmcjmnoaaGreatDoor
set_option linter.unusedSimpArgs false
set_option linter.unusedVariables false
namespace Go.Proofs.YteghhlfmcjmnoaaGreatDoor
open Go.RowKit
namespace Ab
open Rf (Nd Inv NInv Wt)
noncomputable def opFF (kd p q a b : Int) : AS := stP Tryz.f106 [inV kd, q1V, q2V] [(1, pFr 0), (2, pFr 2)] [(p, 1), (q, 1), (a, 1), (b, 1)]
def opS2 (p q a b : Int) (tm : List AT) : AS := ⟨tm, [(1, pFr 0), (2, pFr 2)], 3, [(p, 1), (q, 1), (a, 1), (b, 1)], []⟩
noncomputable def rO : Nat × Array Oper × List (K (List AT)) := drwR (opCalls 101) Tryz.f106
noncomputable def oK : List (K (List AT)) := [.code (bodyOf Tryz.f106), .top Tryz.f106]
noncomputable def xFF (kd p q a b : Int) : Option XT := (run Z (tabSp tP) bP (drawA Z (tabSp tP)) (atDrw (opCalls 101)) 400 oK (opFF kd p q a b)).bind (outX (nrm [1, 2] [] 3 []) (nrm [1, 2] [0, 1, 2] 3 []))
abbrev oSl (kd : Int) : List AT := slot [(0, .val (inV kd)), (1, .val q1V), (2, .val q2V)] 0 44
noncomputable def dO (kd p q a b : Int) : AS := ((drawA Z (tabSp tP) (rO.2.1.extract 0 10) (opS2 p q a b (oSl kd))).getD (⟨[], [], 0, [], []⟩, [])).1
noncomputable def zO (kd p q a b : Int) : Option Tr := run Z (tabSp tP) bP (drawA Z (tabSp tP)) (fun _ => false) 100 (.ops rO.2.1 [10, 11, 12] :: rO.2.2) (dO kd p q a b)
noncomputable def zS (kd p q a b : Int) : AS := (((zO kd p q a b).bind (leafT [])).map (·.2)).getD ⟨[], [], 0, [], []⟩
def lowTo (kk : Rf.Kind) (p q a b : Int) : Int := lowT (woN (kdK kk) p q a b) (woD (kdK kk) p q a b)
def lowBo (kk : Rf.Kind) (p q a b : Int) : Int := lowB (woN (kdK kk) p q a b) (woD (kdK kk) p q a b)
section
variable (p q a b : Int)
set_option maxRecDepth 100000 in
theorem oFK_t (kk : Rf.Kind) {kd' : Int} (h : kd' ∈ kds) : goP Tryz.f106 (opFK (kdK kk) p q kd') = some (.ret (tupE (.ptr 3 0) 0) (lP Tryz.f106 (opFK (kdK kk) p q kd') [])) ∧ IsPt (lP Tryz.f106 (opFK (kdK kk) p q kd') []) 3 (kdK kk) [0, 0] (.ptr 1 0) (.ptr 2 0) ∧ clean (lP Tryz.f106 (opFK (kdK kk) p q kd') []) = true := by
  simp only [kds, List.mem_cons, List.not_mem_nil, or_false] at h
  rcases h with rfl | rfl | rfl | rfl | rfl | rfl | rfl | rfl | rfl | rfl | rfl | rfl <;> cases kk <;> exact ⟨by kernel_rfl, ⟨by kernel_rfl, by kernel_rfl⟩, by kernel_rfl⟩
set_option maxRecDepth 100000 in
theorem oKF_t {kk : Rf.Kind} (hk : kk ≠ .div) {kd' : Int} (h : kd' ∈ kds) : goP Tryz.f106 (opKF (kdK kk) kd' p q) = some (.ret (tupE (.ptr 3 0) 0) (lP Tryz.f106 (opKF (kdK kk) kd' p q) [])) ∧ IsPt (lP Tryz.f106 (opKF (kdK kk) kd' p q) []) 3 (kdK kk) [0, 0] (.ptr 1 0) (.ptr 2 0) ∧ clean (lP Tryz.f106 (opKF (kdK kk) kd' p q) []) = true := by
  simp only [kds, List.mem_cons, List.not_mem_nil, or_false] at h
  cases kk with
  | div => exact absurd rfl hk
  | add => rcases h with rfl | rfl | rfl | rfl | rfl | rfl | rfl | rfl | rfl | rfl | rfl | rfl <;> exact ⟨by kernel_rfl, ⟨by kernel_rfl, by kernel_rfl⟩, by kernel_rfl⟩
  | sub => rcases h with rfl | rfl | rfl | rfl | rfl | rfl | rfl | rfl | rfl | rfl | rfl | rfl <;> exact ⟨by kernel_rfl, ⟨by kernel_rfl, by kernel_rfl⟩, by kernel_rfl⟩
  | mul => rcases h with rfl | rfl | rfl | rfl | rfl | rfl | rfl | rfl | rfl | rfl | rfl | rfl <;> exact ⟨by kernel_rfl, ⟨by kernel_rfl, by kernel_rfl⟩, by kernel_rfl⟩
set_option maxRecDepth 100000 in
theorem oKFd_t {kd' : Int} (h : kd' ∈ kds) : goP Tryz.f106 (opKF 9 kd' p q) = some (.br (decide (Nm.cmp p 0 = 0)) (.ret (tupE (.lit nilP) 5) (lP Tryz.f106 (opKF 9 kd' p q) [true])) (.ret (tupE (.ptr 3 0) 0) (lP Tryz.f106 (opKF 9 kd' p q) [false]))) ∧ clean (lP Tryz.f106 (opKF 9 kd' p q) [true]) = true ∧ IsPt (lP Tryz.f106 (opKF 9 kd' p q) [false]) 3 9 [0, 0] (.ptr 1 0) (.ptr 2 0) ∧ clean (lP Tryz.f106 (opKF 9 kd' p q) [false]) = true := by
  simp only [kds, List.mem_cons, List.not_mem_nil, or_false] at h
  rcases h with rfl | rfl | rfl | rfl | rfl | rfl | rfl | rfl | rfl | rfl | rfl | rfl <;> exact ⟨by kernel_rfl, by kernel_rfl, ⟨by kernel_rfl, by kernel_rfl⟩, by kernel_rfl⟩
set_option maxRecDepth 100000 in
theorem oKK_t {kk : Rf.Kind} (hk : kk ≠ .div) {kd1 : Int} (kd2 : Int) (h : kd1 ∈ kds) : goP Tryz.f106 (opKK (kdK kk) kd1 kd2) = some (.ret (tupE (.ptr 3 0) 0) (lP Tryz.f106 (opKK (kdK kk) kd1 kd2) [])) ∧ IsPt (lP Tryz.f106 (opKK (kdK kk) kd1 kd2) []) 3 (kdK kk) [0, 0] (.ptr 1 0) (.ptr 2 0) ∧ clean (lP Tryz.f106 (opKK (kdK kk) kd1 kd2) []) = true := by
  simp only [kds, List.mem_cons, List.not_mem_nil, or_false] at h
  cases kk with
  | div => exact absurd rfl hk
  | add => rcases h with rfl | rfl | rfl | rfl | rfl | rfl | rfl | rfl | rfl | rfl | rfl | rfl <;> exact ⟨by kernel_rfl, ⟨by kernel_rfl, by kernel_rfl⟩, by kernel_rfl⟩
  | sub => rcases h with rfl | rfl | rfl | rfl | rfl | rfl | rfl | rfl | rfl | rfl | rfl | rfl <;> exact ⟨by kernel_rfl, ⟨by kernel_rfl, by kernel_rfl⟩, by kernel_rfl⟩
  | mul => rcases h with rfl | rfl | rfl | rfl | rfl | rfl | rfl | rfl | rfl | rfl | rfl | rfl <;> exact ⟨by kernel_rfl, ⟨by kernel_rfl, by kernel_rfl⟩, by kernel_rfl⟩
set_option maxRecDepth 100000 in
theorem oKKd_t {kd1 kd2 : Int} (h : kd1 ∈ kds) (h2 : kd2 ∈ kds) : goP Tryz.f106 (opKK 9 kd1 kd2) = some (.ret (tupE (.ptr 3 0) 0) (lP Tryz.f106 (opKK 9 kd1 kd2) [])) ∧ IsPt (lP Tryz.f106 (opKK 9 kd1 kd2) []) 3 9 [0, 0] (.ptr 1 0) (.ptr 2 0) ∧ clean (lP Tryz.f106 (opKK 9 kd1 kd2) []) = true := by
  simp only [kds, List.mem_cons, List.not_mem_nil, or_false] at h h2
  rcases h with rfl | rfl | rfl | rfl | rfl | rfl | rfl | rfl | rfl | rfl | rfl | rfl <;> rcases h2 with rfl | rfl | rfl | rfl | rfl | rfl | rfl | rfl | rfl | rfl | rfl | rfl <;> exact ⟨by kernel_rfl, ⟨by kernel_rfl, by kernel_rfl⟩, by kernel_rfl⟩
set_option maxRecDepth 100000 in
theorem oFF_t {kk : Rf.Kind} (hk : kk ≠ .div) : xFF (kdK kk) p q a b = some (.stp (.code (.region rO.1 rO.2.1 true) :: rO.2.2) (opS2 p q a b (oSl (kdK kk)))) := by
  cases kk with
  | div => exact absurd rfl hk
  | add => kernel_rfl
  | sub => kernel_rfl
  | mul => kernel_rfl
set_option maxRecDepth 100000 in
theorem oFFd_t : xFF 9 p q a b = some (.br (decide (Nm.cmp a 0 = 0)) (.ret (tupE (.lit nilP) 5) (opS2 p q a b (sl0 44))) (.stp (.code (.region rO.1 rO.2.1 true) :: rO.2.2) (opS2 p q a b (oSl 9)))) := by kernel_rfl
set_option maxRecDepth 100000 in
theorem dO_t (kd : Int) : drawA Z (tabSp tP) (rO.2.1.extract 0 10) (opS2 p q a b (oSl kd)) = some (dO kd p q a b, [0 < gcdZ (woN kd p q a b) (woD kd p q a b)]) := by kernel_rfl
set_option maxRecDepth 100000 in
theorem bar_O : barB rO.2.1 10 = true ∧ 10 < rO.2.1.size ∧ (List.range rO.2.1.size).drop 10 = [10, 11, 12] := ⟨by kernel_rfl, Nat.lt_of_lt_of_eq (by decide : 10 < 13) (by kernel_rfl), by kernel_rfl⟩
set_option maxRecDepth 100000 in
theorem frO : noFr rO.2.2 = true := by kernel_rfl
set_option maxRecDepth 100000 in
theorem zO_t (kk : Rf.Kind) : zO (kdK kk) p q a b = some (.ret (tupE (.ptr 14 0) 0) (zS (kdK kk) p q a b)) ∧ IsPt (zS (kdK kk) p q a b) 14 1 [lowTo kk p q a b, lowBo kk p q a b] (.lit nilP) (.lit nilP) ∧ clean (zS (kdK kk) p q a b) = true := by
  cases kk <;> exact ⟨by kernel_rfl, ⟨by kernel_rfl, by kernel_rfl⟩, by kernel_rfl⟩
end
end Ab
end Go.Proofs.YteghhlfmcjmnoaaGreatDoor
set_option linter.unusedSimpArgs false
set_option linter.unusedVariables false
namespace Go.Proofs.YteghhlfmcjmnoaaGreatDoor
open Go.RowKit
namespace Ab
open Rf (Nd Inv NInv Wt)
theorem IsPt.at {w0 w : World} {ψ φ : Nat → Option (Nat × Nat)} {s : AS} {b : Nat} {kd : Int} {zs : List Int} {lc rc : AC} {lv rv : Value} (h : IsPt s b kd zs lc rc) (hw : RepW Z w0 ψ φ s w) (e1 : ∀ x, relC Z φ s.nums w lc x → x = lv) (e2 : ∀ x, relC Z φ s.nums w rc x → x = rv) :
    ∃ m, ∃ xs : List Value, φ b = some (m, 0) ∧ PartB w m kd xs nilS' lv rv ∧ Hold true w zs xs := by
  obtain ⟨m, ys, k1, k2, k3, k4⟩ := own_blk hw h.look rfl rfl
  have hz := h.num
  match ys, k3 with
  | y :: ys, ⟨hy, g5⟩ =>
  have hy : y = .int .i64 kd := hy
  subst hy
  have g5 : All2 (relC Z φ s.nums w) (((bxc s b).drop 1).take 4 ++ [.lit nilS', lc, rc]) ys := g5
  generalize (((bxc s b).drop 1).take 4) = cc at g5 hz
  have hl := g5.len
  simp only [List.length_append, List.length_cons, List.length_nil] at hl
  have ga : All2 (relC Z φ s.nums w) cc (ys.take cc.length) := by
    have := g5.take cc.length
    rw [List.take_append_of_le_length (by omega), List.take_of_length_le (by omega)] at this
    exact this
  have gb : All2 (relC Z φ s.nums w) [.lit nilS', lc, rc] (ys.drop cc.length) := by
    have := g5.drop cc.length
    rw [List.drop_append_of_le_length (by omega), List.drop_of_length_le (by omega)] at this
    exact this
  refine ⟨m, ys.take cc.length, k1, ?_, numOf_ok cc zs _ hz ga⟩
  match hd : ys.drop cc.length, gb with
  | [a0, a1, a2], ⟨b0, b1, b2, _⟩ =>
  have c0 : a0 = nilS' := b0.1
  have c1 := e1 a1 b1
  have c2 := e2 a2 b2
  subst c0 c1 c2
  have e : ys = ys.take cc.length ++ [nilS', a1, a2] := by rw [← hd]; exact (List.take_append_drop _ _).symm
  unfold PartB
  rw [k2]
  generalize ys.take cc.length = t at e
  subst e
  rfl
def negW : Wt → Wt
  | .fr p q => .fr (-p) q
  | t => .neg t
def fnW (op : Rf.Op) : Wt → Option Wt
  | .fr p q => if p < 0 then none else if p = 0 then some (.fr (if op = .exp then 1 else 0) 1) else some (.fn op (.fr p q))
  | t => some (.fn op t)
def opW (kk : Rf.Kind) : Wt → Wt → Option Wt
  | .fr p q, .fr a b => if kk = .div ∧ a = 0 then none else some (.fr (lowTo kk p q a b) (lowBo kk p q a b))
  | t, .fr a b => if kk = .div ∧ a = 0 then none else some (.two kk t (.fr a b))
  | t, u => some (.two kk t u)
section
variable {w : World}
theorem rep_1 {k : Nat} {B : Box} {tm : List AT} {ν : List (Int × Nat)} {cs ys : List Value} {ty : TypeId} (hB : B.own = false ∧ B.ro = true ∧ B.tip = false) (hk : w.heap[k]? = some (.cells (cs ++ ys).toArray B.ty (0, 0))) (hc : All2 (relC Z (ph1 1 k) ν w) B.cs cs) : RepW Z w (ph1 1 k) (ph1 1 k) ⟨tm, [(1, B)], 3, ν, []⟩ w := by
  refine rep_ext rfl ?_ ?_ ?_
  · intro b B' hB'
    have := look_mem hB'
    simp only [List.mem_singleton, Prod.mk.injEq] at this
    obtain ⟨rfl, rfl⟩ := this
    exact ⟨hB.1, hB.2.1, hB.2.2, k, 0, rfl, [], cs, ys, (by simpa using hk), rfl, hc⟩
  · intro b hb
    have : 3 ≤ b := hb
    unfold ph1
    rw [if_neg (by omega)]
  · intro b k' o hb'
    unfold ph1 at hb'
    split at hb'
    · cases hb'; exact lt_of_heap hk
    · cases hb'
theorem rep_2 {k k2 : Nat} {B B2 : Box} {tm : List AT} {ν : List (Int × Nat)} {cs ys cs2 ys2 : List Value} (hB : B.own = false ∧ B.ro = true ∧ B.tip = false) (hB2 : B2.own = false ∧ B2.ro = true ∧ B2.tip = false) (hk : w.heap[k]? = some (.cells (cs ++ ys).toArray B.ty (0, 0))) (hc : All2 (relC Z (phQ k k2) ν w) B.cs cs) (hk2 : w.heap[k2]? = some (.cells (cs2 ++ ys2).toArray B2.ty (0, 0))) (hc2 : All2 (relC Z (phQ k k2) ν w) B2.cs cs2) : RepW Z w (phQ k k2) (phQ k k2) ⟨tm, [(1, B), (2, B2)], 3, ν, []⟩ w := by
  refine rep_ext rfl ?_ ?_ ?_
  · intro b B' hB'
    have := look_mem hB'
    simp only [List.mem_cons, List.not_mem_nil, or_false, Prod.mk.injEq] at this
    rcases this with ⟨rfl, rfl⟩ | ⟨rfl, rfl⟩
    · exact ⟨hB.1, hB.2.1, hB.2.2, k, 0, rfl, [], cs, ys, (by simpa using hk), rfl, hc⟩
    · exact ⟨hB2.1, hB2.2.1, hB2.2.2, k2, 0, rfl, [], cs2, ys2, (by simpa using hk2), rfl, hc2⟩
  · intro b hb
    have : 3 ≤ b := hb
    match b, this with
    | b + 3, _ => rfl
  · intro b k' o hb'
    match b, hb' with
    | 0, hb' => cases hb'
    | 1, hb' => cases hb'; exact lt_of_heap hk
    | 2, hb' => cases hb'; exact lt_of_heap hk2
    | b + 3, hb' => cases hb'
theorem fr_cs {p q : Int} {xs : List Value} {i : Nat} {φ : Nat → Option (Nat × Nat)} {ν : List (Int × Nat)} (hh : Hold true w [p, q] xs) (bp : Bits 1 p) (bq : Bits 1 q) (h1 : ν[i]? = some (p, 1)) (h2 : ν[i + 1]? = some (q, 1)) : All2 (relC Z φ ν w) (.int .i64 1 :: numCs true i 2) (.int .i64 1 :: xs) := by
  refine ⟨rfl, hold_cs (n := 1) [p, q] xs i _ hh ?_ ?_⟩
  · intro z hz
    simp at hz
    rcases hz with rfl | rfl
    · exact bp
    · exact bq
  · intro j z hz
    match j, hz with
    | 0, hz => cases hz; exact h1
    | 1, hz => cases hz; exact h2
    | j + 2, hz => simp at hz
theorem part_cases {t : Wt} {v : Value} (hok : t.Ok) (hp : PartAt w t v) : ∃ k, v = ptrB k ∧ ((∃ p q, t = .fr p q ∧ ∃ xs tv lv rv, PartB w k 1 xs tv lv rv ∧ Hold true w [p, q] xs ∧ Bits 1 p ∧ Bits 1 q ∧ 0 < q) ∨ ((∀ p q, t ≠ .fr p q) ∧ ∃ kd' ∈ kds, ∃ zs : List Value, w.heap[k]? = some (.cells (.int .i64 kd' :: zs).toArray 93 (0, 0)))) := by
  by_cases h : ∃ p q, t = .fr p q
  · obtain ⟨p, q, rfl⟩ := h
    obtain ⟨k, xs, tv, lv, rv, rfl, hB, hH, _⟩ := hp
    exact ⟨k, rfl, Or.inl ⟨p, q, rfl, xs, tv, lv, rv, hB, hH, bit1 hok.2.1, bit1 hok.2.2, hok.1⟩⟩
  · have hn : ∀ p q, t ≠ .fr p q := fun p q e => h ⟨p, q, e⟩
    obtain ⟨k, rfl, h2⟩ := part_kd hn hok hp
    exact ⟨k, rfl, Or.inr ⟨hn, h2⟩⟩
theorem pt_fr {w' : World} {m : Nat} {p q : Int} {xs : List Value} (hB : PartB w' m 1 xs nilS' nilP nilP) (hH : Hold true w' [p, q] xs) : PartAt w' (.fr p q) (ptrB m) := ⟨m, xs, nilS', nilP, nilP, rfl, hB, hH, rfl, rfl, rfl⟩
theorem minus_ok {t : Wt} {v : Value} (hok : t.Ok) (hp : PartAt w t v) : Calls Tryz.prog 104 #[v] w fun e w' => ∃ v', e = .returned v' ∧ Chg w w' [] ∧ PartAt w' (negW t) v' := by
  obtain ⟨k, rfl, ⟨p, q, rfl, xs, tv, lv, rv, hB, hH, bp, bq, _⟩ | ⟨hn, kd', hkd', zs, hblk⟩⟩ := part_cases hok hp
  · refine ext_run (φ := ph1 1 k) (s := mnF p q) (vs := [q1V]) (args := [ptrB k]) (fn_of Tryz.func104 rfl rfl) (tabSp_ok tP_ok) bP_ok (by kernel_rfl) ⟨⟨k, 0, rfl, rfl⟩, trivial⟩ (rep_1 (ty := 93) ⟨rfl, rfl, rfl⟩ (cs := .int .i64 1 :: xs) (ys := [tv, lv, rv]) hB (fr_cs hH bp bq rfl rfl)) (mnF_t p q) (fun r s => r = .val (.one (.ptr 4 0)) ∧ IsPt s 4 1 [-p, q] (.lit nilP) (.lit nilP) ∧ clean s = true) ⟨rfl, mnF_p p q, mnF_c p q⟩ ?_
    rintro r s φ v w' ⟨rfl, hn, hc⟩ hrel hw
    obtain ⟨m, ys, k1, k2, k3⟩ := hn.at hw lit_val lit_val
    have hv : v = ptrB m := ptr_v (ν := s.nums) (w := w') k1 v hrel
    exact ⟨v, rfl, Chg.of_below (RepF.below hw hc), by rw [hv]; exact pt_fr k2 k3⟩
  · obtain ⟨t1, t2, t3⟩ := mnK_t hkd'
    refine ext_run (φ := ph1 1 k) (s := mnK kd') (vs := [q1V]) (args := [ptrB k]) (fn_of Tryz.func104 rfl rfl) (tabSp_ok tP_ok) bP_ok (by kernel_rfl) ⟨⟨k, 0, rfl, rfl⟩, trivial⟩ (rep_1 (ty := 93) ⟨rfl, rfl, rfl⟩ (cs := [.int .i64 kd']) (ys := zs) hblk ⟨rfl, trivial⟩) t1 (fun r s => r = .val (.one (.ptr 3 0)) ∧ IsPt s 3 5 [0, 0] (.ptr 1 0) (.lit nilP) ∧ clean s = true) ⟨rfl, t2, t3⟩ ?_
    rintro r s φ v w' ⟨rfl, hn', hc⟩ hrel hw
    obtain ⟨m, ys, k1, k2, k3⟩ := hn'.at hw (ptr_v (hw.base 1 (k, 0) rfl)) lit_val
    have hv : v = ptrB m := ptr_v (ν := s.nums) (w := w') k1 v hrel
    have hch : Chg w w' [] := Chg.of_below (RepF.below hw hc)
    have hW : negW t = .neg t := by
      cases t with
      | fr p q => exact absurd rfl (hn p q)
      | _ => rfl
    refine ⟨v, rfl, hch, ?_⟩
    rw [hv, hW]
    exact ⟨m, ys, [0, 0], nilS', ptrB k, nilP, rfl, k2, k3, rfl, fun z hz => zeros1 z (by simp at hz; simp [hz]), rfl, rfl, PartAt.keep hch.on t _ hp⟩
def Told2 (w : World) (x : Option Wt) (e : Ending) (w' : World) : Prop := Chg w w' [] ∧ match x with
  | none => e = .returned (.tuple #[nilP, .int .i64 5])
  | some t => ∃ v, e = .returned (.tuple #[v, .int .i64 0]) ∧ PartAt w' t v
theorem Told2.no {w w' : World} {x : Option Wt} {e : Ending} (hx : x = none) (hc : Chg w w' []) (he : e = .returned (.tuple #[nilP, .int .i64 5])) : Told2 w x e w' := by subst hx; exact ⟨hc, he⟩
theorem Told2.yes {w w' : World} {x : Option Wt} {t : Wt} {e : Ending} {v : Value} (hx : x = some t) (hc : Chg w w' []) (he : e = .returned (.tuple #[v, .int .i64 0])) (hp : PartAt w' t v) : Told2 w x e w' := by subst hx; exact ⟨hc, v, he, hp⟩
theorem tup_val {φ : Nat → Option (Nat × Nat)} {ν : List (Int × Nat)} {w : World} {c : AC} {e : Int} {v u : Value} (h : relT Z φ ν w (tupE c e) v) (hc : ∀ x, relC Z φ ν w c x → x = u) : v = .tuple #[u, .int .i64 e] := by
  obtain ⟨xs, rfl, hx⟩ := h
  match xs, hx with
  | [a, b], ⟨h1, h2, _⟩ =>
    have h2 : b = .int .i64 e := h2
    rw [hc a h1, h2]
theorem function_ok {op : Rf.Op} (hop : Rf.fn op) {t : Wt} {v : Value} (hok : t.Ok) (hp : PartAt w t v) : Calls Tryz.prog 105 #[.int .i64 (kindZ op), v] w (Told2 w (fnW op t)) := by
  have hku := kind_uns hop
  have he : kindZ op = 11 ↔ op = .exp := kd_11 hop
  obtain ⟨k, rfl, ⟨p, q, rfl, xs, tv, lv, rv, hB, hH, bp, bq, _⟩ | ⟨hn, kd', hkd', zs, hblk⟩⟩ := part_cases hok hp
  · obtain ⟨t1, t2, t3, t4, t5, t6⟩ := fuF_t p q hku
    refine ext_run (φ := ph1 1 k) (s := fuF (kindZ op) p q) (vs := [inV (kindZ op), q1V]) (args := [.int .i64 (kindZ op), ptrB k]) (fn_of Tryz.func105 rfl rfl) (tabSp_ok tP_ok) bP_ok (by kernel_rfl) ⟨rfl, ⟨k, 0, rfl, rfl⟩, trivial⟩ (rep_1 (ty := 93) ⟨rfl, rfl, rfl⟩ (cs := .int .i64 1 :: xs) (ys := [tv, lv, rv]) hB (fr_cs hH bp bq rfl rfl)) t1 (fun r s => clean s = true ∧ ((p < 0 ∧ r = tupE (.lit nilP) 5) ∨ (p = 0 ∧ r = tupE (.ptr 4 0) 0 ∧ IsPt s 4 1 [if kindZ op = 11 then 1 else 0, 1] (.lit nilP) (.lit nilP)) ∨ (0 < p ∧ r = tupE (.ptr 3 0) 0 ∧ IsPt s 3 (kindZ op) [0, 0] (.ptr 1 0) (.lit nilP)))) ?_ ?_
    · rcases Int.lt_trichotomy p 0 with h | h | h
      · refine ⟨fun _ => ⟨t2, Or.inl ⟨h, rfl⟩⟩, fun e => ?_⟩
        rw [Nm.cmp_lt h] at e
        cases e
      · have e0 : Nm.cmp p 0 = 0 := Nm.cmp_eq h
        rw [e0]
        exact ⟨fun e => (by cases e), fun _ => ⟨fun _ => ⟨t4, Or.inr (Or.inl ⟨h, rfl, t3⟩)⟩, fun e => by cases e⟩⟩
      · rw [Nm.cmp_gt h]
        exact ⟨fun e => (by cases e), fun _ => ⟨fun e => (by cases e), fun _ => ⟨t6, Or.inr (Or.inr ⟨h, rfl, t5⟩)⟩⟩⟩
    · rintro r s φ v w' ⟨hc, h⟩ hrel hw
      have hch : Chg w w' [] := Chg.of_below (RepF.below hw hc)
      rcases h with ⟨h, rfl⟩ | ⟨h, rfl, hI⟩ | ⟨h, rfl, hI⟩
      · exact .no (show (if p < 0 then _ else _) = _ from if_pos h) hch (by rw [tup_val hrel lit_val])
      · obtain ⟨m, ys, k1, k2, k3⟩ := hI.at hw lit_val lit_val
        have : (if kindZ op = 11 then (1 : Int) else 0) = if op = .exp then 1 else 0 := by simp only [he]
        rw [this] at k3
        exact .yes (show (if p < 0 then _ else if p = 0 then _ else _) = _ by rw [if_neg (by omega), if_pos h]) hch (by rw [tup_val hrel (ptr_v k1)]) (pt_fr k2 k3)
      · obtain ⟨m, ys, k1, k2, k3⟩ := hI.at hw (ptr_v (hw.base 1 (k, 0) rfl)) lit_val
        exact .yes (t := .fn op (.fr p q)) (v := ptrB m) (show (if p < 0 then _ else if p = 0 then _ else some (Wt.fn op (.fr p q))) = _ by rw [if_neg (by omega), if_neg (by omega)]) hch (by rw [tup_val hrel (ptr_v k1)]) ⟨m, ys, [0, 0], nilS', ptrB k, nilP, rfl, k2, k3, rfl, fun z hz => zeros1 z (by simp at hz; simp [hz]), rfl, rfl, PartAt.keep hch.on (.fr p q) _ hp⟩
  · obtain ⟨t1, t2, t3⟩ := fuK_t (kindZ op) hkd'
    refine ext_run (φ := ph1 1 k) (s := fuK (kindZ op) kd') (vs := [inV (kindZ op), q1V]) (args := [.int .i64 (kindZ op), ptrB k]) (fn_of Tryz.func105 rfl rfl) (tabSp_ok tP_ok) bP_ok (by kernel_rfl) ⟨rfl, ⟨k, 0, rfl, rfl⟩, trivial⟩ (rep_1 (ty := 93) ⟨rfl, rfl, rfl⟩ (cs := [.int .i64 kd']) (ys := zs) hblk ⟨rfl, trivial⟩) t1 (fun r s => r = tupE (.ptr 3 0) 0 ∧ IsPt s 3 (kindZ op) [0, 0] (.ptr 1 0) (.lit nilP) ∧ clean s = true) ⟨rfl, t2, t3⟩ ?_
    rintro r s φ v w' ⟨rfl, hI, hc⟩ hrel hw
    have hch : Chg w w' [] := Chg.of_below (RepF.below hw hc)
    obtain ⟨m, ys, k1, k2, k3⟩ := hI.at hw (ptr_v (hw.base 1 (k, 0) rfl)) lit_val
    have hW : fnW op t = some (.fn op t) := by
      cases t with
      | fr p q => exact absurd rfl (hn p q)
      | _ => rfl
    exact .yes (v := ptrB m) hW hch (by rw [tup_val hrel (ptr_v k1)]) ⟨m, ys, [0, 0], nilS', ptrB k, nilP, rfl, k2, k3, rfl, fun z hz => zeros1 z (by simp at hz; simp [hz]), rfl, rfl, PartAt.keep hch.on t _ hp⟩
end
end Ab
end Go.Proofs.YteghhlfmcjmnoaaGreatDoor
set_option linter.unusedSimpArgs false
set_option linter.unusedVariables false
namespace Go.Proofs.YteghhlfmcjmnoaaGreatDoor
open Go.RowKit
namespace Ab
open Rf (Nd Inv NInv Wt)
theorem gcd_pos_of {t b : Int} (hb : b ≠ 0) : 0 < gcdZ t b := by
  unfold gcdZ
  have : 0 < Nat.gcd t.natAbs b.natAbs := Nat.gcd_pos_of_pos_right _ (by omega)
  omega
theorem lowB_pos {t b : Int} (hb : b ≠ 0) : 0 < lowB t b := by
  have hg := gcd_pos_of (t := t) hb
  have d2 : gcdZ t b ∣ b := by
    unfold gcdZ
    exact Int.ofNat_dvd_left.2 (Nat.gcd_dvd_right _ _)
  unfold lowB
  rcases Int.lt_or_lt_of_ne hb with h | h
  · rw [Nm.cmp_lt h]
    show 0 < -b / gcdZ t b
    have m2 : -b = gcdZ t b * (-b / gcdZ t b) := (Int.mul_ediv_cancel' (Int.dvd_neg.2 d2)).symm
    rcases Int.lt_or_le 0 (-b / gcdZ t b) with h1 | h1
    · exact h1
    · have := Int.mul_nonpos_of_nonneg_of_nonpos (show (0 : Int) ≤ gcdZ t b by omega) h1
      omega
  · rw [Nm.cmp_gt h]
    show 0 < b / gcdZ t b
    have m2 : b = gcdZ t b * (b / gcdZ t b) := (Int.mul_ediv_cancel' d2).symm
    rcases Int.lt_or_le 0 (b / gcdZ t b) with h1 | h1
    · exact h1
    · have := Int.mul_nonpos_of_nonneg_of_nonpos (show (0 : Int) ≤ gcdZ t b by omega) h1
      omega
theorem woD_ne {kk : Rf.Kind} {p q a b : Int} (hq : 0 < q) (hb : 0 < b) (ha : ¬ (kk = .div ∧ a = 0)) : woD (kdK kk) p q a b ≠ 0 := by
  cases kk with
  | add => exact Int.ne_of_gt (Int.mul_pos hq hb)
  | sub => exact Int.ne_of_gt (Int.mul_pos hq hb)
  | mul => exact Int.ne_of_gt (Int.mul_pos hq hb)
  | div => exact Int.mul_ne_zero (by omega) (fun e => ha ⟨rfl, e⟩)
theorem cmp0 (a : Int) : decide (Nm.cmp a 0 = 0) = decide (a = 0) := by
  rcases Int.lt_trichotomy a 0 with h | h | h
  · rw [Nm.cmp_lt h]; simp; omega
  · rw [Nm.cmp_eq h]; simp [h]
  · rw [Nm.cmp_gt h]; simp; omega
theorem xrunT {w0 : World} {ψ : Nat → Option (Nat × Nat)} {sp : Spec} {bodies : FuncId → Option Func} {stp : List (K (List AT)) → Bool} {R : Ending → World → Prop} (hsp : SpecOk Z w0 ψ sp) (hbo : BodiesOk Z bodies) {kb : List Nat} {nx : Nat} {rb : List Nat} {ns : AS → Option (AS × List Prop)} (hψ : ∀ b x, ψ b = some x → kb.contains b = true) (hns : NrmR ψ ns) {n : Nat} {ks : List (K (List AT))} {s : AS} {xt : XT}
    (ht : (run Z sp bodies (drawA Z sp) stp n ks s).bind (outX (nrm kb [] nx rb) ns) = some xt) (G : AT → AS → Prop) (H : List (K (List AT)) → AS → Prop) (hok : xt.ok G H)
    (hG : ∀ r s' φ' v w', G r s' → (∃ φ0 ν0, relT Z φ0 ν0 w' r v) → RepW Z w0 ψ φ' s' w' → R (.returned v) w')
    (hH : ∀ ks' s', H ks' s' → noFr ks' = true ∧ ∀ (kcs : List (K Act)) (φ' : Nat → Option (Nat × Nat)) (a : Act) (w' : World), (∀ φ1 ν1 w1, SR Z φ1 ν1 w1 ks' kcs) → Rep Z w0 ψ φ' s' a w' → sem Z.P R kcs .normal a w') :
    ∀ (kcs : List (K Act)) (φ : Nat → Option (Nat × Nat)) (a : Act) (w : World), SR Z φ s.nums w ks kcs → Rep Z w0 ψ φ s a w → sem Z.P R kcs .normal a w := by
  intro kcs φ a w hsr hr
  obtain ⟨tr, h1, h2⟩ := bnd ht
  refine run_ok hsp hbo (drawA_ok mixed hsp) _ _ ?_ ?_ n ks s tr h1 (outX_ok h2 hok) kcs φ a w hsr hr
  · rintro ks' s' ⟨s2, p, g1, g2, g3⟩ kcs' φ' a' w' hsr' hr'
    obtain ⟨hf, hk⟩ := hH ks' s2 g3
    obtain ⟨φ2, hr2⟩ := hns _ _ _ _ _ _ _ g1 g2 hr'
    exact hk kcs' φ2 a' w' (fun φ1 ν1 w1 => SR.any hf hsr') hr2
  · rintro r s' φ' v w' ⟨s2, p, g1, g2, g3⟩ hv hw'
    exact hG r s2 _ v w' g3 ⟨_, _, hv⟩ (nrmW_ok g1 g2 hψ hw')
section
variable {w : World}
theorem two_zero {w' : World} {kk : Rf.Kind} {t u : Wt} {m k1 k2 : Nat} {ys : List Value} (hB : PartB w' m (kdK kk) ys nilS' (ptrB k1) (ptrB k2)) (hH : Hold true w' [0, 0] ys) (ht : PartAt w' t (ptrB k1)) (hu : PartAt w' u (ptrB k2)) : PartAt w' (.two kk t u) (ptrB m) :=
  ⟨m, ys, [0, 0], nilS', ptrB k1, ptrB k2, rfl, hB, hH, rfl, fun z hz => zeros1 z (by simp at hz; simp [hz]), rfl, ht, hu⟩
theorem oper_run {s0 : AS} {kd : Int} {k1 k2 : Nat} {tr : Tr} (hs : s0.tmps = [inV kd, q1V, q2V].map .val ++ List.replicate (Tryz.f106.ntmps - 3) .und) (hr : RepW Z w (phQ k1 k2) (phQ k1 k2) s0 w) (ht : goP Tryz.f106 s0 = some tr) (G : AT → AS → Prop) (hok : tr.ok G fun _ _ => False) {R : Ending → World → Prop} (hG : ∀ r s φ v w', G r s → relT Z φ s.nums w' r v → RepW Z w (phQ k1 k2) φ s w' → R (.returned v) w') : Calls Tryz.prog 106 #[.int .i64 kd, ptrB k1, ptrB k2] w R :=
  ext_run (s := s0) (vs := [inV kd, q1V, q2V]) (args := [.int .i64 kd, ptrB k1, ptrB k2]) (fn_of Tryz.func106 rfl rfl) (tabSp_ok tP_ok) bP_ok hs ⟨rfl, ⟨k1, 0, rfl, rfl⟩, ⟨k2, 0, rfl, rfl⟩, trivial⟩ hr ht G hok hG
theorem oper_two {s0 : AS} {kk : Rf.Kind} {k1 k2 : Nat} {t u : Wt} (hs : s0.tmps = [inV (kdK kk), q1V, q2V].map .val ++ List.replicate (Tryz.f106.ntmps - 3) .und) (hr : RepW Z w (phQ k1 k2) (phQ k1 k2) s0 w) (ht : goP Tryz.f106 s0 = some (.ret (tupE (.ptr 3 0) 0) (lP Tryz.f106 s0 [])) ∧ IsPt (lP Tryz.f106 s0 []) 3 (kdK kk) [0, 0] (.ptr 1 0) (.ptr 2 0) ∧ clean (lP Tryz.f106 s0 []) = true) (hW : opW kk t u = some (.two kk t u)) (hp : PartAt w t (ptrB k1)) (hu : PartAt w u (ptrB k2)) : Calls Tryz.prog 106 #[.int .i64 (kdK kk), ptrB k1, ptrB k2] w (Told2 w (opW kk t u)) := by
  obtain ⟨t1, t2, t3⟩ := ht
  refine oper_run hs hr t1 (fun r s => r = tupE (.ptr 3 0) 0 ∧ IsPt s 3 (kdK kk) [0, 0] (.ptr 1 0) (.ptr 2 0) ∧ clean s = true) ⟨rfl, t2, t3⟩ ?_
  rintro r s φ v w' ⟨rfl, hI, hc⟩ hrel hw
  have hch : Chg w w' [] := Chg.of_below (RepF.below hw hc)
  obtain ⟨m, ys, j1, j2, j3⟩ := hI.at hw (ptr_v (hw.base 1 (k1, 0) rfl)) (ptr_v (hw.base 2 (k2, 0) rfl))
  exact .yes (v := ptrB m) hW hch (by rw [tup_val hrel (ptr_v j1)]) (two_zero j2 j3 (PartAt.keep hch.on t _ hp) (PartAt.keep hch.on u _ hu))
theorem phQ_kb {k k2 : Nat} : ∀ b x, phQ k k2 b = some x → [1, 2].contains b = true := by
  intro b x e
  match b, e with
  | 0, e => cases e
  | 1, _ => rfl
  | 2, _ => rfl
  | b + 3, e => cases e
set_option maxRecDepth 100000 in
theorem operation_ok (kk : Rf.Kind) {t u : Wt} {v v2 : Value} (hok : t.Ok) (hp : PartAt w t v) (hok2 : u.Ok) (hu : PartAt w u v2) : Calls Tryz.prog 106 #[.int .i64 (kdK kk), v, v2] w (Told2 w (opW kk t u)) := by
  obtain ⟨k1, rfl, ⟨p, q, rfl, xs, tv, lv, rv, hB, hH, bp, bq, hq⟩ | ⟨hn, kd', hkd', zs, hblk⟩⟩ := part_cases hok hp
  · obtain ⟨k2, rfl, ⟨a, b, rfl, xs2, tv2, lv2, rv2, hB2, hH2, ba, bb, hb⟩ | ⟨hn2, kd2, hkd2, zs2, hblk2⟩⟩ := part_cases hok2 hu
    · have hrep : ∀ tm, RepW Z w (phQ k1 k2) (phQ k1 k2) (opS2 p q a b tm) w := fun tm => rep_2 ⟨rfl, rfl, rfl⟩ ⟨rfl, rfl, rfl⟩ (cs := .int .i64 1 :: xs) (ys := [tv, lv, rv]) hB (fr_cs hH bp bq rfl rfl) (cs2 := .int .i64 1 :: xs2) (ys2 := [tv2, lv2, rv2]) hB2 (fr_cs hH2 ba bb rfl rfl)
      have fin : ¬ (kk = .div ∧ a = 0) → ∀ (kcs : List (K Act)) (φ' : Nat → Option (Nat × Nat)) (a' : Act) (w' : World), (∀ φ1 ν1 w1, SR Z φ1 ν1 w1 (.code (.region rO.1 rO.2.1 true) :: rO.2.2) kcs) → Rep Z w (phQ k1 k2) φ' (opS2 p q a b (oSl (kdK kk))) a' w' → sem Z.P (Told2 w (opW kk (.fr p q) (.fr a b))) kcs .normal a' w' := by
        intro hna kcs φ1 a1 w1 hsr1 hr1
        have hW : opW kk (.fr p q) (.fr a b) = some (.fr (lowTo kk p q a b) (lowBo kk p q a b)) := if_neg hna
        obtain ⟨bb, bj, bd⟩ := bar_O
        match kcs, hsr1 φ1 [] w1 with
        | .code cc :: kcs', ⟨hcc, hsr2⟩ =>
        subst hcc
        show (Code.region rO.1 rO.2.1 true).wp Z.P _ a1 w1
        refine draw_bar mixed (tabSp_ok tP_ok) bj bb (dO_t p q a b (kdK kk)) (holds1 (gcd_pos_of (woD_ne hq hb hna))) hr1 ?_
        intro φ2 a2 w2 hr2
        rw [bd]
        show sem Z.P _ (.ops rO.2.1 [10, 11, 12] :: kcs') .normal a2 w2
        obtain ⟨t1, t2, t3⟩ := zO_t p q a b kk
        refine run_ok (tabSp_ok tP_ok) bP_ok (drawA_ok mixed (tabSp_ok tP_ok)) (fun r s => r = tupE (.ptr 14 0) 0 ∧ IsPt s 14 1 [lowTo kk p q a b, lowBo kk p q a b] (.lit nilP) (.lit nilP) ∧ clean s = true) (fun _ _ => False) (fun _ _ h => h.elim) ?_ _ _ _ _ t1 ⟨rfl, t2, t3⟩ _ _ a2 w2 ⟨rfl, rfl, SR.any frO hsr2⟩ hr2
        rintro r s φ v w' ⟨rfl, hI, hc⟩ hrel hw
        have hch : Chg w w' [] := Chg.of_below (RepF.below hw hc)
        obtain ⟨m, ys, j1, j2, j3⟩ := hI.at hw lit_val lit_val
        exact .yes (v := ptrB m) hW hch (by rw [tup_val hrel (ptr_v j1)]) (pt_fr j2 j3)
      refine calls_x (fn_of Tryz.func106 rfl rfl) (φ := phQ k1 k2) (vs := [inV (kdK kk), q1V, q2V]) (args := [.int .i64 (kdK kk), ptrB k1, ptrB k2]) (s := opFF (kdK kk) p q a b) (by kernel_rfl) ⟨rfl, ⟨k1, 0, rfl, rfl⟩, ⟨k2, 0, rfl, rfl⟩, trivial⟩ (hrep _) ?_
      by_cases hd : kk = .div
      · subst hd
        refine xrunT (tabSp_ok tP_ok) bP_ok phQ_kb (nrm_R phQ_kb) (oFFd_t p q a b) (fun r s => a = 0 ∧ r = tupE (.lit nilP) 5 ∧ s.dirty = []) (fun ks s => a ≠ 0 ∧ ks = .code (.region rO.1 rO.2.1 true) :: rO.2.2 ∧ s = opS2 p q a b (oSl 9)) ?_ ?_ ?_
        · rw [cmp0]
          exact ⟨fun e => ⟨by simpa using e, rfl, rfl⟩, fun e => ⟨by simpa using e, rfl, rfl⟩⟩
        · rintro r s φ v w' ⟨h0, rfl, hd⟩ ⟨φ0, ν0, hrel⟩ hw
          exact .no (show (if _ then none else _) = none from if_pos ⟨rfl, h0⟩) (rep_chg0 hw hd) (by rw [tup_val hrel lit_val])
        · rintro ks s ⟨h0, rfl, rfl⟩
          exact ⟨by simpa [noFr] using frO, fin fun e => h0 e.2⟩
      · refine xrun' (tabSp_ok tP_ok) bP_ok phQ_kb (nrm_R phQ_kb) (oFF_t p q a b hd) (fun _ _ => False) (fun ks s => ks = .code (.region rO.1 rO.2.1 true) :: rO.2.2 ∧ s = opS2 p q a b (oSl (kdK kk))) ⟨rfl, rfl⟩ (fun _ _ _ _ _ h => h.elim) ?_
        rintro ks s ⟨rfl, rfl⟩
        exact ⟨by simpa [noFr] using frO, fin fun e => hd e.1⟩
    · have hrep : RepW Z w (phQ k1 k2) (phQ k1 k2) (opFK (kdK kk) p q kd2) w := rep_2 ⟨rfl, rfl, rfl⟩ ⟨rfl, rfl, rfl⟩ (cs := .int .i64 1 :: xs) (ys := [tv, lv, rv]) hB (fr_cs hH bp bq rfl rfl) (cs2 := [.int .i64 kd2]) (ys2 := zs2) hblk2 ⟨rfl, trivial⟩
      refine oper_two (by kernel_rfl) hrep (oFK_t p q kk hkd2) ?_ hp hu
      cases u with
      | fr p q => exact absurd rfl (hn2 p q)
      | _ => rfl
  · obtain ⟨k2, rfl, ⟨a, b, rfl, xs2, tv2, lv2, rv2, hB2, hH2, ba, bb, hb⟩ | ⟨hn2, kd2, hkd2, zs2, hblk2⟩⟩ := part_cases hok2 hu
    · have hrep : RepW Z w (phQ k1 k2) (phQ k1 k2) (opKF (kdK kk) kd' a b) w := rep_2 ⟨rfl, rfl, rfl⟩ ⟨rfl, rfl, rfl⟩ (cs := [.int .i64 kd']) (ys := zs) hblk ⟨rfl, trivial⟩ (cs2 := .int .i64 1 :: xs2) (ys2 := [tv2, lv2, rv2]) hB2 (fr_cs hH2 ba bb rfl rfl)
      have hW0 : opW kk t (.fr a b) = if kk = .div ∧ a = 0 then none else some (.two kk t (.fr a b)) := by
        cases t with
        | fr p q => exact absurd rfl (hn p q)
        | _ => rfl
      by_cases hd : kk = .div
      · subst hd
        obtain ⟨t1, t2, t3, t4⟩ := oKFd_t a b hkd'
        refine oper_run (by kernel_rfl) hrep t1 (fun r s => clean s = true ∧ ((a = 0 ∧ r = tupE (.lit nilP) 5) ∨ (a ≠ 0 ∧ r = tupE (.ptr 3 0) 0 ∧ IsPt s 3 9 [0, 0] (.ptr 1 0) (.ptr 2 0)))) ?_ ?_
        · rw [cmp0]
          refine ⟨fun e => ⟨t2, Or.inl ⟨by simpa using e, rfl⟩⟩, fun e => ⟨t4, Or.inr ⟨by simpa using e, rfl, t3⟩⟩⟩
        · rintro r s φ v w' ⟨hc, h⟩ hrel hw
          have hch : Chg w w' [] := Chg.of_below (RepF.below hw hc)
          rcases h with ⟨h, rfl⟩ | ⟨h, rfl, hI⟩
          · exact .no (by rw [hW0, if_pos ⟨rfl, h⟩]) hch (by rw [tup_val hrel lit_val])
          · obtain ⟨m, ys, j1, j2, j3⟩ := hI.at hw (ptr_v (hw.base 1 (k1, 0) rfl)) (ptr_v (hw.base 2 (k2, 0) rfl))
            exact .yes (v := ptrB m) (by rw [hW0, if_neg (fun e => h e.2)]) hch (by rw [tup_val hrel (ptr_v j1)]) (two_zero (kk := .div) j2 j3 (PartAt.keep hch.on t _ hp) (PartAt.keep hch.on _ _ hu))
      · exact oper_two (by kernel_rfl) hrep (oKF_t a b hd hkd') (by rw [hW0, if_neg (fun e => hd e.1)]) hp hu
    · have hrep : RepW Z w (phQ k1 k2) (phQ k1 k2) (opKK (kdK kk) kd' kd2) w := rep_2 ⟨rfl, rfl, rfl⟩ ⟨rfl, rfl, rfl⟩ (cs := [.int .i64 kd']) (ys := zs) hblk ⟨rfl, trivial⟩ (cs2 := [.int .i64 kd2]) (ys2 := zs2) hblk2 ⟨rfl, trivial⟩
      have hW0 : opW kk t u = some (.two kk t u) := by
        cases u with
        | fr p q => exact absurd rfl (hn2 p q)
        | _ => cases t <;> rfl
      by_cases hd : kk = .div
      · subst hd
        exact oper_two (by kernel_rfl) hrep (oKKd_t hkd' hkd2) hW0 hp hu
      · exact oper_two (by kernel_rfl) hrep (oKK_t hd kd2 hkd') hW0 hp hu
end
end Ab
end Go.Proofs.YteghhlfmcjmnoaaGreatDoor
