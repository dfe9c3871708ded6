import Derived.Test.YteghhlfmcjmnoaaGreatDoorOq
set_option linter.unusedSimpArgs false
set_option linter.unusedVariables false
namespace Go.Proofs.YteghhlfmcjmnoaaGreatDoor
open Go.RowKit
namespace Ab
open Rf (Nd Inv NInv)
def bxc (s : AS) (b : Nat) : List AC := match look s.boxes b with | some B => B.cs | none => []
def colc (s : AS) (b : Nat) : List AC := ((bxc s b).drop 1).take 16
structure IsNd (s : AS) (b : Nat) (zs : List Int) (cv lp rp nv : AC) : Prop where
  look : look s.boxes b = some ⟨.bool false :: colc s b ++ [cv, .int .i64 0, lp, .int .i64 0, rp, .int .i64 0, .lit nilS', .int .i64 0, nv, .int .i64 0], 205, true, false, false⟩
  len : (colc s b).length = 16
  num : numOf s.nums (colc s b) = some zs
structure IsNs (s : AS) (b : Nat) (kd : Int) (fst fur : AC) (zs : List Int) : Prop where
  look : look s.boxes b = some ⟨.int .i64 kd :: fst :: fur :: (bxc s b).drop 3, 273, true, false, false⟩
  num : numOf s.nums ((bxc s b).drop 3) = some zs
structure IsCn (s : AS) (b : Nat) (kd : Int) (zs : List Int) : Prop where
  look : look s.boxes b = some ⟨.int .i64 kd :: .lit nilS' :: (bxc s b).drop 2, 224, true, false, false⟩
  num : numOf s.nums ((bxc s b).drop 2) = some zs
section
variable (p q : Int)
set_option maxRecDepth 100000 in
theorem c10_24 : IsNd (lS 10 p q []) 24 [0, 0, nearB (lowT p q) (lowB p q), 0, nearA (lowT p q) (lowB p q), nearB (lowT p q) (lowB p q), 0, nearA (lowT p q) (lowB p q)] (.lit nilP) (.ptr 2 0) (.lit nilP) (.ptr 22 0) := ⟨by kernel_rfl, by kernel_rfl, by kernel_rfl⟩
set_option maxRecDepth 100000 in
theorem c10_22 : IsNs (lS 10 p q []) 22 10 (.ptr 2 0) (.ptr 2 0) [0, 0, nearB (lowT p q) (lowB p q), 0, nearA (lowT p q) (lowB p q), nearB (lowT p q) (lowB p q), 0, nearA (lowT p q) (lowB p q)] := ⟨by kernel_rfl, by kernel_rfl⟩
set_option maxRecDepth 100000 in
theorem c10_cl : clean (lS 10 p q []) = true := by kernel_rfl
set_option maxRecDepth 100000 in
theorem b12_42 : IsNd (lS 12 p q [false, false]) 42 [0, 0, 1, 0, 1, 0, 0, 1] (.lit nilP) (.ptr 16 0) (.ptr 20 0) (.lit nilP) := ⟨by kernel_rfl, by kernel_rfl, by kernel_rfl⟩
set_option maxRecDepth 100000 in
theorem b12_20 : IsNd (lS 12 p q [false, false]) 20 (nsC 12 0) (.lit nilP) (.ptr 17 0) (.lit nilP) (.ptr 18 0) := ⟨by kernel_rfl, by kernel_rfl, by kernel_rfl⟩
set_option maxRecDepth 100000 in
theorem b12_18 : IsNs (lS 12 p q [false, false]) 18 12 (.ptr 17 0) (.ptr 17 0) [0, 0, 0, 0, 0, 0, 0, 0] := ⟨by kernel_rfl, by kernel_rfl⟩
set_option maxRecDepth 100000 in
theorem b12_17 : IsNd (lS 12 p q [false, false]) 17 [lowB p q, 0, -lowT p q, lowT p q + lowB p q, 0, 0, 0, 0] (.lit nilP) (.lit nilP) (.ptr 2 0) (.lit nilP) := ⟨by kernel_rfl, by kernel_rfl, by kernel_rfl⟩
set_option maxRecDepth 100000 in
theorem b12_16 : IsNd (lS 12 p q [false, false]) 16 [1, 0, 0, 1, 0, 0, 0, 0] (.ptr 13 0) (.lit nilP) (.lit nilP) (.lit nilP) := ⟨by kernel_rfl, by kernel_rfl, by kernel_rfl⟩
set_option maxRecDepth 100000 in
theorem b12_13 : IsCn (lS 12 p q [false, false]) 13 12 [lowT p q, lowB p q, lowT ((lowT p q) * lowT p q) ((lowB p q) * lowB p q), lowB ((lowT p q) * lowT p q) ((lowB p q) * lowB p q), 0, 0, 0, 0] := ⟨by kernel_rfl, by kernel_rfl⟩
set_option maxRecDepth 100000 in
theorem b12_cl : clean (lS 12 p q [false, false]) = true := by kernel_rfl
set_option maxRecDepth 100000 in
theorem b13_65 : IsNd (lS 13 p q [false, true]) 65 [0, 0, 1, 0, 1, 0, 0, 1] (.lit nilP) (.ptr 16 0) (.ptr 43 0) (.lit nilP) := ⟨by kernel_rfl, by kernel_rfl, by kernel_rfl⟩
set_option maxRecDepth 100000 in
theorem b13_43 : IsNd (lS 13 p q [false, true]) 43 (nsC 13 0) (.lit nilP) (.ptr 17 0) (.lit nilP) (.ptr 18 0) := ⟨by kernel_rfl, by kernel_rfl, by kernel_rfl⟩
set_option maxRecDepth 100000 in
theorem b13_40 : IsNd (lS 13 p q [false, true]) 40 [1, 0, 0, 0, 0, 0, 0, 1] (.lit nilP) (.ptr 17 0) (.ptr 17 0) (.lit nilP) := ⟨by kernel_rfl, by kernel_rfl, by kernel_rfl⟩
set_option maxRecDepth 100000 in
theorem b13_18 : IsNs (lS 13 p q [false, true]) 18 13 (.ptr 17 0) (.ptr 40 0) [0, 0, 0, 0, 0, 0, 0, 0] := ⟨by kernel_rfl, by kernel_rfl⟩
set_option maxRecDepth 100000 in
theorem b13_17 : IsNd (lS 13 p q [false, true]) 17 [lowB p q, lowT p q, -lowT p q, lowB p q, 0, 0, 0, 0] (.lit nilP) (.lit nilP) (.ptr 2 0) (.lit nilP) := ⟨by kernel_rfl, by kernel_rfl, by kernel_rfl⟩
set_option maxRecDepth 100000 in
theorem b13_16 : IsNd (lS 13 p q [false, true]) 16 [1, 0, 0, 1, 0, 0, 0, 0] (.ptr 13 0) (.lit nilP) (.lit nilP) (.lit nilP) := ⟨by kernel_rfl, by kernel_rfl, by kernel_rfl⟩
set_option maxRecDepth 100000 in
theorem b13_13 : IsCn (lS 13 p q [false, true]) 13 13 [lowT p q, lowB p q, lowT ((lowT p q) * lowT p q) ((lowB p q) * lowB p q), lowB ((lowT p q) * lowT p q) ((lowB p q) * lowB p q), 0, 0, 0, 0] := ⟨by kernel_rfl, by kernel_rfl⟩
set_option maxRecDepth 100000 in
theorem b13_cl : clean (lS 13 p q [false, true]) = true := by kernel_rfl
set_option maxRecDepth 100000 in
theorem b11_67 : IsNd (lS 11 p q [false, true]) 67 [1, 0, 0, 0, 0, 0, 0, 1] (.lit nilP) (.ptr 17 0) (.ptr 45 0) (.lit nilP) := ⟨by kernel_rfl, by kernel_rfl, by kernel_rfl⟩
set_option maxRecDepth 100000 in
theorem b11_45 : IsNd (lS 11 p q [false, true]) 45 [1, -1, 1, 1, 0, 0, 0, 0] (.lit nilP) (.lit nilP) (.ptr 44 0) (.lit nilP) := ⟨by kernel_rfl, by kernel_rfl, by kernel_rfl⟩
set_option maxRecDepth 100000 in
theorem b11_44 : IsNd (lS 11 p q [false, true]) 44 (nsC 11 0) (.lit nilP) (.ptr 18 0) (.lit nilP) (.ptr 19 0) := ⟨by kernel_rfl, by kernel_rfl, by kernel_rfl⟩
set_option maxRecDepth 100000 in
theorem b11_41 : IsNd (lS 11 p q [false, true]) 41 [1, 0, 0, 0, 0, 0, 0, 1] (.lit nilP) (.ptr 18 0) (.ptr 18 0) (.lit nilP) := ⟨by kernel_rfl, by kernel_rfl, by kernel_rfl⟩
set_option maxRecDepth 100000 in
theorem b11_19 : IsNs (lS 11 p q [false, true]) 19 11 (.ptr 18 0) (.ptr 41 0) [0, 0, 0, 0, 0, 0, 0, 0] := ⟨by kernel_rfl, by kernel_rfl⟩
set_option maxRecDepth 100000 in
theorem b11_18 : IsNd (lS 11 p q [false, true]) 18 [lowB p q, 0, -lowT p q, lowB p q, 0, 0, 0, 0] (.lit nilP) (.lit nilP) (.ptr 2 0) (.lit nilP) := ⟨by kernel_rfl, by kernel_rfl, by kernel_rfl⟩
set_option maxRecDepth 100000 in
theorem b11_17 : IsNd (lS 11 p q [false, true]) 17 [1, -1, 1, 1, 0, 0, 0, 0] (.lit nilP) (.lit nilP) (.ptr 16 0) (.lit nilP) := ⟨by kernel_rfl, by kernel_rfl, by kernel_rfl⟩
set_option maxRecDepth 100000 in
theorem b11_16 : IsNd (lS 11 p q [false, true]) 16 [1, 0, 0, 1, 0, 0, 0, 0] (.ptr 13 0) (.lit nilP) (.lit nilP) (.lit nilP) := ⟨by kernel_rfl, by kernel_rfl, by kernel_rfl⟩
set_option maxRecDepth 100000 in
theorem b11_13 : IsCn (lS 11 p q [false, true]) 13 11 [lowT p q, lowB p q, lowT ((lowT p q) * lowT p q) ((lowB p q) * lowB p q), lowB ((lowT p q) * lowT p q) ((lowB p q) * lowB p q), 0, 0, 0, 0] := ⟨by kernel_rfl, by kernel_rfl⟩
set_option maxRecDepth 100000 in
theorem b11_cl : clean (lS 11 p q [false, true]) = true := by kernel_rfl
set_option maxRecDepth 100000 in
theorem a12_9 : IsNd (lS 12 p q [true, false]) 9 [1, 0, 0, 1, 0, 0, 0, 0] (.lit nilP) (.lit nilP) (.ptr 8 0) (.lit nilP) := ⟨by kernel_rfl, by kernel_rfl, by kernel_rfl⟩
set_option maxRecDepth 100000 in
theorem a12_8 : IsNd (lS 12 p q [true, false]) 8 (nsC 12 0) (.lit nilP) (.ptr 2 0) (.lit nilP) (.ptr 6 0) := ⟨by kernel_rfl, by kernel_rfl, by kernel_rfl⟩
set_option maxRecDepth 100000 in
theorem a12_6 : IsNs (lS 12 p q [true, false]) 6 12 (.ptr 2 0) (.ptr 2 0) [0, 0, 0, 0, 0, 0, 0, 0] := ⟨by kernel_rfl, by kernel_rfl⟩
set_option maxRecDepth 100000 in
theorem a12_cl : clean (lS 12 p q [true, false]) = true := by kernel_rfl
set_option maxRecDepth 100000 in
theorem a13_32 : IsNd (lS 13 p q [true, true]) 32 [1, 0, 0, 1, 0, 0, 0, 0] (.lit nilP) (.lit nilP) (.ptr 31 0) (.lit nilP) := ⟨by kernel_rfl, by kernel_rfl, by kernel_rfl⟩
set_option maxRecDepth 100000 in
theorem a13_31 : IsNd (lS 13 p q [true, true]) 31 (nsC 13 0) (.lit nilP) (.ptr 2 0) (.lit nilP) (.ptr 6 0) := ⟨by kernel_rfl, by kernel_rfl, by kernel_rfl⟩
set_option maxRecDepth 100000 in
theorem a13_28 : IsNd (lS 13 p q [true, true]) 28 [1, 0, 0, 0, 0, 0, 0, 1] (.lit nilP) (.ptr 2 0) (.ptr 2 0) (.lit nilP) := ⟨by kernel_rfl, by kernel_rfl, by kernel_rfl⟩
set_option maxRecDepth 100000 in
theorem a13_6 : IsNs (lS 13 p q [true, true]) 6 13 (.ptr 2 0) (.ptr 28 0) [0, 0, 0, 0, 0, 0, 0, 0] := ⟨by kernel_rfl, by kernel_rfl⟩
set_option maxRecDepth 100000 in
theorem a13_cl : clean (lS 13 p q [true, true]) = true := by kernel_rfl
set_option maxRecDepth 100000 in
theorem a11_33 : IsNd (lS 11 p q [true, true]) 33 [1, 0, 0, 1, 0, 0, 0, 0] (.lit nilP) (.lit nilP) (.ptr 32 0) (.lit nilP) := ⟨by kernel_rfl, by kernel_rfl, by kernel_rfl⟩
set_option maxRecDepth 100000 in
theorem a11_32 : IsNd (lS 11 p q [true, true]) 32 [1, -1, 1, 1, 0, 0, 0, 0] (.lit nilP) (.lit nilP) (.ptr 31 0) (.lit nilP) := ⟨by kernel_rfl, by kernel_rfl, by kernel_rfl⟩
set_option maxRecDepth 100000 in
theorem a11_31 : IsNd (lS 11 p q [true, true]) 31 (nsC 11 0) (.lit nilP) (.ptr 2 0) (.lit nilP) (.ptr 6 0) := ⟨by kernel_rfl, by kernel_rfl, by kernel_rfl⟩
set_option maxRecDepth 100000 in
theorem a11_28 : IsNd (lS 11 p q [true, true]) 28 [1, 0, 0, 0, 0, 0, 0, 1] (.lit nilP) (.ptr 2 0) (.ptr 2 0) (.lit nilP) := ⟨by kernel_rfl, by kernel_rfl, by kernel_rfl⟩
set_option maxRecDepth 100000 in
theorem a11_6 : IsNs (lS 11 p q [true, true]) 6 11 (.ptr 2 0) (.ptr 28 0) [0, 0, 0, 0, 0, 0, 0, 0] := ⟨by kernel_rfl, by kernel_rfl⟩
set_option maxRecDepth 100000 in
theorem a11_cl : clean (lS 11 p q [true, true]) = true := by kernel_rfl
end
end Ab
end Go.Proofs.YteghhlfmcjmnoaaGreatDoor
set_option linter.unusedSimpArgs false
set_option linter.unusedVariables false
namespace Go.Proofs.YteghhlfmcjmnoaaGreatDoor
open Go.RowKit
namespace Ab
open Rf (Nd Inv NInv)
section
variable {w0 w : World} {ψ φ : Nat → Option (Nat × Nat)} {s : AS}
theorem lit_val {ν : List (Int × Nat)} {v : Value} : ∀ x, relC Z φ ν w (.lit v) x → x = v := fun x h => h.1
theorem ptr_v {ν : List (Int × Nat)} {b m : Nat} (h : φ b = some (m, 0)) : ∀ x, relC Z φ ν w (.ptr b 0) x → x = ptrB m := fun x hx => ptr_val (ν := ν) (w := w) h hx
theorem IsNd.at {b : Nat} {zs : List Int} {cv lp rp nv : AC} {cvv lpv rpv nvv : Value} (h : IsNd s b zs cv lp rp nv) (hw : RepW Z w0 ψ φ s w) {m : Nat} (hm : φ b = some (m, 0)) (e1 : ∀ x, relC Z φ s.nums w cv x → x = cvv) (e2 : ∀ x, relC Z φ s.nums w lp x → x = lpv) (e3 : ∀ x, relC Z φ s.nums w rp x → x = rpv) (e4 : ∀ x, relC Z φ s.nums w nv x → x = nvv) :
    ∃ ys : List Value, w0.heap.size ≤ m ∧ w.heap[m]? = some (.cells ys.toArray 205 (0, 0)) ∧ ys.length = 27 ∧ (∀ y ∈ ys, One y) ∧ NodeAt w m zs false 0 0 0 0 0 lpv rpv nilS' cvv nvv := by
  obtain ⟨m', ys, k1, k2, k3, k4⟩ := own_blk hw h.look rfl rfl
  rw [hm] at k1
  cases k1
  have hl := k3.len
  refine ⟨ys, k4, k2, ?_, all_ones k3, node_at' k3 k2 h.len h.num (fun x hx => hx) e1 (fun x hx => hx) e2 (fun x hx => hx) e3 (fun x hx => hx) lit_val (fun x hx => hx) e4 (fun x hx => hx)⟩
  simp [h.len] at hl
  omega
theorem IsNs.at {b : Nat} {kd : Int} {zs : List Int} {fst fur : AC} {fv uv : Value} (h : IsNs s b kd fst fur zs) (hw : RepW Z w0 ψ φ s w) {m : Nat} (hm : φ b = some (m, 0)) (e1 : ∀ x, relC Z φ s.nums w fst x → x = fv) (e2 : ∀ x, relC Z φ s.nums w fur x → x = uv) :
    ∃ xs : List Value, w0.heap.size ≤ m ∧ w.heap[m]? = some (.cells (.int .i64 kd :: fv :: uv :: xs).toArray 273 (0, 0)) ∧ Hold true w zs xs := by
  obtain ⟨m', ys, k1, k2, k3, k4⟩ := own_blk hw h.look rfl rfl
  rw [hm] at k1
  cases k1
  match ys, k3 with
  | y1 :: y2 :: y3 :: ys, ⟨g1, g2, g3, g4⟩ =>
  have g1 : y1 = .int .i64 kd := g1
  rw [g1, e1 y2 g2, e2 y3 g3] at k2
  exact ⟨ys, k4, k2, numOf_ok _ _ _ h.num g4⟩
theorem IsCn.at {b : Nat} {kd : Int} {zs : List Int} (h : IsCn s b kd zs) (hw : RepW Z w0 ψ φ s w) {m : Nat} (hm : φ b = some (m, 0)) :
    ∃ xs : List Value, w0.heap.size ≤ m ∧ w.heap[m]? = some (.cells (.int .i64 kd :: nilS' :: xs).toArray 224 (0, 0)) ∧ Hold true w zs xs := by
  obtain ⟨m', ys, k1, k2, k3, k4⟩ := own_blk hw h.look rfl rfl
  rw [hm] at k1
  cases k1
  match ys, k3 with
  | y1 :: y2 :: ys, ⟨g1, g2, g4⟩ =>
  have g1 : y1 = .int .i64 kd := g1
  rw [g1, show y2 = nilS' from g2.1] at k2
  exact ⟨ys, k4, k2, numOf_ok _ _ _ h.num g4⟩
theorem own_phi {b : Nat} {B : Box} (hw : RepW Z w0 ψ φ s w) (hB : look s.boxes b = some B) (ho : B.own = true) (hr : B.ro = false) : ∃ m, φ b = some (m, 0) := by
  obtain ⟨m, _, h, _⟩ := own_blk hw hB ho hr
  exact ⟨m, h⟩
theorem own_ne {b b' m m' : Nat} {B B' : Box} (hw : RepW Z w0 ψ φ s w) (hB : look s.boxes b = some B) (hr : B.ro = false) (hB' : look s.boxes b' = some B') (h1 : φ b = some (m, 0)) (h2 : φ b' = some (m', 0)) (hne : b ≠ b') : m ≠ m' := by
  rintro rfl
  rcases hw.inj b b' B B' m 0 0 hB hB' h1 h2 with e | ⟨e, _⟩
  · exact hne e
  · rw [hr] at e; cases e
end
theorem settled_run {w : World} {xk : Nat} {kd p q : Int} {xs : List Value} (hx : ∃ ys : List Value, w.heap[xk]? = some (.cells (.bool false :: ys).toArray 205 (0, 0))) (hh : Hold true w [p, q] xs) (hb : ∀ z ∈ [p, q], Bits 1 z) {tr : Tr} (ht : tT kd p q = some tr) (G : AT → AS → Prop) (hok : tr.ok G fun _ _ => False) {R : Ending → World → Prop}
    (hG : ∀ r s φ v w', G r s → relT Z φ s.nums w' r v → RepW Z w (ph1 2 xk) φ s w' → R (.returned v) w') : Calls Tryz.prog 236 #[.int .i64 kd, ptrB xk, .agg xs.toArray] w R := by
  obtain ⟨ys, hys⟩ := hx
  have hrep : RepW Z w (ph1 2 xk) (ph1 2 xk) (stS kd p q) w := by
    refine rep_ext rfl ?_ ?_ ?_
    · intro b B hB
      have := look_mem hB
      simp [stS] at this
      obtain ⟨rfl, rfl⟩ := this
      exact ⟨rfl, rfl, rfl, xk, 0, rfl, [], [.bool false], ys, hys, rfl, rfl, trivial⟩
    · intro b hb
      have : 3 ≤ b := hb
      unfold ph1
      rw [if_neg (by omega)]
    · intro b k' o hb'
      unfold ph1 at hb'
      split at hb'
      · cases hb'; exact lt_of_heap hys
      · cases hb'
  refine ext_run (vs := [.one (.int .i64 kd), .one (.ptr 2 0), .agg (numCs true 0 2)]) (args := [.int .i64 kd, ptrB xk, .agg xs.toArray]) (fn_of Tryz.func236 rfl rfl) (tabSp_ok tS_ok) bT_ok (by kernel_rfl) ⟨rfl, ⟨xk, 0, rfl, rfl⟩, ⟨xs, rfl, ?_⟩, trivial⟩ hrep ht G hok hG
  exact hold_cs [p, q] xs 0 _ hh hb fun j z hz => by
    match j, hz with
    | 0, hz => cases hz; rfl
    | 1, hz => cases hz; rfl
    | j + 2, hz => simp at hz
theorem low_eq {p q : Int} (hp : 0 ≤ p) (hq : 0 < q) : ∃ g : Int, 0 < g ∧ gcdZ p q = g ∧ p = g * lowT p q ∧ q = g * lowB p q ∧ 0 ≤ lowT p q ∧ 0 < lowB p q ∧ (lowT p q = 0 ↔ p = 0) := by
  have hg : 0 < gcdZ p q := by
    unfold gcdZ
    have : 0 < Nat.gcd p.natAbs q.natAbs := Nat.gcd_pos_of_pos_right _ (by omega)
    omega
  have e1 : lowT p q = p / gcdZ p q ∧ lowB p q = q / gcdZ p q := by
    unfold lowT lowB
    rw [Nm.cmp_gt hq]
    exact ⟨rfl, rfl⟩
  have d1 : gcdZ p q ∣ p := by
    unfold gcdZ
    exact Int.ofNat_dvd_left.2 (Nat.gcd_dvd_left _ _)
  have d2 : gcdZ p q ∣ q := by
    unfold gcdZ
    exact Int.ofNat_dvd_left.2 (Nat.gcd_dvd_right _ _)
  have m1 : p = gcdZ p q * (p / gcdZ p q) := (Int.mul_ediv_cancel' d1).symm
  have m2 : q = gcdZ p q * (q / gcdZ p q) := (Int.mul_ediv_cancel' d2).symm
  rw [e1.1, e1.2]
  refine ⟨gcdZ p q, hg, rfl, m1, m2, Int.ediv_nonneg hp (by omega), ?_, ?_⟩
  · rcases Int.lt_or_le 0 (q / gcdZ p q) with h | h
    · exact h
    · exfalso
      have := Int.mul_nonpos_of_nonneg_of_nonpos (show (0 : Int) ≤ gcdZ p q by omega) h
      omega
  · constructor
    · intro h
      rw [h] at m1
      simpa using m1
    · intro h
      rw [h]
      simp
theorem cmp_le {a b : Int} : decide (Nm.cmp a b ≤ 0) = decide (a ≤ b) := by
  rcases Int.lt_trichotomy a b with h | h | h
  · rw [Nm.cmp_lt h, decide_eq_true (by decide), decide_eq_true (by omega)]
  · rw [Nm.cmp_eq h, decide_eq_true (by decide), decide_eq_true (by omega)]
  · rw [Nm.cmp_gt h, decide_eq_false (by decide), decide_eq_false (by omega)]
theorem enough_eq {op : Rf.Op} (hop : Rf.fn op) (hp hq lp lq : Int) : enoughZ (kindZ op) hp hq lp lq = Pg.enough op (hp, hq) (lp, lq) := by
  unfold enoughZ Pg.enough
  rcases hop with rfl | rfl | rfl | rfl <;> simp [kindZ, cmp_le]
end Ab
end Go.Proofs.YteghhlfmcjmnoaaGreatDoor
set_option linter.unusedSimpArgs false
set_option linter.unusedVariables false
namespace Go.Proofs.YteghhlfmcjmnoaaGreatDoor
open Go.RowKit
namespace Ab
open Rf (Nd Inv NInv)
structure Probe (w : World) (b0 : Nat) (own : Nat → Option Own) (at1 : Nat → Nat) (s : Rf.St) (rho : Nat → Nat) (i : Nat) (n : Nd) (a : Nat) (x : Nd) (e1 e2 : Rf.V) (p0 q0 p1 q1 p2 q2 p3 q3 mt pl : Int) (gv cv nv : Value) (dd : Int) : Prop where
  t : n.t = [(1, 0), (0, 1)]
  nest : n.nest = false
  args : n.args = [a]
  read : ∃ r, n.read = [r]
  out : n.out = []
  told : n.told = Rf.one
  had : n.had = [Rf.one]
  pos : n.pos = true
  k : n.k = 0
  fn : Rf.fn n.op
  xat : s.nodes[a]? = some x
  xpos : x.pos = true
  rk : rho a < rho i
  ends : Rf.ends s.nodes n 0 = some (e1, e2)
  seen : ∃ l g cc nn, Seen w b0 own at1 s.nodes i n p0 q0 p1 q1 p2 q2 p3 q3 mt pl gv cv nv l g cc nn
  d0 : 0 < dd
  c1 : e1 = Pg.sc dd (p0, q0)
  c2 : e2 = Pg.sc dd (p1, q1)
  lo : 0 ≤ p1
  lo2 : 0 < q1
  bits : ∀ z ∈ [p1, q1], Bits 1 z
  b1 : Rf.VBits 6100 e2
theorem pos_mul_of {d x : Int} (hd : 0 < d) : (0 ≤ d * x ↔ 0 ≤ x) ∧ (0 < d * x ↔ 0 < x) := by
  constructor
  · constructor
    · intro h
      rcases Int.lt_or_le x 0 with h1 | h1
      · have := Int.mul_neg_of_pos_of_neg hd h1; omega
      · exact h1
    · exact fun h => Int.mul_nonneg (by omega) h
  · constructor
    · intro h
      rcases Int.lt_or_le 0 x with h1 | h1
      · exact h1
      · have := Int.mul_nonpos_of_nonneg_of_nonpos (show (0 : Int) ≤ d by omega) h1; omega
    · exact fun h => Int.mul_pos hd h
section
variable {w : World} {b0 fb : Nat} {own : Nat → Option Own} {at1 : Nat → Nat} {i : Nat} {n : Nd} {s : Rf.St} {rho : Nat → Nat} {c : Nat}
theorem probe_pre (h : Net w b0 own at1 fb s) (hI : Inv s.nodes rho c) (hn : s.nodes[i]? = some n) (hp : n.probe = true) : ∃ a x e1 e2 p0 q0 p1 q1 p2 q2 p3 q3 mt pl gv cv nv dd, Probe w b0 own at1 s rho i n a x e1 e2 p0 q0 p1 q1 p2 q2 p3 q3 mt pl gv cv nv dd := by
  have hN := hI.at' i n hn
  obtain ⟨ht, hne⟩ := (h.nd i n hn).prb hp
  have hS : ∃ a', n.args = [a'] ∧ n.pos = true ∧ Rf.fn n.op ∧ n.out = [] ∧ Rf.Pos s.nodes a' ∧ n.k = 0 := by
    cases hN.shp with
    | con ht ha hp' hc => rw [hp] at hp'; cases hp'
    | frac v ht ha hp' hv => rw [hp] at hp'; cases hp'
    | una v w a' ht ha' hp' =>
      obtain ⟨k1, k2, k3, k4, k5, k6⟩ := hp' hp
      exact ⟨a', ha', k1, k2, k3, k4, k6⟩
    | bin a' b v w x y ht ha' hp' => rw [hp] at hp'; cases hp'
    | nest a' v w x y ht ha' hp' hn' ok => rw [hp] at hp'; cases hp'
  obtain ⟨a, ha, hpos, hop, ho, ⟨x, hx1, hx2⟩, hk⟩ := hS
  obtain ⟨r, hr⟩ : ∃ r, n.read = [r] := List.length_eq_one_iff.1 (by rw [hN.len, ha]; rfl)
  have hto := hN.fst ho
  have hhad : n.had = [Rf.one] := by
    have h1 := hN.hadl
    have h2 := hN.had0
    rw [ho] at h1
    obtain ⟨m, hm⟩ := List.length_eq_one_iff.1 h1
    rw [hm] at h2 ⊢
    simp at h2
    rw [h2]
  obtain ⟨m, x', r', g1, g2, g3, g4⟩ := Rf.ends_some hI hN (sd := 0) (a := a) (by rw [ha]; rfl)
  rw [hx1] at g1
  cases g1
  have hNx := hI.at' a x hx1
  have hup : Rf.Up m := (hNx.up hx2).2 m (List.mem_of_getElem? g3)
  have hmb := hNx.hadb r' m g3
  have hr'l : r' ≤ 3000 := by have := hNx.outu; have := hNx.hadl; have := (List.getElem?_eq_some_iff.1 g3).1; omega
  obtain ⟨b1, b2⟩ := Rf.lo_bits hmb hr'l
  obtain ⟨l1, l2, _⟩ := Rf.lo_up hup
  obtain ⟨p0, q0, p1, q1, p2, q2, p3, q3, mt, pl, gv, cv, nv, l, g, cc, nn, hs⟩ := h.seen hI hn
  have hcor : Rf.corners s.nodes n = some [Rf.vat m (1, 0), Rf.vat m (0, 1)] := by
    unfold Rf.corners
    rw [Pg.bare_two ht, g4, hto, Option.map_some, Option.map_some, Pg.map_one]
    have e : (⟨((1, 0) : Rf.V).1, ((0, 1) : Rf.V).1, ((1, 0) : Rf.V).2, ((0, 1) : Rf.V).2⟩ : Mt) = Rf.one := rfl
    rw [e]
    simp only [Pg.vat_one]
  have hcof := hs.cof
  have hl := hs.cor
  rw [hcor] at hl
  cases hl
  obtain ⟨dd, hd, c1, c2, _, _⟩ := hcof.of2
  have hq : 0 ≤ p1 ∧ 0 < q1 := by
    rw [c2] at l1 l2
    exact ⟨(pos_mul_of hd).1.1 l1, (pos_mul_of hd).2.1 l2⟩
  have hb : ∀ z ∈ [p1, q1], Bits 1 z := by
    rw [c2] at b1 b2
    intro z hz
    simp at hz
    rcases hz with rfl | rfl
    · exact bits_up (N := 6100) (by decide) (Nat.lt_of_le_of_lt (Pg.abs_sc hd _) b1)
    · exact bits_up (N := 6100) (by decide) (Nat.lt_of_le_of_lt (Pg.abs_sc hd _) b2)
  exact ⟨a, x, _, _, p0, q0, p1, q1, p2, q2, p3, q3, mt, pl, gv, cv, nv, dd, ht, hne, ha, ⟨r, hr⟩, ho, hto, hhad, hpos, hk, hop, hx1, hx2, (hN.arg 0 a (by rw [ha]; rfl)).2, g4, ⟨_, g, cc, nn, hs⟩, hd, c1, c2, hq.1, hq.2, hb, ⟨b1, b2⟩⟩
theorem arg_pos (h : Net w b0 own at1 fb s) (hI : Inv s.nodes rho c) {a : Nat} {x : Nd} (hx : s.nodes[a]? = some x) (hp : x.pos = true) : ∃ ys : List Value, w.heap[at1 a]? = some (.cells (.bool false :: ys).toArray 205 (0, 0)) := by
  obtain ⟨p0, q0, p1, q1, p2, q2, p3, q3, mt, pl, gv, cv, nv, hb, _⟩ := (h.nd a x hx).ex
  obtain ⟨xs, h1, _⟩ := hb.nd.ex
  rw [hp] at h1
  exact ⟨_, h1⟩
theorem kind_uns {op : Rf.Op} (h : Rf.fn op) : kindZ op = 10 ∨ kindZ op = 11 ∨ kindZ op = 12 ∨ kindZ op = 13 := by
  rcases h with rfl | rfl | rfl | rfl
  · exact Or.inl rfl
  · exact Or.inr (Or.inl rfl)
  · exact Or.inr (Or.inr (Or.inl rfl))
  · exact Or.inr (Or.inr (Or.inr rfl))
theorem settle_of (hturn : ∀ (w : World) (b0 fb : Nat) (own : Nat → Option Own) (at1 : Nat → Nat) (s : Rf.St) (rho : Nat → Nat) (c i : Nat) (n : Nd) (ns' : List Nd) (a : Nat) (x : Nd) (e1 e2 : Rf.V) (p0 q0 p1 q1 p2 q2 p3 q3 mt pl : Int) (gv cv nv : Value) (dd : Int), Net w b0 own at1 fb s → b0 ≤ w.heap.size → c ≤ 3000 → Inv s.nodes rho c → s.nodes[i]? = some n → n.probe = true → Probe w b0 own at1 s rho i n a x e1 e2 p0 q0 p1 q1 p2 q2 p3 q3 mt pl gv cv nv dd → (n.op = .sqrt → 0 < p1) → Rf.turn (s.nodes.set i { n with read := [0], probe := false }) i { n with read := [0], probe := false } e2 = some ns' → ∀ w1 xs, Chg w w1 [] → Hold true w1 [p1, q1] xs →
    Calls Tryz.prog 236 #[.int .i64 (kindZ n.op), ptrB (at1 a), .agg xs.toArray] w1 fun e w2 => ∃ m, ∃ ys : List Value, e = .returned (ptrB m) ∧ Chg w1 w2 [] ∧ w1.heap.size ≤ m ∧ w2.heap[m]? = some (.cells ys.toArray 205 (0, 0)) ∧ ys.length = 27 ∧ (∀ y ∈ ys, One y) ∧ ∀ w3, Chg w2 w3 [at1 i] → w3.heap[at1 i]? = some (.cells ys.toArray 205 (0, 0)) → Res w b0 own at1 fb s.nodes.length true ⟨ns', s.clock⟩ w3) : SettleOk := by
  intro w b0 fb own at1 s rho c i n ns' h hb0 hc3 hI hn hset
  have hs0 : (⟨s.nodes, s.clock⟩ : Rf.St) = s := rfl
  have still : ∀ {w' : World}, Chg w w' [] → ns' = s.nodes → Res w b0 own at1 fb s.nodes.length true ⟨ns', s.clock⟩ w' := by
    intro w' hc e
    subst e
    exact ⟨own, Kept.still hc, fun _ => ⟨at1, h.still hI hc, fun _ _ => rfl⟩⟩
  unfold Rf.settle at hset
  cases hp : n.probe with
  | false =>
    rw [hp] at hset
    simp only [Bool.false_eq_true, if_false, Option.some.injEq] at hset
    obtain ⟨p0, q0, p1, q1, p2, q2, p3, q3, mt, pl, gv, cv, nv, l, g, cc, nn, hs⟩ := h.seen hI hn
    have hu : unsZ n = 0 := by unfold unsZ; rw [hp]; rfl
    refine (settle_none (h.pos2 hs) (Or.inl hu)).mono ?_
    rintro e w' ⟨v, rfl, hc⟩
    exact ⟨v, rfl, still hc hset.symm⟩
  | true =>
    rw [hp] at hset
    simp only [if_true] at hset
    obtain ⟨a, x, e1, e2, p0, q0, p1, q1, p2, q2, p3, q3, mt, pl, gv, cv, nv, dd, hpr⟩ := probe_pre h hI hn hp
    obtain ⟨l, g, cc, nn, hs⟩ := hpr.seen
    rw [hpr.ends, Option.bind_some] at hset
    have hu : unsZ n = kindZ n.op := by unfold unsZ; rw [hp]; rfl
    have hkn : Rf.known n.op e2 e1 = enoughZ (kindZ n.op) p0 q0 p1 q1 := by
      rw [enough_eq hpr.fn, hpr.c1, hpr.c2]
      exact Pg.known_sc hpr.fn hpr.d0 _ _
    have hpos := h.pos2 hs
    rw [hu] at hpos
    simp only at hset
    by_cases hk : Rf.known n.op e2 e1 = true
    · rw [if_pos hk] at hset
      obtain ⟨ns1, hput, hset⟩ := Option.bind_eq_some_iff.1 hset
      have hns1 := (put_eq hput).1
      subst hns1
      obtain ⟨r, hr⟩ := hpr.read
      have hrd : n.read.set 0 0 = [0] := by rw [hr]; rfl
      rw [hrd] at hset
      have hrA : rArg n = some a := by unfold rArg; rw [hpr.t, hpr.args]; rfl
      have hsq : n.op = .sqrt → 0 < p1 := by
        intro e
        rw [e] at hk
        have hk' : decide (e1.1 * e2.2 ≤ 2 * (e2.1 * e1.2)) = true := hk
        rcases Int.lt_or_le 0 p1 with h1 | h1
        · exact h1
        · exfalso
          have hp1 : p1 = 0 := by have := hpr.lo; omega
          -- the upper end is above the lower one
          have hN := hI.at' i n hn
          obtain ⟨m, x', r', g1, g2, g3, g4⟩ := Rf.ends_some hI hN (sd := 0) (a := a) (by rw [hpr.args]; rfl)
          rw [hpr.xat] at g1
          cases g1
          rw [hpr.ends] at g4
          have g5 : e1 = Rf.vat m (1, 0) ∧ e2 = Rf.vat m (0, 1) := by
            have := Option.some.inj g4
            exact ⟨congrArg Prod.fst this, congrArg Prod.snd this⟩
          have hNx := hI.at' a x hpr.xat
          have hup : Rf.Up m := (hNx.up hpr.xpos).2 m (List.mem_of_getElem? g3)
          obtain ⟨_, _, l3⟩ := Rf.lo_up hup
          rw [g5.1, g5.2] at hk
          have h3 := l3 hk
          rw [← g5.2, hpr.c2, hp1] at h3
          simp [Pg.sc] at h3
      refine settle_calls hpos (kind_uns hpr.fn) (by rw [← hkn]; exact hk) fun w1 xs c1 hh => ?_
      rw [hrA]
      refine (hturn w b0 fb own at1 s rho c i n ns' a x e1 e2 p0 q0 p1 q1 p2 q2 p3 q3 mt pl gv cv nv dd h hb0 hc3 hI hn hp hpr hsq hset w1 xs c1 hh).mono ?_
      rintro e w2 ⟨m, ys, rfl, c2, hm, k1, k2, k3, k4⟩
      have hlt : at1 i < w1.heap.size := Nat.lt_of_lt_of_le hpos.nd.lt c1.on.size
      refine ⟨m, ys, rfl, by omega, k1, k2, k3, ?_, k4⟩
      have := (hpos.keep c1).keep c2
      rw [hrA] at this
      exact this
    · rw [if_neg hk] at hset
      have hk' : enoughZ (kindZ n.op) p0 q0 p1 q1 = false := by
        rw [← hkn]
        simpa using hk
      refine (settle_none hpos (Or.inr ⟨kind_uns hpr.fn, hk'⟩)).mono ?_
      rintro e w' ⟨v, rfl, hc⟩
      exact ⟨v, rfl, still hc (Option.some.inj hset).symm⟩
end
end Ab
end Go.Proofs.YteghhlfmcjmnoaaGreatDoor
set_option linter.unusedSimpArgs false
set_option linter.unusedVariables false
namespace Go.Proofs.YteghhlfmcjmnoaaGreatDoor
open Go.RowKit
namespace Ab
open Rf (Nd Inv NInv)
theorem set_app {α : Type} {l new : List α} {i : Nat} {a b : α} (hi : i < l.length) : ((l.set i a) ++ new).set i b = (l ++ new).set i b := by
  rw [List.set_append_left _ _ (by simpa using hi), List.set_append_left _ _ hi, List.set_set]
def TurnOk (P : Nd → Prop) : Prop := ∀ (w : World) (b0 fb : Nat) (own : Nat → Option Own) (at1 : Nat → Nat) (s : Rf.St) (rho : Nat → Nat) (c i : Nat) (n : Nd) (ns' : List Nd) (a : Nat) (x : Nd) (e1 e2 : Rf.V) (p0 q0 p1 q1 p2 q2 p3 q3 mt pl : Int) (gv cv nv : Value) (dd : Int), P n → Net w b0 own at1 fb s → b0 ≤ w.heap.size → c ≤ 3000 → Inv s.nodes rho c → s.nodes[i]? = some n → n.probe = true → Probe w b0 own at1 s rho i n a x e1 e2 p0 q0 p1 q1 p2 q2 p3 q3 mt pl gv cv nv dd → (n.op = .sqrt → 0 < p1) → Rf.turn (s.nodes.set i { n with read := [0], probe := false }) i { n with read := [0], probe := false } e2 = some ns' → ∀ w1 xs, Chg w w1 [] → Hold true w1 [p1, q1] xs →
    Calls Tryz.prog 236 #[.int .i64 (kindZ n.op), ptrB (at1 a), .agg xs.toArray] w1 fun e w2 => ∃ m, ∃ ys : List Value, e = .returned (ptrB m) ∧ Chg w1 w2 [] ∧ w1.heap.size ≤ m ∧ w2.heap[m]? = some (.cells ys.toArray 205 (0, 0)) ∧ ys.length = 27 ∧ (∀ y ∈ ys, One y) ∧ ∀ w3, Chg w2 w3 [at1 i] → w3.heap[at1 i]? = some (.cells ys.toArray 205 (0, 0)) → Res w b0 own at1 fb s.nodes.length true ⟨ns', s.clock⟩ w3
theorem holds1 {a : Prop} (h : a) : Holds [a] := fun x hx => by simp at hx; rw [hx]; exact h
theorem low_sc {p q dd : Int} {e2 : Rf.V} (hp : 0 ≤ p) (hq : 0 < q) (hd : 0 < dd) (he : e2 = Pg.sc dd (p, q)) : ∃ g : Int, 0 < g ∧ e2.1 = g * lowT p q ∧ e2.2 = g * lowB p q ∧ 0 < gcdZ p q ∧ 0 ≤ lowT p q ∧ 0 < lowB p q ∧ (lowT p q = 0 ↔ e2.1 = 0) ∧ (lowT p q = 0 ↔ p = 0) := by
  obtain ⟨g, hg, hgz, m1, m2, t0, b0, hz⟩ := low_eq hp hq
  refine ⟨dd * g, Int.mul_pos hd hg, ?_, ?_, by omega, t0, b0, ?_, hz⟩
  · rw [he]
    show dd * p = _
    rw [Int.mul_assoc, ← m1]
  · rw [he]
    show dd * q = _
    rw [Int.mul_assoc, ← m2]
  · rw [hz, he]
    show p = 0 ↔ dd * p = 0
    constructor
    · intro h; rw [h]; simp
    · intro h
      rcases Int.mul_eq_zero.1 h with h | h
      · omega
      · exact h
set_option maxRecDepth 100000 in
theorem turn_sqrt : TurnOk fun n => n.op = .sqrt := by
  intro w b0 fb own at1 s rho c i n ns' a x e1 e2 p0 q0 p1 q1 p2 q2 p3 q3 mt pl gv cv nv dd hop h hb0 hc3 hI hn hp hpr hsq hturn w1 xs c1 hh
  have hi := (List.getElem?_eq_some_iff.1 hn).1
  have hla := (List.getElem?_eq_some_iff.1 hpr.xat).1
  obtain ⟨g, hg, E1, E2, hgz, t0, bb0, hz, hzp⟩ := low_sc hpr.lo hpr.lo2 hpr.d0 hpr.c2
  have hp1 := hsq hop
  have hT : 0 < lowT p1 q1 := by
    rcases Int.lt_or_le 0 (lowT p1 q1) with h1 | h1
    · exact h1
    · have : lowT p1 q1 = 0 := by omega
      have := hzp.1 this
      omega
  -- the machine
  unfold Rf.turn at hturn
  simp only [hpr.args, List.getElem?_cons_zero, Option.bind_some] at hturn
  rw [if_pos hop] at hturn
  obtain ⟨ab, hnear, hput⟩ := Option.bind_eq_some_iff.1 hturn
  have hns := (put_eq hput).1
  rw [List.set_set] at hns
  rw [E1, E2, Pg.near_sc hg] at hnear
  have hA : nearA (lowT p1 q1) (lowB p1 q1) = ab.1 ∧ nearB (lowT p1 q1) (lowB p1 q1) = ab.2 := by
    unfold nearA nearB
    rw [hnear]
    exact ⟨rfl, rfl⟩
  obtain ⟨l1, l2⟩ := low_abs hgz
  have bT1 : Rf.VBits 6100 (lowT p1 q1, lowB p1 q1) := by
    have hb := hpr.b1
    have k : ∀ {z y : Int}, z.natAbs ≤ (dd * y).natAbs → (dd * y).natAbs < 2 ^ 6100 → z.natAbs < 2 ^ 6100 := fun h1 h2 => Nat.lt_of_le_of_lt h1 h2
    rw [hpr.c2] at hb
    exact ⟨k (Nat.le_trans l1 (Pg.abs_sc hpr.d0 _)) hb.1, k (Nat.le_trans l2 (Pg.abs_sc hpr.d0 _)) hb.2⟩
  obtain ⟨A, B, hAB, _, hB0, bA, bB⟩ := Rf.near_ok hT bb0 bT1.1 bT1.2
  have eAB : ab = (A, B) := Option.some.inj (hnear.symm.trans hAB)
  have bA : Nat.lt ab.1.natAbs (2 ^ 12300) := by rw [eAB]; exact bA
  have bB : Nat.lt ab.2.natAbs (2 ^ 3100) := by rw [eAB]; exact bB
  have hsome : (Rf.near (lowT p1 q1) (lowB p1 q1) 20000 1).isSome = true := by rw [hnear]; rfl
  clear hAB
  generalize Rf.near (lowT p1 q1) (lowB p1 q1) 20000 1 = NR at hnear
  obtain ⟨ys0, hys0⟩ := arg_pos (h.still hI c1) hI hpr.xat hpr.xpos
  rw [hop]
  refine settled_run (kd := 10) ⟨ys0, hys0⟩ hh hpr.bits (tT_10 p1 q1) (fun r st => r = .val (.one (.ptr 24 0)) ∧ IsNd st 24 [0, 0, nearB (lowT p1 q1) (lowB p1 q1), 0, nearA (lowT p1 q1) (lowB p1 q1), nearB (lowT p1 q1) (lowB p1 q1), 0, nearA (lowT p1 q1) (lowB p1 q1)] (.lit nilP) (.ptr 2 0) (.lit nilP) (.ptr 22 0) ∧ IsNs st 22 10 (.ptr 2 0) (.ptr 2 0) [0, 0, nearB (lowT p1 q1) (lowB p1 q1), 0, nearA (lowT p1 q1) (lowB p1 q1), nearB (lowT p1 q1) (lowB p1 q1), 0, nearA (lowT p1 q1) (lowB p1 q1)] ∧ clean st = true) ⟨holds1 hgz, holds1 ⟨hT, bb0, hsome⟩, rfl, c10_24 p1 q1, c10_22 p1 q1, c10_cl p1 q1⟩ ?_
  rintro r st φ v w2 ⟨rfl, f24, f22, fcl⟩ hrel hw
  obtain ⟨m, hm⟩ := own_phi hw f24.look rfl rfl
  obtain ⟨nb, hnb⟩ := own_phi hw f22.look rfl rfl
  have hx2 : φ 2 = some (at1 a, 0) := hw.base 2 (at1 a, 0) rfl
  have hv : v = ptrB m := ptr_v (ν := st.nums) (w := w2) hm v hrel
  obtain ⟨ys, k1, k2, k3, k4, k5⟩ := f24.at hw hm lit_val (ptr_v hx2) lit_val (ptr_v hnb)
  obtain ⟨xs2, j1, j2, j3⟩ := f22.at hw hnb (ptr_v hx2) (ptr_v hx2)
  have hbel := RepF.below hw fcl
  refine ⟨m, ys, by rw [hv], Chg.of_below hbel, k1, k2, k3, k4, fun w3 c3 h3 => ?_⟩
  rw [hA.1, hA.2] at k5 j3
  have hcopy := k5.copy k2 h3 c3.on
  have hch : Chg w w3 [at1 i] := ((c1.weak (by simp)).trans ((Chg.of_below hbel).weak (by simp))).trans c3
  have hati : at1 i < w1.heap.size := Nat.lt_of_lt_of_le (by obtain ⟨cs, hcs⟩ := arg_blk h hn; exact lt_of_heap hcs) c1.on.size
  have hnbk : nb ∉ [at1 i] := by simp; omega
  have hnb3 := c3.at j2 hnbk
  have hsame : (s.nodes ++ ([] : List Nd)).set i { n with read := [0], probe := false, t := [(0, 0), (ab.2, 0), (ab.1, ab.2), (0, ab.1)], nest := true } = ns' := by rw [List.append_nil, hns, hpr.args]
  have hgo : Pg.Go s.nodes ns' := by rw [hns]; exact go_same hn rfl rfl rfl
  obtain ⟨xa, g1, _, g3, _⟩ := hgo.at' a x hpr.xat
  have hx0 := g3 0 _ (h.nd a x hpr.xat).hc.fst
  have hcof : Pg.Cof [(0, 0), (ab.2, 0), (ab.1, ab.2), (0, ab.1)] (colsZ [0, 0, ab.2, 0, ab.1, ab.2, 0, ab.1]) := .mk4 (e := 1) (by decide) (Pg.sc_one _).symm (Pg.sc_one _).symm (Pg.sc_one _).symm (Pg.sc_one _).symm
  have hbz : ∀ z ∈ [0, 0, ab.2, 0, ab.1, ab.2, 0, ab.1], Bits 1 z := by
    have u1 : Bits 1 ab.1 := bits_up (N := 12300) (by decide) bA
    have u2 : Bits 1 ab.2 := bits_up (N := 3100) (by decide) bB
    have u0 : Bits 1 0 := bits_up (N := 1) (by decide) (by decide)
    intro z hz
    have hz' : z = 0 ∨ z = ab.1 ∨ z = ab.2 := by simp at hz; omega
    rcases hz' with rfl | rfl | rfl <;> assumption
  refine turn_gen h hI hn (n' := { n with read := [0], probe := false, t := [(0, 0), (ab.2, 0), (ab.1, ab.2), (0, ab.1)], nest := true }) (new := []) hsame.symm rfl rfl rfl hch (fun _ _ => rfl) (fun _ _ => rfl) ?_ (fun j mm hj => by simp at hj)
  refine nest_nodeOk (a := a) hcopy rfl hpr.pos rfl rfl hpr.args rfl hpr.out hpr.told hpr.had rfl g1 hx0 ⟨_, hnb3⟩ ?_ hcof (h.nd i n hn).own (h.nd i n hn).lo
  exact ⟨xs2, [0, 0, ab.2, 0, ab.1, ab.2, 0, ab.1], _, _, by rw [show kindZ n.op = 10 by rw [hop]; rfl]; exact hnb3, hold_on c3.on j3, rfl, hbz, fun _ => ⟨a, by simp only; rw [hpr.args]; rfl, rfl, rfl, hcof⟩, fun e => absurd hop e⟩
end Ab
end Go.Proofs.YteghhlfmcjmnoaaGreatDoor
