/-
  THE WALKS of realskeep's plain intervals: products.
-/
import Derived.Test.YtmepffenlgedbaaDoorSpan3
set_option linter.unusedSimpArgs false
namespace Go.Proofs.YtmepffenlgedbaaDoor
open Go.RowKit

theorem mul_abs {x y M : Int} (hx : -M ≤ x ∧ x ≤ M) (hy : -M ≤ y ∧ y ≤ M) : -(M * M) ≤ x * y ∧ x * y ≤ M * M := by
  have h1 : x.natAbs ≤ M.natAbs := by omega
  have h2 : y.natAbs ≤ M.natAbs := by omega
  have h3 : (x * y).natAbs ≤ (M * M).natAbs := by rw [Int.natAbs_mul, Int.natAbs_mul]; exact Nat.mul_le_mul h1 h2
  have h4 : 0 ≤ M * M := Int.mul_nonneg (by omega) (by omega)
  omega

theorem mul_bd {x y : Int} (hx : -1073741824 ≤ x ∧ x ≤ 1073741824) (hy : -1073741824 ≤ y ∧ y ≤ 1073741824) : -1152921504606846976 ≤ x * y ∧ x * y ≤ 1152921504606846976 := by
  have := mul_abs (M := 1073741824) hx hy
  omega

def MP (a b c d x : Int) : Prop := x = a * c ∨ x = a * d ∨ x = b * c ∨ x = b * d

theorem MP_if {a b c d x z : Int} {p : Prop} [Decidable p] (hz : MP a b c d z) (hx : MP a b c d x) : MP a b c d (if p then z else x) := by
  split
  · exact hz
  · exact hx

def MulPost (a b c d : Int) (w : World) (e : Ending) (w' : World) : Prop := ∃ x y, x ≤ y ∧ MP a b c d x ∧ MP a b c d y ∧ OfPost (x / 1048576) (-((-y) / 1048576)) w e w'

def mulRel (a b c d : Int) (lo hi i : Value) : Prop := ∃ (k : Nat) (x y : Int), k ≤ 4 ∧ i = .int .i64 k ∧ lo = .int .i64 x ∧ hi = .int .i64 y ∧ x ≤ y ∧ MP a b c d x ∧ MP a b c d y

theorem MP.bd {a b c d x : Int} (h : SpOk a b) (h' : SpOk c d) (hx : MP a b c d x) : -1152921504606846976 ≤ x ∧ x ≤ 1152921504606846976 := by
  have h1 := h.lo
  have h2 := h.le
  have h3 := h.hi
  have h4 := h'.lo
  have h5 := h'.le
  have h6 := h'.hi
  rcases hx with rfl | rfl | rfl | rfl
  · exact mul_bd (by omega) (by omega)
  · exact mul_bd (by omega) (by omega)
  · exact mul_bd (by omega) (by omega)
  · exact mul_bd (by omega) (by omega)

set_option maxHeartbeats 2000000 in
theorem mul_known (a b c d : Int) (w : World) (h : SpOk a b) (h' : SpOk c d) : Calls Tryd.prog 22 #[sv a b true, sv c d true] w (MulPost a b c d w) := by
  have BD := hideq (fun x => MP.bd (x := x) h h')
  obtain ⟨m1, m2⟩ := BD.out (a * c) (Or.inl rfl)
  obtain ⟨m3, m4⟩ := BD.out (a * d) (Or.inr (Or.inl rfl))
  obtain ⟨m5, m6⟩ := BD.out (b * c) (Or.inr (Or.inr (Or.inl rfl)))
  obtain ⟨m7, m8⟩ := BD.out (b * d) (Or.inr (Or.inr (Or.inr rfl)))
  have F := hideq (fun x w h0 h1 => floor_any x 1048576 w h0 h1 (by decide) (by decide))
  have G := hideq (fun x w h0 h1 => ceil_any x 1048576 w h0 h1 (by decide) (by decide))
  have O := hideq (fun x y w => of_any x y w)
  clear h h'
  go_enter Tryd.func22, Tryd.ntmps22
  go_wp2_with fail
  go_loop [6, 7, 48] (fun lo hi i => mulRel a b c d lo hi i) (fun _ _ i => 4 - (intOf i).toNat)
  case atStart => exact ⟨0, a * c, a * c, by omega, rfl, rfl, rfl, Int.le_refl _, Or.inl rfl, Or.inl rfl⟩
  case round =>
    obtain ⟨k, x, y, hk, rfl, rfl, rfl, hxy, hx, hy⟩ := hrel
    have HX := hideq hx
    have HY := hideq hy
    obtain ⟨bx1, bx2⟩ := BD.out x hx
    obtain ⟨by1, by2⟩ := BD.out y hy
    clear hx hy
    by_cases hlt : k < 4
    · have hk4 : k = 0 ∨ k = 1 ∨ k = 2 ∨ k = 3 := by omega
      rcases hk4 with rfl | rfl | rfl | rfl
      all_goals
        go_wp2_with fail
      · exact ⟨⟨1, _, _, by omega, rfl, rfl, rfl, by split <;> split <;> omega, MP_if (Or.inl rfl) HX.out, MP_if (Or.inl rfl) HY.out⟩, by simp [intOf]⟩
      · exact ⟨⟨2, _, _, by omega, rfl, rfl, rfl, by split <;> split <;> omega, MP_if (Or.inr (Or.inl rfl)) HX.out, MP_if (Or.inr (Or.inl rfl)) HY.out⟩, by simp [intOf]⟩
      · exact ⟨⟨3, _, _, by omega, rfl, rfl, rfl, by split <;> split <;> omega, MP_if (Or.inr (Or.inr (Or.inl rfl))) HX.out, MP_if (Or.inr (Or.inr (Or.inl rfl))) HY.out⟩, by simp [intOf]⟩
      · exact ⟨⟨4, _, _, by omega, rfl, rfl, rfl, by split <;> split <;> omega, MP_if (Or.inr (Or.inr (Or.inr rfl))) HX.out, MP_if (Or.inr (Or.inr (Or.inr rfl))) HY.out⟩, by simp [intOf]⟩
    · obtain rfl : k = 4 := by omega
      go_wp2_with fail
      refine calls_in (fun W => Below w.heap.size w W ∧ W.heap[w.heap.size + 2]? = some (spCells 0 0 false)) ⟨((((Below.refl _ _).alloc (Nat.le_refl _) _).alloc (by simp) _).alloc (by simp; omega) _).alloc (by simp; omega) _, (alloc_old (alloc_at (by simp)))⟩ ?_
      rintro W ⟨hbW, hRW⟩
      refine (F.out x _ (by omega) (by omega)).mono ?_
      rintro e w1 ⟨rfl, rfl⟩
      go_wp2_with fail
      refine (G.out y _ (by omega) (by omega)).mono ?_
      rintro e w1 ⟨rfl, rfl⟩
      go_wp2_with fail
      refine (O.out _ _ _).mono ?_
      rintro e w2 ⟨rfl, hb⟩
      generalize he : x / 1048576 = x' at *
      generalize he2 : -((-y) / 1048576) = y' at *
      have E1 := hideq he
      have E2 := hideq he2
      clear he he2
      have hR := (hb.block _ (heap_lt hRW)).trans hRW
      have r0 := cell_of_block (o := 0) hR rfl
      have r1 := cell_of_block (o := 1) hR rfl
      have r2 := cell_of_block (o := 2) hR rfl
      have g0 := frozen_of_block (o := 0) hR
      have g1 := frozen_of_block (o := 1) hR
      have g2 := frozen_of_block (o := 2) hR
      have Q := hideq (set3 hR (ofS x' y').1 (ofS x' y').2.1 (ofS x' y').2.2)
      have HBt := hideq (set3_below (hbW.trans (hb.mono hbW.size)) (show w.heap.size ≤ w.heap.size + 2 by omega) (ofS x' y').1 (ofS x' y').2.1 (ofS x' y').2.2)
      clear hR hb hbW hRW
      go_wp2_with fail
      obtain ⟨q0, q1, q2⟩ := Q.out
      refine bodyPost_ret (v := sv (ofS x' y').1 (ofS x' y').2.1 (ofS x' y').2.2) (by simp [results, Tryd.results22, go_sem, q0, q1, q2]) rfl ?_
      exact ⟨x, y, hxy, HX.out, HY.out, by rw [E1.out, E2.out], HBt.out⟩

theorem MulPost.sp {a b c d : Int} {w : World} {e : Ending} {w' : World} (k : MulPost a b c d w e w') : SpPost w e w' := by
  obtain ⟨x, y, hxy, _, _, h⟩ := k
  exact OfPost.sp (floor_ceil (by decide) hxy) h

set_option maxHeartbeats 400000 in
theorem mul_any (a b : Int) (k : Bool) (c d : Int) (m : Bool) (w : World) (h : SpOk a b) (h' : SpOk c d) : Calls Tryd.prog 22 #[sv a b k, sv c d m] w (SpPost w) := by
  have N := hideq (fun w => nothing_any w)
  cases k
  · clear h h'
    go_enter Tryd.func22, Tryd.ntmps22
    go_wp2_with fail
    refine calls_in (fun W => Below w.heap.size w W ∧ W.heap[w.heap.size + 2]? = some (spCells 0 0 false)) ⟨(((Below.refl _ _).alloc (Nat.le_refl _) _).alloc (by simp) _).alloc (by simp; omega) _, alloc_at (by simp)⟩ ?_
    rintro W ⟨hbW, hRW⟩
    refine (N.out _).mono ?_
    rintro e w2 ⟨rfl, hb⟩
    have hR := (hb.block _ (heap_lt hRW)).trans hRW
    have r0 := cell_of_block (o := 0) hR rfl
    have r1 := cell_of_block (o := 1) hR rfl
    have r2 := cell_of_block (o := 2) hR rfl
    have g0 := frozen_of_block (o := 0) hR
    have g1 := frozen_of_block (o := 1) hR
    have g2 := frozen_of_block (o := 2) hR
    have Q := hideq (set3 hR 0 0 false)
    have HBt := hideq (set3_below (hbW.trans (hb.mono hbW.size)) (show w.heap.size ≤ w.heap.size + 2 by omega) 0 0 false)
    clear hR hb hbW hRW
    go_wp2_with fail
    obtain ⟨q0, q1, q2⟩ := Q.out
    refine bodyPost_ret (v := sv 0 0 false) (by simp [results, Tryd.results22, go_sem, q0, q1, q2]) rfl ?_
    exact ⟨0, 0, false, rfl, SpOk.zero, HBt.out⟩
  cases m
  · clear h h'
    go_enter Tryd.func22, Tryd.ntmps22
    go_wp2_with fail
    refine calls_in (fun W => Below w.heap.size w W ∧ W.heap[w.heap.size + 2]? = some (spCells 0 0 false)) ⟨(((Below.refl _ _).alloc (Nat.le_refl _) _).alloc (by simp) _).alloc (by simp; omega) _, alloc_at (by simp)⟩ ?_
    rintro W ⟨hbW, hRW⟩
    refine (N.out _).mono ?_
    rintro e w2 ⟨rfl, hb⟩
    have hR := (hb.block _ (heap_lt hRW)).trans hRW
    have r0 := cell_of_block (o := 0) hR rfl
    have r1 := cell_of_block (o := 1) hR rfl
    have r2 := cell_of_block (o := 2) hR rfl
    have g0 := frozen_of_block (o := 0) hR
    have g1 := frozen_of_block (o := 1) hR
    have g2 := frozen_of_block (o := 2) hR
    have Q := hideq (set3 hR 0 0 false)
    have HBt := hideq (set3_below (hbW.trans (hb.mono hbW.size)) (show w.heap.size ≤ w.heap.size + 2 by omega) 0 0 false)
    clear hR hb hbW hRW
    go_wp2_with fail
    obtain ⟨q0, q1, q2⟩ := Q.out
    refine bodyPost_ret (v := sv 0 0 false) (by simp [results, Tryd.results22, go_sem, q0, q1, q2]) rfl ?_
    exact ⟨0, 0, false, rfl, SpOk.zero, HBt.out⟩
  exact (mul_known a b c d w h h').mono (fun _ _ h => h.sp)
end Go.Proofs.YtmepffenlgedbaaDoor
