/-
  THE WALKS of realskeep's plain intervals: sums, hulls, inverses.
-/
import Derived.Test.YtmepffenlgedbaaDoorSpan
set_option linter.unusedSimpArgs false
namespace Go.Proofs.YtmepffenlgedbaaDoor
open Go.RowKit

theorem undrewS {w w' : World} (h : Below w.drew.heap.size w.drew w') : Below w.heap.size w w' := ⟨h.os, h.tape, h.output, h.size, h.block⟩
theorem drewS (w : World) : Below w.heap.size w w.drew := ⟨rfl, rfl, rfl, Nat.le_refl _, fun _ _ => rfl⟩

theorem OfPost.sp {a b : Int} {w : World} (h : a ≤ b) {e : Ending} {w' : World} (k : OfPost a b w e w') : SpPost w e w' := ⟨_, _, _, k.1, ofS_ok h, k.2⟩

set_option maxHeartbeats 400000 in
theorem point_any (n : Int) (w : World) : Calls Tryd.prog 9 #[.int .i64 n] w (OfPost n n w) := by
  have N := hideq (fun w => of_any n n w)
  go_enter Tryd.func9, Tryd.ntmps9
  go_wp2_with fail
  refine calls_in (fun W => Below w.heap.size w W ∧ W.heap[w.heap.size]? = some (spCells 0 0 false)) ⟨(Below.refl _ _).alloc (Nat.le_refl _) _, cells_new _ _⟩ ?_
  rintro W ⟨hbW, hRW⟩
  refine (N.out _).mono ?_
  rintro e w2 ⟨rfl, hb⟩
  have hR := (hb.block _ (heap_lt hRW)).trans hRW
  have r0 := cell_of_block (o := 0) hR rfl
  have r1 := cell_of_block (o := 1) hR rfl
  have r2 := cell_of_block (o := 2) hR rfl
  have g0 := frozen_of_block (o := 0) hR
  have g1 := frozen_of_block (o := 1) hR
  have g2 := frozen_of_block (o := 2) hR
  have Q := hideq (set3 hR (ofS n n).1 (ofS n n).2.1 (ofS n n).2.2)
  have HBt := hideq (set3_below (hbW.trans (hb.mono hbW.size)) (show w.heap.size ≤ w.heap.size + 0 by omega) (ofS n n).1 (ofS n n).2.1 (ofS n n).2.2)
  clear hR hb hbW hRW
  go_wp2_with fail
  obtain ⟨q0, q1, q2⟩ := Q.out
  refine bodyPost_ret (v := sv (ofS n n).1 (ofS n n).2.1 (ofS n n).2.2) (by simp [results, Tryd.results9, go_sem, q0, q1, q2]) rfl ?_
  exact ⟨rfl, HBt.out⟩

def ratS (p q : Int) : Int × Int × Bool := ofS (p * 1048576 / q) (-((-(p * 1048576)) / q))

set_option maxHeartbeats 400000 in
theorem ratio_any (p q : Int) (w : World) (h0 : 0 ≤ p) (h1 : p ≤ 1000) (h2 : 1 ≤ q) (h3 : q ≤ 1000) :
    Calls Tryd.prog 10 #[.int .i64 p, .int .i64 q] w (OfPost (p * 1048576 / q) (-((-(p * 1048576)) / q)) w) := by
  have F := hideq (fun w => floor_any (p * 1048576) q w (by omega) (by omega) (by omega) (by omega))
  have G := hideq (fun w => ceil_any (p * 1048576) q w (by omega) (by omega) (by omega) (by omega))
  have N := hideq (fun a b w => of_any a b w)
  go_enter Tryd.func10, Tryd.ntmps10
  go_wp2_with fail
  refine calls_in (fun W => Below w.heap.size w W ∧ W.heap[w.heap.size]? = some (spCells 0 0 false)) ⟨(Below.refl _ _).alloc (Nat.le_refl _) _, cells_new _ _⟩ ?_
  rintro W ⟨hbW, hRW⟩
  refine (F.out _).mono ?_
  rintro e w1 ⟨rfl, rfl⟩
  go_wp2_with fail
  refine (G.out _).mono ?_
  rintro e w1 ⟨rfl, rfl⟩
  go_wp2_with fail
  refine (N.out _ _ _).mono ?_
  rintro e w2 ⟨rfl, hb⟩
  generalize p * 1048576 / q = x at *
  generalize -((-(p * 1048576)) / q) = y at *
  have hR := (hb.block _ (heap_lt hRW)).trans hRW
  have r0 := cell_of_block (o := 0) hR rfl
  have r1 := cell_of_block (o := 1) hR rfl
  have r2 := cell_of_block (o := 2) hR rfl
  have g0 := frozen_of_block (o := 0) hR
  have g1 := frozen_of_block (o := 1) hR
  have g2 := frozen_of_block (o := 2) hR
  have Q := hideq (set3 hR (ofS x y).1 (ofS x y).2.1 (ofS x y).2.2)
  have HBt := hideq (set3_below (hbW.trans (hb.mono hbW.size)) (show w.heap.size ≤ w.heap.size + 0 by omega) (ofS x y).1 (ofS x y).2.1 (ofS x y).2.2)
  clear hR hb hbW hRW
  go_wp2_with fail
  obtain ⟨q0, q1, q2⟩ := Q.out
  refine bodyPost_ret (v := sv (ofS x y).1 (ofS x y).2.1 (ofS x y).2.2) (by simp [results, Tryd.results10, go_sem, q0, q1, q2]) rfl ?_
  exact ⟨rfl, HBt.out⟩

set_option maxHeartbeats 400000 in
theorem add_any (a b : Int) (k : Bool) (c d : Int) (m : Bool) (w : World) (h : SpOk a b) (h' : SpOk c d) : Calls Tryd.prog 19 #[sv a b k, sv c d m] w (SpPost w) := by
  have h1 := h.lo
  have h2 := h.le
  have h3 := h.hi
  have h4 := h'.lo
  have h5 := h'.le
  have h6 := h'.hi
  have N := hideq (fun w => nothing_any w)
  have O := hideq (fun w => of_any (a + c) (b + d) w)
  have SO := hideq (ofS_ok (show a + c ≤ b + d by omega))
  clear h h'
  cases k
  · skip
    go_enter Tryd.func19, Tryd.ntmps19
    go_wp2_with fail
    refine calls_in (fun W => Below w.heap.size w W ∧ W.heap[w.heap.size + 2]? = some (spCells 0 0 false)) ⟨(((Below.refl _ _).alloc (Nat.le_refl _) _).alloc (by simp) _).alloc (by simp; omega) _, alloc_at (by simp)⟩ ?_
    rintro W ⟨hbW, hRW⟩
    refine (N.out _).mono ?_
    rintro e w2 ⟨rfl, hb⟩
    have hR := (hb.block _ (heap_lt hRW)).trans hRW
    have r0 := cell_of_block (o := 0) hR rfl
    have r1 := cell_of_block (o := 1) hR rfl
    have r2 := cell_of_block (o := 2) hR rfl
    have g0 := frozen_of_block (o := 0) hR
    have g1 := frozen_of_block (o := 1) hR
    have g2 := frozen_of_block (o := 2) hR
    have Q := hideq (set3 hR 0 0 false)
    have HBt := hideq (set3_below (hbW.trans (hb.mono hbW.size)) (show w.heap.size ≤ w.heap.size + 2 by omega) 0 0 false)
    clear hR hb hbW hRW
    go_wp2_with fail
    obtain ⟨q0, q1, q2⟩ := Q.out
    refine bodyPost_ret (v := sv 0 0 false) (by simp [results, Tryd.results19, go_sem, q0, q1, q2]) rfl ?_
    exact ⟨0, 0, false, rfl, SpOk.zero, HBt.out⟩
  cases m
  · skip
    go_enter Tryd.func19, Tryd.ntmps19
    go_wp2_with fail
    refine calls_in (fun W => Below w.heap.size w W ∧ W.heap[w.heap.size + 2]? = some (spCells 0 0 false)) ⟨(((Below.refl _ _).alloc (Nat.le_refl _) _).alloc (by simp) _).alloc (by simp; omega) _, alloc_at (by simp)⟩ ?_
    rintro W ⟨hbW, hRW⟩
    refine (N.out _).mono ?_
    rintro e w2 ⟨rfl, hb⟩
    have hR := (hb.block _ (heap_lt hRW)).trans hRW
    have r0 := cell_of_block (o := 0) hR rfl
    have r1 := cell_of_block (o := 1) hR rfl
    have r2 := cell_of_block (o := 2) hR rfl
    have g0 := frozen_of_block (o := 0) hR
    have g1 := frozen_of_block (o := 1) hR
    have g2 := frozen_of_block (o := 2) hR
    have Q := hideq (set3 hR 0 0 false)
    have HBt := hideq (set3_below (hbW.trans (hb.mono hbW.size)) (show w.heap.size ≤ w.heap.size + 2 by omega) 0 0 false)
    clear hR hb hbW hRW
    go_wp2_with fail
    obtain ⟨q0, q1, q2⟩ := Q.out
    refine bodyPost_ret (v := sv 0 0 false) (by simp [results, Tryd.results19, go_sem, q0, q1, q2]) rfl ?_
    exact ⟨0, 0, false, rfl, SpOk.zero, HBt.out⟩
  go_enter Tryd.func19, Tryd.ntmps19
  go_wp2_with fail
  refine calls_in (fun W => Below w.heap.size w W ∧ W.heap[w.heap.size + 2]? = some (spCells 0 0 false)) ⟨(((Below.refl _ _).alloc (Nat.le_refl _) _).alloc (by simp) _).alloc (by simp; omega) _, alloc_at (by simp)⟩ ?_
  rintro W ⟨hbW, hRW⟩
  refine (O.out _).mono ?_
  rintro e w2 ⟨rfl, hb⟩
  have hR := (hb.block _ (heap_lt hRW)).trans hRW
  have r0 := cell_of_block (o := 0) hR rfl
  have r1 := cell_of_block (o := 1) hR rfl
  have r2 := cell_of_block (o := 2) hR rfl
  have g0 := frozen_of_block (o := 0) hR
  have g1 := frozen_of_block (o := 1) hR
  have g2 := frozen_of_block (o := 2) hR
  have Q := hideq (set3 hR (ofS (a + c) (b + d)).1 (ofS (a + c) (b + d)).2.1 (ofS (a + c) (b + d)).2.2)
  have HBt := hideq (set3_below (hbW.trans (hb.mono hbW.size)) (show w.heap.size ≤ w.heap.size + 2 by omega) (ofS (a + c) (b + d)).1 (ofS (a + c) (b + d)).2.1 (ofS (a + c) (b + d)).2.2)
  clear hR hb hbW hRW
  go_wp2_with fail
  obtain ⟨q0, q1, q2⟩ := Q.out
  refine bodyPost_ret (v := sv (ofS (a + c) (b + d)).1 (ofS (a + c) (b + d)).2.1 (ofS (a + c) (b + d)).2.2) (by simp [results, Tryd.results19, go_sem, q0, q1, q2]) rfl ?_
  exact ⟨_, _, _, rfl, SO.out, HBt.out⟩

set_option maxHeartbeats 400000 in
theorem hull_any (a b : Int) (k : Bool) (c d : Int) (m : Bool) (w : World) (h : SpOk a b) (h' : SpOk c d) : Calls Tryd.prog 31 #[sv a b k, sv c d m] w (SpPost w) := by
  have h1 := h.lo
  have h2 := h.le
  have h3 := h.hi
  have h4 := h'.lo
  have h5 := h'.le
  have h6 := h'.hi
  have N := hideq (fun w => nothing_any w)
  have O := hideq (fun x y w => of_any x y w)
  clear h h'
  cases k
  · skip
    go_enter Tryd.func31, Tryd.ntmps31
    go_wp2_with fail
    refine calls_in (fun W => Below w.heap.size w W ∧ W.heap[w.heap.size + 2]? = some (spCells 0 0 false)) ⟨(((Below.refl _ _).alloc (Nat.le_refl _) _).alloc (by simp) _).alloc (by simp; omega) _, alloc_at (by simp)⟩ ?_
    rintro W ⟨hbW, hRW⟩
    refine (N.out _).mono ?_
    rintro e w2 ⟨rfl, hb⟩
    have hR := (hb.block _ (heap_lt hRW)).trans hRW
    have r0 := cell_of_block (o := 0) hR rfl
    have r1 := cell_of_block (o := 1) hR rfl
    have r2 := cell_of_block (o := 2) hR rfl
    have g0 := frozen_of_block (o := 0) hR
    have g1 := frozen_of_block (o := 1) hR
    have g2 := frozen_of_block (o := 2) hR
    have Q := hideq (set3 hR 0 0 false)
    have HBt := hideq (set3_below (hbW.trans (hb.mono hbW.size)) (show w.heap.size ≤ w.heap.size + 2 by omega) 0 0 false)
    clear hR hb hbW hRW
    go_wp2_with fail
    obtain ⟨q0, q1, q2⟩ := Q.out
    refine bodyPost_ret (v := sv 0 0 false) (by simp [results, Tryd.results31, go_sem, q0, q1, q2]) rfl ?_
    exact ⟨0, 0, false, rfl, SpOk.zero, HBt.out⟩
  cases m
  · skip
    go_enter Tryd.func31, Tryd.ntmps31
    go_wp2_with fail
    refine calls_in (fun W => Below w.heap.size w W ∧ W.heap[w.heap.size + 2]? = some (spCells 0 0 false)) ⟨(((Below.refl _ _).alloc (Nat.le_refl _) _).alloc (by simp) _).alloc (by simp; omega) _, alloc_at (by simp)⟩ ?_
    rintro W ⟨hbW, hRW⟩
    refine (N.out _).mono ?_
    rintro e w2 ⟨rfl, hb⟩
    have hR := (hb.block _ (heap_lt hRW)).trans hRW
    have r0 := cell_of_block (o := 0) hR rfl
    have r1 := cell_of_block (o := 1) hR rfl
    have r2 := cell_of_block (o := 2) hR rfl
    have g0 := frozen_of_block (o := 0) hR
    have g1 := frozen_of_block (o := 1) hR
    have g2 := frozen_of_block (o := 2) hR
    have Q := hideq (set3 hR 0 0 false)
    have HBt := hideq (set3_below (hbW.trans (hb.mono hbW.size)) (show w.heap.size ≤ w.heap.size + 2 by omega) 0 0 false)
    clear hR hb hbW hRW
    go_wp2_with fail
    obtain ⟨q0, q1, q2⟩ := Q.out
    refine bodyPost_ret (v := sv 0 0 false) (by simp [results, Tryd.results31, go_sem, q0, q1, q2]) rfl ?_
    exact ⟨0, 0, false, rfl, SpOk.zero, HBt.out⟩
  go_enter Tryd.func31, Tryd.ntmps31
  go_wp2_with fail
  all_goals
    refine calls_in (fun W => Below w.heap.size w W ∧ W.heap[w.heap.size + 2]? = some (spCells 0 0 false)) ⟨(((Below.refl _ _).alloc (Nat.le_refl _) _).alloc (by simp) _).alloc (by simp; omega) _, alloc_at (by simp)⟩ ?_
    rintro W ⟨hbW, hRW⟩
    refine ((O.out _ _ _).mono (fun _ _ h => OfPost.sp (by omega) h)).mono ?_
    rintro e w2 ⟨p, q, r, rfl, hok, hb⟩
    have HOK := hideq hok
    clear hok
    have hR := (hb.block _ (heap_lt hRW)).trans hRW
    have r0 := cell_of_block (o := 0) hR rfl
    have r1 := cell_of_block (o := 1) hR rfl
    have r2 := cell_of_block (o := 2) hR rfl
    have g0 := frozen_of_block (o := 0) hR
    have g1 := frozen_of_block (o := 1) hR
    have g2 := frozen_of_block (o := 2) hR
    have Q := hideq (set3 hR p q r)
    have HBt := hideq (set3_below (hbW.trans (hb.mono hbW.size)) (show w.heap.size ≤ w.heap.size + 2 by omega) p q r)
    clear hR hb hbW hRW
    go_wp2_with fail
    obtain ⟨q0, q1, q2⟩ := Q.out
    refine bodyPost_ret (v := sv p q r) (by simp [results, Tryd.results31, go_sem, q0, q1, q2]) rfl ?_
    exact ⟨p, q, r, rfl, HOK.out, HBt.out⟩

theorem inv_le {a b : Int} (ha : 0 < a) (hab : a ≤ b) : 1099511627776 / b ≤ -((-1099511627776) / a) := by
  have h1 : (1099511627776 : Int) / b ≤ 1099511627776 / a := by
    rw [Int.le_ediv_iff_mul_le ha]
    have h2 : (1099511627776 : Int) / b * b ≤ 1099511627776 := Int.ediv_mul_le _ (by omega)
    have h3 : (0 : Int) ≤ 1099511627776 / b := Int.ediv_nonneg (by omega) (by omega)
    have h4 := Int.mul_le_mul_of_nonneg_left hab h3
    omega
  have h5 := floor_ceil (a := 1099511627776) (b := 1099511627776) ha (Int.le_refl _)
  omega

set_option maxHeartbeats 400000 in
theorem over_no (a b : Int) (w : World) : Calls Tryd.prog 20 #[sv a b false] w (SpPost w) := by
  have N := hideq (fun w => nothing_any w)
  go_enter Tryd.func20, Tryd.ntmps20
  go_wp2_with fail
  refine calls_in (fun W => Below w.heap.size w W ∧ W.heap[w.heap.size + 1]? = some (spCells 0 0 false)) ⟨((Below.refl _ _).alloc (Nat.le_refl _) _).alloc (by simp) _, alloc_at (by simp)⟩ ?_
  rintro W ⟨hbW, hRW⟩
  refine (N.out _).mono ?_
  rintro e w2 ⟨rfl, hb⟩
  have hR := (hb.block _ (heap_lt hRW)).trans hRW
  have r0 := cell_of_block (o := 0) hR rfl
  have r1 := cell_of_block (o := 1) hR rfl
  have r2 := cell_of_block (o := 2) hR rfl
  have g0 := frozen_of_block (o := 0) hR
  have g1 := frozen_of_block (o := 1) hR
  have g2 := frozen_of_block (o := 2) hR
  have Q := hideq (set3 hR 0 0 false)
  have HBt := hideq (set3_below (hbW.trans (hb.mono hbW.size)) (show w.heap.size ≤ w.heap.size + 1 by omega) 0 0 false)
  clear hR hb hbW hRW
  go_wp2_with fail
  obtain ⟨q0, q1, q2⟩ := Q.out
  refine bodyPost_ret (v := sv 0 0 false) (by simp [results, Tryd.results20, go_sem, q0, q1, q2]) rfl ?_
  exact ⟨0, 0, false, rfl, SpOk.zero, HBt.out⟩

end Go.Proofs.YtmepffenlgedbaaDoor
