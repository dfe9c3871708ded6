/-
  THE WALKS of realskeep's plain intervals: inverses, products, roots.
-/
import Derived.Test.YtmepffenlgedbaaDoorSpan2
import Derived.Deep.RegionHeld3
set_option linter.unusedSimpArgs false
namespace Go.Proofs.YtmepffenlgedbaaDoor
open Go.RowKit

set_option maxHeartbeats 1000000 in
theorem over_pos (a b : Int) (w : World) (ha : 0 < a) (hab : a ≤ b) (hb0 : b ≤ 1073741824) : Calls Tryd.prog 20 #[sv a b true] w (SpPost w) := by
  have F := hideq (fun w => floor_any 1099511627776 b w (by omega) (by omega) (by omega) (by omega))
  have G := hideq (fun w => ceil_any 1099511627776 a w (by omega) (by omega) (by omega) (by omega))
  have O := hideq (fun x y w => of_any x y w)
  have HLE := hideq (inv_le ha hab)
  go_enter Tryd.func20, Tryd.ntmps20
  go_wp2_with fail
  go_region_held3 (fun w' => w'.cell? ⟨w.heap.size, 0, none⟩ = some (.int .i64 a) ∧ w'.cell? ⟨w.heap.size, 1, none⟩ = some (.int .i64 b)) (go_keep)
    (first | (go_at_call 17; refine (F.out _).mono ?_; rintro e w1 ⟨rfl, rfl⟩) | (go_at_call 18; refine (G.out _).mono ?_; rintro e w1 ⟨rfl, rfl⟩) | (go_at_call 16; refine ((O.out _ _ _).mono (fun _ _ h => OfPost.sp HLE.out h)).mono ?_; rintro e w2 ⟨p, q, r, rfl, hok, hb⟩; have hbd := undrewS hb; have s0 := (hbd.cell (p := ⟨w.heap.size, 0, none⟩) (by simp <;> omega)).trans (cell_of_block (alloc_old (cells_new _ _)) rfl); have s1 := (hbd.cell (p := ⟨w.heap.size, 1, none⟩) (by simp <;> omega)).trans (cell_of_block (alloc_old (cells_new _ _)) rfl); have hR := (hbd.block _ (by simp <;> omega)).trans (alloc_at (n := w.heap.size + 1) (by simp)); have r0 := cell_of_block (o := 0) hR rfl; have r1 := cell_of_block (o := 1) hR rfl; have r2 := cell_of_block (o := 2) hR rfl; have g0 := frozen_of_block (o := 0) hR; have g1 := frozen_of_block (o := 1) hR; have g2 := frozen_of_block (o := 2) hR; have Q := hideq (set3 hR p q r); have HOK := hideq hok; have HBt := hideq (set3_below (Below.trans (((Below.refl _ _).alloc (Nat.le_refl _) _).alloc (by simp) _) (hbd.mono (by simp <;> omega))) (show w.heap.size ≤ w.heap.size + 1 by omega) p q r); clear hR hb hbd hok))
  all_goals
    go_wp2_with fail
    obtain ⟨q0, q1, q2⟩ := Q.out
    refine bodyPost_ret (v := sv p q r) (by simp [results, Tryd.results20, go_sem, q0, q1, q2]) rfl ?_
    exact ⟨p, q, r, rfl, HOK.out, HBt.out⟩

set_option maxHeartbeats 1000000 in
theorem over_any (a b : Int) (k : Bool) (w : World) (h : SpOk a b) : Calls Tryd.prog 20 #[sv a b k] w (SpPost w) := by
  have h1 := h.lo
  have h2 := h.le
  have h3 := h.hi
  cases k
  · exact over_no a b w
  by_cases p1 : 0 < a
  · exact over_pos a b w p1 h2 h3
  by_cases p2 : 0 ≤ b
  · have N := hideq (fun w => nothing_any w)
    clear h
    go_enter Tryd.func20, Tryd.ntmps20
    go_wp2_with fail
    refine calls_in (fun W => Below w.heap.size w W ∧ W.heap[w.heap.size + 1]? = some (spCells 0 0 false)) ⟨((Below.refl _ _).alloc (Nat.le_refl _) _).alloc (by simp) _, alloc_at (by simp)⟩ ?_
    rintro W ⟨hbW, hRW⟩
    refine (N.out _).mono ?_
    rintro e w2 ⟨rfl, hb⟩
    have hR := (hb.block _ (heap_lt hRW)).trans hRW
    have r0 := cell_of_block (o := 0) hR rfl
    have r1 := cell_of_block (o := 1) hR rfl
    have r2 := cell_of_block (o := 2) hR rfl
    have g0 := frozen_of_block (o := 0) hR
    have g1 := frozen_of_block (o := 1) hR
    have g2 := frozen_of_block (o := 2) hR
    have Q := hideq (set3 hR 0 0 false)
    have HBt := hideq (set3_below (hbW.trans (hb.mono hbW.size)) (show w.heap.size ≤ w.heap.size + 1 by omega) 0 0 false)
    clear hR hb hbW hRW
    go_wp2_with fail
    obtain ⟨q0, q1, q2⟩ := Q.out
    refine bodyPost_ret (v := sv 0 0 false) (by simp [results, Tryd.results20, go_sem, q0, q1, q2]) rfl ?_
    exact ⟨0, 0, false, rfl, SpOk.zero, HBt.out⟩
  have NG := hideq (fun w => neg_any a b true w h)
  have OV := hideq (fun w => over_pos (-b) (-a) w (by omega) (by omega) (by omega))
  have N2 := hideq (fun x y z w h => neg_any x y z w h)
  clear h
  go_enter Tryd.func20, Tryd.ntmps20
  go_wp2_with fail
  refine calls_in (fun W => Below w.heap.size w W ∧ W.heap[w.heap.size + 1]? = some (spCells 0 0 false)) ⟨((Below.refl _ _).alloc (Nat.le_refl _) _).alloc (by simp) _, alloc_at (by simp)⟩ ?_
  rintro W ⟨hbW, hRW⟩
  refine (NG.out _).mono ?_
  rintro e w1 ⟨rfl, hb1⟩
  go_wp2_with fail
  refine (OV.out _).mono ?_
  rintro e w3 ⟨x, y, z, rfl, hok3, hb3⟩
  go_wp2_with fail
  refine (N2.out _ _ _ _ hok3).mono ?_
  rintro e w2 ⟨rfl, hb2⟩
  have hb := hb1.trans ((hb3.trans (hb2.mono hb3.size)).mono hb1.size)
  have hok := hok3.neg
  clear hok3 hb1 hb2 hb3
  have HOK := hideq hok
  clear hok
  have hR := (hb.block _ (heap_lt hRW)).trans hRW
  have r0 := cell_of_block (o := 0) hR rfl
  have r1 := cell_of_block (o := 1) hR rfl
  have r2 := cell_of_block (o := 2) hR rfl
  have g0 := frozen_of_block (o := 0) hR
  have g1 := frozen_of_block (o := 1) hR
  have g2 := frozen_of_block (o := 2) hR
  have Q := hideq (set3 hR (-y) (-x) z)
  have HBt := hideq (set3_below (hbW.trans (hb.mono hbW.size)) (show w.heap.size ≤ w.heap.size + 1 by omega) (-y) (-x) z)
  clear hR hb hbW hRW
  go_wp2_with fail
  obtain ⟨q0, q1, q2⟩ := Q.out
  refine bodyPost_ret (v := sv (-y) (-x) z) (by simp [results, Tryd.results20, go_sem, q0, q1, q2]) rfl ?_
  exact ⟨_, _, _, rfl, HOK.out, HBt.out⟩
end Go.Proofs.YtmepffenlgedbaaDoor
