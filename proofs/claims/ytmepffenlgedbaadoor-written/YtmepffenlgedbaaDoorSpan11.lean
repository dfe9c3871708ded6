/-
  THE WALKS of realskeep's plain intervals: ln1p and atan of both ends.
-/
import Derived.Test.YtmepffenlgedbaaDoorSpan9
import Derived.Test.YtmepffenlgedbaaDoorSpan10
set_option linter.unusedSimpArgs false
namespace Go.Proofs.YtmepffenlgedbaaDoor
open Go.RowKit

set_option maxHeartbeats 1000000 in
theorem ln1p_any (a b : Int) (k : Bool) (w : World) (h : SpOk a b) : Calls Tryd.prog 25 #[sv a b k] w (SpPost w) := by
  have h1 := h.lo
  have h2 := h.le
  have h3 := h.hi
  have N := hideq (fun w => nothing_any w)
  clear h
  cases k
  · skip
    go_enter Tryd.func25, Tryd.ntmps25
    go_wp2_with fail
    refine calls_in (fun W => Below w.heap.size w W ∧ W.heap[w.heap.size + 1]? = some (spCells 0 0 false)) ⟨((Below.refl _ _).alloc (Nat.le_refl _) _).alloc (by simp) _, alloc_at (by simp)⟩ ?_
    rintro W ⟨hbW, hRW⟩
    refine (N.out _).mono ?_
    rintro e w2 ⟨rfl, hb⟩
    have hR := (hb.block _ (heap_lt hRW)).trans hRW
    have r0 := cell_of_block (o := 0) hR rfl
    have r1 := cell_of_block (o := 1) hR rfl
    have r2 := cell_of_block (o := 2) hR rfl
    have g0 := frozen_of_block (o := 0) hR
    have g1 := frozen_of_block (o := 1) hR
    have g2 := frozen_of_block (o := 2) hR
    have Q := hideq (set3 hR 0 0 false)
    have HBt := hideq (set3_below (hbW.trans (hb.mono hbW.size)) (show w.heap.size ≤ w.heap.size + 1 by omega) 0 0 false)
    clear hR hb hbW hRW
    go_wp2_with fail
    obtain ⟨q0, q1, q2⟩ := Q.out
    refine bodyPost_ret (v := sv 0 0 false) (by simp [results, Tryd.results25, go_sem, q0, q1, q2]) rfl ?_
    exact ⟨0, 0, false, rfl, SpOk.zero, HBt.out⟩
  by_cases p2 : a < 0
  · skip
    go_enter Tryd.func25, Tryd.ntmps25
    go_wp2_with fail
    refine calls_in (fun W => Below w.heap.size w W ∧ W.heap[w.heap.size + 1]? = some (spCells 0 0 false)) ⟨((Below.refl _ _).alloc (Nat.le_refl _) _).alloc (by simp) _, alloc_at (by simp)⟩ ?_
    rintro W ⟨hbW, hRW⟩
    refine (N.out _).mono ?_
    rintro e w2 ⟨rfl, hb⟩
    have hR := (hb.block _ (heap_lt hRW)).trans hRW
    have r0 := cell_of_block (o := 0) hR rfl
    have r1 := cell_of_block (o := 1) hR rfl
    have r2 := cell_of_block (o := 2) hR rfl
    have g0 := frozen_of_block (o := 0) hR
    have g1 := frozen_of_block (o := 1) hR
    have g2 := frozen_of_block (o := 2) hR
    have Q := hideq (set3 hR 0 0 false)
    have HBt := hideq (set3_below (hbW.trans (hb.mono hbW.size)) (show w.heap.size ≤ w.heap.size + 1 by omega) 0 0 false)
    clear hR hb hbW hRW
    go_wp2_with fail
    obtain ⟨q0, q1, q2⟩ := Q.out
    refine bodyPost_ret (v := sv 0 0 false) (by simp [results, Tryd.results25, go_sem, q0, q1, q2]) rfl ?_
    exact ⟨0, 0, false, rfl, SpOk.zero, HBt.out⟩
  have F : Hid (∀ (x : Int) (w : World), x = a + 1048576 → Calls Tryd.prog 33 #[.int .i64 x] w (SpPost w)) := by
    rintro x w rfl
    exact lnOf_any _ w
  have G : Hid (∀ (x : Int) (w : World), x = b + 1048576 → Calls Tryd.prog 33 #[.int .i64 x] w (SpPost w)) := by
    rintro x w rfl
    exact lnOf_any _ w
  have HU := hideq (fun a b k c d m w h h' => hull_any a b k c d m w h h')
  go_enter Tryd.func25, Tryd.ntmps25
  go_wp2_with fail
  have hX : ((w.alloc (.cells #[.int .i64 a, .int .i64 b, .bool true] 37)).alloc (.cells #[.int .i64 0, .int .i64 0, .bool false] 37)).heap[w.heap.size]? = some (spCells a b true) := alloc_old (cells_new _ _)
  have hR : ((w.alloc (.cells #[.int .i64 a, .int .i64 b, .bool true] 37)).alloc (.cells #[.int .i64 0, .int .i64 0, .bool false] 37)).heap[w.heap.size + 1]? = some (spCells 0 0 false) := alloc_at (by simp)
  have hB0 : Below w.heap.size w ((w.alloc (.cells #[.int .i64 a, .int .i64 b, .bool true] 37)).alloc (.cells #[.int .i64 0, .int .i64 0, .bool false] 37)) := ((Below.refl _ _).alloc (Nat.le_refl _) _).alloc (by simp) _
  have HB0 := hideq hB0
  clear hB0
  have ax0 := cell_of_block (o := 0) hX rfl
  have ax1 := cell_of_block (o := 1) hX rfl
  have ax2 := cell_of_block (o := 2) hX rfl
  refine wp_region_E (fun w' : World => w'.cell? ⟨w.heap.size, 0, none⟩ = some (.int .i64 a) ∧ w'.cell? ⟨w.heap.size, 1, none⟩ = some (.int .i64 b) ∧ w'.cell? ⟨w.heap.size, 2, none⟩ = some (.bool true)) (fun i => !(i == 9)) (by kernel_rfl) ?_
  have hSh : Shut ((fun w' : World => w'.cell? ⟨w.heap.size, 0, none⟩ = some (.int .i64 a) ∧ w'.cell? ⟨w.heap.size, 1, none⟩ = some (.int .i64 b) ∧ w'.cell? ⟨w.heap.size, 2, none⟩ = some (.bool true)) ((w.alloc (.cells #[.int .i64 a, .int .i64 b, .bool true] 37)).alloc (.cells #[.int .i64 0, .int .i64 0, .bool false] 37)).drew) := ⟨ax0, ax1, ax2⟩
  refine wpAnyE_take (i := 0) (v := ?vb0) rfl (by kernel_rfl) (by kernel_rfl) (by kernel_rfl) (by kernel_rfl) (fun _ _ _ h => h) (Or.inl ⟨by rfl, ?yb0⟩) hSh.out ?rb0
  case yb0 =>
    intro w hSw
    try dsimp only at hSw
    go_simp
    try with_reducible rfl
  try simp only [Act.put, List.setIfInBounds_toArray, List.set_cons_zero, List.set_cons_succ]
  refine wpAnyE_take (i := 1) (v := ?vb1) rfl (by kernel_rfl) (by kernel_rfl) (by kernel_rfl) (by kernel_rfl) (fun _ _ _ h => h) (Or.inl ⟨by rfl, ?yb1⟩) hSh.out ?rb1
  case yb1 =>
    intro w hSw
    try dsimp only at hSw
    go_simp
    try with_reducible rfl
  try simp only [Act.put, List.setIfInBounds_toArray, List.set_cons_zero, List.set_cons_succ]
  refine wpAnyE_take (i := 2) (v := ?vb2) rfl (by kernel_rfl) (by kernel_rfl) (by kernel_rfl) (by kernel_rfl) (fun _ _ _ h => h) (Or.inl ⟨by rfl, ?yb2⟩) hSh.out ?rb2
  case yb2 =>
    intro w hSw
    try dsimp only at hSw
    go_simp
    try with_reducible rfl
  try simp only [Act.put, List.setIfInBounds_toArray, List.set_cons_zero, List.set_cons_succ]
  refine wpAnyE_take (i := 4) (v := ?vb4) rfl (by kernel_rfl) (by kernel_rfl) (by kernel_rfl) (by kernel_rfl) (fun _ _ _ h => h) (Or.inl ⟨by rfl, ?yb4⟩) hSh.out ?rb4
  case yb4 =>
    intro w hSw
    try dsimp only at hSw
    go_simp
    try with_reducible rfl
  try simp only [Act.put, List.setIfInBounds_toArray, List.set_cons_zero, List.set_cons_succ]
  refine wpAnyE_take (i := 5) (v := ?vb5) rfl (by kernel_rfl) (by kernel_rfl) (by kernel_rfl) (by kernel_rfl) (fun _ _ _ h => h) (Or.inl ⟨by rfl, ?yb5⟩) hSh.out ?rb5
  case yb5 =>
    intro w hSw
    try dsimp only at hSw
    go_simp
    try with_reducible rfl
  try simp only [Act.put, List.setIfInBounds_toArray, List.set_cons_zero, List.set_cons_succ]
  refine wpAnyE_take (i := 6) (v := ?vb6) rfl (by kernel_rfl) (by kernel_rfl) (by kernel_rfl) (by kernel_rfl) (fun _ _ _ h => h) (Or.inl ⟨by rfl, ?yb6⟩) hSh.out ?rb6
  case yb6 =>
    intro w hSw
    try dsimp only at hSw
    go_simp
    try with_reducible rfl
  try simp only [Act.put, List.setIfInBounds_toArray, List.set_cons_zero, List.set_cons_succ]
  clear hSh
  refine wpAnyE_one (i := 3) (by kernel_rfl) rfl (fun K hK => ?_)
  go_simp
  refine (F.out _ _ (by first | rfl | (rw [IntKind.wrap_i64]; omega))).mono ?_
  rintro e v1 ⟨a1, b1, c1, rfl, hok1, hv1⟩
  have hd1 := undrewS hv1
  have hX1 := (hd1.block _ (heap_lt hX)).trans hX
  have hR1 := (hd1.block _ (heap_lt hR)).trans hR
  have cx0 := cell_of_block (o := 0) hX1 rfl
  have cx1 := cell_of_block (o := 1) hX1 rfl
  have cx2 := cell_of_block (o := 2) hX1 rfl
  clear hv1
  go_wp2_with fail
  refine hK.out _ _ (fun _ => ⟨cx0, cx1, cx2⟩) ?_
  clear hK K
  try simp only [Act.put, List.setIfInBounds_toArray, List.set_cons_zero, List.set_cons_succ]
  refine wpAnyE_one (i := 7) (by kernel_rfl) rfl (fun K hK => ?_)
  go_simp
  refine (G.out _ _ (by first | rfl | (rw [IntKind.wrap_i64]; omega))).mono ?_
  rintro e v2 ⟨a2, b2, c2, rfl, hok2, hv2⟩
  have hX2 := (hv2.block _ (heap_lt hX1)).trans hX1
  have hR2 := (hv2.block _ (heap_lt hR1)).trans hR1
  have dx0 := cell_of_block (o := 0) hX2 rfl
  have dx1 := cell_of_block (o := 1) hX2 rfl
  have dx2 := cell_of_block (o := 2) hX2 rfl
  go_wp2_with fail
  refine hK.out _ _ (fun _ => ⟨dx0, dx1, dx2⟩) ?_
  clear hK K
  try simp only [Act.put, List.setIfInBounds_toArray, List.set_cons_zero, List.set_cons_succ]
  refine wpAnyE_one (i := 8) (by kernel_rfl) rfl (fun K hK => ?_)
  go_simp
  refine (HU.out _ _ _ _ _ _ _ hok1 hok2).mono ?_
  rintro e v3 ⟨a3, b3, c3, rfl, hok3, hv3⟩
  have hX3 := (hv3.block _ (heap_lt hX2)).trans hX2
  have hR3 := (hv3.block _ (heap_lt hR2)).trans hR2
  have ex0 := cell_of_block (o := 0) hX3 rfl
  have ex1 := cell_of_block (o := 1) hX3 rfl
  have ex2 := cell_of_block (o := 2) hX3 rfl
  have rr0 := cell_of_block (o := 0) hR3 rfl
  have rr1 := cell_of_block (o := 1) hR3 rfl
  have rr2 := cell_of_block (o := 2) hR3 rfl
  have rg0 := frozen_of_block (o := 0) hR3
  have rg1 := frozen_of_block (o := 1) hR3
  have rg2 := frozen_of_block (o := 2) hR3
  go_wp2_with fail
  refine hK.out _ _ (fun _ => ⟨ex0, ex1, ex2⟩) ?_
  clear hK K
  try simp only [Act.put, List.setIfInBounds_toArray, List.set_cons_zero, List.set_cons_succ]
  refine wpAnyE_one (i := 9) (by kernel_rfl) rfl (fun K hK => ?_)
  go_simp
  refine hK.out _ _ (fun h => absurd h (by decide)) ?_
  clear hK K
  refine wpAnyE_done (by kernel_rfl) ?_ _
  have Q := hideq (set3 hR3 a3 b3 c3)
  have HBt := hideq (set3_below (HB0.out.trans ((hd1.trans (Below.mono (hv2.trans (hv3.mono hv2.size)) hd1.size)).mono HB0.out.size)) (show w.heap.size ≤ w.heap.size + 1 by omega) a3 b3 c3)
  have HOK := hideq hok3
  clear hd1 hv2 hv3 hX hX1 hX2 hX3 hR hR1 hR2 hR3 hok1 hok2 hok3
  go_wp2_with fail
  obtain ⟨q0, q1, q2⟩ := Q.out
  refine bodyPost_ret (v := sv a3 b3 c3) (by simp [results, Tryd.results25, go_sem, q0, q1, q2]) rfl ?_
  exact ⟨a3, b3, c3, rfl, HOK.out, HBt.out⟩

set_option maxHeartbeats 1000000 in
theorem atan_any (a b : Int) (k : Bool) (w : World) (h : SpOk a b) : Calls Tryd.prog 26 #[sv a b k] w (SpPost w) := by
  have h1 := h.lo
  have h2 := h.le
  have h3 := h.hi
  have N := hideq (fun w => nothing_any w)
  clear h
  cases k
  · skip
    go_enter Tryd.func26, Tryd.ntmps26
    go_wp2_with fail
    refine calls_in (fun W => Below w.heap.size w W ∧ W.heap[w.heap.size + 1]? = some (spCells 0 0 false)) ⟨((Below.refl _ _).alloc (Nat.le_refl _) _).alloc (by simp) _, alloc_at (by simp)⟩ ?_
    rintro W ⟨hbW, hRW⟩
    refine (N.out _).mono ?_
    rintro e w2 ⟨rfl, hb⟩
    have hR := (hb.block _ (heap_lt hRW)).trans hRW
    have r0 := cell_of_block (o := 0) hR rfl
    have r1 := cell_of_block (o := 1) hR rfl
    have r2 := cell_of_block (o := 2) hR rfl
    have g0 := frozen_of_block (o := 0) hR
    have g1 := frozen_of_block (o := 1) hR
    have g2 := frozen_of_block (o := 2) hR
    have Q := hideq (set3 hR 0 0 false)
    have HBt := hideq (set3_below (hbW.trans (hb.mono hbW.size)) (show w.heap.size ≤ w.heap.size + 1 by omega) 0 0 false)
    clear hR hb hbW hRW
    go_wp2_with fail
    obtain ⟨q0, q1, q2⟩ := Q.out
    refine bodyPost_ret (v := sv 0 0 false) (by simp [results, Tryd.results26, go_sem, q0, q1, q2]) rfl ?_
    exact ⟨0, 0, false, rfl, SpOk.zero, HBt.out⟩
  by_cases p2 : a < 0
  · skip
    go_enter Tryd.func26, Tryd.ntmps26
    go_wp2_with fail
    refine calls_in (fun W => Below w.heap.size w W ∧ W.heap[w.heap.size + 1]? = some (spCells 0 0 false)) ⟨((Below.refl _ _).alloc (Nat.le_refl _) _).alloc (by simp) _, alloc_at (by simp)⟩ ?_
    rintro W ⟨hbW, hRW⟩
    refine (N.out _).mono ?_
    rintro e w2 ⟨rfl, hb⟩
    have hR := (hb.block _ (heap_lt hRW)).trans hRW
    have r0 := cell_of_block (o := 0) hR rfl
    have r1 := cell_of_block (o := 1) hR rfl
    have r2 := cell_of_block (o := 2) hR rfl
    have g0 := frozen_of_block (o := 0) hR
    have g1 := frozen_of_block (o := 1) hR
    have g2 := frozen_of_block (o := 2) hR
    have Q := hideq (set3 hR 0 0 false)
    have HBt := hideq (set3_below (hbW.trans (hb.mono hbW.size)) (show w.heap.size ≤ w.heap.size + 1 by omega) 0 0 false)
    clear hR hb hbW hRW
    go_wp2_with fail
    obtain ⟨q0, q1, q2⟩ := Q.out
    refine bodyPost_ret (v := sv 0 0 false) (by simp [results, Tryd.results26, go_sem, q0, q1, q2]) rfl ?_
    exact ⟨0, 0, false, rfl, SpOk.zero, HBt.out⟩
  have F : Hid (∀ (x : Int) (w : World), x = a → Calls Tryd.prog 34 #[.int .i64 x] w (SpPost w)) := by
    rintro x w rfl
    exact atanOf_any _ w
  have G : Hid (∀ (x : Int) (w : World), x = b → Calls Tryd.prog 34 #[.int .i64 x] w (SpPost w)) := by
    rintro x w rfl
    exact atanOf_any _ w
  have HU := hideq (fun a b k c d m w h h' => hull_any a b k c d m w h h')
  go_enter Tryd.func26, Tryd.ntmps26
  go_wp2_with fail
  have hX : ((w.alloc (.cells #[.int .i64 a, .int .i64 b, .bool true] 37)).alloc (.cells #[.int .i64 0, .int .i64 0, .bool false] 37)).heap[w.heap.size]? = some (spCells a b true) := alloc_old (cells_new _ _)
  have hR : ((w.alloc (.cells #[.int .i64 a, .int .i64 b, .bool true] 37)).alloc (.cells #[.int .i64 0, .int .i64 0, .bool false] 37)).heap[w.heap.size + 1]? = some (spCells 0 0 false) := alloc_at (by simp)
  have hB0 : Below w.heap.size w ((w.alloc (.cells #[.int .i64 a, .int .i64 b, .bool true] 37)).alloc (.cells #[.int .i64 0, .int .i64 0, .bool false] 37)) := ((Below.refl _ _).alloc (Nat.le_refl _) _).alloc (by simp) _
  have HB0 := hideq hB0
  clear hB0
  have ax0 := cell_of_block (o := 0) hX rfl
  have ax1 := cell_of_block (o := 1) hX rfl
  have ax2 := cell_of_block (o := 2) hX rfl
  refine wp_region_E (fun w' : World => w'.cell? ⟨w.heap.size, 0, none⟩ = some (.int .i64 a) ∧ w'.cell? ⟨w.heap.size, 1, none⟩ = some (.int .i64 b) ∧ w'.cell? ⟨w.heap.size, 2, none⟩ = some (.bool true)) (fun i => !(i == 7)) (by kernel_rfl) ?_
  have hSh : Shut ((fun w' : World => w'.cell? ⟨w.heap.size, 0, none⟩ = some (.int .i64 a) ∧ w'.cell? ⟨w.heap.size, 1, none⟩ = some (.int .i64 b) ∧ w'.cell? ⟨w.heap.size, 2, none⟩ = some (.bool true)) ((w.alloc (.cells #[.int .i64 a, .int .i64 b, .bool true] 37)).alloc (.cells #[.int .i64 0, .int .i64 0, .bool false] 37)).drew) := ⟨ax0, ax1, ax2⟩
  refine wpAnyE_take (i := 0) (v := ?vb0) rfl (by kernel_rfl) (by kernel_rfl) (by kernel_rfl) (by kernel_rfl) (fun _ _ _ h => h) (Or.inl ⟨by rfl, ?yb0⟩) hSh.out ?rb0
  case yb0 =>
    intro w hSw
    try dsimp only at hSw
    go_simp
    try with_reducible rfl
  try simp only [Act.put, List.setIfInBounds_toArray, List.set_cons_zero, List.set_cons_succ]
  refine wpAnyE_take (i := 1) (v := ?vb1) rfl (by kernel_rfl) (by kernel_rfl) (by kernel_rfl) (by kernel_rfl) (fun _ _ _ h => h) (Or.inl ⟨by rfl, ?yb1⟩) hSh.out ?rb1
  case yb1 =>
    intro w hSw
    try dsimp only at hSw
    go_simp
    try with_reducible rfl
  try simp only [Act.put, List.setIfInBounds_toArray, List.set_cons_zero, List.set_cons_succ]
  refine wpAnyE_take (i := 3) (v := ?vb3) rfl (by kernel_rfl) (by kernel_rfl) (by kernel_rfl) (by kernel_rfl) (fun _ _ _ h => h) (Or.inl ⟨by rfl, ?yb3⟩) hSh.out ?rb3
  case yb3 =>
    intro w hSw
    try dsimp only at hSw
    go_simp
    try with_reducible rfl
  try simp only [Act.put, List.setIfInBounds_toArray, List.set_cons_zero, List.set_cons_succ]
  refine wpAnyE_take (i := 4) (v := ?vb4) rfl (by kernel_rfl) (by kernel_rfl) (by kernel_rfl) (by kernel_rfl) (fun _ _ _ h => h) (Or.inl ⟨by rfl, ?yb4⟩) hSh.out ?rb4
  case yb4 =>
    intro w hSw
    try dsimp only at hSw
    go_simp
    try with_reducible rfl
  try simp only [Act.put, List.setIfInBounds_toArray, List.set_cons_zero, List.set_cons_succ]
  clear hSh
  refine wpAnyE_one (i := 2) (by kernel_rfl) rfl (fun K hK => ?_)
  go_simp
  refine (F.out _ _ (by first | rfl | (rw [IntKind.wrap_i64]; omega))).mono ?_
  rintro e v1 ⟨a1, b1, c1, rfl, hok1, hv1⟩
  have hd1 := undrewS hv1
  have hX1 := (hd1.block _ (heap_lt hX)).trans hX
  have hR1 := (hd1.block _ (heap_lt hR)).trans hR
  have cx0 := cell_of_block (o := 0) hX1 rfl
  have cx1 := cell_of_block (o := 1) hX1 rfl
  have cx2 := cell_of_block (o := 2) hX1 rfl
  clear hv1
  go_wp2_with fail
  refine hK.out _ _ (fun _ => ⟨cx0, cx1, cx2⟩) ?_
  clear hK K
  try simp only [Act.put, List.setIfInBounds_toArray, List.set_cons_zero, List.set_cons_succ]
  refine wpAnyE_one (i := 5) (by kernel_rfl) rfl (fun K hK => ?_)
  go_simp
  refine (G.out _ _ (by first | rfl | (rw [IntKind.wrap_i64]; omega))).mono ?_
  rintro e v2 ⟨a2, b2, c2, rfl, hok2, hv2⟩
  have hX2 := (hv2.block _ (heap_lt hX1)).trans hX1
  have hR2 := (hv2.block _ (heap_lt hR1)).trans hR1
  have dx0 := cell_of_block (o := 0) hX2 rfl
  have dx1 := cell_of_block (o := 1) hX2 rfl
  have dx2 := cell_of_block (o := 2) hX2 rfl
  go_wp2_with fail
  refine hK.out _ _ (fun _ => ⟨dx0, dx1, dx2⟩) ?_
  clear hK K
  try simp only [Act.put, List.setIfInBounds_toArray, List.set_cons_zero, List.set_cons_succ]
  refine wpAnyE_one (i := 6) (by kernel_rfl) rfl (fun K hK => ?_)
  go_simp
  refine (HU.out _ _ _ _ _ _ _ hok1 hok2).mono ?_
  rintro e v3 ⟨a3, b3, c3, rfl, hok3, hv3⟩
  have hX3 := (hv3.block _ (heap_lt hX2)).trans hX2
  have hR3 := (hv3.block _ (heap_lt hR2)).trans hR2
  have ex0 := cell_of_block (o := 0) hX3 rfl
  have ex1 := cell_of_block (o := 1) hX3 rfl
  have ex2 := cell_of_block (o := 2) hX3 rfl
  have rr0 := cell_of_block (o := 0) hR3 rfl
  have rr1 := cell_of_block (o := 1) hR3 rfl
  have rr2 := cell_of_block (o := 2) hR3 rfl
  have rg0 := frozen_of_block (o := 0) hR3
  have rg1 := frozen_of_block (o := 1) hR3
  have rg2 := frozen_of_block (o := 2) hR3
  go_wp2_with fail
  refine hK.out _ _ (fun _ => ⟨ex0, ex1, ex2⟩) ?_
  clear hK K
  try simp only [Act.put, List.setIfInBounds_toArray, List.set_cons_zero, List.set_cons_succ]
  refine wpAnyE_one (i := 7) (by kernel_rfl) rfl (fun K hK => ?_)
  go_simp
  refine hK.out _ _ (fun h => absurd h (by decide)) ?_
  clear hK K
  refine wpAnyE_done (by kernel_rfl) ?_ _
  have Q := hideq (set3 hR3 a3 b3 c3)
  have HBt := hideq (set3_below (HB0.out.trans ((hd1.trans (Below.mono (hv2.trans (hv3.mono hv2.size)) hd1.size)).mono HB0.out.size)) (show w.heap.size ≤ w.heap.size + 1 by omega) a3 b3 c3)
  have HOK := hideq hok3
  clear hd1 hv2 hv3 hX hX1 hX2 hX3 hR hR1 hR2 hR3 hok1 hok2 hok3
  go_wp2_with fail
  obtain ⟨q0, q1, q2⟩ := Q.out
  refine bodyPost_ret (v := sv a3 b3 c3) (by simp [results, Tryd.results26, go_sem, q0, q1, q2]) rfl ?_
  exact ⟨a3, b3, c3, rfl, HOK.out, HBt.out⟩

end Go.Proofs.YtmepffenlgedbaaDoor
