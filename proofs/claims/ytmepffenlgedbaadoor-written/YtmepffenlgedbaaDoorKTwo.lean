/-
  THE WALKS of realskeep's two and single.
-/
import Derived.Test.YtmepffenlgedbaaDoorKNum
import Derived.Test.YtmepffenlgedbaaDoorSpan6
set_option linter.unusedSimpArgs false
namespace Go.Proofs.YtmepffenlgedbaaDoor
open Go.RowKit

abbrev itv (xp : Value) (t : ByteArray) (a b : Int) (k : Bool) : Value := .agg #[xp, .string t, .int .i64 a, .int .i64 b, .bool k]

/-- A text and an interval come out. -/
def TxtSp (w : World) (l : List UInt8) (e : Ending) (w' : World) : Prop := ∃ u a b k, e = .returned (.tuple #[.string u, sv a b k]) ∧ Str u l ∧ SpOk a b ∧ Below w.heap.size w w'

set_option maxRecDepth 100000 in
set_option maxHeartbeats 2000000 in
theorem two_0 (xp yp : Value) (t u : ByteArray) (lt lu : List UInt8) (a b : Int) (k : Bool) (c d : Int) (m : Bool) (n : Int) (w : World) (hn : pickI n 4 = 0) (h0 : -9223372036854775808 ≤ n) (h1 : n ≤ 9223372036854775807) (ht : Str t lt) (hu : Str u lu) (hlt : lt.length ≤ 1000) (hlu : lu.length ≤ 1000) (h : SpOk a b) (h' : SpOk c d) :
    Calls Tryd.prog 12 #[itv xp t a b k, itv yp u c d m, .int .i64 n] w (TxtSp w (40 :: (lt ++ [41, 32, 43, 32, 40] ++ lu ++ [41]))) := by
  have PK := hideq (fun w => pick_any n 4 w h0 h1 (by decide) (by decide))
  rw [hn] at PK
  obtain ⟨y1, ya1, ys1⟩ := add_namedK (Str.mk' [40]) ht (by simp; omega)
  obtain ⟨y2, ya2, ys2⟩ := add_namedK ys1 (Str.mk' [41, 32, 43, 32, 40]) (by simp; omega)
  obtain ⟨y3, ya3, ys3⟩ := add_namedK ys2 hu (by simp; omega)
  obtain ⟨y4, ya4, ys4⟩ := add_namedK ys3 (Str.mk' [41]) (by simp; omega)
  have Y4 := hideq ys4
  have M := hideq (fun a b k c d m w h h' => mul_any a b k c d m w h h')
  have AD := hideq (fun a b k c d m w h h' => add_any a b k c d m w h h')
  have OV := hideq (fun a b k w h => over_any a b k w h)
  have NG := hideq (fun a b k w h => neg_any a b k w h)
  clear ys1 ys2 ys3 ys4 ht hu
  go_enter Tryd.func12, Tryd.ntmps12
  go_wp2_with fail
  refine (PK.out _).mono ?_
  rintro e w1 ⟨rfl, rfl⟩
  go_wp2_with fail
  have hX : (((w.alloc (.cells #[xp, .string t, .int .i64 a, .int .i64 b, .bool k] 44)).alloc (.cells #[yp, .string u, .int .i64 c, .int .i64 d, .bool m] 44)).alloc (.cells #[.int .i64 0, .int .i64 0, .bool false] 37)).heap[w.heap.size]? = some (.cells #[xp, .string t, .int .i64 a, .int .i64 b, .bool k] 44 (0, 0)) := alloc_old (alloc_old (cells_new _ _))
  have hY : (((w.alloc (.cells #[xp, .string t, .int .i64 a, .int .i64 b, .bool k] 44)).alloc (.cells #[yp, .string u, .int .i64 c, .int .i64 d, .bool m] 44)).alloc (.cells #[.int .i64 0, .int .i64 0, .bool false] 37)).heap[w.heap.size + 1]? = some (.cells #[yp, .string u, .int .i64 c, .int .i64 d, .bool m] 44 (0, 0)) := alloc_old (alloc_at (by simp))
  have hR : (((w.alloc (.cells #[xp, .string t, .int .i64 a, .int .i64 b, .bool k] 44)).alloc (.cells #[yp, .string u, .int .i64 c, .int .i64 d, .bool m] 44)).alloc (.cells #[.int .i64 0, .int .i64 0, .bool false] 37)).heap[w.heap.size + 2]? = some (spCells 0 0 false) := alloc_at (by simp)
  have hB0 : Below w.heap.size w (((w.alloc (.cells #[xp, .string t, .int .i64 a, .int .i64 b, .bool k] 44)).alloc (.cells #[yp, .string u, .int .i64 c, .int .i64 d, .bool m] 44)).alloc (.cells #[.int .i64 0, .int .i64 0, .bool false] 37)) := (((Below.refl _ _).alloc (Nat.le_refl _) _).alloc (by simp) _).alloc (by simp; omega) _
  have HB0 := hideq hB0
  clear hB0
  refine wp_region_E (fun w' : World => w'.cell? ⟨w.heap.size, 1, none⟩ = some (.string t) ∧ w'.cell? ⟨w.heap.size, 2, none⟩ = some (.int .i64 a) ∧ w'.cell? ⟨w.heap.size, 3, none⟩ = some (.int .i64 b) ∧ w'.cell? ⟨w.heap.size, 4, none⟩ = some (.bool k) ∧ w'.cell? ⟨w.heap.size + 1, 1, none⟩ = some (.string u) ∧ w'.cell? ⟨w.heap.size + 1, 2, none⟩ = some (.int .i64 c) ∧ w'.cell? ⟨w.heap.size + 1, 3, none⟩ = some (.int .i64 d) ∧ w'.cell? ⟨w.heap.size + 1, 4, none⟩ = some (.bool m)) (fun i => !(i == 14)) (by kernel_rfl) ?_
  have hSh : Shut ((fun w' : World => w'.cell? ⟨w.heap.size, 1, none⟩ = some (.string t) ∧ w'.cell? ⟨w.heap.size, 2, none⟩ = some (.int .i64 a) ∧ w'.cell? ⟨w.heap.size, 3, none⟩ = some (.int .i64 b) ∧ w'.cell? ⟨w.heap.size, 4, none⟩ = some (.bool k) ∧ w'.cell? ⟨w.heap.size + 1, 1, none⟩ = some (.string u) ∧ w'.cell? ⟨w.heap.size + 1, 2, none⟩ = some (.int .i64 c) ∧ w'.cell? ⟨w.heap.size + 1, 3, none⟩ = some (.int .i64 d) ∧ w'.cell? ⟨w.heap.size + 1, 4, none⟩ = some (.bool m)) (((w.alloc (.cells #[xp, .string t, .int .i64 a, .int .i64 b, .bool k] 44)).alloc (.cells #[yp, .string u, .int .i64 c, .int .i64 d, .bool m] 44)).alloc (.cells #[.int .i64 0, .int .i64 0, .bool false] 37)).drew) := ⟨cell_of_block (o := 1) hX rfl, cell_of_block (o := 2) hX rfl, cell_of_block (o := 3) hX rfl, cell_of_block (o := 4) hX rfl, cell_of_block (o := 1) hY rfl, cell_of_block (o := 2) hY rfl, cell_of_block (o := 3) hY rfl, cell_of_block (o := 4) hY rfl⟩
  refine wpAnyE_take (i := 0) (v := ?va0) rfl (by kernel_rfl) (by kernel_rfl) (by kernel_rfl) (by kernel_rfl) (fun _ _ _ h => h) (Or.inl ⟨by rfl, ?ya0⟩) hSh.out ?ra0
  case ya0 =>
    intro w hSw
    try dsimp only at hSw
    go_simp
    try with_reducible rfl
  try simp only [Act.put, List.setIfInBounds_toArray, List.set_cons_zero, List.set_cons_succ]
  refine wpAnyE_take (i := 1) (v := ?va1) rfl (by kernel_rfl) (by kernel_rfl) (by kernel_rfl) (by kernel_rfl) (fun _ _ _ h => h) (Or.inl ⟨by rfl, ?ya1⟩) hSh.out ?ra1
  case ya1 =>
    intro w hSw
    try dsimp only at hSw
    go_simp
    try with_reducible rfl
  try simp only [Act.put, List.setIfInBounds_toArray, List.set_cons_zero, List.set_cons_succ]
  refine wpAnyE_take (i := 2) (v := ?va2) rfl (by kernel_rfl) (by kernel_rfl) (by kernel_rfl) (by kernel_rfl) (fun _ _ _ h => h) (Or.inl ⟨by rfl, ?ya2⟩) hSh.out ?ra2
  case ya2 =>
    intro w hSw
    try dsimp only at hSw
    go_simp
    try with_reducible rfl
  try simp only [Act.put, List.setIfInBounds_toArray, List.set_cons_zero, List.set_cons_succ]
  refine wpAnyE_take (i := 3) (v := ?va3) rfl (by kernel_rfl) (by kernel_rfl) (by kernel_rfl) (by kernel_rfl) (fun _ _ _ h => h) (Or.inl ⟨by rfl, ?ya3⟩) hSh.out ?ra3
  case ya3 =>
    intro w hSw
    try dsimp only at hSw
    go_simp
    try with_reducible rfl
  try simp only [Act.put, List.setIfInBounds_toArray, List.set_cons_zero, List.set_cons_succ]
  refine wpAnyE_take (i := 4) (v := ?va4) rfl (by kernel_rfl) (by kernel_rfl) (by kernel_rfl) (by kernel_rfl) (fun _ _ _ h => h) (Or.inl ⟨by rfl, ?ya4⟩) hSh.out ?ra4
  case ya4 =>
    intro w hSw
    try dsimp only at hSw
    go_simp
    try with_reducible rfl
  try simp only [Act.put, List.setIfInBounds_toArray, List.set_cons_zero, List.set_cons_succ]
  refine wpAnyE_take (i := 5) (v := ?va5) rfl (by kernel_rfl) (by kernel_rfl) (by kernel_rfl) (by kernel_rfl) (fun _ _ _ h => h) (Or.inl ⟨by rfl, ?ya5⟩) hSh.out ?ra5
  case ya5 =>
    intro w hSw
    try dsimp only at hSw
    go_simp
    try with_reducible rfl
  try simp only [Act.put, List.setIfInBounds_toArray, List.set_cons_zero, List.set_cons_succ]
  refine wpAnyE_take (i := 6) (v := ?va6) rfl (by kernel_rfl) (by kernel_rfl) (by kernel_rfl) (by kernel_rfl) (fun _ _ _ h => h) (Or.inl ⟨by rfl, ?ya6⟩) hSh.out ?ra6
  case ya6 =>
    intro w hSw
    try dsimp only at hSw
    go_simp
    try with_reducible rfl
  try simp only [Act.put, List.setIfInBounds_toArray, List.set_cons_zero, List.set_cons_succ]
  refine wpAnyE_take (i := 7) (v := ?va7) rfl (by kernel_rfl) (by kernel_rfl) (by kernel_rfl) (by kernel_rfl) (fun _ _ _ h => h) (Or.inl ⟨by rfl, ?ya7⟩) hSh.out ?ra7
  case ya7 =>
    intro w hSw
    try dsimp only at hSw
    go_simp
    try with_reducible rfl
  try simp only [Act.put, List.setIfInBounds_toArray, List.set_cons_zero, List.set_cons_succ]
  refine wpAnyE_take (i := 8) (v := ?va8) rfl (by kernel_rfl) (by kernel_rfl) (by kernel_rfl) (by kernel_rfl) (fun _ _ _ h => h) (Or.inl ⟨by rfl, ?ya8⟩) hSh.out ?ra8
  case ya8 =>
    intro w hSw
    try dsimp only at hSw
    go_simp
    try with_reducible rfl
  try simp only [Act.put, List.setIfInBounds_toArray, List.set_cons_zero, List.set_cons_succ]
  refine wpAnyE_take (i := 9) (v := ?va9) rfl (by kernel_rfl) (by kernel_rfl) (by kernel_rfl) (by kernel_rfl) (fun _ _ _ h => h) (Or.inl ⟨by rfl, ?ya9⟩) hSh.out ?ra9
  case ya9 =>
    intro w hSw
    try dsimp only at hSw
    go_simp
    try with_reducible rfl
  try simp only [Act.put, List.setIfInBounds_toArray, List.set_cons_zero, List.set_cons_succ]
  refine wpAnyE_take (i := 10) (v := ?va10) rfl (by kernel_rfl) (by kernel_rfl) (by kernel_rfl) (by kernel_rfl) (fun _ _ _ h => h) (Or.inl ⟨by rfl, ?ya10⟩) hSh.out ?ra10
  case ya10 =>
    intro w hSw
    try dsimp only at hSw
    go_simp
    try with_reducible rfl
  try simp only [Act.put, List.setIfInBounds_toArray, List.set_cons_zero, List.set_cons_succ]
  refine wpAnyE_take (i := 11) (v := ?va11) rfl (by kernel_rfl) (by kernel_rfl) (by kernel_rfl) (by kernel_rfl) (fun _ _ _ h => h) (Or.inl ⟨by rfl, ?ya11⟩) hSh.out ?ra11
  case ya11 =>
    intro w hSw
    try dsimp only at hSw
    go_simp
    try with_reducible rfl
  try simp only [Act.put, List.setIfInBounds_toArray, List.set_cons_zero, List.set_cons_succ]
  clear hSh
  refine wpAnyE_one (i := 12) (by kernel_rfl) rfl (fun K hK => ?_)
  go_simp
  refine (AD.out _ _ _ _ _ _ _ h h').mono ?_
  rintro e v1 ⟨p0, p1, p2, rfl, pok, hv1⟩
  have hd1 := undrewS hv1
  have hX1 := (hd1.block _ (heap_lt hX)).trans hX
  have hY1 := (hd1.block _ (heap_lt hY)).trans hY
  have hR1 := (hd1.block _ (heap_lt hR)).trans hR
  have rr0 := cell_of_block (o := 0) hR1 rfl
  have rr1 := cell_of_block (o := 1) hR1 rfl
  have rr2 := cell_of_block (o := 2) hR1 rfl
  have rg0 := frozen_of_block (o := 0) hR1
  have rg1 := frozen_of_block (o := 1) hR1
  have rg2 := frozen_of_block (o := 2) hR1
  go_wp2_with fail
  refine hK.out _ _ (fun _ => ⟨cell_of_block (o := 1) hX1 rfl, cell_of_block (o := 2) hX1 rfl, cell_of_block (o := 3) hX1 rfl, cell_of_block (o := 4) hX1 rfl, cell_of_block (o := 1) hY1 rfl, cell_of_block (o := 2) hY1 rfl, cell_of_block (o := 3) hY1 rfl, cell_of_block (o := 4) hY1 rfl⟩) ?_
  clear hK K
  try simp only [Act.put, List.setIfInBounds_toArray, List.set_cons_zero, List.set_cons_succ]
  refine wpAnyE_one (i := 13) (by kernel_rfl) rfl (fun K hK => ?_)
  go_simp
  refine hK.out _ _ (fun _ => ⟨cell_of_block (o := 1) hX1 rfl, cell_of_block (o := 2) hX1 rfl, cell_of_block (o := 3) hX1 rfl, cell_of_block (o := 4) hX1 rfl, cell_of_block (o := 1) hY1 rfl, cell_of_block (o := 2) hY1 rfl, cell_of_block (o := 3) hY1 rfl, cell_of_block (o := 4) hY1 rfl⟩) ?_
  clear hK K
  try simp only [Act.put, List.setIfInBounds_toArray, List.set_cons_zero, List.set_cons_succ]
  refine wpAnyE_one (i := 14) (by kernel_rfl) rfl (fun K hK => ?_)
  go_simp
  refine hK.out _ _ (fun h => absurd h (by decide)) ?_
  clear hK K
  refine wpAnyE_done (by kernel_rfl) ?_ _
  have Q := hideq (set3 hR1 p0 p1 p2)
  have HBt := hideq (set3_below (HB0.out.trans (Below.mono (hd1) HB0.out.size)) (show w.heap.size ≤ w.heap.size + 2 by omega) p0 p1 p2)
  have HOK := hideq pok
  go_wp2_with fail
  obtain ⟨q0, q1, q2⟩ := Q.out
  refine bodyPost_ret (v := .tuple #[.string y4, sv p0 p1 p2]) (by simp [results, Tryd.results12, go_sem, q0, q1, q2]) rfl ?_
  exact ⟨y4, p0, p1, p2, rfl, Y4.out.to (by simp), HOK.out, HBt.out⟩

set_option maxRecDepth 100000 in
set_option maxHeartbeats 2000000 in
theorem two_1 (xp yp : Value) (t u : ByteArray) (lt lu : List UInt8) (a b : Int) (k : Bool) (c d : Int) (m : Bool) (n : Int) (w : World) (hn : pickI n 4 = 1) (h0 : -9223372036854775808 ≤ n) (h1 : n ≤ 9223372036854775807) (ht : Str t lt) (hu : Str u lu) (hlt : lt.length ≤ 1000) (hlu : lu.length ≤ 1000) (h : SpOk a b) (h' : SpOk c d) :
    Calls Tryd.prog 12 #[itv xp t a b k, itv yp u c d m, .int .i64 n] w (TxtSp w (40 :: (lt ++ [41, 32, 45, 32, 40] ++ lu ++ [41]))) := by
  have PK := hideq (fun w => pick_any n 4 w h0 h1 (by decide) (by decide))
  rw [hn] at PK
  obtain ⟨y1, ya1, ys1⟩ := add_namedK (Str.mk' [40]) ht (by simp; omega)
  obtain ⟨y2, ya2, ys2⟩ := add_namedK ys1 (Str.mk' [41, 32, 45, 32, 40]) (by simp; omega)
  obtain ⟨y3, ya3, ys3⟩ := add_namedK ys2 hu (by simp; omega)
  obtain ⟨y4, ya4, ys4⟩ := add_namedK ys3 (Str.mk' [41]) (by simp; omega)
  have Y4 := hideq ys4
  have M := hideq (fun a b k c d m w h h' => mul_any a b k c d m w h h')
  have AD := hideq (fun a b k c d m w h h' => add_any a b k c d m w h h')
  have OV := hideq (fun a b k w h => over_any a b k w h)
  have NG := hideq (fun a b k w h => neg_any a b k w h)
  clear ys1 ys2 ys3 ys4 ht hu
  go_enter Tryd.func12, Tryd.ntmps12
  go_wp2_with fail
  refine (PK.out _).mono ?_
  rintro e w1 ⟨rfl, rfl⟩
  go_wp2_with fail
  have hX : (((w.alloc (.cells #[xp, .string t, .int .i64 a, .int .i64 b, .bool k] 44)).alloc (.cells #[yp, .string u, .int .i64 c, .int .i64 d, .bool m] 44)).alloc (.cells #[.int .i64 0, .int .i64 0, .bool false] 37)).heap[w.heap.size]? = some (.cells #[xp, .string t, .int .i64 a, .int .i64 b, .bool k] 44 (0, 0)) := alloc_old (alloc_old (cells_new _ _))
  have hY : (((w.alloc (.cells #[xp, .string t, .int .i64 a, .int .i64 b, .bool k] 44)).alloc (.cells #[yp, .string u, .int .i64 c, .int .i64 d, .bool m] 44)).alloc (.cells #[.int .i64 0, .int .i64 0, .bool false] 37)).heap[w.heap.size + 1]? = some (.cells #[yp, .string u, .int .i64 c, .int .i64 d, .bool m] 44 (0, 0)) := alloc_old (alloc_at (by simp))
  have hR : (((w.alloc (.cells #[xp, .string t, .int .i64 a, .int .i64 b, .bool k] 44)).alloc (.cells #[yp, .string u, .int .i64 c, .int .i64 d, .bool m] 44)).alloc (.cells #[.int .i64 0, .int .i64 0, .bool false] 37)).heap[w.heap.size + 2]? = some (spCells 0 0 false) := alloc_at (by simp)
  have hB0 : Below w.heap.size w (((w.alloc (.cells #[xp, .string t, .int .i64 a, .int .i64 b, .bool k] 44)).alloc (.cells #[yp, .string u, .int .i64 c, .int .i64 d, .bool m] 44)).alloc (.cells #[.int .i64 0, .int .i64 0, .bool false] 37)) := (((Below.refl _ _).alloc (Nat.le_refl _) _).alloc (by simp) _).alloc (by simp; omega) _
  have HB0 := hideq hB0
  clear hB0
  refine wp_region_E (fun w' : World => w'.cell? ⟨w.heap.size, 1, none⟩ = some (.string t) ∧ w'.cell? ⟨w.heap.size, 2, none⟩ = some (.int .i64 a) ∧ w'.cell? ⟨w.heap.size, 3, none⟩ = some (.int .i64 b) ∧ w'.cell? ⟨w.heap.size, 4, none⟩ = some (.bool k) ∧ w'.cell? ⟨w.heap.size + 1, 1, none⟩ = some (.string u) ∧ w'.cell? ⟨w.heap.size + 1, 2, none⟩ = some (.int .i64 c) ∧ w'.cell? ⟨w.heap.size + 1, 3, none⟩ = some (.int .i64 d) ∧ w'.cell? ⟨w.heap.size + 1, 4, none⟩ = some (.bool m)) (fun i => !(i == 15)) (by kernel_rfl) ?_
  have hSh : Shut ((fun w' : World => w'.cell? ⟨w.heap.size, 1, none⟩ = some (.string t) ∧ w'.cell? ⟨w.heap.size, 2, none⟩ = some (.int .i64 a) ∧ w'.cell? ⟨w.heap.size, 3, none⟩ = some (.int .i64 b) ∧ w'.cell? ⟨w.heap.size, 4, none⟩ = some (.bool k) ∧ w'.cell? ⟨w.heap.size + 1, 1, none⟩ = some (.string u) ∧ w'.cell? ⟨w.heap.size + 1, 2, none⟩ = some (.int .i64 c) ∧ w'.cell? ⟨w.heap.size + 1, 3, none⟩ = some (.int .i64 d) ∧ w'.cell? ⟨w.heap.size + 1, 4, none⟩ = some (.bool m)) (((w.alloc (.cells #[xp, .string t, .int .i64 a, .int .i64 b, .bool k] 44)).alloc (.cells #[yp, .string u, .int .i64 c, .int .i64 d, .bool m] 44)).alloc (.cells #[.int .i64 0, .int .i64 0, .bool false] 37)).drew) := ⟨cell_of_block (o := 1) hX rfl, cell_of_block (o := 2) hX rfl, cell_of_block (o := 3) hX rfl, cell_of_block (o := 4) hX rfl, cell_of_block (o := 1) hY rfl, cell_of_block (o := 2) hY rfl, cell_of_block (o := 3) hY rfl, cell_of_block (o := 4) hY rfl⟩
  refine wpAnyE_take (i := 0) (v := ?va0) rfl (by kernel_rfl) (by kernel_rfl) (by kernel_rfl) (by kernel_rfl) (fun _ _ _ h => h) (Or.inl ⟨by rfl, ?ya0⟩) hSh.out ?ra0
  case ya0 =>
    intro w hSw
    try dsimp only at hSw
    go_simp
    try with_reducible rfl
  try simp only [Act.put, List.setIfInBounds_toArray, List.set_cons_zero, List.set_cons_succ]
  refine wpAnyE_take (i := 1) (v := ?va1) rfl (by kernel_rfl) (by kernel_rfl) (by kernel_rfl) (by kernel_rfl) (fun _ _ _ h => h) (Or.inl ⟨by rfl, ?ya1⟩) hSh.out ?ra1
  case ya1 =>
    intro w hSw
    try dsimp only at hSw
    go_simp
    try with_reducible rfl
  try simp only [Act.put, List.setIfInBounds_toArray, List.set_cons_zero, List.set_cons_succ]
  refine wpAnyE_take (i := 2) (v := ?va2) rfl (by kernel_rfl) (by kernel_rfl) (by kernel_rfl) (by kernel_rfl) (fun _ _ _ h => h) (Or.inl ⟨by rfl, ?ya2⟩) hSh.out ?ra2
  case ya2 =>
    intro w hSw
    try dsimp only at hSw
    go_simp
    try with_reducible rfl
  try simp only [Act.put, List.setIfInBounds_toArray, List.set_cons_zero, List.set_cons_succ]
  refine wpAnyE_take (i := 3) (v := ?va3) rfl (by kernel_rfl) (by kernel_rfl) (by kernel_rfl) (by kernel_rfl) (fun _ _ _ h => h) (Or.inl ⟨by rfl, ?ya3⟩) hSh.out ?ra3
  case ya3 =>
    intro w hSw
    try dsimp only at hSw
    go_simp
    try with_reducible rfl
  try simp only [Act.put, List.setIfInBounds_toArray, List.set_cons_zero, List.set_cons_succ]
  refine wpAnyE_take (i := 4) (v := ?va4) rfl (by kernel_rfl) (by kernel_rfl) (by kernel_rfl) (by kernel_rfl) (fun _ _ _ h => h) (Or.inl ⟨by rfl, ?ya4⟩) hSh.out ?ra4
  case ya4 =>
    intro w hSw
    try dsimp only at hSw
    go_simp
    try with_reducible rfl
  try simp only [Act.put, List.setIfInBounds_toArray, List.set_cons_zero, List.set_cons_succ]
  refine wpAnyE_take (i := 5) (v := ?va5) rfl (by kernel_rfl) (by kernel_rfl) (by kernel_rfl) (by kernel_rfl) (fun _ _ _ h => h) (Or.inl ⟨by rfl, ?ya5⟩) hSh.out ?ra5
  case ya5 =>
    intro w hSw
    try dsimp only at hSw
    go_simp
    try with_reducible rfl
  try simp only [Act.put, List.setIfInBounds_toArray, List.set_cons_zero, List.set_cons_succ]
  refine wpAnyE_take (i := 6) (v := ?va6) rfl (by kernel_rfl) (by kernel_rfl) (by kernel_rfl) (by kernel_rfl) (fun _ _ _ h => h) (Or.inl ⟨by rfl, ?ya6⟩) hSh.out ?ra6
  case ya6 =>
    intro w hSw
    try dsimp only at hSw
    go_simp
    try with_reducible rfl
  try simp only [Act.put, List.setIfInBounds_toArray, List.set_cons_zero, List.set_cons_succ]
  refine wpAnyE_take (i := 7) (v := ?va7) rfl (by kernel_rfl) (by kernel_rfl) (by kernel_rfl) (by kernel_rfl) (fun _ _ _ h => h) (Or.inl ⟨by rfl, ?ya7⟩) hSh.out ?ra7
  case ya7 =>
    intro w hSw
    try dsimp only at hSw
    go_simp
    try with_reducible rfl
  try simp only [Act.put, List.setIfInBounds_toArray, List.set_cons_zero, List.set_cons_succ]
  refine wpAnyE_take (i := 8) (v := ?va8) rfl (by kernel_rfl) (by kernel_rfl) (by kernel_rfl) (by kernel_rfl) (fun _ _ _ h => h) (Or.inl ⟨by rfl, ?ya8⟩) hSh.out ?ra8
  case ya8 =>
    intro w hSw
    try dsimp only at hSw
    go_simp
    try with_reducible rfl
  try simp only [Act.put, List.setIfInBounds_toArray, List.set_cons_zero, List.set_cons_succ]
  refine wpAnyE_take (i := 9) (v := ?va9) rfl (by kernel_rfl) (by kernel_rfl) (by kernel_rfl) (by kernel_rfl) (fun _ _ _ h => h) (Or.inl ⟨by rfl, ?ya9⟩) hSh.out ?ra9
  case ya9 =>
    intro w hSw
    try dsimp only at hSw
    go_simp
    try with_reducible rfl
  try simp only [Act.put, List.setIfInBounds_toArray, List.set_cons_zero, List.set_cons_succ]
  refine wpAnyE_take (i := 10) (v := ?va10) rfl (by kernel_rfl) (by kernel_rfl) (by kernel_rfl) (by kernel_rfl) (fun _ _ _ h => h) (Or.inl ⟨by rfl, ?ya10⟩) hSh.out ?ra10
  case ya10 =>
    intro w hSw
    try dsimp only at hSw
    go_simp
    try with_reducible rfl
  try simp only [Act.put, List.setIfInBounds_toArray, List.set_cons_zero, List.set_cons_succ]
  refine wpAnyE_take (i := 11) (v := ?va11) rfl (by kernel_rfl) (by kernel_rfl) (by kernel_rfl) (by kernel_rfl) (fun _ _ _ h => h) (Or.inl ⟨by rfl, ?ya11⟩) hSh.out ?ra11
  case ya11 =>
    intro w hSw
    try dsimp only at hSw
    go_simp
    try with_reducible rfl
  try simp only [Act.put, List.setIfInBounds_toArray, List.set_cons_zero, List.set_cons_succ]
  clear hSh
  refine wpAnyE_one (i := 12) (by kernel_rfl) rfl (fun K hK => ?_)
  go_simp
  refine (NG.out _ _ _ _ h').mono ?_
  rintro e v1 ⟨rfl, hv1⟩
  have hd1 := undrewS hv1
  have hX1 := (hd1.block _ (heap_lt hX)).trans hX
  have hY1 := (hd1.block _ (heap_lt hY)).trans hY
  have hR1 := (hd1.block _ (heap_lt hR)).trans hR
  go_wp2_with fail
  refine hK.out _ _ (fun _ => ⟨cell_of_block (o := 1) hX1 rfl, cell_of_block (o := 2) hX1 rfl, cell_of_block (o := 3) hX1 rfl, cell_of_block (o := 4) hX1 rfl, cell_of_block (o := 1) hY1 rfl, cell_of_block (o := 2) hY1 rfl, cell_of_block (o := 3) hY1 rfl, cell_of_block (o := 4) hY1 rfl⟩) ?_
  clear hK K
  try simp only [Act.put, List.setIfInBounds_toArray, List.set_cons_zero, List.set_cons_succ]
  refine wpAnyE_one (i := 13) (by kernel_rfl) rfl (fun K hK => ?_)
  go_simp
  refine (AD.out _ _ _ _ _ _ _ h h'.neg).mono ?_
  rintro e v2 ⟨p0, p1, p2, rfl, pok, hv2⟩
  have hX2 := (hv2.block _ (heap_lt hX1)).trans hX1
  have hY2 := (hv2.block _ (heap_lt hY1)).trans hY1
  have hR2 := (hv2.block _ (heap_lt hR1)).trans hR1
  have rr0 := cell_of_block (o := 0) hR2 rfl
  have rr1 := cell_of_block (o := 1) hR2 rfl
  have rr2 := cell_of_block (o := 2) hR2 rfl
  have rg0 := frozen_of_block (o := 0) hR2
  have rg1 := frozen_of_block (o := 1) hR2
  have rg2 := frozen_of_block (o := 2) hR2
  go_wp2_with fail
  refine hK.out _ _ (fun _ => ⟨cell_of_block (o := 1) hX2 rfl, cell_of_block (o := 2) hX2 rfl, cell_of_block (o := 3) hX2 rfl, cell_of_block (o := 4) hX2 rfl, cell_of_block (o := 1) hY2 rfl, cell_of_block (o := 2) hY2 rfl, cell_of_block (o := 3) hY2 rfl, cell_of_block (o := 4) hY2 rfl⟩) ?_
  clear hK K
  try simp only [Act.put, List.setIfInBounds_toArray, List.set_cons_zero, List.set_cons_succ]
  refine wpAnyE_one (i := 14) (by kernel_rfl) rfl (fun K hK => ?_)
  go_simp
  refine hK.out _ _ (fun _ => ⟨cell_of_block (o := 1) hX2 rfl, cell_of_block (o := 2) hX2 rfl, cell_of_block (o := 3) hX2 rfl, cell_of_block (o := 4) hX2 rfl, cell_of_block (o := 1) hY2 rfl, cell_of_block (o := 2) hY2 rfl, cell_of_block (o := 3) hY2 rfl, cell_of_block (o := 4) hY2 rfl⟩) ?_
  clear hK K
  try simp only [Act.put, List.setIfInBounds_toArray, List.set_cons_zero, List.set_cons_succ]
  refine wpAnyE_one (i := 15) (by kernel_rfl) rfl (fun K hK => ?_)
  go_simp
  refine hK.out _ _ (fun h => absurd h (by decide)) ?_
  clear hK K
  refine wpAnyE_done (by kernel_rfl) ?_ _
  have Q := hideq (set3 hR2 p0 p1 p2)
  have HBt := hideq (set3_below (HB0.out.trans (Below.mono (hd1.trans (hv2.mono hd1.size)) HB0.out.size)) (show w.heap.size ≤ w.heap.size + 2 by omega) p0 p1 p2)
  have HOK := hideq pok
  go_wp2_with fail
  obtain ⟨q0, q1, q2⟩ := Q.out
  refine bodyPost_ret (v := .tuple #[.string y4, sv p0 p1 p2]) (by simp [results, Tryd.results12, go_sem, q0, q1, q2]) rfl ?_
  exact ⟨y4, p0, p1, p2, rfl, Y4.out.to (by simp), HOK.out, HBt.out⟩

set_option maxRecDepth 100000 in
set_option maxHeartbeats 2000000 in
theorem two_2 (xp yp : Value) (t u : ByteArray) (lt lu : List UInt8) (a b : Int) (k : Bool) (c d : Int) (m : Bool) (n : Int) (w : World) (hn : pickI n 4 = 2) (h0 : -9223372036854775808 ≤ n) (h1 : n ≤ 9223372036854775807) (ht : Str t lt) (hu : Str u lu) (hlt : lt.length ≤ 1000) (hlu : lu.length ≤ 1000) (h : SpOk a b) (h' : SpOk c d) :
    Calls Tryd.prog 12 #[itv xp t a b k, itv yp u c d m, .int .i64 n] w (TxtSp w (40 :: (lt ++ [41, 32, 42, 32, 40] ++ lu ++ [41]))) := by
  have PK := hideq (fun w => pick_any n 4 w h0 h1 (by decide) (by decide))
  rw [hn] at PK
  obtain ⟨y1, ya1, ys1⟩ := add_namedK (Str.mk' [40]) ht (by simp; omega)
  obtain ⟨y2, ya2, ys2⟩ := add_namedK ys1 (Str.mk' [41, 32, 42, 32, 40]) (by simp; omega)
  obtain ⟨y3, ya3, ys3⟩ := add_namedK ys2 hu (by simp; omega)
  obtain ⟨y4, ya4, ys4⟩ := add_namedK ys3 (Str.mk' [41]) (by simp; omega)
  have Y4 := hideq ys4
  have M := hideq (fun a b k c d m w h h' => mul_any a b k c d m w h h')
  have AD := hideq (fun a b k c d m w h h' => add_any a b k c d m w h h')
  have OV := hideq (fun a b k w h => over_any a b k w h)
  have NG := hideq (fun a b k w h => neg_any a b k w h)
  clear ys1 ys2 ys3 ys4 ht hu
  go_enter Tryd.func12, Tryd.ntmps12
  go_wp2_with fail
  refine (PK.out _).mono ?_
  rintro e w1 ⟨rfl, rfl⟩
  go_wp2_with fail
  have hX : (((w.alloc (.cells #[xp, .string t, .int .i64 a, .int .i64 b, .bool k] 44)).alloc (.cells #[yp, .string u, .int .i64 c, .int .i64 d, .bool m] 44)).alloc (.cells #[.int .i64 0, .int .i64 0, .bool false] 37)).heap[w.heap.size]? = some (.cells #[xp, .string t, .int .i64 a, .int .i64 b, .bool k] 44 (0, 0)) := alloc_old (alloc_old (cells_new _ _))
  have hY : (((w.alloc (.cells #[xp, .string t, .int .i64 a, .int .i64 b, .bool k] 44)).alloc (.cells #[yp, .string u, .int .i64 c, .int .i64 d, .bool m] 44)).alloc (.cells #[.int .i64 0, .int .i64 0, .bool false] 37)).heap[w.heap.size + 1]? = some (.cells #[yp, .string u, .int .i64 c, .int .i64 d, .bool m] 44 (0, 0)) := alloc_old (alloc_at (by simp))
  have hR : (((w.alloc (.cells #[xp, .string t, .int .i64 a, .int .i64 b, .bool k] 44)).alloc (.cells #[yp, .string u, .int .i64 c, .int .i64 d, .bool m] 44)).alloc (.cells #[.int .i64 0, .int .i64 0, .bool false] 37)).heap[w.heap.size + 2]? = some (spCells 0 0 false) := alloc_at (by simp)
  have hB0 : Below w.heap.size w (((w.alloc (.cells #[xp, .string t, .int .i64 a, .int .i64 b, .bool k] 44)).alloc (.cells #[yp, .string u, .int .i64 c, .int .i64 d, .bool m] 44)).alloc (.cells #[.int .i64 0, .int .i64 0, .bool false] 37)) := (((Below.refl _ _).alloc (Nat.le_refl _) _).alloc (by simp) _).alloc (by simp; omega) _
  have HB0 := hideq hB0
  clear hB0
  refine wp_region_E (fun w' : World => w'.cell? ⟨w.heap.size, 1, none⟩ = some (.string t) ∧ w'.cell? ⟨w.heap.size, 2, none⟩ = some (.int .i64 a) ∧ w'.cell? ⟨w.heap.size, 3, none⟩ = some (.int .i64 b) ∧ w'.cell? ⟨w.heap.size, 4, none⟩ = some (.bool k) ∧ w'.cell? ⟨w.heap.size + 1, 1, none⟩ = some (.string u) ∧ w'.cell? ⟨w.heap.size + 1, 2, none⟩ = some (.int .i64 c) ∧ w'.cell? ⟨w.heap.size + 1, 3, none⟩ = some (.int .i64 d) ∧ w'.cell? ⟨w.heap.size + 1, 4, none⟩ = some (.bool m)) (fun i => !(i == 14)) (by kernel_rfl) ?_
  have hSh : Shut ((fun w' : World => w'.cell? ⟨w.heap.size, 1, none⟩ = some (.string t) ∧ w'.cell? ⟨w.heap.size, 2, none⟩ = some (.int .i64 a) ∧ w'.cell? ⟨w.heap.size, 3, none⟩ = some (.int .i64 b) ∧ w'.cell? ⟨w.heap.size, 4, none⟩ = some (.bool k) ∧ w'.cell? ⟨w.heap.size + 1, 1, none⟩ = some (.string u) ∧ w'.cell? ⟨w.heap.size + 1, 2, none⟩ = some (.int .i64 c) ∧ w'.cell? ⟨w.heap.size + 1, 3, none⟩ = some (.int .i64 d) ∧ w'.cell? ⟨w.heap.size + 1, 4, none⟩ = some (.bool m)) (((w.alloc (.cells #[xp, .string t, .int .i64 a, .int .i64 b, .bool k] 44)).alloc (.cells #[yp, .string u, .int .i64 c, .int .i64 d, .bool m] 44)).alloc (.cells #[.int .i64 0, .int .i64 0, .bool false] 37)).drew) := ⟨cell_of_block (o := 1) hX rfl, cell_of_block (o := 2) hX rfl, cell_of_block (o := 3) hX rfl, cell_of_block (o := 4) hX rfl, cell_of_block (o := 1) hY rfl, cell_of_block (o := 2) hY rfl, cell_of_block (o := 3) hY rfl, cell_of_block (o := 4) hY rfl⟩
  refine wpAnyE_take (i := 0) (v := ?va0) rfl (by kernel_rfl) (by kernel_rfl) (by kernel_rfl) (by kernel_rfl) (fun _ _ _ h => h) (Or.inl ⟨by rfl, ?ya0⟩) hSh.out ?ra0
  case ya0 =>
    intro w hSw
    try dsimp only at hSw
    go_simp
    try with_reducible rfl
  try simp only [Act.put, List.setIfInBounds_toArray, List.set_cons_zero, List.set_cons_succ]
  refine wpAnyE_take (i := 1) (v := ?va1) rfl (by kernel_rfl) (by kernel_rfl) (by kernel_rfl) (by kernel_rfl) (fun _ _ _ h => h) (Or.inl ⟨by rfl, ?ya1⟩) hSh.out ?ra1
  case ya1 =>
    intro w hSw
    try dsimp only at hSw
    go_simp
    try with_reducible rfl
  try simp only [Act.put, List.setIfInBounds_toArray, List.set_cons_zero, List.set_cons_succ]
  refine wpAnyE_take (i := 2) (v := ?va2) rfl (by kernel_rfl) (by kernel_rfl) (by kernel_rfl) (by kernel_rfl) (fun _ _ _ h => h) (Or.inl ⟨by rfl, ?ya2⟩) hSh.out ?ra2
  case ya2 =>
    intro w hSw
    try dsimp only at hSw
    go_simp
    try with_reducible rfl
  try simp only [Act.put, List.setIfInBounds_toArray, List.set_cons_zero, List.set_cons_succ]
  refine wpAnyE_take (i := 3) (v := ?va3) rfl (by kernel_rfl) (by kernel_rfl) (by kernel_rfl) (by kernel_rfl) (fun _ _ _ h => h) (Or.inl ⟨by rfl, ?ya3⟩) hSh.out ?ra3
  case ya3 =>
    intro w hSw
    try dsimp only at hSw
    go_simp
    try with_reducible rfl
  try simp only [Act.put, List.setIfInBounds_toArray, List.set_cons_zero, List.set_cons_succ]
  refine wpAnyE_take (i := 4) (v := ?va4) rfl (by kernel_rfl) (by kernel_rfl) (by kernel_rfl) (by kernel_rfl) (fun _ _ _ h => h) (Or.inl ⟨by rfl, ?ya4⟩) hSh.out ?ra4
  case ya4 =>
    intro w hSw
    try dsimp only at hSw
    go_simp
    try with_reducible rfl
  try simp only [Act.put, List.setIfInBounds_toArray, List.set_cons_zero, List.set_cons_succ]
  refine wpAnyE_take (i := 5) (v := ?va5) rfl (by kernel_rfl) (by kernel_rfl) (by kernel_rfl) (by kernel_rfl) (fun _ _ _ h => h) (Or.inl ⟨by rfl, ?ya5⟩) hSh.out ?ra5
  case ya5 =>
    intro w hSw
    try dsimp only at hSw
    go_simp
    try with_reducible rfl
  try simp only [Act.put, List.setIfInBounds_toArray, List.set_cons_zero, List.set_cons_succ]
  refine wpAnyE_take (i := 6) (v := ?va6) rfl (by kernel_rfl) (by kernel_rfl) (by kernel_rfl) (by kernel_rfl) (fun _ _ _ h => h) (Or.inl ⟨by rfl, ?ya6⟩) hSh.out ?ra6
  case ya6 =>
    intro w hSw
    try dsimp only at hSw
    go_simp
    try with_reducible rfl
  try simp only [Act.put, List.setIfInBounds_toArray, List.set_cons_zero, List.set_cons_succ]
  refine wpAnyE_take (i := 7) (v := ?va7) rfl (by kernel_rfl) (by kernel_rfl) (by kernel_rfl) (by kernel_rfl) (fun _ _ _ h => h) (Or.inl ⟨by rfl, ?ya7⟩) hSh.out ?ra7
  case ya7 =>
    intro w hSw
    try dsimp only at hSw
    go_simp
    try with_reducible rfl
  try simp only [Act.put, List.setIfInBounds_toArray, List.set_cons_zero, List.set_cons_succ]
  refine wpAnyE_take (i := 8) (v := ?va8) rfl (by kernel_rfl) (by kernel_rfl) (by kernel_rfl) (by kernel_rfl) (fun _ _ _ h => h) (Or.inl ⟨by rfl, ?ya8⟩) hSh.out ?ra8
  case ya8 =>
    intro w hSw
    try dsimp only at hSw
    go_simp
    try with_reducible rfl
  try simp only [Act.put, List.setIfInBounds_toArray, List.set_cons_zero, List.set_cons_succ]
  refine wpAnyE_take (i := 9) (v := ?va9) rfl (by kernel_rfl) (by kernel_rfl) (by kernel_rfl) (by kernel_rfl) (fun _ _ _ h => h) (Or.inl ⟨by rfl, ?ya9⟩) hSh.out ?ra9
  case ya9 =>
    intro w hSw
    try dsimp only at hSw
    go_simp
    try with_reducible rfl
  try simp only [Act.put, List.setIfInBounds_toArray, List.set_cons_zero, List.set_cons_succ]
  refine wpAnyE_take (i := 10) (v := ?va10) rfl (by kernel_rfl) (by kernel_rfl) (by kernel_rfl) (by kernel_rfl) (fun _ _ _ h => h) (Or.inl ⟨by rfl, ?ya10⟩) hSh.out ?ra10
  case ya10 =>
    intro w hSw
    try dsimp only at hSw
    go_simp
    try with_reducible rfl
  try simp only [Act.put, List.setIfInBounds_toArray, List.set_cons_zero, List.set_cons_succ]
  refine wpAnyE_take (i := 11) (v := ?va11) rfl (by kernel_rfl) (by kernel_rfl) (by kernel_rfl) (by kernel_rfl) (fun _ _ _ h => h) (Or.inl ⟨by rfl, ?ya11⟩) hSh.out ?ra11
  case ya11 =>
    intro w hSw
    try dsimp only at hSw
    go_simp
    try with_reducible rfl
  try simp only [Act.put, List.setIfInBounds_toArray, List.set_cons_zero, List.set_cons_succ]
  clear hSh
  refine wpAnyE_one (i := 12) (by kernel_rfl) rfl (fun K hK => ?_)
  go_simp
  refine (M.out _ _ _ _ _ _ _ h h').mono ?_
  rintro e v1 ⟨p0, p1, p2, rfl, pok, hv1⟩
  have hd1 := undrewS hv1
  have hX1 := (hd1.block _ (heap_lt hX)).trans hX
  have hY1 := (hd1.block _ (heap_lt hY)).trans hY
  have hR1 := (hd1.block _ (heap_lt hR)).trans hR
  have rr0 := cell_of_block (o := 0) hR1 rfl
  have rr1 := cell_of_block (o := 1) hR1 rfl
  have rr2 := cell_of_block (o := 2) hR1 rfl
  have rg0 := frozen_of_block (o := 0) hR1
  have rg1 := frozen_of_block (o := 1) hR1
  have rg2 := frozen_of_block (o := 2) hR1
  go_wp2_with fail
  refine hK.out _ _ (fun _ => ⟨cell_of_block (o := 1) hX1 rfl, cell_of_block (o := 2) hX1 rfl, cell_of_block (o := 3) hX1 rfl, cell_of_block (o := 4) hX1 rfl, cell_of_block (o := 1) hY1 rfl, cell_of_block (o := 2) hY1 rfl, cell_of_block (o := 3) hY1 rfl, cell_of_block (o := 4) hY1 rfl⟩) ?_
  clear hK K
  try simp only [Act.put, List.setIfInBounds_toArray, List.set_cons_zero, List.set_cons_succ]
  refine wpAnyE_one (i := 13) (by kernel_rfl) rfl (fun K hK => ?_)
  go_simp
  refine hK.out _ _ (fun _ => ⟨cell_of_block (o := 1) hX1 rfl, cell_of_block (o := 2) hX1 rfl, cell_of_block (o := 3) hX1 rfl, cell_of_block (o := 4) hX1 rfl, cell_of_block (o := 1) hY1 rfl, cell_of_block (o := 2) hY1 rfl, cell_of_block (o := 3) hY1 rfl, cell_of_block (o := 4) hY1 rfl⟩) ?_
  clear hK K
  try simp only [Act.put, List.setIfInBounds_toArray, List.set_cons_zero, List.set_cons_succ]
  refine wpAnyE_one (i := 14) (by kernel_rfl) rfl (fun K hK => ?_)
  go_simp
  refine hK.out _ _ (fun h => absurd h (by decide)) ?_
  clear hK K
  refine wpAnyE_done (by kernel_rfl) ?_ _
  have Q := hideq (set3 hR1 p0 p1 p2)
  have HBt := hideq (set3_below (HB0.out.trans (Below.mono (hd1) HB0.out.size)) (show w.heap.size ≤ w.heap.size + 2 by omega) p0 p1 p2)
  have HOK := hideq pok
  go_wp2_with fail
  obtain ⟨q0, q1, q2⟩ := Q.out
  refine bodyPost_ret (v := .tuple #[.string y4, sv p0 p1 p2]) (by simp [results, Tryd.results12, go_sem, q0, q1, q2]) rfl ?_
  exact ⟨y4, p0, p1, p2, rfl, Y4.out.to (by simp), HOK.out, HBt.out⟩

set_option maxRecDepth 100000 in
set_option maxHeartbeats 2000000 in
theorem two_3 (xp yp : Value) (t u : ByteArray) (lt lu : List UInt8) (a b : Int) (k : Bool) (c d : Int) (m : Bool) (n : Int) (w : World) (hn : pickI n 4 = 3) (h0 : -9223372036854775808 ≤ n) (h1 : n ≤ 9223372036854775807) (ht : Str t lt) (hu : Str u lu) (hlt : lt.length ≤ 1000) (hlu : lu.length ≤ 1000) (h : SpOk a b) (h' : SpOk c d) :
    Calls Tryd.prog 12 #[itv xp t a b k, itv yp u c d m, .int .i64 n] w (TxtSp w (40 :: (lt ++ [41, 32, 47, 32, 40] ++ lu ++ [41]))) := by
  have PK := hideq (fun w => pick_any n 4 w h0 h1 (by decide) (by decide))
  rw [hn] at PK
  obtain ⟨y1, ya1, ys1⟩ := add_namedK (Str.mk' [40]) ht (by simp; omega)
  obtain ⟨y2, ya2, ys2⟩ := add_namedK ys1 (Str.mk' [41, 32, 47, 32, 40]) (by simp; omega)
  obtain ⟨y3, ya3, ys3⟩ := add_namedK ys2 hu (by simp; omega)
  obtain ⟨y4, ya4, ys4⟩ := add_namedK ys3 (Str.mk' [41]) (by simp; omega)
  have Y4 := hideq ys4
  have M := hideq (fun a b k c d m w h h' => mul_any a b k c d m w h h')
  have AD := hideq (fun a b k c d m w h h' => add_any a b k c d m w h h')
  have OV := hideq (fun a b k w h => over_any a b k w h)
  have NG := hideq (fun a b k w h => neg_any a b k w h)
  clear ys1 ys2 ys3 ys4 ht hu
  go_enter Tryd.func12, Tryd.ntmps12
  go_wp2_with fail
  refine (PK.out _).mono ?_
  rintro e w1 ⟨rfl, rfl⟩
  go_wp2_with fail
  have hX : (((w.alloc (.cells #[xp, .string t, .int .i64 a, .int .i64 b, .bool k] 44)).alloc (.cells #[yp, .string u, .int .i64 c, .int .i64 d, .bool m] 44)).alloc (.cells #[.int .i64 0, .int .i64 0, .bool false] 37)).heap[w.heap.size]? = some (.cells #[xp, .string t, .int .i64 a, .int .i64 b, .bool k] 44 (0, 0)) := alloc_old (alloc_old (cells_new _ _))
  have hY : (((w.alloc (.cells #[xp, .string t, .int .i64 a, .int .i64 b, .bool k] 44)).alloc (.cells #[yp, .string u, .int .i64 c, .int .i64 d, .bool m] 44)).alloc (.cells #[.int .i64 0, .int .i64 0, .bool false] 37)).heap[w.heap.size + 1]? = some (.cells #[yp, .string u, .int .i64 c, .int .i64 d, .bool m] 44 (0, 0)) := alloc_old (alloc_at (by simp))
  have hR : (((w.alloc (.cells #[xp, .string t, .int .i64 a, .int .i64 b, .bool k] 44)).alloc (.cells #[yp, .string u, .int .i64 c, .int .i64 d, .bool m] 44)).alloc (.cells #[.int .i64 0, .int .i64 0, .bool false] 37)).heap[w.heap.size + 2]? = some (spCells 0 0 false) := alloc_at (by simp)
  have hB0 : Below w.heap.size w (((w.alloc (.cells #[xp, .string t, .int .i64 a, .int .i64 b, .bool k] 44)).alloc (.cells #[yp, .string u, .int .i64 c, .int .i64 d, .bool m] 44)).alloc (.cells #[.int .i64 0, .int .i64 0, .bool false] 37)) := (((Below.refl _ _).alloc (Nat.le_refl _) _).alloc (by simp) _).alloc (by simp; omega) _
  have HB0 := hideq hB0
  clear hB0
  refine wp_region_E (fun w' : World => w'.cell? ⟨w.heap.size, 1, none⟩ = some (.string t) ∧ w'.cell? ⟨w.heap.size, 2, none⟩ = some (.int .i64 a) ∧ w'.cell? ⟨w.heap.size, 3, none⟩ = some (.int .i64 b) ∧ w'.cell? ⟨w.heap.size, 4, none⟩ = some (.bool k) ∧ w'.cell? ⟨w.heap.size + 1, 1, none⟩ = some (.string u) ∧ w'.cell? ⟨w.heap.size + 1, 2, none⟩ = some (.int .i64 c) ∧ w'.cell? ⟨w.heap.size + 1, 3, none⟩ = some (.int .i64 d) ∧ w'.cell? ⟨w.heap.size + 1, 4, none⟩ = some (.bool m)) (fun i => !(i == 15)) (by kernel_rfl) ?_
  have hSh : Shut ((fun w' : World => w'.cell? ⟨w.heap.size, 1, none⟩ = some (.string t) ∧ w'.cell? ⟨w.heap.size, 2, none⟩ = some (.int .i64 a) ∧ w'.cell? ⟨w.heap.size, 3, none⟩ = some (.int .i64 b) ∧ w'.cell? ⟨w.heap.size, 4, none⟩ = some (.bool k) ∧ w'.cell? ⟨w.heap.size + 1, 1, none⟩ = some (.string u) ∧ w'.cell? ⟨w.heap.size + 1, 2, none⟩ = some (.int .i64 c) ∧ w'.cell? ⟨w.heap.size + 1, 3, none⟩ = some (.int .i64 d) ∧ w'.cell? ⟨w.heap.size + 1, 4, none⟩ = some (.bool m)) (((w.alloc (.cells #[xp, .string t, .int .i64 a, .int .i64 b, .bool k] 44)).alloc (.cells #[yp, .string u, .int .i64 c, .int .i64 d, .bool m] 44)).alloc (.cells #[.int .i64 0, .int .i64 0, .bool false] 37)).drew) := ⟨cell_of_block (o := 1) hX rfl, cell_of_block (o := 2) hX rfl, cell_of_block (o := 3) hX rfl, cell_of_block (o := 4) hX rfl, cell_of_block (o := 1) hY rfl, cell_of_block (o := 2) hY rfl, cell_of_block (o := 3) hY rfl, cell_of_block (o := 4) hY rfl⟩
  refine wpAnyE_take (i := 0) (v := ?va0) rfl (by kernel_rfl) (by kernel_rfl) (by kernel_rfl) (by kernel_rfl) (fun _ _ _ h => h) (Or.inl ⟨by rfl, ?ya0⟩) hSh.out ?ra0
  case ya0 =>
    intro w hSw
    try dsimp only at hSw
    go_simp
    try with_reducible rfl
  try simp only [Act.put, List.setIfInBounds_toArray, List.set_cons_zero, List.set_cons_succ]
  refine wpAnyE_take (i := 1) (v := ?va1) rfl (by kernel_rfl) (by kernel_rfl) (by kernel_rfl) (by kernel_rfl) (fun _ _ _ h => h) (Or.inl ⟨by rfl, ?ya1⟩) hSh.out ?ra1
  case ya1 =>
    intro w hSw
    try dsimp only at hSw
    go_simp
    try with_reducible rfl
  try simp only [Act.put, List.setIfInBounds_toArray, List.set_cons_zero, List.set_cons_succ]
  refine wpAnyE_take (i := 2) (v := ?va2) rfl (by kernel_rfl) (by kernel_rfl) (by kernel_rfl) (by kernel_rfl) (fun _ _ _ h => h) (Or.inl ⟨by rfl, ?ya2⟩) hSh.out ?ra2
  case ya2 =>
    intro w hSw
    try dsimp only at hSw
    go_simp
    try with_reducible rfl
  try simp only [Act.put, List.setIfInBounds_toArray, List.set_cons_zero, List.set_cons_succ]
  refine wpAnyE_take (i := 3) (v := ?va3) rfl (by kernel_rfl) (by kernel_rfl) (by kernel_rfl) (by kernel_rfl) (fun _ _ _ h => h) (Or.inl ⟨by rfl, ?ya3⟩) hSh.out ?ra3
  case ya3 =>
    intro w hSw
    try dsimp only at hSw
    go_simp
    try with_reducible rfl
  try simp only [Act.put, List.setIfInBounds_toArray, List.set_cons_zero, List.set_cons_succ]
  refine wpAnyE_take (i := 4) (v := ?va4) rfl (by kernel_rfl) (by kernel_rfl) (by kernel_rfl) (by kernel_rfl) (fun _ _ _ h => h) (Or.inl ⟨by rfl, ?ya4⟩) hSh.out ?ra4
  case ya4 =>
    intro w hSw
    try dsimp only at hSw
    go_simp
    try with_reducible rfl
  try simp only [Act.put, List.setIfInBounds_toArray, List.set_cons_zero, List.set_cons_succ]
  refine wpAnyE_take (i := 5) (v := ?va5) rfl (by kernel_rfl) (by kernel_rfl) (by kernel_rfl) (by kernel_rfl) (fun _ _ _ h => h) (Or.inl ⟨by rfl, ?ya5⟩) hSh.out ?ra5
  case ya5 =>
    intro w hSw
    try dsimp only at hSw
    go_simp
    try with_reducible rfl
  try simp only [Act.put, List.setIfInBounds_toArray, List.set_cons_zero, List.set_cons_succ]
  refine wpAnyE_take (i := 6) (v := ?va6) rfl (by kernel_rfl) (by kernel_rfl) (by kernel_rfl) (by kernel_rfl) (fun _ _ _ h => h) (Or.inl ⟨by rfl, ?ya6⟩) hSh.out ?ra6
  case ya6 =>
    intro w hSw
    try dsimp only at hSw
    go_simp
    try with_reducible rfl
  try simp only [Act.put, List.setIfInBounds_toArray, List.set_cons_zero, List.set_cons_succ]
  refine wpAnyE_take (i := 7) (v := ?va7) rfl (by kernel_rfl) (by kernel_rfl) (by kernel_rfl) (by kernel_rfl) (fun _ _ _ h => h) (Or.inl ⟨by rfl, ?ya7⟩) hSh.out ?ra7
  case ya7 =>
    intro w hSw
    try dsimp only at hSw
    go_simp
    try with_reducible rfl
  try simp only [Act.put, List.setIfInBounds_toArray, List.set_cons_zero, List.set_cons_succ]
  refine wpAnyE_take (i := 8) (v := ?va8) rfl (by kernel_rfl) (by kernel_rfl) (by kernel_rfl) (by kernel_rfl) (fun _ _ _ h => h) (Or.inl ⟨by rfl, ?ya8⟩) hSh.out ?ra8
  case ya8 =>
    intro w hSw
    try dsimp only at hSw
    go_simp
    try with_reducible rfl
  try simp only [Act.put, List.setIfInBounds_toArray, List.set_cons_zero, List.set_cons_succ]
  refine wpAnyE_take (i := 9) (v := ?va9) rfl (by kernel_rfl) (by kernel_rfl) (by kernel_rfl) (by kernel_rfl) (fun _ _ _ h => h) (Or.inl ⟨by rfl, ?ya9⟩) hSh.out ?ra9
  case ya9 =>
    intro w hSw
    try dsimp only at hSw
    go_simp
    try with_reducible rfl
  try simp only [Act.put, List.setIfInBounds_toArray, List.set_cons_zero, List.set_cons_succ]
  refine wpAnyE_take (i := 10) (v := ?va10) rfl (by kernel_rfl) (by kernel_rfl) (by kernel_rfl) (by kernel_rfl) (fun _ _ _ h => h) (Or.inl ⟨by rfl, ?ya10⟩) hSh.out ?ra10
  case ya10 =>
    intro w hSw
    try dsimp only at hSw
    go_simp
    try with_reducible rfl
  try simp only [Act.put, List.setIfInBounds_toArray, List.set_cons_zero, List.set_cons_succ]
  refine wpAnyE_take (i := 11) (v := ?va11) rfl (by kernel_rfl) (by kernel_rfl) (by kernel_rfl) (by kernel_rfl) (fun _ _ _ h => h) (Or.inl ⟨by rfl, ?ya11⟩) hSh.out ?ra11
  case ya11 =>
    intro w hSw
    try dsimp only at hSw
    go_simp
    try with_reducible rfl
  try simp only [Act.put, List.setIfInBounds_toArray, List.set_cons_zero, List.set_cons_succ]
  clear hSh
  refine wpAnyE_one (i := 12) (by kernel_rfl) rfl (fun K hK => ?_)
  go_simp
  refine (OV.out _ _ _ _ h').mono ?_
  rintro e v1 ⟨f0, f1, f2, rfl, fok, hv1⟩
  have hd1 := undrewS hv1
  have hX1 := (hd1.block _ (heap_lt hX)).trans hX
  have hY1 := (hd1.block _ (heap_lt hY)).trans hY
  have hR1 := (hd1.block _ (heap_lt hR)).trans hR
  go_wp2_with fail
  refine hK.out _ _ (fun _ => ⟨cell_of_block (o := 1) hX1 rfl, cell_of_block (o := 2) hX1 rfl, cell_of_block (o := 3) hX1 rfl, cell_of_block (o := 4) hX1 rfl, cell_of_block (o := 1) hY1 rfl, cell_of_block (o := 2) hY1 rfl, cell_of_block (o := 3) hY1 rfl, cell_of_block (o := 4) hY1 rfl⟩) ?_
  clear hK K
  try simp only [Act.put, List.setIfInBounds_toArray, List.set_cons_zero, List.set_cons_succ]
  refine wpAnyE_one (i := 13) (by kernel_rfl) rfl (fun K hK => ?_)
  go_simp
  refine (M.out _ _ _ _ _ _ _ h fok).mono ?_
  rintro e v2 ⟨p0, p1, p2, rfl, pok, hv2⟩
  have hX2 := (hv2.block _ (heap_lt hX1)).trans hX1
  have hY2 := (hv2.block _ (heap_lt hY1)).trans hY1
  have hR2 := (hv2.block _ (heap_lt hR1)).trans hR1
  have rr0 := cell_of_block (o := 0) hR2 rfl
  have rr1 := cell_of_block (o := 1) hR2 rfl
  have rr2 := cell_of_block (o := 2) hR2 rfl
  have rg0 := frozen_of_block (o := 0) hR2
  have rg1 := frozen_of_block (o := 1) hR2
  have rg2 := frozen_of_block (o := 2) hR2
  go_wp2_with fail
  refine hK.out _ _ (fun _ => ⟨cell_of_block (o := 1) hX2 rfl, cell_of_block (o := 2) hX2 rfl, cell_of_block (o := 3) hX2 rfl, cell_of_block (o := 4) hX2 rfl, cell_of_block (o := 1) hY2 rfl, cell_of_block (o := 2) hY2 rfl, cell_of_block (o := 3) hY2 rfl, cell_of_block (o := 4) hY2 rfl⟩) ?_
  clear hK K
  try simp only [Act.put, List.setIfInBounds_toArray, List.set_cons_zero, List.set_cons_succ]
  refine wpAnyE_one (i := 14) (by kernel_rfl) rfl (fun K hK => ?_)
  go_simp
  refine hK.out _ _ (fun _ => ⟨cell_of_block (o := 1) hX2 rfl, cell_of_block (o := 2) hX2 rfl, cell_of_block (o := 3) hX2 rfl, cell_of_block (o := 4) hX2 rfl, cell_of_block (o := 1) hY2 rfl, cell_of_block (o := 2) hY2 rfl, cell_of_block (o := 3) hY2 rfl, cell_of_block (o := 4) hY2 rfl⟩) ?_
  clear hK K
  try simp only [Act.put, List.setIfInBounds_toArray, List.set_cons_zero, List.set_cons_succ]
  refine wpAnyE_one (i := 15) (by kernel_rfl) rfl (fun K hK => ?_)
  go_simp
  refine hK.out _ _ (fun h => absurd h (by decide)) ?_
  clear hK K
  refine wpAnyE_done (by kernel_rfl) ?_ _
  have Q := hideq (set3 hR2 p0 p1 p2)
  have HBt := hideq (set3_below (HB0.out.trans (Below.mono (hd1.trans (hv2.mono hd1.size)) HB0.out.size)) (show w.heap.size ≤ w.heap.size + 2 by omega) p0 p1 p2)
  have HOK := hideq pok
  go_wp2_with fail
  obtain ⟨q0, q1, q2⟩ := Q.out
  refine bodyPost_ret (v := .tuple #[.string y4, sv p0 p1 p2]) (by simp [results, Tryd.results12, go_sem, q0, q1, q2]) rfl ?_
  exact ⟨y4, p0, p1, p2, rfl, Y4.out.to (by simp), HOK.out, HBt.out⟩

/-- An operation on two. -/
theorem two_any (xp yp : Value) (t u : ByteArray) (lt lu : List UInt8) (a b : Int) (k : Bool) (c d : Int) (m : Bool) (n : Int) (w : World) (h0 : -9223372036854775808 ≤ n) (h1 : n ≤ 9223372036854775807) (ht : Str t lt) (hu : Str u lu) (hlt : lt.length ≤ 1000) (hlu : lu.length ≤ 1000) (h : SpOk a b) (h' : SpOk c d) :
    Calls Tryd.prog 12 #[itv xp t a b k, itv yp u c d m, .int .i64 n] w fun e w' => ∃ s : UInt8, (s = 43 ∨ s = 45 ∨ s = 42 ∨ s = 47) ∧ TxtSp w (40 :: (lt ++ [41, 32, s, 32, 40] ++ lu ++ [41])) e w' := by
  have hlt4 := pickI_lt n 4 (by decide)
  have hc : pickI n 4 = 0 ∨ pickI n 4 = 1 ∨ pickI n 4 = 2 ∨ pickI n 4 = 3 := by omega
  rcases hc with hn | hn | hn | hn
  · exact (two_0 xp yp t u lt lu a b k c d m n w hn h0 h1 ht hu hlt hlu h h').mono (fun _ _ x => ⟨43, Or.inl rfl, x⟩)
  · exact (two_1 xp yp t u lt lu a b k c d m n w hn h0 h1 ht hu hlt hlu h h').mono (fun _ _ x => ⟨45, Or.inr (Or.inl rfl), x⟩)
  · exact (two_2 xp yp t u lt lu a b k c d m n w hn h0 h1 ht hu hlt hlu h h').mono (fun _ _ x => ⟨42, Or.inr (Or.inr (Or.inl rfl)), x⟩)
  · exact (two_3 xp yp t u lt lu a b k c d m n w hn h0 h1 ht hu hlt hlu h h').mono (fun _ _ x => ⟨47, Or.inr (Or.inr (Or.inr rfl)), x⟩)

end Go.Proofs.YtmepffenlgedbaaDoor
