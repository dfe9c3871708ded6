/-
  THE WALKS of realskeep's plain intervals: the odd series.
-/
import Derived.Test.YtmepffenlgedbaaDoorSpan6
set_option linter.unusedSimpArgs false
namespace Go.Proofs.YtmepffenlgedbaaDoor
open Go.RowKit

def oddRel (w : World) (bw bt bs : Nat) (i : Value) (wr : World) : Prop :=
  ∃ j : Nat, j ≤ 12 ∧ i = .int .i64 (3 + 2 * j) ∧ Loc wr bw ∧ Loc wr bt ∧ Loc wr bs ∧ wr.heap[w.heap.size + 1]? = some (spCells 0 0 false) ∧ Below w.heap.size w wr

theorem other3 {w : World} {b c o : Nat} (h : ¬ c = b) (p q : Int) (r : Bool) :
    (((w.setCell ⟨b, 0, none⟩ (.int .i64 p)).setCell ⟨b, 1, none⟩ (.int .i64 q)).setCell ⟨b, 2, none⟩ (.bool r)).cell? ⟨c, o, none⟩ = w.cell? ⟨c, o, none⟩ := by
  have e := put3_other (w := w) h p q r
  unfold put3 at e
  unfold World.cell?
  simp only [e]

set_option maxHeartbeats 2000000 in
theorem odd_neg (a b : Int) (k : Bool) (s : Int) (w : World) (h : SpOk a b) (hs : s < 0) : Calls Tryd.prog 43 #[sv a b k, .int .i64 s] w (SpPost w) := by
  have O := hideq (fun x y w => of_any x y w)
  have M := hideq (fun a b k c d m w h h' => mul_any a b k c d m w h h')
  have AD := hideq (fun a b k c d m w h h' => add_any a b k c d m w h h')
  have RA := hideq (fun p q w h0 h1 h2 h3 => ratio_any p q w h0 h1 h2 h3)
  have NG := hideq (fun a b k w h => neg_any a b k w h)
  go_enter Tryd.func43, Tryd.ntmps43
  go_wp2_with fail
  refine calls_in (fun W => Below w.heap.size w W ∧ W.heap[w.heap.size + 1]? = some (spCells 0 0 false) ∧ W.heap[w.heap.size]? = some (spCells a b k)) ⟨((Below.refl _ _).alloc (Nat.le_refl _) _).alloc (by simp) _, alloc_at (by simp), alloc_old (cells_new _ _)⟩ ?_
  rintro W ⟨hbW, hRW, hZW⟩
  refine (M.out _ _ _ _ _ _ _ h h).mono ?_
  rintro e w1 ⟨x0, x1, x2, rfl, hx, hb1⟩
  have hZ1 := (hb1.block _ (heap_lt hZW)).trans hZW
  have hR1 := (hb1.block _ (heap_lt hRW)).trans hRW
  have hbw1 := hbW.trans (hb1.mono hbW.size)
  clear hb1 hRW hZW
  have az0 := cell_of_block (o := 0) hZ1 rfl
  have az1 := cell_of_block (o := 1) hZ1 rfl
  have az2 := cell_of_block (o := 2) hZ1 rfl
  have hzl := heap_lt hZ1
  have hrl := heap_lt hR1
  go_wp2_with fail
  refine calls_in (fun V => V.heap[w1.heap.size]? = some (spCells x0 x1 x2) ∧ V.heap[w.heap.size]? = some (spCells a b k) ∧ V.heap[w.heap.size + 1]? = some (spCells 0 0 false) ∧ Below w.heap.size w V) ⟨cells_new _ _, alloc_old hZ1, alloc_old hR1, hbw1.alloc hbw1.size _⟩ ?_
  rintro V ⟨hXV, hZV, hRV, hbV⟩
  have hws : w1.heap.size < V.heap.size := heap_lt hXV
  have hz1 : ¬ w.heap.size = w1.heap.size := by omega
  have hz2 : ¬ w1.heap.size = w.heap.size := by omega
  have hz3 : ¬ w.heap.size + 1 = w1.heap.size := by omega
  have hz4 : ¬ w1.heap.size = w.heap.size + 1 := by omega
  generalize w1.heap.size = bx at *
  clear hZ1 hR1 hbw1 az0 az1 az2
  refine (NG.out _ _ _ _ hx).mono ?_
  rintro e w2 ⟨rfl, hb2⟩
  have hX2 := (hb2.block _ (heap_lt hXV)).trans hXV
  have hZ2 := (hb2.block _ (heap_lt hZV)).trans hZV
  have bx0 := cell_of_block (o := 0) hX2 rfl
  have bx1 := cell_of_block (o := 1) hX2 rfl
  have bx2 := cell_of_block (o := 2) hX2 rfl
  have gx0 := frozen_of_block (o := 0) hX2
  have gx1 := frozen_of_block (o := 1) hX2
  have gx2 := frozen_of_block (o := 2) hX2
  have bz0 := cell_of_block (o := 0) hZ2 rfl
  have bz1 := cell_of_block (o := 1) hZ2 rfl
  have bz2 := cell_of_block (o := 2) hZ2 rfl
  have lz0 := (other3 (o := 0) hz1 (-x1) (-x0) x2).trans bz0
  have lz1 := (other3 (o := 1) hz1 (-x1) (-x0) x2).trans bz1
  have lz2 := (other3 (o := 2) hz1 (-x1) (-x0) x2).trans bz2
  have hz5 := heap_lt hZ2
  have hz6 := heap_lt hX2
  go_wp2_with fail
  go_loopw [8] (fun i wr => oddRel w (bx) (w2.heap.size) (w2.heap.size + 1) i wr) (fun i _ => 28 - (intOf i).toNat)
  case atStart =>
    have hx2 : Loc w2 bx := ⟨x0, x1, x2, hx, hX2⟩
    have hx3 : Loc (put3 w2 bx (-x1) (-x0) x2) bx := Loc.put hx2 hx2 hx.neg
    have hb3 : Below w.heap.size w (put3 w2 bx (-x1) (-x0) x2) := set3_below (hbV.trans (hb2.mono hbV.size)) (by omega) (-x1) (-x0) x2
    have hR3 : (put3 w2 bx (-x1) (-x0) x2).heap[w.heap.size + 1]? = some (spCells 0 0 false) := by
      rw [put3_other (by omega)]
      exact (hb2.block _ (heap_lt hRV)).trans hRV
    have hsz : (put3 w2 bx (-x1) (-x0) x2).heap.size = w2.heap.size := by simp [put3]
    have hb4 := (hb3.alloc hb3.size (.cells #[.int .i64 a, .int .i64 b, .bool k] 37))
    exact ⟨0, by omega, rfl, (hx3.old _).old _, ⟨a, b, k, h, alloc_old (alloc_at hsz)⟩, ⟨a, b, k, h, alloc_at (by simp [put3])⟩, alloc_old (alloc_old hR3), hb4.alloc hb4.size _⟩
  case round =>
    clear hX2 hZ2 bx0 bx1 bx2 gx0 gx1 gx2 bz0 bz1 bz2 lz0 lz1 lz2 hb2 hXV hZV hRV
    obtain ⟨j, hj, rfl, hLw1, hLt1, hLs1, hRr, hbr⟩ := hrel
    by_cases hlt : j < 12
    · obtain ⟨p, q, r, hokT, hT⟩ := id hLt1
      obtain ⟨p', q', r', hokW, hW⟩ := id hLw1
      have at0 := cell_of_block (o := 0) hT rfl
      have at1 := cell_of_block (o := 1) hT rfl
      have at2 := cell_of_block (o := 2) hT rfl
      have aw0 := cell_of_block (o := 0) hW rfl
      have aw1 := cell_of_block (o := 1) hW rfl
      have aw2 := cell_of_block (o := 2) hW rfl
      go_wp2_with fail
      refine (M.out _ _ _ _ _ _ _ hokT hokW).mono ?_
      rintro e v5 ⟨a5, b5, c5, rfl, hok5, hv5⟩
      have hT5 := (hv5.block _ (heap_lt hT)).trans hT
      have bt0 := cell_of_block (o := 0) hT5 rfl
      have bt1 := cell_of_block (o := 1) hT5 rfl
      have bt2 := cell_of_block (o := 2) hT5 rfl
      have bg0 := frozen_of_block (o := 0) hT5
      have bg1 := frozen_of_block (o := 1) hT5
      have bg2 := frozen_of_block (o := 2) hT5
      go_wp2_with fail
      obtain ⟨V4, hV4⟩ : ∃ V4, V4 = (((v5.setCell ⟨w2.heap.size, 0, none⟩ (.int .i64 a5)).setCell ⟨w2.heap.size, 1, none⟩ (.int .i64 b5)).setCell ⟨w2.heap.size, 2, none⟩ (.bool c5)) := ⟨_, rfl⟩
      rw [← hV4]
      have hLt5 := hLt1.below hv5
      have hLt4 : Loc V4 (w2.heap.size) := hV4 ▸ Loc.put hLt5 hLt5 hok5
      have hLw4 : Loc V4 (bx) := hV4 ▸ Loc.put hLt5 (hLw1.below hv5) hok5
      have hLs4 : Loc V4 (w2.heap.size + 1) := hV4 ▸ Loc.put hLt5 (hLs1.below hv5) hok5
      have hb4 : Below w.heap.size w V4 := hV4 ▸ set3_below (hbr.trans (hv5.mono hbr.size)) (by omega) a5 b5 c5
      have hR4 : V4.heap[w.heap.size + 1]? = some (spCells 0 0 false) := by
        rw [hV4, show ((((v5.setCell ⟨w2.heap.size, 0, none⟩ (.int .i64 a5)).setCell ⟨w2.heap.size, 1, none⟩ (.int .i64 b5)).setCell ⟨w2.heap.size, 2, none⟩ (.bool c5)) : World) = put3 v5 (w2.heap.size) a5 b5 c5 from rfl, put3_other (by omega)]
        exact (hv5.block _ (heap_lt hRr)).trans hRr
      clear hV4 hLt5 hv5 hT5 hok5 bt0 bt1 bt2 bg0 bg1 bg2 at0 at1 at2 aw0 aw1 aw2 hT hW hokT hokW hLt1 hLw1 hLs1 hRr hbr
      obtain ⟨p, q, r, hokT, hT⟩ := id hLt4
      obtain ⟨p', q', r', hokS, hS⟩ := id hLs4
      have at0 := cell_of_block (o := 0) hT rfl
      have at1 := cell_of_block (o := 1) hT rfl
      have at2 := cell_of_block (o := 2) hT rfl
      have as0 := cell_of_block (o := 0) hS rfl
      have as1 := cell_of_block (o := 1) hS rfl
      have as2 := cell_of_block (o := 2) hS rfl
      refine wp_region_E (fun w' : World => w'.cell? ⟨w2.heap.size + 1, 0, none⟩ = some (.int .i64 p') ∧ w'.cell? ⟨w2.heap.size + 1, 1, none⟩ = some (.int .i64 q') ∧ w'.cell? ⟨w2.heap.size + 1, 2, none⟩ = some (.bool r') ∧ w'.cell? ⟨w2.heap.size, 0, none⟩ = some (.int .i64 p) ∧ w'.cell? ⟨w2.heap.size, 1, none⟩ = some (.int .i64 q) ∧ w'.cell? ⟨w2.heap.size, 2, none⟩ = some (.bool r)) (fun i => !(i == 6)) (by kernel_rfl) ?_
      have hSh : Shut ((fun w' : World => w'.cell? ⟨w2.heap.size + 1, 0, none⟩ = some (.int .i64 p') ∧ w'.cell? ⟨w2.heap.size + 1, 1, none⟩ = some (.int .i64 q') ∧ w'.cell? ⟨w2.heap.size + 1, 2, none⟩ = some (.bool r') ∧ w'.cell? ⟨w2.heap.size, 0, none⟩ = some (.int .i64 p) ∧ w'.cell? ⟨w2.heap.size, 1, none⟩ = some (.int .i64 q) ∧ w'.cell? ⟨w2.heap.size, 2, none⟩ = some (.bool r)) V4.drew) := ⟨as0, as1, as2, at0, at1, at2⟩
      refine wpAnyE_take (i := 0) (v := ?va0) rfl (by kernel_rfl) (by kernel_rfl) (by kernel_rfl) (by kernel_rfl) (fun _ _ _ h => h) (Or.inl ⟨by rfl, ?ya0⟩) hSh.out ?ra0
      case ya0 =>
        intro w hSw
        try dsimp only at hSw
        go_simp
        try with_reducible rfl
      try simp only [Act.put, List.setIfInBounds_toArray, List.set_cons_zero, List.set_cons_succ]
      refine wpAnyE_take (i := 1) (v := ?va1) rfl (by kernel_rfl) (by kernel_rfl) (by kernel_rfl) (by kernel_rfl) (fun _ _ _ h => h) (Or.inl ⟨by rfl, ?ya1⟩) hSh.out ?ra1
      case ya1 =>
        intro w hSw
        try dsimp only at hSw
        go_simp
        try with_reducible rfl
      try simp only [Act.put, List.setIfInBounds_toArray, List.set_cons_zero, List.set_cons_succ]
      refine wpAnyE_take (i := 2) (v := ?va2) rfl (by kernel_rfl) (by kernel_rfl) (by kernel_rfl) (by kernel_rfl) (fun _ _ _ h => h) (Or.inl ⟨by rfl, ?ya2⟩) hSh.out ?ra2
      case ya2 =>
        intro w hSw
        try dsimp only at hSw
        go_simp
        try with_reducible rfl
      try simp only [Act.put, List.setIfInBounds_toArray, List.set_cons_zero, List.set_cons_succ]
      clear hSh
      refine wpAnyE_one (i := 3) (by kernel_rfl) rfl (fun K hK => ?_)
      go_simp
      refine ((RA.out 1 _ _ (by decide) (by decide) (by omega) (by omega)).mono (fun _ _ h => OfPost.sp (floor_ceil (by omega) (Int.le_refl _)) h)).mono ?_
      rintro e v1 ⟨a1, b1, c1, rfl, hok1, hv1⟩
      have hd1 := undrewS hv1
      have hT1 := (hd1.block _ (heap_lt hT)).trans hT
      have hS1 := (hd1.block _ (heap_lt hS)).trans hS
      have ct0 := cell_of_block (o := 0) hT1 rfl
      have ct1 := cell_of_block (o := 1) hT1 rfl
      have ct2 := cell_of_block (o := 2) hT1 rfl
      have cs0 := cell_of_block (o := 0) hS1 rfl
      have cs1 := cell_of_block (o := 1) hS1 rfl
      have cs2 := cell_of_block (o := 2) hS1 rfl
      clear hv1
      go_wp2_with fail
      refine hK.out _ _ (fun _ => ⟨cs0, cs1, cs2, ct0, ct1, ct2⟩) ?_
      clear hK K
      try simp only [Act.put, List.setIfInBounds_toArray, List.set_cons_zero, List.set_cons_succ]
      refine wpAnyE_one (i := 4) (by kernel_rfl) rfl (fun K hK => ?_)
      go_simp
      refine (M.out _ _ _ _ _ _ _ hokT hok1).mono ?_
      rintro e v2 ⟨a2, b2, c2, rfl, hok2, hv2⟩
      have hT2 := (hv2.block _ (heap_lt hT1)).trans hT1
      have hS2 := (hv2.block _ (heap_lt hS1)).trans hS1
      have du0 := cell_of_block (o := 0) hT2 rfl
      have du1 := cell_of_block (o := 1) hT2 rfl
      have du2 := cell_of_block (o := 2) hT2 rfl
      have ds0 := cell_of_block (o := 0) hS2 rfl
      have ds1 := cell_of_block (o := 1) hS2 rfl
      have ds2 := cell_of_block (o := 2) hS2 rfl
      go_wp2_with fail
      refine hK.out _ _ (fun _ => ⟨ds0, ds1, ds2, du0, du1, du2⟩) ?_
      clear hK K
      try simp only [Act.put, List.setIfInBounds_toArray, List.set_cons_zero, List.set_cons_succ]
      refine wpAnyE_one (i := 5) (by kernel_rfl) rfl (fun K hK => ?_)
      go_simp
      refine (AD.out _ _ _ _ _ _ _ hokS hok2).mono ?_
      rintro e v3 ⟨a3, b3, c3, rfl, hok3, hv3⟩
      have hT3 := (hv3.block _ (heap_lt hT2)).trans hT2
      have hS3 := (hv3.block _ (heap_lt hS2)).trans hS2
      have eu0 := cell_of_block (o := 0) hT3 rfl
      have eu1 := cell_of_block (o := 1) hT3 rfl
      have eu2 := cell_of_block (o := 2) hT3 rfl
      have es0 := cell_of_block (o := 0) hS3 rfl
      have es1 := cell_of_block (o := 1) hS3 rfl
      have es2 := cell_of_block (o := 2) hS3 rfl
      have eg0 := frozen_of_block (o := 0) hS3
      have eg1 := frozen_of_block (o := 1) hS3
      have eg2 := frozen_of_block (o := 2) hS3
      go_wp2_with fail
      refine hK.out _ _ (fun _ => ⟨es0, es1, es2, eu0, eu1, eu2⟩) ?_
      clear hK K
      try simp only [Act.put, List.setIfInBounds_toArray, List.set_cons_zero, List.set_cons_succ]
      refine wpAnyE_one (i := 6) (by kernel_rfl) rfl (fun K hK => ?_)
      go_simp
      refine hK.out _ _ (fun h => absurd h (by decide)) ?_
      clear hK K
      refine wpAnyE_done (by kernel_rfl) ?_ _
      have REL : Hid (oddRel w (bx) (w2.heap.size) (w2.heap.size + 1) (.int .i64 (3 + 2 * j + 2)) (put3 v3 (w2.heap.size + 1) a3 b3 c3)) := by
        have HD := hd1.trans (Below.mono (hv2.trans (hv3.mono hv2.size)) hd1.size)
        have hs5 : Loc v3 (w2.heap.size + 1) := hLs4.below HD
        refine ⟨j + 1, by omega, by simp; omega, Loc.put hs5 (hLw4.below HD) hok3, Loc.put hs5 (hLt4.below HD) hok3, Loc.put hs5 hs5 hok3, ?_, set3_below (hb4.trans (HD.mono hb4.size)) (by omega) a3 b3 c3⟩
        rw [put3_other (by omega)]
        exact (HD.block _ (heap_lt hR4)).trans hR4
      clear hd1 hv2 hv3 hT1 hT2 hT3 hS1 hS2 hS3 hok1 hok2 hok3 hT hS hLt4 hLw4 hLs4 hb4 hR4 hokT hokS
      go_wp2_with fail
      go_roundw
      case rel => exact REL.out
      case measure => simp [intOf]; omega
    · obtain rfl : j = 12 := by omega
      obtain ⟨p, q, r, hokS, hS⟩ := id hLs1
      have as0 := cell_of_block (o := 0) hS rfl
      have as1 := cell_of_block (o := 1) hS rfl
      have as2 := cell_of_block (o := 2) hS rfl
      go_wp2_with fail
      refine wp_region_E (fun w' : World => w'.cell? ⟨w2.heap.size + 1, 0, none⟩ = some (.int .i64 p) ∧ w'.cell? ⟨w2.heap.size + 1, 1, none⟩ = some (.int .i64 q) ∧ w'.cell? ⟨w2.heap.size + 1, 2, none⟩ = some (.bool r)) (fun i => !(i == 3)) (by kernel_rfl) ?_
      have hSh : Shut ((fun w' : World => w'.cell? ⟨w2.heap.size + 1, 0, none⟩ = some (.int .i64 p) ∧ w'.cell? ⟨w2.heap.size + 1, 1, none⟩ = some (.int .i64 q) ∧ w'.cell? ⟨w2.heap.size + 1, 2, none⟩ = some (.bool r)) wr.drew) := ⟨as0, as1, as2⟩
      refine wpAnyE_take (i := 0) (v := ?vb0) rfl (by kernel_rfl) (by kernel_rfl) (by kernel_rfl) (by kernel_rfl) (fun _ _ _ h => h) (Or.inl ⟨by rfl, ?yb0⟩) hSh.out ?rb0
      case yb0 =>
        intro w hSw
        try dsimp only at hSw
        go_simp
        try with_reducible rfl
      try simp only [Act.put, List.setIfInBounds_toArray, List.set_cons_zero, List.set_cons_succ]
      clear hSh
      refine wpAnyE_one (i := 1) (by kernel_rfl) rfl (fun K hK => ?_)
      go_simp
      refine ((O.out _ _ _).mono (fun _ _ h => OfPost.sp (by decide) h)).mono ?_
      rintro e v1 ⟨a1, b1, c1, rfl, hok1, hv1⟩
      have hd1 := undrewS hv1
      have hS1 := (hd1.block _ (heap_lt hS)).trans hS
      have hR1 := (hd1.block _ (heap_lt hRr)).trans hRr
      have cs0 := cell_of_block (o := 0) hS1 rfl
      have cs1 := cell_of_block (o := 1) hS1 rfl
      have cs2 := cell_of_block (o := 2) hS1 rfl
      clear hv1
      go_wp2_with fail
      refine hK.out _ _ (fun _ => ⟨cs0, cs1, cs2⟩) ?_
      clear hK K
      try simp only [Act.put, List.setIfInBounds_toArray, List.set_cons_zero, List.set_cons_succ]
      refine wpAnyE_one (i := 2) (by kernel_rfl) rfl (fun K hK => ?_)
      go_simp
      refine (AD.out _ _ _ _ _ _ _ hokS hok1).mono ?_
      rintro e v2 ⟨a2, b2, c2, rfl, hok2, hv2⟩
      have hS2 := (hv2.block _ (heap_lt hS1)).trans hS1
      have hR2 := (hv2.block _ (heap_lt hR1)).trans hR1
      have ds0 := cell_of_block (o := 0) hS2 rfl
      have ds1 := cell_of_block (o := 1) hS2 rfl
      have ds2 := cell_of_block (o := 2) hS2 rfl
      have rr0 := cell_of_block (o := 0) hR2 rfl
      have rr1 := cell_of_block (o := 1) hR2 rfl
      have rr2 := cell_of_block (o := 2) hR2 rfl
      have rg0 := frozen_of_block (o := 0) hR2
      have rg1 := frozen_of_block (o := 1) hR2
      have rg2 := frozen_of_block (o := 2) hR2
      go_wp2_with fail
      refine hK.out _ _ (fun _ => ⟨ds0, ds1, ds2⟩) ?_
      clear hK K
      try simp only [Act.put, List.setIfInBounds_toArray, List.set_cons_zero, List.set_cons_succ]
      refine wpAnyE_one (i := 3) (by kernel_rfl) rfl (fun K hK => ?_)
      go_simp
      refine hK.out _ _ (fun h => absurd h (by decide)) ?_
      clear hK K
      refine wpAnyE_done (by kernel_rfl) ?_ _
      have Q := hideq (set3 hR2 a2 b2 c2)
      have HBt := hideq (set3_below (hbr.trans ((hd1.trans (hv2.mono hd1.size)).mono hbr.size)) (show w.heap.size ≤ w.heap.size + 1 by omega) a2 b2 c2)
      have HOK := hideq hok2
      clear hd1 hv2 hS hS1 hS2 hRr hR1 hR2 hok1 hok2 hokS hbr hLs1 hLt1 hLw1
      go_wp2_with fail
      obtain ⟨q0, q1, q2⟩ := Q.out
      refine bodyPost_ret (v := sv a2 b2 c2) (by simp [results, Tryd.results43, go_sem, q0, q1, q2]) rfl ?_
      exact ⟨a2, b2, c2, rfl, HOK.out, HBt.out⟩

set_option maxHeartbeats 2000000 in
theorem odd_pos (a b : Int) (k : Bool) (s : Int) (w : World) (h : SpOk a b) (hs : 0 ≤ s) : Calls Tryd.prog 43 #[sv a b k, .int .i64 s] w (SpPost w) := by
  have O := hideq (fun x y w => of_any x y w)
  have M := hideq (fun a b k c d m w h h' => mul_any a b k c d m w h h')
  have AD := hideq (fun a b k c d m w h h' => add_any a b k c d m w h h')
  have RA := hideq (fun p q w h0 h1 h2 h3 => ratio_any p q w h0 h1 h2 h3)
  go_enter Tryd.func43, Tryd.ntmps43
  go_wp2_with fail
  refine calls_in (fun W => Below w.heap.size w W ∧ W.heap[w.heap.size + 1]? = some (spCells 0 0 false) ∧ W.heap[w.heap.size]? = some (spCells a b k)) ⟨((Below.refl _ _).alloc (Nat.le_refl _) _).alloc (by simp) _, alloc_at (by simp), alloc_old (cells_new _ _)⟩ ?_
  rintro W ⟨hbW, hRW, hZW⟩
  refine (M.out _ _ _ _ _ _ _ h h).mono ?_
  rintro e w1 ⟨x0, x1, x2, rfl, hx, hb1⟩
  have hZ1 := (hb1.block _ (heap_lt hZW)).trans hZW
  have hR1 := (hb1.block _ (heap_lt hRW)).trans hRW
  have hbw1 := hbW.trans (hb1.mono hbW.size)
  clear hb1 hRW hZW
  have az0 := cell_of_block (o := 0) hZ1 rfl
  have az1 := cell_of_block (o := 1) hZ1 rfl
  have az2 := cell_of_block (o := 2) hZ1 rfl
  have hzl := heap_lt hZ1
  have hrl := heap_lt hR1
  go_wp2_with fail
  go_loopw [8] (fun i wr => oddRel w (w1.heap.size) (w1.heap.size + 1) (w1.heap.size + 1 + 1) i wr) (fun i _ => 28 - (intOf i).toNat)
  case atStart =>
    have hb4 := (hbw1.alloc hbw1.size (.cells #[.int .i64 x0, .int .i64 x1, .bool x2] 37))
    have hb5 := (hb4.alloc hb4.size (.cells #[.int .i64 a, .int .i64 b, .bool k] 37))
    exact ⟨0, by omega, rfl, ((Loc.new w1 x2 hx).old _).old _, ⟨a, b, k, h, alloc_old (alloc_at (by simp))⟩, ⟨a, b, k, h, alloc_at (by simp)⟩, alloc_old (alloc_old (alloc_old hR1)), hb5.alloc hb5.size _⟩
  case round =>
    clear az0 az1 az2 hZ1 hR1
    obtain ⟨j, hj, rfl, hLw1, hLt1, hLs1, hRr, hbr⟩ := hrel
    by_cases hlt : j < 12
    · obtain ⟨p, q, r, hokT, hT⟩ := id hLt1
      obtain ⟨p', q', r', hokW, hW⟩ := id hLw1
      have at0 := cell_of_block (o := 0) hT rfl
      have at1 := cell_of_block (o := 1) hT rfl
      have at2 := cell_of_block (o := 2) hT rfl
      have aw0 := cell_of_block (o := 0) hW rfl
      have aw1 := cell_of_block (o := 1) hW rfl
      have aw2 := cell_of_block (o := 2) hW rfl
      go_wp2_with fail
      refine (M.out _ _ _ _ _ _ _ hokT hokW).mono ?_
      rintro e v5 ⟨a5, b5, c5, rfl, hok5, hv5⟩
      have hT5 := (hv5.block _ (heap_lt hT)).trans hT
      have bt0 := cell_of_block (o := 0) hT5 rfl
      have bt1 := cell_of_block (o := 1) hT5 rfl
      have bt2 := cell_of_block (o := 2) hT5 rfl
      have bg0 := frozen_of_block (o := 0) hT5
      have bg1 := frozen_of_block (o := 1) hT5
      have bg2 := frozen_of_block (o := 2) hT5
      go_wp2_with fail
      obtain ⟨V4, hV4⟩ : ∃ V4, V4 = (((v5.setCell ⟨w1.heap.size + 1, 0, none⟩ (.int .i64 a5)).setCell ⟨w1.heap.size + 1, 1, none⟩ (.int .i64 b5)).setCell ⟨w1.heap.size + 1, 2, none⟩ (.bool c5)) := ⟨_, rfl⟩
      rw [← hV4]
      have hLt5 := hLt1.below hv5
      have hLt4 : Loc V4 (w1.heap.size + 1) := hV4 ▸ Loc.put hLt5 hLt5 hok5
      have hLw4 : Loc V4 (w1.heap.size) := hV4 ▸ Loc.put hLt5 (hLw1.below hv5) hok5
      have hLs4 : Loc V4 (w1.heap.size + 1 + 1) := hV4 ▸ Loc.put hLt5 (hLs1.below hv5) hok5
      have hb4 : Below w.heap.size w V4 := hV4 ▸ set3_below (hbr.trans (hv5.mono hbr.size)) (by omega) a5 b5 c5
      have hR4 : V4.heap[w.heap.size + 1]? = some (spCells 0 0 false) := by
        rw [hV4, show ((((v5.setCell ⟨w1.heap.size + 1, 0, none⟩ (.int .i64 a5)).setCell ⟨w1.heap.size + 1, 1, none⟩ (.int .i64 b5)).setCell ⟨w1.heap.size + 1, 2, none⟩ (.bool c5)) : World) = put3 v5 (w1.heap.size + 1) a5 b5 c5 from rfl, put3_other (by omega)]
        exact (hv5.block _ (heap_lt hRr)).trans hRr
      clear hV4 hLt5 hv5 hT5 hok5 bt0 bt1 bt2 bg0 bg1 bg2 at0 at1 at2 aw0 aw1 aw2 hT hW hokT hokW hLt1 hLw1 hLs1 hRr hbr
      obtain ⟨p, q, r, hokT, hT⟩ := id hLt4
      obtain ⟨p', q', r', hokS, hS⟩ := id hLs4
      have at0 := cell_of_block (o := 0) hT rfl
      have at1 := cell_of_block (o := 1) hT rfl
      have at2 := cell_of_block (o := 2) hT rfl
      have as0 := cell_of_block (o := 0) hS rfl
      have as1 := cell_of_block (o := 1) hS rfl
      have as2 := cell_of_block (o := 2) hS rfl
      refine wp_region_E (fun w' : World => w'.cell? ⟨w1.heap.size + 1 + 1, 0, none⟩ = some (.int .i64 p') ∧ w'.cell? ⟨w1.heap.size + 1 + 1, 1, none⟩ = some (.int .i64 q') ∧ w'.cell? ⟨w1.heap.size + 1 + 1, 2, none⟩ = some (.bool r') ∧ w'.cell? ⟨w1.heap.size + 1, 0, none⟩ = some (.int .i64 p) ∧ w'.cell? ⟨w1.heap.size + 1, 1, none⟩ = some (.int .i64 q) ∧ w'.cell? ⟨w1.heap.size + 1, 2, none⟩ = some (.bool r)) (fun i => !(i == 6)) (by kernel_rfl) ?_
      have hSh : Shut ((fun w' : World => w'.cell? ⟨w1.heap.size + 1 + 1, 0, none⟩ = some (.int .i64 p') ∧ w'.cell? ⟨w1.heap.size + 1 + 1, 1, none⟩ = some (.int .i64 q') ∧ w'.cell? ⟨w1.heap.size + 1 + 1, 2, none⟩ = some (.bool r') ∧ w'.cell? ⟨w1.heap.size + 1, 0, none⟩ = some (.int .i64 p) ∧ w'.cell? ⟨w1.heap.size + 1, 1, none⟩ = some (.int .i64 q) ∧ w'.cell? ⟨w1.heap.size + 1, 2, none⟩ = some (.bool r)) V4.drew) := ⟨as0, as1, as2, at0, at1, at2⟩
      refine wpAnyE_take (i := 0) (v := ?va0) rfl (by kernel_rfl) (by kernel_rfl) (by kernel_rfl) (by kernel_rfl) (fun _ _ _ h => h) (Or.inl ⟨by rfl, ?ya0⟩) hSh.out ?ra0
      case ya0 =>
        intro w hSw
        try dsimp only at hSw
        go_simp
        try with_reducible rfl
      try simp only [Act.put, List.setIfInBounds_toArray, List.set_cons_zero, List.set_cons_succ]
      refine wpAnyE_take (i := 1) (v := ?va1) rfl (by kernel_rfl) (by kernel_rfl) (by kernel_rfl) (by kernel_rfl) (fun _ _ _ h => h) (Or.inl ⟨by rfl, ?ya1⟩) hSh.out ?ra1
      case ya1 =>
        intro w hSw
        try dsimp only at hSw
        go_simp
        try with_reducible rfl
      try simp only [Act.put, List.setIfInBounds_toArray, List.set_cons_zero, List.set_cons_succ]
      refine wpAnyE_take (i := 2) (v := ?va2) rfl (by kernel_rfl) (by kernel_rfl) (by kernel_rfl) (by kernel_rfl) (fun _ _ _ h => h) (Or.inl ⟨by rfl, ?ya2⟩) hSh.out ?ra2
      case ya2 =>
        intro w hSw
        try dsimp only at hSw
        go_simp
        try with_reducible rfl
      try simp only [Act.put, List.setIfInBounds_toArray, List.set_cons_zero, List.set_cons_succ]
      clear hSh
      refine wpAnyE_one (i := 3) (by kernel_rfl) rfl (fun K hK => ?_)
      go_simp
      refine ((RA.out 1 _ _ (by decide) (by decide) (by omega) (by omega)).mono (fun _ _ h => OfPost.sp (floor_ceil (by omega) (Int.le_refl _)) h)).mono ?_
      rintro e v1 ⟨a1, b1, c1, rfl, hok1, hv1⟩
      have hd1 := undrewS hv1
      have hT1 := (hd1.block _ (heap_lt hT)).trans hT
      have hS1 := (hd1.block _ (heap_lt hS)).trans hS
      have ct0 := cell_of_block (o := 0) hT1 rfl
      have ct1 := cell_of_block (o := 1) hT1 rfl
      have ct2 := cell_of_block (o := 2) hT1 rfl
      have cs0 := cell_of_block (o := 0) hS1 rfl
      have cs1 := cell_of_block (o := 1) hS1 rfl
      have cs2 := cell_of_block (o := 2) hS1 rfl
      clear hv1
      go_wp2_with fail
      refine hK.out _ _ (fun _ => ⟨cs0, cs1, cs2, ct0, ct1, ct2⟩) ?_
      clear hK K
      try simp only [Act.put, List.setIfInBounds_toArray, List.set_cons_zero, List.set_cons_succ]
      refine wpAnyE_one (i := 4) (by kernel_rfl) rfl (fun K hK => ?_)
      go_simp
      refine (M.out _ _ _ _ _ _ _ hokT hok1).mono ?_
      rintro e v2 ⟨a2, b2, c2, rfl, hok2, hv2⟩
      have hT2 := (hv2.block _ (heap_lt hT1)).trans hT1
      have hS2 := (hv2.block _ (heap_lt hS1)).trans hS1
      have du0 := cell_of_block (o := 0) hT2 rfl
      have du1 := cell_of_block (o := 1) hT2 rfl
      have du2 := cell_of_block (o := 2) hT2 rfl
      have ds0 := cell_of_block (o := 0) hS2 rfl
      have ds1 := cell_of_block (o := 1) hS2 rfl
      have ds2 := cell_of_block (o := 2) hS2 rfl
      go_wp2_with fail
      refine hK.out _ _ (fun _ => ⟨ds0, ds1, ds2, du0, du1, du2⟩) ?_
      clear hK K
      try simp only [Act.put, List.setIfInBounds_toArray, List.set_cons_zero, List.set_cons_succ]
      refine wpAnyE_one (i := 5) (by kernel_rfl) rfl (fun K hK => ?_)
      go_simp
      refine (AD.out _ _ _ _ _ _ _ hokS hok2).mono ?_
      rintro e v3 ⟨a3, b3, c3, rfl, hok3, hv3⟩
      have hT3 := (hv3.block _ (heap_lt hT2)).trans hT2
      have hS3 := (hv3.block _ (heap_lt hS2)).trans hS2
      have eu0 := cell_of_block (o := 0) hT3 rfl
      have eu1 := cell_of_block (o := 1) hT3 rfl
      have eu2 := cell_of_block (o := 2) hT3 rfl
      have es0 := cell_of_block (o := 0) hS3 rfl
      have es1 := cell_of_block (o := 1) hS3 rfl
      have es2 := cell_of_block (o := 2) hS3 rfl
      have eg0 := frozen_of_block (o := 0) hS3
      have eg1 := frozen_of_block (o := 1) hS3
      have eg2 := frozen_of_block (o := 2) hS3
      go_wp2_with fail
      refine hK.out _ _ (fun _ => ⟨es0, es1, es2, eu0, eu1, eu2⟩) ?_
      clear hK K
      try simp only [Act.put, List.setIfInBounds_toArray, List.set_cons_zero, List.set_cons_succ]
      refine wpAnyE_one (i := 6) (by kernel_rfl) rfl (fun K hK => ?_)
      go_simp
      refine hK.out _ _ (fun h => absurd h (by decide)) ?_
      clear hK K
      refine wpAnyE_done (by kernel_rfl) ?_ _
      have REL : Hid (oddRel w (w1.heap.size) (w1.heap.size + 1) (w1.heap.size + 1 + 1) (.int .i64 (3 + 2 * j + 2)) (put3 v3 (w1.heap.size + 1 + 1) a3 b3 c3)) := by
        have HD := hd1.trans (Below.mono (hv2.trans (hv3.mono hv2.size)) hd1.size)
        have hs5 : Loc v3 (w1.heap.size + 1 + 1) := hLs4.below HD
        refine ⟨j + 1, by omega, by simp; omega, Loc.put hs5 (hLw4.below HD) hok3, Loc.put hs5 (hLt4.below HD) hok3, Loc.put hs5 hs5 hok3, ?_, set3_below (hb4.trans (HD.mono hb4.size)) (by omega) a3 b3 c3⟩
        rw [put3_other (by omega)]
        exact (HD.block _ (heap_lt hR4)).trans hR4
      clear hd1 hv2 hv3 hT1 hT2 hT3 hS1 hS2 hS3 hok1 hok2 hok3 hT hS hLt4 hLw4 hLs4 hb4 hR4 hokT hokS
      go_wp2_with fail
      go_roundw
      case rel => exact REL.out
      case measure => simp [intOf]; omega
    · obtain rfl : j = 12 := by omega
      obtain ⟨p, q, r, hokS, hS⟩ := id hLs1
      have as0 := cell_of_block (o := 0) hS rfl
      have as1 := cell_of_block (o := 1) hS rfl
      have as2 := cell_of_block (o := 2) hS rfl
      go_wp2_with fail
      refine wp_region_E (fun w' : World => w'.cell? ⟨w1.heap.size + 1 + 1, 0, none⟩ = some (.int .i64 p) ∧ w'.cell? ⟨w1.heap.size + 1 + 1, 1, none⟩ = some (.int .i64 q) ∧ w'.cell? ⟨w1.heap.size + 1 + 1, 2, none⟩ = some (.bool r)) (fun i => !(i == 3)) (by kernel_rfl) ?_
      have hSh : Shut ((fun w' : World => w'.cell? ⟨w1.heap.size + 1 + 1, 0, none⟩ = some (.int .i64 p) ∧ w'.cell? ⟨w1.heap.size + 1 + 1, 1, none⟩ = some (.int .i64 q) ∧ w'.cell? ⟨w1.heap.size + 1 + 1, 2, none⟩ = some (.bool r)) wr.drew) := ⟨as0, as1, as2⟩
      refine wpAnyE_take (i := 0) (v := ?vb0) rfl (by kernel_rfl) (by kernel_rfl) (by kernel_rfl) (by kernel_rfl) (fun _ _ _ h => h) (Or.inl ⟨by rfl, ?yb0⟩) hSh.out ?rb0
      case yb0 =>
        intro w hSw
        try dsimp only at hSw
        go_simp
        try with_reducible rfl
      try simp only [Act.put, List.setIfInBounds_toArray, List.set_cons_zero, List.set_cons_succ]
      clear hSh
      refine wpAnyE_one (i := 1) (by kernel_rfl) rfl (fun K hK => ?_)
      go_simp
      refine ((O.out _ _ _).mono (fun _ _ h => OfPost.sp (by decide) h)).mono ?_
      rintro e v1 ⟨a1, b1, c1, rfl, hok1, hv1⟩
      have hd1 := undrewS hv1
      have hS1 := (hd1.block _ (heap_lt hS)).trans hS
      have hR1 := (hd1.block _ (heap_lt hRr)).trans hRr
      have cs0 := cell_of_block (o := 0) hS1 rfl
      have cs1 := cell_of_block (o := 1) hS1 rfl
      have cs2 := cell_of_block (o := 2) hS1 rfl
      clear hv1
      go_wp2_with fail
      refine hK.out _ _ (fun _ => ⟨cs0, cs1, cs2⟩) ?_
      clear hK K
      try simp only [Act.put, List.setIfInBounds_toArray, List.set_cons_zero, List.set_cons_succ]
      refine wpAnyE_one (i := 2) (by kernel_rfl) rfl (fun K hK => ?_)
      go_simp
      refine (AD.out _ _ _ _ _ _ _ hokS hok1).mono ?_
      rintro e v2 ⟨a2, b2, c2, rfl, hok2, hv2⟩
      have hS2 := (hv2.block _ (heap_lt hS1)).trans hS1
      have hR2 := (hv2.block _ (heap_lt hR1)).trans hR1
      have ds0 := cell_of_block (o := 0) hS2 rfl
      have ds1 := cell_of_block (o := 1) hS2 rfl
      have ds2 := cell_of_block (o := 2) hS2 rfl
      have rr0 := cell_of_block (o := 0) hR2 rfl
      have rr1 := cell_of_block (o := 1) hR2 rfl
      have rr2 := cell_of_block (o := 2) hR2 rfl
      have rg0 := frozen_of_block (o := 0) hR2
      have rg1 := frozen_of_block (o := 1) hR2
      have rg2 := frozen_of_block (o := 2) hR2
      go_wp2_with fail
      refine hK.out _ _ (fun _ => ⟨ds0, ds1, ds2⟩) ?_
      clear hK K
      try simp only [Act.put, List.setIfInBounds_toArray, List.set_cons_zero, List.set_cons_succ]
      refine wpAnyE_one (i := 3) (by kernel_rfl) rfl (fun K hK => ?_)
      go_simp
      refine hK.out _ _ (fun h => absurd h (by decide)) ?_
      clear hK K
      refine wpAnyE_done (by kernel_rfl) ?_ _
      have Q := hideq (set3 hR2 a2 b2 c2)
      have HBt := hideq (set3_below (hbr.trans ((hd1.trans (hv2.mono hd1.size)).mono hbr.size)) (show w.heap.size ≤ w.heap.size + 1 by omega) a2 b2 c2)
      have HOK := hideq hok2
      clear hd1 hv2 hS hS1 hS2 hRr hR1 hR2 hok1 hok2 hokS hbr hLs1 hLt1 hLw1
      go_wp2_with fail
      obtain ⟨q0, q1, q2⟩ := Q.out
      refine bodyPost_ret (v := sv a2 b2 c2) (by simp [results, Tryd.results43, go_sem, q0, q1, q2]) rfl ?_
      exact ⟨a2, b2, c2, rfl, HOK.out, HBt.out⟩

theorem odd_any (a b : Int) (k : Bool) (s : Int) (w : World) (h : SpOk a b) : Calls Tryd.prog 43 #[sv a b k, .int .i64 s] w (SpPost w) := by
  rcases Int.lt_or_le s 0 with hs | hs
  · exact odd_neg a b k s w h hs
  · exact odd_pos a b k s w h hs
end Go.Proofs.YtmepffenlgedbaaDoor
