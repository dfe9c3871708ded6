/-
  THE WALKS of realskeep's plain intervals: atan.
-/
import Derived.Test.YtmepffenlgedbaaDoorSpan7
import Derived.Test.YtmepffenlgedbaaDoorSpan8
set_option linter.unusedSimpArgs false
namespace Go.Proofs.YtmepffenlgedbaaDoor
open Go.RowKit

def atRel (w : World) (bx bs bh : Nat) (i : Value) (wr : World) : Prop :=
  ∃ k : Nat, k ≤ 4 ∧ i = .int .i64 k ∧ Loc wr bx ∧ Loc wr bs ∧ Loc wr bh ∧ wr.heap[w.heap.size]? = some (spCells 0 0 false) ∧ Below w.heap.size w wr

set_option maxHeartbeats 4000000 in
theorem atanOf_any (n : Int) (w : World) : Calls Tryd.prog 34 #[.int .i64 n] w (SpPost w) := by
  have PT := hideq (fun w => point_any n w)
  have O := hideq (fun x y w => of_any x y w)
  have M := hideq (fun a b k c d m w h h' => mul_any a b k c d m w h h')
  have AD := hideq (fun a b k c d m w h h' => add_any a b k c d m w h h')
  have OV := hideq (fun a b k w h => over_any a b k w h)
  have NG := hideq (fun a b k w h => neg_any a b k w h)
  have OD := hideq (fun a b k s w h => odd_any a b k s w h)
  have RA := hideq (fun p q w h0 h1 h2 h3 => ratio_any p q w h0 h1 h2 h3)
  go_enter Tryd.func34, Tryd.ntmps34
  go_wp2_with fail
  refine calls_in (fun W => Below w.heap.size w W ∧ W.heap[w.heap.size]? = some (spCells 0 0 false)) ⟨(Below.refl _ _).alloc (Nat.le_refl _) _, cells_new _ _⟩ ?_
  rintro W ⟨hbW, hRW⟩
  refine ((PT.out _).mono (fun _ _ h => OfPost.sp (Int.le_refl _) h)).mono ?_
  rintro e w1 ⟨x0, x1, x2, rfl, hx, hb1⟩
  go_wp2_with fail
  refine calls_in (fun V => Loc V w1.heap.size ∧ Below w.heap.size w V ∧ V.heap[w.heap.size]? = some (spCells 0 0 false)) ⟨Loc.new w1 x2 hx, (hbW.trans (hb1.mono hbW.size)).alloc (Nat.le_trans hbW.size hb1.size) _, alloc_old ((hb1.block _ (heap_lt hRW)).trans hRW)⟩ ?_
  rintro V ⟨hLx, hbV, hRV⟩
  have hxs := hLx.lt
  have hwx : w.heap.size < w1.heap.size := Nat.lt_of_lt_of_le (heap_lt hRW) hb1.size
  generalize w1.heap.size = bx at *
  clear hb1 hx hRW hbW
  refine ((O.out _ _ _).mono (fun _ _ h => OfPost.sp (by decide) h)).mono ?_
  rintro e w2 ⟨t0, t1, t2, rfl, ht, hb2⟩
  go_wp2_with fail
  refine calls_in (fun U => Loc U bx ∧ Loc U w2.heap.size ∧ Below w.heap.size w U ∧ U.heap[w.heap.size]? = some (spCells 0 0 false)) ⟨(hLx.below hb2).old _, Loc.new w2 t2 ht, (hbV.trans (hb2.mono hbV.size)).alloc (Nat.le_trans hbV.size hb2.size) _, alloc_old ((hb2.block _ (heap_lt hRV)).trans hRV)⟩ ?_
  rintro U ⟨hLx2, hLs2, hbU, hRU⟩
  have hss := hLs2.lt
  have hxs2 : bx < w2.heap.size := Nat.lt_of_lt_of_le hxs hb2.size
  generalize w2.heap.size = bs at *
  clear hb2 ht hRV hbV hLx
  refine ((RA.out 1 2 _ (by decide) (by decide) (by decide) (by decide)).mono (fun _ _ h => OfPost.sp (floor_ceil (by decide) (Int.le_refl _)) h)).mono ?_
  rintro e w3 ⟨y0, y1, y2, rfl, hy, hb3⟩
  go_wp2_with fail
  go_loopw [6] (fun i wr => atRel w bx bs w3.heap.size i wr) (fun i _ => 4 - (intOf i).toNat)
  case atStart =>
    exact ⟨0, by omega, rfl, (hLx2.below hb3).old _, (hLs2.below hb3).old _, Loc.new w3 y2 hy, alloc_old ((hb3.block _ (heap_lt hRU)).trans hRU), (hbU.trans (hb3.mono hbU.size)).alloc (Nat.le_trans hbU.size hb3.size) _⟩
  case round =>
    obtain ⟨k, hk, rfl, hLx1, hLs1, hLh1, hRr, hbr⟩ := hrel
    have hsw := Nat.lt_of_lt_of_le hss hb3.size
    clear hb3 hRU hbU hLx2 hLs2 hy
    obtain ⟨p, q, r, hokX, hX⟩ := id hLx1
    have ax0 := cell_of_block (o := 0) hX rfl
    have ax1 := cell_of_block (o := 1) hX rfl
    have ax2 := cell_of_block (o := 2) hX rfl
    by_cases hk4 : k < 4
    · by_cases hc : r = true ∧ 524288 < q
      · obtain ⟨rfl, hq⟩ := hc
        obtain ⟨p', q', r', hokH, hH⟩ := id hLh1
        have ah0 := cell_of_block (o := 0) hH rfl
        have ah1 := cell_of_block (o := 1) hH rfl
        have ah2 := cell_of_block (o := 2) hH rfl
        go_wp2_with fail
        refine wp_region_E (fun w' : World => w'.cell? ⟨bx, 0, none⟩ = some (.int .i64 p) ∧ w'.cell? ⟨bx, 1, none⟩ = some (.int .i64 q) ∧ w'.cell? ⟨bx, 2, none⟩ = some (.bool true) ∧ w'.cell? ⟨w3.heap.size, 0, none⟩ = some (.int .i64 p') ∧ w'.cell? ⟨w3.heap.size, 1, none⟩ = some (.int .i64 q') ∧ w'.cell? ⟨w3.heap.size, 2, none⟩ = some (.bool r')) (fun i => !(i == 11)) (by kernel_rfl) ?_
        have hSh : Shut ((fun w' : World => w'.cell? ⟨bx, 0, none⟩ = some (.int .i64 p) ∧ w'.cell? ⟨bx, 1, none⟩ = some (.int .i64 q) ∧ w'.cell? ⟨bx, 2, none⟩ = some (.bool true) ∧ w'.cell? ⟨w3.heap.size, 0, none⟩ = some (.int .i64 p') ∧ w'.cell? ⟨w3.heap.size, 1, none⟩ = some (.int .i64 q') ∧ w'.cell? ⟨w3.heap.size, 2, none⟩ = some (.bool r')) wr.drew) := ⟨ax0, ax1, ax2, ah0, ah1, ah2⟩
        refine wpAnyE_take (i := 0) (v := ?va0) rfl (by kernel_rfl) (by kernel_rfl) (by kernel_rfl) (by kernel_rfl) (fun _ _ _ h => h) (Or.inl ⟨by rfl, ?ya0⟩) hSh.out ?ra0
        case ya0 =>
          intro w hSw
          try dsimp only at hSw
          go_simp
          try with_reducible rfl
        try simp only [Act.put, List.setIfInBounds_toArray, List.set_cons_zero, List.set_cons_succ]
        refine wpAnyE_take (i := 1) (v := ?va1) rfl (by kernel_rfl) (by kernel_rfl) (by kernel_rfl) (by kernel_rfl) (fun _ _ _ h => h) (Or.inl ⟨by rfl, ?ya1⟩) hSh.out ?ra1
        case ya1 =>
          intro w hSw
          try dsimp only at hSw
          go_simp
          try with_reducible rfl
        try simp only [Act.put, List.setIfInBounds_toArray, List.set_cons_zero, List.set_cons_succ]
        refine wpAnyE_take (i := 5) (v := ?va5) rfl (by kernel_rfl) (by kernel_rfl) (by kernel_rfl) (by kernel_rfl) (fun _ _ _ h => h) (Or.inl ⟨by rfl, ?ya5⟩) hSh.out ?ra5
        case ya5 =>
          intro w hSw
          try dsimp only at hSw
          go_simp
          try with_reducible rfl
        try simp only [Act.put, List.setIfInBounds_toArray, List.set_cons_zero, List.set_cons_succ]
        refine wpAnyE_take (i := 6) (v := ?va6) rfl (by kernel_rfl) (by kernel_rfl) (by kernel_rfl) (by kernel_rfl) (fun _ _ _ h => h) (Or.inl ⟨by rfl, ?ya6⟩) hSh.out ?ra6
        case ya6 =>
          intro w hSw
          try dsimp only at hSw
          go_simp
          try with_reducible rfl
        try simp only [Act.put, List.setIfInBounds_toArray, List.set_cons_zero, List.set_cons_succ]
        clear hSh
        refine wpAnyE_one (i := 2) (by kernel_rfl) rfl (fun K hK => ?_)
        go_simp
        refine (NG.out _ _ _ _ hokH).mono ?_
        rintro e u1 ⟨rfl, hu1⟩
        have aok := hokH.neg
        have hdd1 := undrewS hu1
        have HD1 := hideq hdd1
        have hX1 := (hdd1.block _ (heap_lt hX)).trans hX
        have hH1 := (hdd1.block _ (heap_lt hH)).trans hH
        clear hu1 hdd1
        go_wp2_with fail
        refine hK.out _ _ (fun _ => ⟨cell_of_block (o := 0) hX1 rfl, cell_of_block (o := 1) hX1 rfl, cell_of_block (o := 2) hX1 rfl, cell_of_block (o := 0) hH1 rfl, cell_of_block (o := 1) hH1 rfl, cell_of_block (o := 2) hH1 rfl⟩) ?_
        clear hK K
        try simp only [Act.put, List.setIfInBounds_toArray, List.set_cons_zero, List.set_cons_succ]
        refine wpAnyE_one (i := 3) (by kernel_rfl) rfl (fun K hK => ?_)
        go_simp
        refine (AD.out _ _ _ _ _ _ _ hokX aok).mono ?_
        rintro e u2 ⟨b0, b1, b2, rfl, bok, hu2⟩
        have HD2 := hideq (HD1.out.trans (hu2.mono HD1.out.size))
        have hX2 := (hu2.block _ (heap_lt hX1)).trans hX1
        have hH2 := (hu2.block _ (heap_lt hH1)).trans hH1
        clear hu2 hX1 hH1 HD1
        go_wp2_with fail
        refine hK.out _ _ (fun _ => ⟨cell_of_block (o := 0) hX2 rfl, cell_of_block (o := 1) hX2 rfl, cell_of_block (o := 2) hX2 rfl, cell_of_block (o := 0) hH2 rfl, cell_of_block (o := 1) hH2 rfl, cell_of_block (o := 2) hH2 rfl⟩) ?_
        clear hK K
        try simp only [Act.put, List.setIfInBounds_toArray, List.set_cons_zero, List.set_cons_succ]
        refine wpAnyE_one (i := 4) (by kernel_rfl) rfl (fun K hK => ?_)
        go_simp
        refine ((O.out _ _ _).mono (fun _ _ h => OfPost.sp (by decide) h)).mono ?_
        rintro e u3 ⟨c0, c1, c2, rfl, cok, hu3⟩
        have HD3 := hideq (HD2.out.trans (hu3.mono HD2.out.size))
        have hX3 := (hu3.block _ (heap_lt hX2)).trans hX2
        have hH3 := (hu3.block _ (heap_lt hH2)).trans hH2
        clear hu3 hX2 hH2 HD2
        go_wp2_with fail
        refine hK.out _ _ (fun _ => ⟨cell_of_block (o := 0) hX3 rfl, cell_of_block (o := 1) hX3 rfl, cell_of_block (o := 2) hX3 rfl, cell_of_block (o := 0) hH3 rfl, cell_of_block (o := 1) hH3 rfl, cell_of_block (o := 2) hH3 rfl⟩) ?_
        clear hK K
        try simp only [Act.put, List.setIfInBounds_toArray, List.set_cons_zero, List.set_cons_succ]
        refine wpAnyE_one (i := 7) (by kernel_rfl) rfl (fun K hK => ?_)
        go_simp
        refine (M.out _ _ _ _ _ _ _ hokX hokH).mono ?_
        rintro e u4 ⟨d0, d1, d2, rfl, dok, hu4⟩
        have HD4 := hideq (HD3.out.trans (hu4.mono HD3.out.size))
        have hX4 := (hu4.block _ (heap_lt hX3)).trans hX3
        have hH4 := (hu4.block _ (heap_lt hH3)).trans hH3
        clear hu4 hX3 hH3 HD3
        go_wp2_with fail
        refine hK.out _ _ (fun _ => ⟨cell_of_block (o := 0) hX4 rfl, cell_of_block (o := 1) hX4 rfl, cell_of_block (o := 2) hX4 rfl, cell_of_block (o := 0) hH4 rfl, cell_of_block (o := 1) hH4 rfl, cell_of_block (o := 2) hH4 rfl⟩) ?_
        clear hK K
        try simp only [Act.put, List.setIfInBounds_toArray, List.set_cons_zero, List.set_cons_succ]
        refine wpAnyE_one (i := 8) (by kernel_rfl) rfl (fun K hK => ?_)
        go_simp
        refine (AD.out _ _ _ _ _ _ _ cok dok).mono ?_
        rintro e u5 ⟨f0, f1, f2, rfl, fok, hu5⟩
        have HD5 := hideq (HD4.out.trans (hu5.mono HD4.out.size))
        have hX5 := (hu5.block _ (heap_lt hX4)).trans hX4
        have hH5 := (hu5.block _ (heap_lt hH4)).trans hH4
        clear hu5 hX4 hH4 HD4
        go_wp2_with fail
        refine hK.out _ _ (fun _ => ⟨cell_of_block (o := 0) hX5 rfl, cell_of_block (o := 1) hX5 rfl, cell_of_block (o := 2) hX5 rfl, cell_of_block (o := 0) hH5 rfl, cell_of_block (o := 1) hH5 rfl, cell_of_block (o := 2) hH5 rfl⟩) ?_
        clear hK K
        try simp only [Act.put, List.setIfInBounds_toArray, List.set_cons_zero, List.set_cons_succ]
        refine wpAnyE_one (i := 9) (by kernel_rfl) rfl (fun K hK => ?_)
        go_simp
        refine (OV.out _ _ _ _ fok).mono ?_
        rintro e u6 ⟨g0, g1, g2, rfl, gok, hu6⟩
        have HD6 := hideq (HD5.out.trans (hu6.mono HD5.out.size))
        have hX6 := (hu6.block _ (heap_lt hX5)).trans hX5
        have hH6 := (hu6.block _ (heap_lt hH5)).trans hH5
        clear hu6 hX5 hH5 HD5
        go_wp2_with fail
        refine hK.out _ _ (fun _ => ⟨cell_of_block (o := 0) hX6 rfl, cell_of_block (o := 1) hX6 rfl, cell_of_block (o := 2) hX6 rfl, cell_of_block (o := 0) hH6 rfl, cell_of_block (o := 1) hH6 rfl, cell_of_block (o := 2) hH6 rfl⟩) ?_
        clear hK K
        try simp only [Act.put, List.setIfInBounds_toArray, List.set_cons_zero, List.set_cons_succ]
        refine wpAnyE_one (i := 10) (by kernel_rfl) rfl (fun K hK => ?_)
        go_simp
        refine (M.out _ _ _ _ _ _ _ bok gok).mono ?_
        rintro e u7 ⟨z0, z1, z2, rfl, zok, hu7⟩
        have HD7 := hideq (HD6.out.trans (hu7.mono HD6.out.size))
        have hX7 := (hu7.block _ (heap_lt hX6)).trans hX6
        have hH7 := (hu7.block _ (heap_lt hH6)).trans hH6
        clear hu7 hX6 hH6 HD6
        have xc0 := cell_of_block (o := 0) hX7 rfl
        have xc1 := cell_of_block (o := 1) hX7 rfl
        have xc2 := cell_of_block (o := 2) hX7 rfl
        have xg0 := frozen_of_block (o := 0) hX7
        have xg1 := frozen_of_block (o := 1) hX7
        have xg2 := frozen_of_block (o := 2) hX7
        go_wp2_with fail
        refine hK.out _ _ (fun _ => ⟨cell_of_block (o := 0) hX7 rfl, cell_of_block (o := 1) hX7 rfl, cell_of_block (o := 2) hX7 rfl, cell_of_block (o := 0) hH7 rfl, cell_of_block (o := 1) hH7 rfl, cell_of_block (o := 2) hH7 rfl⟩) ?_
        clear hK K
        try simp only [Act.put, List.setIfInBounds_toArray, List.set_cons_zero, List.set_cons_succ]
        refine wpAnyE_one (i := 11) (by kernel_rfl) rfl (fun K hK => ?_)
        go_simp
        refine hK.out _ _ (fun h => absurd h (by decide)) ?_
        clear hK K
        refine wpAnyE_done (by kernel_rfl) ?_ _
        obtain ⟨V4, hV4⟩ : ∃ V4, V4 = (((u7.setCell ⟨bx, 0, none⟩ (.int .i64 z0)).setCell ⟨bx, 1, none⟩ (.int .i64 z1)).setCell ⟨bx, 2, none⟩ (.bool z2)) := ⟨_, rfl⟩
        rw [← hV4]
        have hLx4 : Loc V4 bx := hV4 ▸ Loc.put (hLx1.below HD7.out) (hLx1.below HD7.out) zok
        have hLs4 : Loc V4 bs := hV4 ▸ Loc.put (hLx1.below HD7.out) (hLs1.below HD7.out) zok
        have hLh4 : Loc V4 (w3.heap.size) := hV4 ▸ Loc.put (hLx1.below HD7.out) (hLh1.below HD7.out) zok
        have hb4 : Below w.heap.size w V4 := hV4 ▸ set3_below (hbr.trans (HD7.out.mono hbr.size)) (by omega) z0 z1 z2
        have hR4 : V4.heap[w.heap.size]? = some (spCells 0 0 false) := by
          rw [hV4, show ((((u7.setCell ⟨bx, 0, none⟩ (.int .i64 z0)).setCell ⟨bx, 1, none⟩ (.int .i64 z1)).setCell ⟨bx, 2, none⟩ (.bool z2)) : World) = put3 u7 bx z0 z1 z2 from rfl, put3_other (by omega)]
          exact (HD7.out.block _ (heap_lt hRr)).trans hRr
        clear hV4 HD7 hX7 hH7 xc0 xc1 xc2 xg0 xg1 xg2 aok bok cok dok fok gok zok ax0 ax1 ax2 ah0 ah1 ah2 hX hH hokX hokH hLx1 hLs1 hLh1 hRr hbr
        obtain ⟨s0, s1, s2, hokS, hS⟩ := id hLs4
        have as0 := cell_of_block (o := 0) hS rfl
        have as1 := cell_of_block (o := 1) hS rfl
        have as2 := cell_of_block (o := 2) hS rfl
        go_wp2_with fail
        refine wp_region_E (fun w' : World => w'.cell? ⟨bs, 0, none⟩ = some (.int .i64 s0) ∧ w'.cell? ⟨bs, 1, none⟩ = some (.int .i64 s1) ∧ w'.cell? ⟨bs, 2, none⟩ = some (.bool s2)) (fun i => !(i == 3)) (by kernel_rfl) ?_
        have hSh : Shut ((fun w' : World => w'.cell? ⟨bs, 0, none⟩ = some (.int .i64 s0) ∧ w'.cell? ⟨bs, 1, none⟩ = some (.int .i64 s1) ∧ w'.cell? ⟨bs, 2, none⟩ = some (.bool s2)) V4.drew) := ⟨as0, as1, as2⟩
        refine wpAnyE_take (i := 0) (v := ?vc0) rfl (by kernel_rfl) (by kernel_rfl) (by kernel_rfl) (by kernel_rfl) (fun _ _ _ h => h) (Or.inl ⟨by rfl, ?yc0⟩) hSh.out ?rc0
        case yc0 =>
          intro w hSw
          try dsimp only at hSw
          go_simp
          try with_reducible rfl
        try simp only [Act.put, List.setIfInBounds_toArray, List.set_cons_zero, List.set_cons_succ]
        clear hSh
        refine wpAnyE_one (i := 1) (by kernel_rfl) rfl (fun K hK => ?_)
        go_simp
        refine ((O.out _ _ _).mono (fun _ _ h => OfPost.sp (by decide) h)).mono ?_
        rintro e v3 ⟨a1, b1, c1, rfl, hok1, hv3⟩
        have hd3 := undrewS hv3
        have hS3 := (hd3.block _ (heap_lt hS)).trans hS
        have cs0 := cell_of_block (o := 0) hS3 rfl
        have cs1 := cell_of_block (o := 1) hS3 rfl
        have cs2 := cell_of_block (o := 2) hS3 rfl
        clear hv3
        go_wp2_with fail
        refine hK.out _ _ (fun _ => ⟨cs0, cs1, cs2⟩) ?_
        clear hK K
        try simp only [Act.put, List.setIfInBounds_toArray, List.set_cons_zero, List.set_cons_succ]
        refine wpAnyE_one (i := 2) (by kernel_rfl) rfl (fun K hK => ?_)
        go_simp
        refine (AD.out _ _ _ _ _ _ _ hokS hok1).mono ?_
        rintro e v4 ⟨a2, b2, c2, rfl, hok2, hv4⟩
        have hS4 := (hv4.block _ (heap_lt hS3)).trans hS3
        have ds0 := cell_of_block (o := 0) hS4 rfl
        have ds1 := cell_of_block (o := 1) hS4 rfl
        have ds2 := cell_of_block (o := 2) hS4 rfl
        have sg0 := frozen_of_block (o := 0) hS4
        have sg1 := frozen_of_block (o := 1) hS4
        have sg2 := frozen_of_block (o := 2) hS4
        go_wp2_with fail
        refine hK.out _ _ (fun _ => ⟨ds0, ds1, ds2⟩) ?_
        clear hK K
        try simp only [Act.put, List.setIfInBounds_toArray, List.set_cons_zero, List.set_cons_succ]
        refine wpAnyE_one (i := 3) (by kernel_rfl) rfl (fun K hK => ?_)
        go_simp
        refine hK.out _ _ (fun h => absurd h (by decide)) ?_
        clear hK K
        refine wpAnyE_done (by kernel_rfl) ?_ _
        have HD := hd3.trans (hv4.mono hd3.size)
        have hs5 : Loc v4 bs := hLs4.below HD
        have REL : Hid (atRel w bx bs w3.heap.size (.int .i64 (k + 1)) (put3 v4 bs a2 b2 c2)) := by
          refine ⟨k + 1, by omega, by simp, Loc.put hs5 (hLx4.below HD) hok2, Loc.put hs5 hs5 hok2, Loc.put hs5 (hLh4.below HD) hok2, ?_, set3_below (hb4.trans (HD.mono hb4.size)) (by omega) a2 b2 c2⟩
          rw [put3_other (by omega)]
          exact (HD.block _ (heap_lt hR4)).trans hR4
        clear HD hd3 hv4 hS hS3 hS4 hok1 hok2 hokS hLx4 hLs4 hLh4 hb4 hR4
        go_wp2_with fail
        go_roundw
        case rel => exact REL.out
        case measure => simp [intOf]; omega
      · cases r
        · skip
          obtain ⟨s0, s1, s2, hokS, hS⟩ := id hLs1
          have as0 := cell_of_block (o := 0) hS rfl
          have as1 := cell_of_block (o := 1) hS rfl
          have as2 := cell_of_block (o := 2) hS rfl
          go_wp2_with fail
          refine wp_region_E (fun w' : World => w'.cell? ⟨bs, 0, none⟩ = some (.int .i64 s0) ∧ w'.cell? ⟨bs, 1, none⟩ = some (.int .i64 s1) ∧ w'.cell? ⟨bs, 2, none⟩ = some (.bool s2) ∧ w'.cell? ⟨bx, 0, none⟩ = some (.int .i64 p) ∧ w'.cell? ⟨bx, 1, none⟩ = some (.int .i64 q) ∧ w'.cell? ⟨bx, 2, none⟩ = some (.bool false)) (fun i => !(i == 4)) (by kernel_rfl) ?_
          have hSh : Shut ((fun w' : World => w'.cell? ⟨bs, 0, none⟩ = some (.int .i64 s0) ∧ w'.cell? ⟨bs, 1, none⟩ = some (.int .i64 s1) ∧ w'.cell? ⟨bs, 2, none⟩ = some (.bool s2) ∧ w'.cell? ⟨bx, 0, none⟩ = some (.int .i64 p) ∧ w'.cell? ⟨bx, 1, none⟩ = some (.int .i64 q) ∧ w'.cell? ⟨bx, 2, none⟩ = some (.bool false)) wr.drew) := ⟨as0, as1, as2, ax0, ax1, ax2⟩
          refine wpAnyE_take (i := 0) (v := ?vxa0) rfl (by kernel_rfl) (by kernel_rfl) (by kernel_rfl) (by kernel_rfl) (fun _ _ _ h => h) (Or.inl ⟨by rfl, ?yxa0⟩) hSh.out ?rxa0
          case yxa0 =>
            intro w hSw
            try dsimp only at hSw
            go_simp
            try with_reducible rfl
          try simp only [Act.put, List.setIfInBounds_toArray, List.set_cons_zero, List.set_cons_succ]
          refine wpAnyE_take (i := 1) (v := ?vxa1) rfl (by kernel_rfl) (by kernel_rfl) (by kernel_rfl) (by kernel_rfl) (fun _ _ _ h => h) (Or.inl ⟨by rfl, ?yxa1⟩) hSh.out ?rxa1
          case yxa1 =>
            intro w hSw
            try dsimp only at hSw
            go_simp
            try with_reducible rfl
          try simp only [Act.put, List.setIfInBounds_toArray, List.set_cons_zero, List.set_cons_succ]
          clear hSh
          refine wpAnyE_one (i := 2) (by kernel_rfl) rfl (fun K hK => ?_)
          go_simp
          refine (OD.out _ _ _ _ _ hokX).mono ?_
          rintro e u1 ⟨m0, m1, m2, rfl, mok, hu1⟩
          have hdu := undrewS hu1
          have hS1 := (hdu.block _ (heap_lt hS)).trans hS
          have hX1 := (hdu.block _ (heap_lt hX)).trans hX
          have hR1 := (hdu.block _ (heap_lt hRr)).trans hRr
          clear hu1
          go_wp2_with fail
          refine hK.out _ _ (fun _ => ⟨cell_of_block (o := 0) hS1 rfl, cell_of_block (o := 1) hS1 rfl, cell_of_block (o := 2) hS1 rfl, cell_of_block (o := 0) hX1 rfl, cell_of_block (o := 1) hX1 rfl, cell_of_block (o := 2) hX1 rfl⟩) ?_
          clear hK K
          try simp only [Act.put, List.setIfInBounds_toArray, List.set_cons_zero, List.set_cons_succ]
          refine wpAnyE_one (i := 3) (by kernel_rfl) rfl (fun K hK => ?_)
          go_simp
          refine (AD.out _ _ _ _ _ _ _ hokS mok).mono ?_
          rintro e u2 ⟨k0, k1, k2, rfl, kok, hu2⟩
          have hS2 := (hu2.block _ (heap_lt hS1)).trans hS1
          have hX2 := (hu2.block _ (heap_lt hX1)).trans hX1
          have hR2 := (hu2.block _ (heap_lt hR1)).trans hR1
          have rr0 := cell_of_block (o := 0) hR2 rfl
          have rr1 := cell_of_block (o := 1) hR2 rfl
          have rr2 := cell_of_block (o := 2) hR2 rfl
          have rg0 := frozen_of_block (o := 0) hR2
          have rg1 := frozen_of_block (o := 1) hR2
          have rg2 := frozen_of_block (o := 2) hR2
          go_wp2_with fail
          refine hK.out _ _ (fun _ => ⟨cell_of_block (o := 0) hS2 rfl, cell_of_block (o := 1) hS2 rfl, cell_of_block (o := 2) hS2 rfl, cell_of_block (o := 0) hX2 rfl, cell_of_block (o := 1) hX2 rfl, cell_of_block (o := 2) hX2 rfl⟩) ?_
          clear hK K
          try simp only [Act.put, List.setIfInBounds_toArray, List.set_cons_zero, List.set_cons_succ]
          refine wpAnyE_one (i := 4) (by kernel_rfl) rfl (fun K hK => ?_)
          go_simp
          refine hK.out _ _ (fun h => absurd h (by decide)) ?_
          clear hK K
          refine wpAnyE_done (by kernel_rfl) ?_ _
          have Q := hideq (set3 hR2 k0 k1 k2)
          have HBt := hideq (set3_below (hbr.trans ((hdu.trans (hu2.mono hdu.size)).mono hbr.size)) (Nat.le_refl _) k0 k1 k2)
          have HOK := hideq kok
          clear hdu hu2 hS1 hS2 hX1 hX2 hR1 hR2 hRr hbr
          go_wp2_with fail
          obtain ⟨q0, q1, q2⟩ := Q.out
          refine bodyPost_ret (v := sv k0 k1 k2) (by simp [results, Tryd.results34, go_sem, q0, q1, q2]) rfl ?_
          exact ⟨k0, k1, k2, rfl, HOK.out, HBt.out⟩
        have hq : ¬ 524288 < q := fun h => hc ⟨rfl, h⟩
        clear hc
        obtain ⟨s0, s1, s2, hokS, hS⟩ := id hLs1
        have as0 := cell_of_block (o := 0) hS rfl
        have as1 := cell_of_block (o := 1) hS rfl
        have as2 := cell_of_block (o := 2) hS rfl
        go_wp2_with fail
        refine wp_region_E (fun w' : World => w'.cell? ⟨bs, 0, none⟩ = some (.int .i64 s0) ∧ w'.cell? ⟨bs, 1, none⟩ = some (.int .i64 s1) ∧ w'.cell? ⟨bs, 2, none⟩ = some (.bool s2) ∧ w'.cell? ⟨bx, 0, none⟩ = some (.int .i64 p) ∧ w'.cell? ⟨bx, 1, none⟩ = some (.int .i64 q) ∧ w'.cell? ⟨bx, 2, none⟩ = some (.bool true)) (fun i => !(i == 4)) (by kernel_rfl) ?_
        have hSh : Shut ((fun w' : World => w'.cell? ⟨bs, 0, none⟩ = some (.int .i64 s0) ∧ w'.cell? ⟨bs, 1, none⟩ = some (.int .i64 s1) ∧ w'.cell? ⟨bs, 2, none⟩ = some (.bool s2) ∧ w'.cell? ⟨bx, 0, none⟩ = some (.int .i64 p) ∧ w'.cell? ⟨bx, 1, none⟩ = some (.int .i64 q) ∧ w'.cell? ⟨bx, 2, none⟩ = some (.bool true)) wr.drew) := ⟨as0, as1, as2, ax0, ax1, ax2⟩
        refine wpAnyE_take (i := 0) (v := ?vxb0) rfl (by kernel_rfl) (by kernel_rfl) (by kernel_rfl) (by kernel_rfl) (fun _ _ _ h => h) (Or.inl ⟨by rfl, ?yxb0⟩) hSh.out ?rxb0
        case yxb0 =>
          intro w hSw
          try dsimp only at hSw
          go_simp
          try with_reducible rfl
        try simp only [Act.put, List.setIfInBounds_toArray, List.set_cons_zero, List.set_cons_succ]
        refine wpAnyE_take (i := 1) (v := ?vxb1) rfl (by kernel_rfl) (by kernel_rfl) (by kernel_rfl) (by kernel_rfl) (fun _ _ _ h => h) (Or.inl ⟨by rfl, ?yxb1⟩) hSh.out ?rxb1
        case yxb1 =>
          intro w hSw
          try dsimp only at hSw
          go_simp
          try with_reducible rfl
        try simp only [Act.put, List.setIfInBounds_toArray, List.set_cons_zero, List.set_cons_succ]
        clear hSh
        refine wpAnyE_one (i := 2) (by kernel_rfl) rfl (fun K hK => ?_)
        go_simp
        refine (OD.out _ _ _ _ _ hokX).mono ?_
        rintro e u1 ⟨m0, m1, m2, rfl, mok, hu1⟩
        have hdu := undrewS hu1
        have hS1 := (hdu.block _ (heap_lt hS)).trans hS
        have hX1 := (hdu.block _ (heap_lt hX)).trans hX
        have hR1 := (hdu.block _ (heap_lt hRr)).trans hRr
        clear hu1
        go_wp2_with fail
        refine hK.out _ _ (fun _ => ⟨cell_of_block (o := 0) hS1 rfl, cell_of_block (o := 1) hS1 rfl, cell_of_block (o := 2) hS1 rfl, cell_of_block (o := 0) hX1 rfl, cell_of_block (o := 1) hX1 rfl, cell_of_block (o := 2) hX1 rfl⟩) ?_
        clear hK K
        try simp only [Act.put, List.setIfInBounds_toArray, List.set_cons_zero, List.set_cons_succ]
        refine wpAnyE_one (i := 3) (by kernel_rfl) rfl (fun K hK => ?_)
        go_simp
        refine (AD.out _ _ _ _ _ _ _ hokS mok).mono ?_
        rintro e u2 ⟨k0, k1, k2, rfl, kok, hu2⟩
        have hS2 := (hu2.block _ (heap_lt hS1)).trans hS1
        have hX2 := (hu2.block _ (heap_lt hX1)).trans hX1
        have hR2 := (hu2.block _ (heap_lt hR1)).trans hR1
        have rr0 := cell_of_block (o := 0) hR2 rfl
        have rr1 := cell_of_block (o := 1) hR2 rfl
        have rr2 := cell_of_block (o := 2) hR2 rfl
        have rg0 := frozen_of_block (o := 0) hR2
        have rg1 := frozen_of_block (o := 1) hR2
        have rg2 := frozen_of_block (o := 2) hR2
        go_wp2_with fail
        refine hK.out _ _ (fun _ => ⟨cell_of_block (o := 0) hS2 rfl, cell_of_block (o := 1) hS2 rfl, cell_of_block (o := 2) hS2 rfl, cell_of_block (o := 0) hX2 rfl, cell_of_block (o := 1) hX2 rfl, cell_of_block (o := 2) hX2 rfl⟩) ?_
        clear hK K
        try simp only [Act.put, List.setIfInBounds_toArray, List.set_cons_zero, List.set_cons_succ]
        refine wpAnyE_one (i := 4) (by kernel_rfl) rfl (fun K hK => ?_)
        go_simp
        refine hK.out _ _ (fun h => absurd h (by decide)) ?_
        clear hK K
        refine wpAnyE_done (by kernel_rfl) ?_ _
        have Q := hideq (set3 hR2 k0 k1 k2)
        have HBt := hideq (set3_below (hbr.trans ((hdu.trans (hu2.mono hdu.size)).mono hbr.size)) (Nat.le_refl _) k0 k1 k2)
        have HOK := hideq kok
        clear hdu hu2 hS1 hS2 hX1 hX2 hR1 hR2 hRr hbr
        go_wp2_with fail
        obtain ⟨q0, q1, q2⟩ := Q.out
        refine bodyPost_ret (v := sv k0 k1 k2) (by simp [results, Tryd.results34, go_sem, q0, q1, q2]) rfl ?_
        exact ⟨k0, k1, k2, rfl, HOK.out, HBt.out⟩
    obtain rfl : k = 4 := by omega
    obtain ⟨s0, s1, s2, hokS, hS⟩ := id hLs1
    have as0 := cell_of_block (o := 0) hS rfl
    have as1 := cell_of_block (o := 1) hS rfl
    have as2 := cell_of_block (o := 2) hS rfl
    go_wp2_with fail
    refine wp_region_E (fun w' : World => w'.cell? ⟨bs, 0, none⟩ = some (.int .i64 s0) ∧ w'.cell? ⟨bs, 1, none⟩ = some (.int .i64 s1) ∧ w'.cell? ⟨bs, 2, none⟩ = some (.bool s2) ∧ w'.cell? ⟨bx, 0, none⟩ = some (.int .i64 p) ∧ w'.cell? ⟨bx, 1, none⟩ = some (.int .i64 q) ∧ w'.cell? ⟨bx, 2, none⟩ = some (.bool r)) (fun i => !(i == 4)) (by kernel_rfl) ?_
    have hSh : Shut ((fun w' : World => w'.cell? ⟨bs, 0, none⟩ = some (.int .i64 s0) ∧ w'.cell? ⟨bs, 1, none⟩ = some (.int .i64 s1) ∧ w'.cell? ⟨bs, 2, none⟩ = some (.bool s2) ∧ w'.cell? ⟨bx, 0, none⟩ = some (.int .i64 p) ∧ w'.cell? ⟨bx, 1, none⟩ = some (.int .i64 q) ∧ w'.cell? ⟨bx, 2, none⟩ = some (.bool r)) wr.drew) := ⟨as0, as1, as2, ax0, ax1, ax2⟩
    refine wpAnyE_take (i := 0) (v := ?vxc0) rfl (by kernel_rfl) (by kernel_rfl) (by kernel_rfl) (by kernel_rfl) (fun _ _ _ h => h) (Or.inl ⟨by rfl, ?yxc0⟩) hSh.out ?rxc0
    case yxc0 =>
      intro w hSw
      try dsimp only at hSw
      go_simp
      try with_reducible rfl
    try simp only [Act.put, List.setIfInBounds_toArray, List.set_cons_zero, List.set_cons_succ]
    refine wpAnyE_take (i := 1) (v := ?vxc1) rfl (by kernel_rfl) (by kernel_rfl) (by kernel_rfl) (by kernel_rfl) (fun _ _ _ h => h) (Or.inl ⟨by rfl, ?yxc1⟩) hSh.out ?rxc1
    case yxc1 =>
      intro w hSw
      try dsimp only at hSw
      go_simp
      try with_reducible rfl
    try simp only [Act.put, List.setIfInBounds_toArray, List.set_cons_zero, List.set_cons_succ]
    clear hSh
    refine wpAnyE_one (i := 2) (by kernel_rfl) rfl (fun K hK => ?_)
    go_simp
    refine (OD.out _ _ _ _ _ hokX).mono ?_
    rintro e u1 ⟨m0, m1, m2, rfl, mok, hu1⟩
    have hdu := undrewS hu1
    have hS1 := (hdu.block _ (heap_lt hS)).trans hS
    have hX1 := (hdu.block _ (heap_lt hX)).trans hX
    have hR1 := (hdu.block _ (heap_lt hRr)).trans hRr
    clear hu1
    go_wp2_with fail
    refine hK.out _ _ (fun _ => ⟨cell_of_block (o := 0) hS1 rfl, cell_of_block (o := 1) hS1 rfl, cell_of_block (o := 2) hS1 rfl, cell_of_block (o := 0) hX1 rfl, cell_of_block (o := 1) hX1 rfl, cell_of_block (o := 2) hX1 rfl⟩) ?_
    clear hK K
    try simp only [Act.put, List.setIfInBounds_toArray, List.set_cons_zero, List.set_cons_succ]
    refine wpAnyE_one (i := 3) (by kernel_rfl) rfl (fun K hK => ?_)
    go_simp
    refine (AD.out _ _ _ _ _ _ _ hokS mok).mono ?_
    rintro e u2 ⟨k0, k1, k2, rfl, kok, hu2⟩
    have hS2 := (hu2.block _ (heap_lt hS1)).trans hS1
    have hX2 := (hu2.block _ (heap_lt hX1)).trans hX1
    have hR2 := (hu2.block _ (heap_lt hR1)).trans hR1
    have rr0 := cell_of_block (o := 0) hR2 rfl
    have rr1 := cell_of_block (o := 1) hR2 rfl
    have rr2 := cell_of_block (o := 2) hR2 rfl
    have rg0 := frozen_of_block (o := 0) hR2
    have rg1 := frozen_of_block (o := 1) hR2
    have rg2 := frozen_of_block (o := 2) hR2
    go_wp2_with fail
    refine hK.out _ _ (fun _ => ⟨cell_of_block (o := 0) hS2 rfl, cell_of_block (o := 1) hS2 rfl, cell_of_block (o := 2) hS2 rfl, cell_of_block (o := 0) hX2 rfl, cell_of_block (o := 1) hX2 rfl, cell_of_block (o := 2) hX2 rfl⟩) ?_
    clear hK K
    try simp only [Act.put, List.setIfInBounds_toArray, List.set_cons_zero, List.set_cons_succ]
    refine wpAnyE_one (i := 4) (by kernel_rfl) rfl (fun K hK => ?_)
    go_simp
    refine hK.out _ _ (fun h => absurd h (by decide)) ?_
    clear hK K
    refine wpAnyE_done (by kernel_rfl) ?_ _
    have Q := hideq (set3 hR2 k0 k1 k2)
    have HBt := hideq (set3_below (hbr.trans ((hdu.trans (hu2.mono hdu.size)).mono hbr.size)) (Nat.le_refl _) k0 k1 k2)
    have HOK := hideq kok
    clear hdu hu2 hS1 hS2 hX1 hX2 hR1 hR2 hRr hbr
    go_wp2_with fail
    obtain ⟨q0, q1, q2⟩ := Q.out
    refine bodyPost_ret (v := sv k0 k1 k2) (by simp [results, Tryd.results34, go_sem, q0, q1, q2]) rfl ?_
    exact ⟨k0, k1, k2, rfl, HOK.out, HBt.out⟩
end Go.Proofs.YtmepffenlgedbaaDoor
