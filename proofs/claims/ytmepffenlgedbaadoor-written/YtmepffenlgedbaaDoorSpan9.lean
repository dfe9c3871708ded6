/-
  THE WALKS of realskeep's plain intervals: ln1p.
-/
import Derived.Test.YtmepffenlgedbaaDoorSpan7
import Derived.Test.YtmepffenlgedbaaDoorSpan8
set_option linter.unusedSimpArgs false
namespace Go.Proofs.YtmepffenlgedbaaDoor
open Go.RowKit

/-- The upper end of the interval in block b. -/
def hiAt (w : World) (b : Nat) : Nat := match w.cell? ⟨b, 1, none⟩ with
  | some (.int _ q) => q.toNat
  | _ => 0

theorem hiAt_of {w : World} {b : Nat} {p q : Int} {r : Bool} (h : w.heap[b]? = some (spCells p q r)) : hiAt w b = q.toNat := by
  unfold hiAt
  rw [cell_of_block (o := 1) h rfl]
  rfl

def lnRel (w : World) (bv bs : Nat) (wr : World) : Prop :=
  Loc wr bv ∧ Loc wr bs ∧ wr.heap[w.heap.size]? = some (spCells 0 0 false) ∧ Below w.heap.size w wr

/-- Half of what is above 3/2 is less; nothing known counts as 0. -/
theorem half_less {p q y0 y1 : Int} (hq : 1572864 < q) (h : SpOk p q) (hy : MP p q (1 * 1048576 / 2) (-((-(1 * 1048576)) / 2)) y1) : (ofS (y0 / 1048576) (-(-y1 / 1048576))).2.1 < q := by
  have hle : y1 ≤ q * 524288 := by
    have e1 : (1 : Int) * 1048576 / 2 = 524288 := by decide
    have e2 : -((-(1 * 1048576 : Int)) / 2) = 524288 := by decide
    rw [e1, e2] at hy
    have := h.le
    rcases hy with rfl | rfl | rfl | rfl <;> omega
  unfold ofS
  cases decide (y0 / 1048576 < -1073741824) || decide (1073741824 < -(-y1 / 1048576)) with
  | true => show (0 : Int) < q; omega
  | false => show -(-y1 / 1048576) < q; omega

set_option maxHeartbeats 8000000 in
theorem lnOf_any (n : Int) (w : World) : Calls Tryd.prog 33 #[.int .i64 n] w (SpPost w) := by
  have PT := hideq (fun w => point_any n w)
  have O := hideq (fun x y w => of_any x y w)
  have MK := hideq (fun a b c d w h h' => mul_known a b c d w h h')
  have M := hideq (fun a b k c d m w h h' => mul_any a b k c d m w h h')
  have AD := hideq (fun a b k c d m w h h' => add_any a b k c d m w h h')
  have OV := hideq (fun a b k w h => over_any a b k w h)
  have OD := hideq (fun a b k s w h => odd_any a b k s w h)
  have RA := hideq (fun p q w h0 h1 h2 h3 => ratio_any p q w h0 h1 h2 h3)
  go_enter Tryd.func33, Tryd.ntmps33
  go_wp2_with fail
  refine calls_in (fun W => Below w.heap.size w W ∧ W.heap[w.heap.size]? = some (spCells 0 0 false)) ⟨(Below.refl _ _).alloc (Nat.le_refl _) _, cells_new _ _⟩ ?_
  rintro W ⟨hbW, hRW⟩
  refine ((PT.out _).mono (fun _ _ h => OfPost.sp (Int.le_refl _) h)).mono ?_
  rintro e w1 ⟨x0, x1, x2, rfl, hx, hb1⟩
  go_wp2_with fail
  refine calls_in (fun V => Loc V w1.heap.size ∧ Below w.heap.size w V ∧ V.heap[w.heap.size]? = some (spCells 0 0 false)) ⟨Loc.new w1 x2 hx, (hbW.trans (hb1.mono hbW.size)).alloc (Nat.le_trans hbW.size hb1.size) _, alloc_old ((hb1.block _ (heap_lt hRW)).trans hRW)⟩ ?_
  rintro V ⟨hLx, hbV, hRV⟩
  have hxs := hLx.lt
  have hwx : w.heap.size < w1.heap.size := Nat.lt_of_lt_of_le (heap_lt hRW) hb1.size
  generalize w1.heap.size = bv at *
  clear hb1 hx hRW hbW
  refine ((O.out _ _ _).mono (fun _ _ h => OfPost.sp (by decide) h)).mono ?_
  rintro e w2 ⟨t0, t1, t2, rfl, ht, hb2⟩
  go_wp2_with fail
  go_loopw [] (fun wr => lnRel w bv w2.heap.size wr) (fun wr => hiAt wr bv)
  case atStart =>
    exact ⟨(hLx.below hb2).old _, Loc.new w2 t2 ht, alloc_old ((hb2.block _ (heap_lt hRV)).trans hRV), (hbV.trans (hb2.mono hbV.size)).alloc (Nat.le_trans hbV.size hb2.size) _⟩
  case round =>
    obtain ⟨hLv1, hLs1, hRr, hbr⟩ := hrel
    have hxw := Nat.lt_of_lt_of_le hxs hb2.size
    clear hb2 hRV hbV hLx ht
    obtain ⟨p, q, r, hokV, hV⟩ := id hLv1
    have av0 := cell_of_block (o := 0) hV rfl
    have av1 := cell_of_block (o := 1) hV rfl
    have av2 := cell_of_block (o := 2) hV rfl
    by_cases hc : r = true ∧ 1572864 < q
    · obtain ⟨rfl, hq⟩ := hc
      go_wp2_with fail
      refine wp_region_E (fun w' : World => w'.cell? ⟨bv, 0, none⟩ = some (.int .i64 p) ∧ w'.cell? ⟨bv, 1, none⟩ = some (.int .i64 q) ∧ w'.cell? ⟨bv, 2, none⟩ = some (.bool true)) (fun i => !(i == 3)) (by kernel_rfl) ?_
      have hSh : Shut ((fun w' : World => w'.cell? ⟨bv, 0, none⟩ = some (.int .i64 p) ∧ w'.cell? ⟨bv, 1, none⟩ = some (.int .i64 q) ∧ w'.cell? ⟨bv, 2, none⟩ = some (.bool true)) wr.drew) := ⟨av0, av1, av2⟩
      refine wpAnyE_take (i := 0) (v := ?va0) rfl (by kernel_rfl) (by kernel_rfl) (by kernel_rfl) (by kernel_rfl) (fun _ _ _ h => h) (Or.inl ⟨by rfl, ?ya0⟩) hSh.out ?ra0
      case ya0 =>
        intro w hSw
        try dsimp only at hSw
        go_simp
        try with_reducible rfl
      try simp only [Act.put, List.setIfInBounds_toArray, List.set_cons_zero, List.set_cons_succ]
      clear hSh
      refine wpAnyE_one (i := 1) (by kernel_rfl) rfl (fun K hK => ?_)
      go_simp
      refine ((RA.out 1 2 _ (by decide) (by decide) (by decide) (by decide))).mono ?_
      rintro e v1 ⟨rfl, hv1⟩
      have hd1 := undrewS hv1
      have hV1 := (hd1.block _ (heap_lt hV)).trans hV
      have cv0 := cell_of_block (o := 0) hV1 rfl
      have cv1 := cell_of_block (o := 1) hV1 rfl
      have cv2 := cell_of_block (o := 2) hV1 rfl
      clear hv1
      go_wp2_with fail
      refine hK.out _ _ (fun _ => ⟨cv0, cv1, cv2⟩) ?_
      clear hK K
      try simp only [Act.put, List.setIfInBounds_toArray, List.set_cons_zero, List.set_cons_succ]
      refine wpAnyE_one (i := 2) (by kernel_rfl) rfl (fun K hK => ?_)
      go_simp
      refine (MK.out _ _ _ _ _ hokV ⟨by decide, by decide, by decide⟩).mono ?_
      rintro e v2 ⟨y0, y1, hy01, hy0, hy1, rfl, hv2⟩
      have hV2 := (hv2.block _ (heap_lt hV1)).trans hV1
      have dv0 := cell_of_block (o := 0) hV2 rfl
      have dv1 := cell_of_block (o := 1) hV2 rfl
      have dv2 := cell_of_block (o := 2) hV2 rfl
      have dg0 := frozen_of_block (o := 0) hV2
      have dg1 := frozen_of_block (o := 1) hV2
      have dg2 := frozen_of_block (o := 2) hV2
      have hdec := half_less (y0 := y0) hq hokV hy1
      have hokz := ofS_ok (floor_ceil (c := 1048576) (by decide) hy01)
      generalize ofS (y0 / 1048576) (-(-y1 / 1048576)) = z at *
      obtain ⟨z0, z1, z2⟩ := z
      go_wp2_with fail
      refine hK.out _ _ (fun _ => ⟨dv0, dv1, dv2⟩) ?_
      clear hK K
      try simp only [Act.put, List.setIfInBounds_toArray, List.set_cons_zero, List.set_cons_succ]
      refine wpAnyE_one (i := 3) (by kernel_rfl) rfl (fun K hK => ?_)
      go_simp
      refine hK.out _ _ (fun h => absurd h (by decide)) ?_
      clear hK K
      refine wpAnyE_done (by kernel_rfl) ?_ _
      obtain ⟨V4, hV4⟩ : ∃ V4, V4 = (((v2.setCell ⟨bv, 0, none⟩ (.int .i64 z0)).setCell ⟨bv, 1, none⟩ (.int .i64 z1)).setCell ⟨bv, 2, none⟩ (.bool z2)) := ⟨_, rfl⟩
      rw [← hV4]
      have HD := hideq (hd1.trans (hv2.mono hd1.size))
      have hz1 : z1 < q := hdec
      have hokz' : SpOk z0 z1 := hokz
      have hLv4 : Loc V4 bv := hV4 ▸ Loc.put (hLv1.below HD.out) (hLv1.below HD.out) hokz'
      have hVz : V4.heap[bv]? = some (spCells z0 z1 z2) := hV4 ▸ put3_same hV2 z0 z1 z2
      have hLs4 : Loc V4 (w2.heap.size) := hV4 ▸ Loc.put (hLv1.below HD.out) (hLs1.below HD.out) hokz'
      have hb4 : Below w.heap.size w V4 := hV4 ▸ set3_below (hbr.trans (HD.out.mono hbr.size)) (by omega) z0 z1 z2
      have hR4 : V4.heap[w.heap.size]? = some (spCells 0 0 false) := by
        rw [hV4, show ((((v2.setCell ⟨bv, 0, none⟩ (.int .i64 z0)).setCell ⟨bv, 1, none⟩ (.int .i64 z1)).setCell ⟨bv, 2, none⟩ (.bool z2)) : World) = put3 v2 (bv) z0 z1 z2 from rfl, put3_other (by omega)]
        exact (HD.out.block _ (heap_lt hRr)).trans hRr
      have hh1 := hiAt_of hV
      have HH1 := hideq hh1
      clear hV4 hh1 HD hd1 hv2 hV1 hV2 hokz hokz' hdec hy0 hy1 hy01 cv0 cv1 cv2 dv0 dv1 dv2 dg0 dg1 dg2 av0 av1 av2 hV hLv1 hLs1 hRr hbr
      obtain ⟨s0, s1, s2, hokS, hS⟩ := id hLs4
      have as0 := cell_of_block (o := 0) hS rfl
      have as1 := cell_of_block (o := 1) hS rfl
      have as2 := cell_of_block (o := 2) hS rfl
      go_wp2_with fail
      refine wp_region_E (fun w' : World => w'.cell? ⟨w2.heap.size, 0, none⟩ = some (.int .i64 s0) ∧ w'.cell? ⟨w2.heap.size, 1, none⟩ = some (.int .i64 s1) ∧ w'.cell? ⟨w2.heap.size, 2, none⟩ = some (.bool s2)) (fun i => !(i == 3)) (by kernel_rfl) ?_
      have hSh : Shut ((fun w' : World => w'.cell? ⟨w2.heap.size, 0, none⟩ = some (.int .i64 s0) ∧ w'.cell? ⟨w2.heap.size, 1, none⟩ = some (.int .i64 s1) ∧ w'.cell? ⟨w2.heap.size, 2, none⟩ = some (.bool s2)) V4.drew) := ⟨as0, as1, as2⟩
      refine wpAnyE_take (i := 0) (v := ?vc0) rfl (by kernel_rfl) (by kernel_rfl) (by kernel_rfl) (by kernel_rfl) (fun _ _ _ h => h) (Or.inl ⟨by rfl, ?yc0⟩) hSh.out ?rc0
      case yc0 =>
        intro w hSw
        try dsimp only at hSw
        go_simp
        try with_reducible rfl
      try simp only [Act.put, List.setIfInBounds_toArray, List.set_cons_zero, List.set_cons_succ]
      clear hSh
      refine wpAnyE_one (i := 1) (by kernel_rfl) rfl (fun K hK => ?_)
      go_simp
      refine ((O.out _ _ _).mono (fun _ _ h => OfPost.sp (by decide) h)).mono ?_
      rintro e v3 ⟨a1, b1, c1, rfl, hok1, hv3⟩
      have hd3 := undrewS hv3
      have hS3 := (hd3.block _ (heap_lt hS)).trans hS
      have cs0 := cell_of_block (o := 0) hS3 rfl
      have cs1 := cell_of_block (o := 1) hS3 rfl
      have cs2 := cell_of_block (o := 2) hS3 rfl
      clear hv3
      go_wp2_with fail
      refine hK.out _ _ (fun _ => ⟨cs0, cs1, cs2⟩) ?_
      clear hK K
      try simp only [Act.put, List.setIfInBounds_toArray, List.set_cons_zero, List.set_cons_succ]
      refine wpAnyE_one (i := 2) (by kernel_rfl) rfl (fun K hK => ?_)
      go_simp
      refine (AD.out _ _ _ _ _ _ _ hokS hok1).mono ?_
      rintro e v4 ⟨a2, b2, c2, rfl, hok2, hv4⟩
      have hS4 := (hv4.block _ (heap_lt hS3)).trans hS3
      have ds0 := cell_of_block (o := 0) hS4 rfl
      have ds1 := cell_of_block (o := 1) hS4 rfl
      have ds2 := cell_of_block (o := 2) hS4 rfl
      have sg0 := frozen_of_block (o := 0) hS4
      have sg1 := frozen_of_block (o := 1) hS4
      have sg2 := frozen_of_block (o := 2) hS4
      go_wp2_with fail
      refine hK.out _ _ (fun _ => ⟨ds0, ds1, ds2⟩) ?_
      clear hK K
      try simp only [Act.put, List.setIfInBounds_toArray, List.set_cons_zero, List.set_cons_succ]
      refine wpAnyE_one (i := 3) (by kernel_rfl) rfl (fun K hK => ?_)
      go_simp
      refine hK.out _ _ (fun h => absurd h (by decide)) ?_
      clear hK K
      refine wpAnyE_done (by kernel_rfl) ?_ _
      have HD := hd3.trans (hv4.mono hd3.size)
      have hs5 : Loc v4 (w2.heap.size) := hLs4.below HD
      have REL : Hid (lnRel w bv w2.heap.size (put3 v4 (w2.heap.size) a2 b2 c2)) := by
        refine ⟨Loc.put hs5 (hLv4.below HD) hok2, Loc.put hs5 hs5 hok2, ?_, set3_below (hb4.trans (HD.mono hb4.size)) (by omega) a2 b2 c2⟩
        rw [put3_other (by omega)]
        exact (HD.block _ (heap_lt hR4)).trans hR4
      have ME : Hid (hiAt (put3 v4 (w2.heap.size) a2 b2 c2) bv < hiAt wr bv) := by
        have e1 : (put3 v4 (w2.heap.size) a2 b2 c2).heap[bv]? = some (spCells z0 z1 z2) := by
          rw [put3_other (by omega)]
          exact (HD.block _ (heap_lt hVz)).trans hVz
        have e2 := hiAt_of e1
        have e3 := HH1.out
        show _ < _
        rw [e2, e3]
        omega
      clear HD hd3 hv4 hS hS3 hS4 hok1 hok2 hokS hLv4 hLs4 hb4 hR4 hVz
      go_wp2_with fail
      go_roundw
      case rel => exact REL.out
      case measure => exact ME.out
    · cases r
      · go_wp2_with fail
        obtain ⟨s0, s1, s2, hokS, hS⟩ := id hLs1
        have hR := hideq hRr
        have hB := hideq hbr
        have hV := hideq hV
        have hS := hideq hS
        clear hRr hbr hLs1 hLv1
        refine wp_region_E (fun w' : World => w'.cell? ⟨bv, 0, none⟩ = some (.int .i64 p) ∧ w'.cell? ⟨bv, 1, none⟩ = some (.int .i64 q) ∧ w'.cell? ⟨bv, 2, none⟩ = some (.bool false)) (fun i => !(i == 9)) (by kernel_rfl) ?_
        have hSh : Shut ((fun w' : World => w'.cell? ⟨bv, 0, none⟩ = some (.int .i64 p) ∧ w'.cell? ⟨bv, 1, none⟩ = some (.int .i64 q) ∧ w'.cell? ⟨bv, 2, none⟩ = some (.bool false)) wr.drew) := ⟨av0, av1, av2⟩
        refine wpAnyE_take (i := 0) (v := ?vef0) rfl (by kernel_rfl) (by kernel_rfl) (by kernel_rfl) (by kernel_rfl) (fun _ _ _ h => h) (Or.inl ⟨by rfl, ?yef0⟩) hSh.out ?ref0
        case yef0 =>
          intro w hSw
          try dsimp only at hSw
          go_simp
          try with_reducible rfl
        try simp only [Act.put, List.setIfInBounds_toArray, List.set_cons_zero, List.set_cons_succ]
        refine wpAnyE_take (i := 3) (v := ?vef3) rfl (by kernel_rfl) (by kernel_rfl) (by kernel_rfl) (by kernel_rfl) (fun _ _ _ h => h) (Or.inl ⟨by rfl, ?yef3⟩) hSh.out ?ref3
        case yef3 =>
          intro w hSw
          try dsimp only at hSw
          go_simp
          try with_reducible rfl
        try simp only [Act.put, List.setIfInBounds_toArray, List.set_cons_zero, List.set_cons_succ]
        clear hSh
        refine wpAnyE_two (i := 1) (j := 8) (by kernel_rfl) rfl rfl (fun K hK => ?_) (fun K hK => ?_)
        · skip
          go_simp
          refine ((O.out _ _ _).mono (fun _ _ h => OfPost.sp (by decide) h)).mono ?_
          rintro e v_ef1 ⟨a0, a1, a2, rfl, aok, hv_ef1⟩
          have hd_ef1 := undrewS hv_ef1
          have hV_ef1 := hideq ((hd_ef1.block _ (heap_lt hV.out)).trans hV.out)
          have hS_ef1 := hideq ((hd_ef1.block _ (heap_lt hS.out)).trans hS.out)
          have hR_ef1 := hideq ((hd_ef1.block _ (heap_lt hR.out)).trans hR.out)
          have hB_ef1 := hideq (hB.out.trans (hd_ef1.mono hB.out.size))
          clear hv_ef1 hd_ef1 hV hS hR hB
          go_wp2_with fail
          refine hK.out _ _ (fun _ => ⟨cell_of_block (o := 0) hV_ef1.out rfl, cell_of_block (o := 1) hV_ef1.out rfl, cell_of_block (o := 2) hV_ef1.out rfl⟩) ?_
          clear hK K
          try simp only [Act.put, List.setIfInBounds_toArray, List.set_cons_zero, List.set_cons_succ]
          refine wpAnyE_two (i := 2) (j := 8) (by kernel_rfl) rfl rfl (fun K hK => ?_) (fun K hK => ?_)
          · skip
            go_simp
            refine (AD.out _ _ _ _ _ _ _ hokV aok).mono ?_
            rintro e v_ef2 ⟨b0, b1, b2, rfl, bok, hv_ef2⟩
            have hd_ef2 := hv_ef2
            have hV_ef2 := hideq ((hd_ef2.block _ (heap_lt hV_ef1.out)).trans hV_ef1.out)
            have hS_ef2 := hideq ((hd_ef2.block _ (heap_lt hS_ef1.out)).trans hS_ef1.out)
            have hR_ef2 := hideq ((hd_ef2.block _ (heap_lt hR_ef1.out)).trans hR_ef1.out)
            have hB_ef2 := hideq (hB_ef1.out.trans (hd_ef2.mono hB_ef1.out.size))
            clear hv_ef2 hd_ef2 hV_ef1 hS_ef1 hR_ef1 hB_ef1
            go_wp2_with fail
            refine hK.out _ _ (fun _ => ⟨cell_of_block (o := 0) hV_ef2.out rfl, cell_of_block (o := 1) hV_ef2.out rfl, cell_of_block (o := 2) hV_ef2.out rfl⟩) ?_
            clear hK K
            try simp only [Act.put, List.setIfInBounds_toArray, List.set_cons_zero, List.set_cons_succ]
            refine wpAnyE_two (i := 4) (j := 8) (by kernel_rfl) rfl rfl (fun K hK => ?_) (fun K hK => ?_)
            · skip
              go_simp
              refine ((O.out _ _ _).mono (fun _ _ h => OfPost.sp (by decide) h)).mono ?_
              rintro e v_ef3 ⟨c0, c1, c2, rfl, cok, hv_ef3⟩
              have hd_ef3 := hv_ef3
              have hV_ef3 := hideq ((hd_ef3.block _ (heap_lt hV_ef2.out)).trans hV_ef2.out)
              have hS_ef3 := hideq ((hd_ef3.block _ (heap_lt hS_ef2.out)).trans hS_ef2.out)
              have hR_ef3 := hideq ((hd_ef3.block _ (heap_lt hR_ef2.out)).trans hR_ef2.out)
              have hB_ef3 := hideq (hB_ef2.out.trans (hd_ef3.mono hB_ef2.out.size))
              clear hv_ef3 hd_ef3 hV_ef2 hS_ef2 hR_ef2 hB_ef2
              go_wp2_with fail
              refine hK.out _ _ (fun _ => ⟨cell_of_block (o := 0) hV_ef3.out rfl, cell_of_block (o := 1) hV_ef3.out rfl, cell_of_block (o := 2) hV_ef3.out rfl⟩) ?_
              clear hK K
              try simp only [Act.put, List.setIfInBounds_toArray, List.set_cons_zero, List.set_cons_succ]
              refine wpAnyE_two (i := 5) (j := 8) (by kernel_rfl) rfl rfl (fun K hK => ?_) (fun K hK => ?_)
              · skip
                go_simp
                refine (AD.out _ _ _ _ _ _ _ hokV cok).mono ?_
                rintro e v_ef4 ⟨d0, d1, d2, rfl, dok, hv_ef4⟩
                have hd_ef4 := hv_ef4
                have hV_ef4 := hideq ((hd_ef4.block _ (heap_lt hV_ef3.out)).trans hV_ef3.out)
                have hS_ef4 := hideq ((hd_ef4.block _ (heap_lt hS_ef3.out)).trans hS_ef3.out)
                have hR_ef4 := hideq ((hd_ef4.block _ (heap_lt hR_ef3.out)).trans hR_ef3.out)
                have hB_ef4 := hideq (hB_ef3.out.trans (hd_ef4.mono hB_ef3.out.size))
                clear hv_ef4 hd_ef4 hV_ef3 hS_ef3 hR_ef3 hB_ef3
                go_wp2_with fail
                refine hK.out _ _ (fun _ => ⟨cell_of_block (o := 0) hV_ef4.out rfl, cell_of_block (o := 1) hV_ef4.out rfl, cell_of_block (o := 2) hV_ef4.out rfl⟩) ?_
                clear hK K
                try simp only [Act.put, List.setIfInBounds_toArray, List.set_cons_zero, List.set_cons_succ]
                refine wpAnyE_two (i := 6) (j := 8) (by kernel_rfl) rfl rfl (fun K hK => ?_) (fun K hK => ?_)
                · skip
                  go_simp
                  refine (OV.out _ _ _ _ dok).mono ?_
                  rintro e v_ef5 ⟨f0, f1, f2, rfl, fok, hv_ef5⟩
                  have hd_ef5 := hv_ef5
                  have hV_ef5 := hideq ((hd_ef5.block _ (heap_lt hV_ef4.out)).trans hV_ef4.out)
                  have hS_ef5 := hideq ((hd_ef5.block _ (heap_lt hS_ef4.out)).trans hS_ef4.out)
                  have hR_ef5 := hideq ((hd_ef5.block _ (heap_lt hR_ef4.out)).trans hR_ef4.out)
                  have hB_ef5 := hideq (hB_ef4.out.trans (hd_ef5.mono hB_ef4.out.size))
                  clear hv_ef5 hd_ef5 hV_ef4 hS_ef4 hR_ef4 hB_ef4
                  go_wp2_with fail
                  refine hK.out _ _ (fun _ => ⟨cell_of_block (o := 0) hV_ef5.out rfl, cell_of_block (o := 1) hV_ef5.out rfl, cell_of_block (o := 2) hV_ef5.out rfl⟩) ?_
                  clear hK K
                  try simp only [Act.put, List.setIfInBounds_toArray, List.set_cons_zero, List.set_cons_succ]
                  refine wpAnyE_two (i := 7) (j := 8) (by kernel_rfl) rfl rfl (fun K hK => ?_) (fun K hK => ?_)
                  · skip
                    go_simp
                    refine (M.out _ _ _ _ _ _ _ bok fok).mono ?_
                    rintro e v_ef6 ⟨g0, g1, g2, rfl, gok, hv_ef6⟩
                    have hd_ef6 := hv_ef6
                    have hV_ef6 := hideq ((hd_ef6.block _ (heap_lt hV_ef5.out)).trans hV_ef5.out)
                    have hS_ef6 := hideq ((hd_ef6.block _ (heap_lt hS_ef5.out)).trans hS_ef5.out)
                    have hR_ef6 := hideq ((hd_ef6.block _ (heap_lt hR_ef5.out)).trans hR_ef5.out)
                    have hB_ef6 := hideq (hB_ef5.out.trans (hd_ef6.mono hB_ef5.out.size))
                    clear hv_ef6 hd_ef6 hV_ef5 hS_ef5 hR_ef5 hB_ef5
                    go_wp2_with fail
                    refine hK.out _ _ (fun _ => ⟨cell_of_block (o := 0) hV_ef6.out rfl, cell_of_block (o := 1) hV_ef6.out rfl, cell_of_block (o := 2) hV_ef6.out rfl⟩) ?_
                    clear hK K
                    try simp only [Act.put, List.setIfInBounds_toArray, List.set_cons_zero, List.set_cons_succ]
                    refine wpAnyE_one (i := 8) (by kernel_rfl) rfl (fun K hK => ?_)
                    go_simp
                    obtain ⟨X_ef7, hX_ef7⟩ : ∃ X, X = (v_ef6.alloc (.cells #[.int .i64 0, .int .i64 0, .bool false] 37)) := ⟨_, rfl⟩
                    rw [← hX_ef7]
                    have hV_ef7 : Hid (X_ef7.heap[bv]? = some (spCells p q false)) := by rw [hX_ef7]; exact alloc_old hV_ef6.out
                    have hS_ef7 : Hid (X_ef7.heap[w2.heap.size]? = some (spCells s0 s1 s2)) := by rw [hX_ef7]; exact alloc_old hS_ef6.out
                    have hR_ef7 : Hid (X_ef7.heap[w.heap.size]? = some (spCells 0 0 false)) := by rw [hX_ef7]; exact alloc_old hR_ef6.out
                    have hZ_ef7 : Hid (X_ef7.heap[v_ef6.heap.size]? = some (spCells 0 0 false)) := by rw [hX_ef7]; exact cells_new _ _
                    have hB_ef7 : Hid (Below w.heap.size w X_ef7) := by rw [hX_ef7]; exact hB_ef6.out.alloc hB_ef6.out.size _
                    have hzl_ef7 := hB_ef6.out.size
                    have hzn_ef7_0 := heap_lt hV_ef6.out
                    have hzn_ef7_1 := heap_lt hS_ef6.out
                    have hzn_ef7_2 := heap_lt hR_ef6.out
                    clear hX_ef7 hV_ef6 hS_ef6 hR_ef6 hB_ef6
                    refine hK.out _ _ (fun _ => ⟨cell_of_block (o := 0) hV_ef7.out rfl, cell_of_block (o := 1) hV_ef7.out rfl, cell_of_block (o := 2) hV_ef7.out rfl⟩) ?_
                    clear hK K
                    try simp only [Act.put, List.setIfInBounds_toArray, List.set_cons_zero, List.set_cons_succ]
                    have zc0 := cell_of_block (o := 0) hZ_ef7.out rfl
                    have zf0 := frozen_of_block (o := 0) hZ_ef7.out
                    have zc1 := cell_of_block (o := 1) hZ_ef7.out rfl
                    have zf1 := frozen_of_block (o := 1) hZ_ef7.out
                    have zc2 := cell_of_block (o := 2) hZ_ef7.out rfl
                    have zf2 := frozen_of_block (o := 2) hZ_ef7.out
                    refine wpAnyE_one (i := 9) (by kernel_rfl) rfl (fun K hK => ?_)
                    go_simp
                    refine hK.out _ _ (fun h => absurd h (by decide)) ?_
                    clear hK K
                    refine wpAnyE_done (by kernel_rfl) ?_ _
                    obtain ⟨Y, hY⟩ : ∃ Y, Y = (((X_ef7.setCell ⟨v_ef6.heap.size, 0, none⟩ (.int .i64 g0)).setCell ⟨v_ef6.heap.size, 1, none⟩ (.int .i64 g1)).setCell ⟨v_ef6.heap.size, 2, none⟩ (.bool g2)) := ⟨_, rfl⟩
                    rw [← hY]
                    have hSY : Y.heap[w2.heap.size]? = some (spCells s0 s1 s2) := by rw [hY, show ((((X_ef7.setCell ⟨v_ef6.heap.size, 0, none⟩ (.int .i64 g0)).setCell ⟨v_ef6.heap.size, 1, none⟩ (.int .i64 g1)).setCell ⟨v_ef6.heap.size, 2, none⟩ (.bool g2)) : World) = put3 X_ef7 (v_ef6.heap.size) g0 g1 g2 from rfl, put3_other (by omega)]; exact hS_ef7.out
                    have hRY : Y.heap[w.heap.size]? = some (spCells 0 0 false) := by rw [hY, show ((((X_ef7.setCell ⟨v_ef6.heap.size, 0, none⟩ (.int .i64 g0)).setCell ⟨v_ef6.heap.size, 1, none⟩ (.int .i64 g1)).setCell ⟨v_ef6.heap.size, 2, none⟩ (.bool g2)) : World) = put3 X_ef7 (v_ef6.heap.size) g0 g1 g2 from rfl, put3_other (by omega)]; exact hR_ef7.out
                    have hZY : Y.heap[v_ef6.heap.size]? = some (spCells g0 g1 g2) := hY ▸ put3_same hZ_ef7.out g0 g1 g2
                    have hBY : Below w.heap.size w Y := hY ▸ set3_below hB_ef7.out (by omega) g0 g1 g2
                    clear hY zc0 zc1 zc2 zf0 zf1 zf2 aok bok cok dok fok hV_ef7 hS_ef7 hR_ef7 hZ_ef7 hB_ef7
                    have ys0 := cell_of_block (o := 0) hSY rfl
                    have ys1 := cell_of_block (o := 1) hSY rfl
                    have ys2 := cell_of_block (o := 2) hSY rfl
                    have yz0 := cell_of_block (o := 0) hZY rfl
                    have yz1 := cell_of_block (o := 1) hZY rfl
                    have yz2 := cell_of_block (o := 2) hZY rfl
                    go_wp2_with fail
                    refine wp_region_E (fun w' : World => w'.cell? ⟨w2.heap.size, 0, none⟩ = some (.int .i64 s0) ∧ w'.cell? ⟨w2.heap.size, 1, none⟩ = some (.int .i64 s1) ∧ w'.cell? ⟨w2.heap.size, 2, none⟩ = some (.bool s2) ∧ w'.cell? ⟨v_ef6.heap.size, 0, none⟩ = some (.int .i64 g0) ∧ w'.cell? ⟨v_ef6.heap.size, 1, none⟩ = some (.int .i64 g1) ∧ w'.cell? ⟨v_ef6.heap.size, 2, none⟩ = some (.bool g2)) (fun i => !(i == 6)) (by kernel_rfl) ?_
                    have hSh : Shut ((fun w' : World => w'.cell? ⟨w2.heap.size, 0, none⟩ = some (.int .i64 s0) ∧ w'.cell? ⟨w2.heap.size, 1, none⟩ = some (.int .i64 s1) ∧ w'.cell? ⟨w2.heap.size, 2, none⟩ = some (.bool s2) ∧ w'.cell? ⟨v_ef6.heap.size, 0, none⟩ = some (.int .i64 g0) ∧ w'.cell? ⟨v_ef6.heap.size, 1, none⟩ = some (.int .i64 g1) ∧ w'.cell? ⟨v_ef6.heap.size, 2, none⟩ = some (.bool g2)) Y.drew) := ⟨ys0, ys1, ys2, yz0, yz1, yz2⟩
                    refine wpAnyE_take (i := 0) (v := ?vzef70) rfl (by kernel_rfl) (by kernel_rfl) (by kernel_rfl) (by kernel_rfl) (fun _ _ _ h => h) (Or.inl ⟨by rfl, ?yzef70⟩) hSh.out ?rzef70
                    case yzef70 =>
                      intro w hSw
                      try dsimp only at hSw
                      go_simp
                      try with_reducible rfl
                    try simp only [Act.put, List.setIfInBounds_toArray, List.set_cons_zero, List.set_cons_succ]
                    refine wpAnyE_take (i := 2) (v := ?vzef72) rfl (by kernel_rfl) (by kernel_rfl) (by kernel_rfl) (by kernel_rfl) (fun _ _ _ h => h) (Or.inl ⟨by rfl, ?yzef72⟩) hSh.out ?rzef72
                    case yzef72 =>
                      intro w hSw
                      try dsimp only at hSw
                      go_simp
                      try with_reducible rfl
                    try simp only [Act.put, List.setIfInBounds_toArray, List.set_cons_zero, List.set_cons_succ]
                    clear hSh
                    refine wpAnyE_one (i := 1) (by kernel_rfl) rfl (fun K hK => ?_)
                    go_simp
                    refine ((O.out _ _ _).mono (fun _ _ h => OfPost.sp (by decide) h)).mono ?_
                    rintro e u1 ⟨m0, m1, m2, rfl, mok, hu1⟩
                    have hdu := undrewS hu1
                    have hS1 := (hdu.block _ (heap_lt hSY)).trans hSY
                    have hZ1 := (hdu.block _ (heap_lt hZY)).trans hZY
                    have hR1 := (hdu.block _ (heap_lt hRY)).trans hRY
                    clear hu1
                    go_wp2_with fail
                    refine hK.out _ _ (fun _ => ⟨cell_of_block (o := 0) hS1 rfl, cell_of_block (o := 1) hS1 rfl, cell_of_block (o := 2) hS1 rfl, cell_of_block (o := 0) hZ1 rfl, cell_of_block (o := 1) hZ1 rfl, cell_of_block (o := 2) hZ1 rfl⟩) ?_
                    clear hK K
                    try simp only [Act.put, List.setIfInBounds_toArray, List.set_cons_zero, List.set_cons_succ]
                    refine wpAnyE_one (i := 3) (by kernel_rfl) rfl (fun K hK => ?_)
                    go_simp
                    refine (OD.out _ _ _ _ _ gok).mono ?_
                    rintro e u2 ⟨o0, o1, o2, rfl, ook, hu2⟩
                    have hS2 := (hu2.block _ (heap_lt hS1)).trans hS1
                    have hZ2 := (hu2.block _ (heap_lt hZ1)).trans hZ1
                    have hR2 := (hu2.block _ (heap_lt hR1)).trans hR1
                    go_wp2_with fail
                    refine hK.out _ _ (fun _ => ⟨cell_of_block (o := 0) hS2 rfl, cell_of_block (o := 1) hS2 rfl, cell_of_block (o := 2) hS2 rfl, cell_of_block (o := 0) hZ2 rfl, cell_of_block (o := 1) hZ2 rfl, cell_of_block (o := 2) hZ2 rfl⟩) ?_
                    clear hK K
                    try simp only [Act.put, List.setIfInBounds_toArray, List.set_cons_zero, List.set_cons_succ]
                    refine wpAnyE_one (i := 4) (by kernel_rfl) rfl (fun K hK => ?_)
                    go_simp
                    refine (M.out _ _ _ _ _ _ _ mok ook).mono ?_
                    rintro e u3 ⟨l0, l1, l2, rfl, lok, hu3⟩
                    have hS3 := (hu3.block _ (heap_lt hS2)).trans hS2
                    have hZ3 := (hu3.block _ (heap_lt hZ2)).trans hZ2
                    have hR3 := (hu3.block _ (heap_lt hR2)).trans hR2
                    go_wp2_with fail
                    refine hK.out _ _ (fun _ => ⟨cell_of_block (o := 0) hS3 rfl, cell_of_block (o := 1) hS3 rfl, cell_of_block (o := 2) hS3 rfl, cell_of_block (o := 0) hZ3 rfl, cell_of_block (o := 1) hZ3 rfl, cell_of_block (o := 2) hZ3 rfl⟩) ?_
                    clear hK K
                    try simp only [Act.put, List.setIfInBounds_toArray, List.set_cons_zero, List.set_cons_succ]
                    refine wpAnyE_one (i := 5) (by kernel_rfl) rfl (fun K hK => ?_)
                    go_simp
                    refine (AD.out _ _ _ _ _ _ _ hokS lok).mono ?_
                    rintro e u4 ⟨k0, k1, k2, rfl, kok, hu4⟩
                    have hS4 := (hu4.block _ (heap_lt hS3)).trans hS3
                    have hZ4 := (hu4.block _ (heap_lt hZ3)).trans hZ3
                    have hR4 := (hu4.block _ (heap_lt hR3)).trans hR3
                    have rr0 := cell_of_block (o := 0) hR4 rfl
                    have rr1 := cell_of_block (o := 1) hR4 rfl
                    have rr2 := cell_of_block (o := 2) hR4 rfl
                    have rg0 := frozen_of_block (o := 0) hR4
                    have rg1 := frozen_of_block (o := 1) hR4
                    have rg2 := frozen_of_block (o := 2) hR4
                    go_wp2_with fail
                    refine hK.out _ _ (fun _ => ⟨cell_of_block (o := 0) hS4 rfl, cell_of_block (o := 1) hS4 rfl, cell_of_block (o := 2) hS4 rfl, cell_of_block (o := 0) hZ4 rfl, cell_of_block (o := 1) hZ4 rfl, cell_of_block (o := 2) hZ4 rfl⟩) ?_
                    clear hK K
                    try simp only [Act.put, List.setIfInBounds_toArray, List.set_cons_zero, List.set_cons_succ]
                    refine wpAnyE_one (i := 6) (by kernel_rfl) rfl (fun K hK => ?_)
                    go_simp
                    refine hK.out _ _ (fun h => absurd h (by decide)) ?_
                    clear hK K
                    refine wpAnyE_done (by kernel_rfl) ?_ _
                    have Q := hideq (set3 hR4 k0 k1 k2)
                    have HBt := hideq (set3_below (hBY.trans ((hdu.trans (Below.mono (hu2.trans (Below.mono (hu3.trans (hu4.mono hu3.size)) hu2.size)) hdu.size)).mono hBY.size)) (Nat.le_refl _) k0 k1 k2)
                    have HOK := hideq kok
                    clear hdu hu2 hu3 hu4 hS1 hS2 hS3 hS4 hZ1 hZ2 hZ3 hZ4 hR1 hR2 hR3 hR4
                    go_wp2_with fail
                    obtain ⟨q0, q1, q2⟩ := Q.out
                    refine bodyPost_ret (v := sv k0 k1 k2) (by simp [results, Tryd.results33, go_sem, q0, q1, q2]) rfl ?_
                    exact ⟨k0, k1, k2, rfl, HOK.out, HBt.out⟩
                  · skip
                    go_simp
                    obtain ⟨X_ef8, hX_ef8⟩ : ∃ X, X = (v_ef5.alloc (.cells #[.int .i64 0, .int .i64 0, .bool false] 37)) := ⟨_, rfl⟩
                    rw [← hX_ef8]
                    have hV_ef8 : Hid (X_ef8.heap[bv]? = some (spCells p q false)) := by rw [hX_ef8]; exact alloc_old hV_ef5.out
                    have hS_ef8 : Hid (X_ef8.heap[w2.heap.size]? = some (spCells s0 s1 s2)) := by rw [hX_ef8]; exact alloc_old hS_ef5.out
                    have hR_ef8 : Hid (X_ef8.heap[w.heap.size]? = some (spCells 0 0 false)) := by rw [hX_ef8]; exact alloc_old hR_ef5.out
                    have hZ_ef8 : Hid (X_ef8.heap[v_ef5.heap.size]? = some (spCells 0 0 false)) := by rw [hX_ef8]; exact cells_new _ _
                    have hB_ef8 : Hid (Below w.heap.size w X_ef8) := by rw [hX_ef8]; exact hB_ef5.out.alloc hB_ef5.out.size _
                    have hzl_ef8 := hB_ef5.out.size
                    have hzn_ef8_0 := heap_lt hV_ef5.out
                    have hzn_ef8_1 := heap_lt hS_ef5.out
                    have hzn_ef8_2 := heap_lt hR_ef5.out
                    clear hX_ef8 hV_ef5 hS_ef5 hR_ef5 hB_ef5
                    refine hK.out _ _ (fun _ => ⟨cell_of_block (o := 0) hV_ef8.out rfl, cell_of_block (o := 1) hV_ef8.out rfl, cell_of_block (o := 2) hV_ef8.out rfl⟩) ?_
                    clear hK K
                    try simp only [Act.put, List.setIfInBounds_toArray, List.set_cons_zero, List.set_cons_succ]
                    refine wpAnyE_one (i := 7) (by kernel_rfl) rfl (fun K hK => ?_)
                    go_simp
                    refine (M.out _ _ _ _ _ _ _ bok fok).mono ?_
                    rintro e v_ef9 ⟨g0, g1, g2, rfl, gok, hv_ef9⟩
                    have hd_ef9 := hv_ef9
                    have hV_ef9 := hideq ((hd_ef9.block _ (heap_lt hV_ef8.out)).trans hV_ef8.out)
                    have hS_ef9 := hideq ((hd_ef9.block _ (heap_lt hS_ef8.out)).trans hS_ef8.out)
                    have hR_ef9 := hideq ((hd_ef9.block _ (heap_lt hR_ef8.out)).trans hR_ef8.out)
                    have hZ_ef9 := hideq ((hd_ef9.block _ (heap_lt hZ_ef8.out)).trans hZ_ef8.out)
                    have hB_ef9 := hideq (hB_ef8.out.trans (hd_ef9.mono hB_ef8.out.size))
                    clear hv_ef9 hd_ef9 hV_ef8 hS_ef8 hR_ef8 hZ_ef8 hB_ef8
                    go_wp2_with fail
                    refine hK.out _ _ (fun _ => ⟨cell_of_block (o := 0) hV_ef9.out rfl, cell_of_block (o := 1) hV_ef9.out rfl, cell_of_block (o := 2) hV_ef9.out rfl⟩) ?_
                    clear hK K
                    try simp only [Act.put, List.setIfInBounds_toArray, List.set_cons_zero, List.set_cons_succ]
                    have zc0 := cell_of_block (o := 0) hZ_ef9.out rfl
                    have zf0 := frozen_of_block (o := 0) hZ_ef9.out
                    have zc1 := cell_of_block (o := 1) hZ_ef9.out rfl
                    have zf1 := frozen_of_block (o := 1) hZ_ef9.out
                    have zc2 := cell_of_block (o := 2) hZ_ef9.out rfl
                    have zf2 := frozen_of_block (o := 2) hZ_ef9.out
                    refine wpAnyE_one (i := 9) (by kernel_rfl) rfl (fun K hK => ?_)
                    go_simp
                    refine hK.out _ _ (fun h => absurd h (by decide)) ?_
                    clear hK K
                    refine wpAnyE_done (by kernel_rfl) ?_ _
                    obtain ⟨Y, hY⟩ : ∃ Y, Y = (((v_ef9.setCell ⟨v_ef5.heap.size, 0, none⟩ (.int .i64 g0)).setCell ⟨v_ef5.heap.size, 1, none⟩ (.int .i64 g1)).setCell ⟨v_ef5.heap.size, 2, none⟩ (.bool g2)) := ⟨_, rfl⟩
                    rw [← hY]
                    have hSY : Y.heap[w2.heap.size]? = some (spCells s0 s1 s2) := by rw [hY, show ((((v_ef9.setCell ⟨v_ef5.heap.size, 0, none⟩ (.int .i64 g0)).setCell ⟨v_ef5.heap.size, 1, none⟩ (.int .i64 g1)).setCell ⟨v_ef5.heap.size, 2, none⟩ (.bool g2)) : World) = put3 v_ef9 (v_ef5.heap.size) g0 g1 g2 from rfl, put3_other (by omega)]; exact hS_ef9.out
                    have hRY : Y.heap[w.heap.size]? = some (spCells 0 0 false) := by rw [hY, show ((((v_ef9.setCell ⟨v_ef5.heap.size, 0, none⟩ (.int .i64 g0)).setCell ⟨v_ef5.heap.size, 1, none⟩ (.int .i64 g1)).setCell ⟨v_ef5.heap.size, 2, none⟩ (.bool g2)) : World) = put3 v_ef9 (v_ef5.heap.size) g0 g1 g2 from rfl, put3_other (by omega)]; exact hR_ef9.out
                    have hZY : Y.heap[v_ef5.heap.size]? = some (spCells g0 g1 g2) := hY ▸ put3_same hZ_ef9.out g0 g1 g2
                    have hBY : Below w.heap.size w Y := hY ▸ set3_below hB_ef9.out (by omega) g0 g1 g2
                    clear hY zc0 zc1 zc2 zf0 zf1 zf2 aok bok cok dok fok hV_ef9 hS_ef9 hR_ef9 hZ_ef9 hB_ef9
                    have ys0 := cell_of_block (o := 0) hSY rfl
                    have ys1 := cell_of_block (o := 1) hSY rfl
                    have ys2 := cell_of_block (o := 2) hSY rfl
                    have yz0 := cell_of_block (o := 0) hZY rfl
                    have yz1 := cell_of_block (o := 1) hZY rfl
                    have yz2 := cell_of_block (o := 2) hZY rfl
                    go_wp2_with fail
                    refine wp_region_E (fun w' : World => w'.cell? ⟨w2.heap.size, 0, none⟩ = some (.int .i64 s0) ∧ w'.cell? ⟨w2.heap.size, 1, none⟩ = some (.int .i64 s1) ∧ w'.cell? ⟨w2.heap.size, 2, none⟩ = some (.bool s2) ∧ w'.cell? ⟨v_ef5.heap.size, 0, none⟩ = some (.int .i64 g0) ∧ w'.cell? ⟨v_ef5.heap.size, 1, none⟩ = some (.int .i64 g1) ∧ w'.cell? ⟨v_ef5.heap.size, 2, none⟩ = some (.bool g2)) (fun i => !(i == 6)) (by kernel_rfl) ?_
                    have hSh : Shut ((fun w' : World => w'.cell? ⟨w2.heap.size, 0, none⟩ = some (.int .i64 s0) ∧ w'.cell? ⟨w2.heap.size, 1, none⟩ = some (.int .i64 s1) ∧ w'.cell? ⟨w2.heap.size, 2, none⟩ = some (.bool s2) ∧ w'.cell? ⟨v_ef5.heap.size, 0, none⟩ = some (.int .i64 g0) ∧ w'.cell? ⟨v_ef5.heap.size, 1, none⟩ = some (.int .i64 g1) ∧ w'.cell? ⟨v_ef5.heap.size, 2, none⟩ = some (.bool g2)) Y.drew) := ⟨ys0, ys1, ys2, yz0, yz1, yz2⟩
                    refine wpAnyE_take (i := 0) (v := ?vzef90) rfl (by kernel_rfl) (by kernel_rfl) (by kernel_rfl) (by kernel_rfl) (fun _ _ _ h => h) (Or.inl ⟨by rfl, ?yzef90⟩) hSh.out ?rzef90
                    case yzef90 =>
                      intro w hSw
                      try dsimp only at hSw
                      go_simp
                      try with_reducible rfl
                    try simp only [Act.put, List.setIfInBounds_toArray, List.set_cons_zero, List.set_cons_succ]
                    refine wpAnyE_take (i := 2) (v := ?vzef92) rfl (by kernel_rfl) (by kernel_rfl) (by kernel_rfl) (by kernel_rfl) (fun _ _ _ h => h) (Or.inl ⟨by rfl, ?yzef92⟩) hSh.out ?rzef92
                    case yzef92 =>
                      intro w hSw
                      try dsimp only at hSw
                      go_simp
                      try with_reducible rfl
                    try simp only [Act.put, List.setIfInBounds_toArray, List.set_cons_zero, List.set_cons_succ]
                    clear hSh
                    refine wpAnyE_one (i := 1) (by kernel_rfl) rfl (fun K hK => ?_)
                    go_simp
                    refine ((O.out _ _ _).mono (fun _ _ h => OfPost.sp (by decide) h)).mono ?_
                    rintro e u1 ⟨m0, m1, m2, rfl, mok, hu1⟩
                    have hdu := undrewS hu1
                    have hS1 := (hdu.block _ (heap_lt hSY)).trans hSY
                    have hZ1 := (hdu.block _ (heap_lt hZY)).trans hZY
                    have hR1 := (hdu.block _ (heap_lt hRY)).trans hRY
                    clear hu1
                    go_wp2_with fail
                    refine hK.out _ _ (fun _ => ⟨cell_of_block (o := 0) hS1 rfl, cell_of_block (o := 1) hS1 rfl, cell_of_block (o := 2) hS1 rfl, cell_of_block (o := 0) hZ1 rfl, cell_of_block (o := 1) hZ1 rfl, cell_of_block (o := 2) hZ1 rfl⟩) ?_
                    clear hK K
                    try simp only [Act.put, List.setIfInBounds_toArray, List.set_cons_zero, List.set_cons_succ]
                    refine wpAnyE_one (i := 3) (by kernel_rfl) rfl (fun K hK => ?_)
                    go_simp
                    refine (OD.out _ _ _ _ _ gok).mono ?_
                    rintro e u2 ⟨o0, o1, o2, rfl, ook, hu2⟩
                    have hS2 := (hu2.block _ (heap_lt hS1)).trans hS1
                    have hZ2 := (hu2.block _ (heap_lt hZ1)).trans hZ1
                    have hR2 := (hu2.block _ (heap_lt hR1)).trans hR1
                    go_wp2_with fail
                    refine hK.out _ _ (fun _ => ⟨cell_of_block (o := 0) hS2 rfl, cell_of_block (o := 1) hS2 rfl, cell_of_block (o := 2) hS2 rfl, cell_of_block (o := 0) hZ2 rfl, cell_of_block (o := 1) hZ2 rfl, cell_of_block (o := 2) hZ2 rfl⟩) ?_
                    clear hK K
                    try simp only [Act.put, List.setIfInBounds_toArray, List.set_cons_zero, List.set_cons_succ]
                    refine wpAnyE_one (i := 4) (by kernel_rfl) rfl (fun K hK => ?_)
                    go_simp
                    refine (M.out _ _ _ _ _ _ _ mok ook).mono ?_
                    rintro e u3 ⟨l0, l1, l2, rfl, lok, hu3⟩
                    have hS3 := (hu3.block _ (heap_lt hS2)).trans hS2
                    have hZ3 := (hu3.block _ (heap_lt hZ2)).trans hZ2
                    have hR3 := (hu3.block _ (heap_lt hR2)).trans hR2
                    go_wp2_with fail
                    refine hK.out _ _ (fun _ => ⟨cell_of_block (o := 0) hS3 rfl, cell_of_block (o := 1) hS3 rfl, cell_of_block (o := 2) hS3 rfl, cell_of_block (o := 0) hZ3 rfl, cell_of_block (o := 1) hZ3 rfl, cell_of_block (o := 2) hZ3 rfl⟩) ?_
                    clear hK K
                    try simp only [Act.put, List.setIfInBounds_toArray, List.set_cons_zero, List.set_cons_succ]
                    refine wpAnyE_one (i := 5) (by kernel_rfl) rfl (fun K hK => ?_)
                    go_simp
                    refine (AD.out _ _ _ _ _ _ _ hokS lok).mono ?_
                    rintro e u4 ⟨k0, k1, k2, rfl, kok, hu4⟩
                    have hS4 := (hu4.block _ (heap_lt hS3)).trans hS3
                    have hZ4 := (hu4.block _ (heap_lt hZ3)).trans hZ3
                    have hR4 := (hu4.block _ (heap_lt hR3)).trans hR3
                    have rr0 := cell_of_block (o := 0) hR4 rfl
                    have rr1 := cell_of_block (o := 1) hR4 rfl
                    have rr2 := cell_of_block (o := 2) hR4 rfl
                    have rg0 := frozen_of_block (o := 0) hR4
                    have rg1 := frozen_of_block (o := 1) hR4
                    have rg2 := frozen_of_block (o := 2) hR4
                    go_wp2_with fail
                    refine hK.out _ _ (fun _ => ⟨cell_of_block (o := 0) hS4 rfl, cell_of_block (o := 1) hS4 rfl, cell_of_block (o := 2) hS4 rfl, cell_of_block (o := 0) hZ4 rfl, cell_of_block (o := 1) hZ4 rfl, cell_of_block (o := 2) hZ4 rfl⟩) ?_
                    clear hK K
                    try simp only [Act.put, List.setIfInBounds_toArray, List.set_cons_zero, List.set_cons_succ]
                    refine wpAnyE_one (i := 6) (by kernel_rfl) rfl (fun K hK => ?_)
                    go_simp
                    refine hK.out _ _ (fun h => absurd h (by decide)) ?_
                    clear hK K
                    refine wpAnyE_done (by kernel_rfl) ?_ _
                    have Q := hideq (set3 hR4 k0 k1 k2)
                    have HBt := hideq (set3_below (hBY.trans ((hdu.trans (Below.mono (hu2.trans (Below.mono (hu3.trans (hu4.mono hu3.size)) hu2.size)) hdu.size)).mono hBY.size)) (Nat.le_refl _) k0 k1 k2)
                    have HOK := hideq kok
                    clear hdu hu2 hu3 hu4 hS1 hS2 hS3 hS4 hZ1 hZ2 hZ3 hZ4 hR1 hR2 hR3 hR4
                    go_wp2_with fail
                    obtain ⟨q0, q1, q2⟩ := Q.out
                    refine bodyPost_ret (v := sv k0 k1 k2) (by simp [results, Tryd.results33, go_sem, q0, q1, q2]) rfl ?_
                    exact ⟨k0, k1, k2, rfl, HOK.out, HBt.out⟩
                · skip
                  go_simp
                  obtain ⟨X_ef10, hX_ef10⟩ : ∃ X, X = (v_ef4.alloc (.cells #[.int .i64 0, .int .i64 0, .bool false] 37)) := ⟨_, rfl⟩
                  rw [← hX_ef10]
                  have hV_ef10 : Hid (X_ef10.heap[bv]? = some (spCells p q false)) := by rw [hX_ef10]; exact alloc_old hV_ef4.out
                  have hS_ef10 : Hid (X_ef10.heap[w2.heap.size]? = some (spCells s0 s1 s2)) := by rw [hX_ef10]; exact alloc_old hS_ef4.out
                  have hR_ef10 : Hid (X_ef10.heap[w.heap.size]? = some (spCells 0 0 false)) := by rw [hX_ef10]; exact alloc_old hR_ef4.out
                  have hZ_ef10 : Hid (X_ef10.heap[v_ef4.heap.size]? = some (spCells 0 0 false)) := by rw [hX_ef10]; exact cells_new _ _
                  have hB_ef10 : Hid (Below w.heap.size w X_ef10) := by rw [hX_ef10]; exact hB_ef4.out.alloc hB_ef4.out.size _
                  have hzl_ef10 := hB_ef4.out.size
                  have hzn_ef10_0 := heap_lt hV_ef4.out
                  have hzn_ef10_1 := heap_lt hS_ef4.out
                  have hzn_ef10_2 := heap_lt hR_ef4.out
                  clear hX_ef10 hV_ef4 hS_ef4 hR_ef4 hB_ef4
                  refine hK.out _ _ (fun _ => ⟨cell_of_block (o := 0) hV_ef10.out rfl, cell_of_block (o := 1) hV_ef10.out rfl, cell_of_block (o := 2) hV_ef10.out rfl⟩) ?_
                  clear hK K
                  try simp only [Act.put, List.setIfInBounds_toArray, List.set_cons_zero, List.set_cons_succ]
                  refine wpAnyE_one (i := 6) (by kernel_rfl) rfl (fun K hK => ?_)
                  go_simp
                  refine (OV.out _ _ _ _ dok).mono ?_
                  rintro e v_ef11 ⟨f0, f1, f2, rfl, fok, hv_ef11⟩
                  have hd_ef11 := hv_ef11
                  have hV_ef11 := hideq ((hd_ef11.block _ (heap_lt hV_ef10.out)).trans hV_ef10.out)
                  have hS_ef11 := hideq ((hd_ef11.block _ (heap_lt hS_ef10.out)).trans hS_ef10.out)
                  have hR_ef11 := hideq ((hd_ef11.block _ (heap_lt hR_ef10.out)).trans hR_ef10.out)
                  have hZ_ef11 := hideq ((hd_ef11.block _ (heap_lt hZ_ef10.out)).trans hZ_ef10.out)
                  have hB_ef11 := hideq (hB_ef10.out.trans (hd_ef11.mono hB_ef10.out.size))
                  clear hv_ef11 hd_ef11 hV_ef10 hS_ef10 hR_ef10 hZ_ef10 hB_ef10
                  go_wp2_with fail
                  refine hK.out _ _ (fun _ => ⟨cell_of_block (o := 0) hV_ef11.out rfl, cell_of_block (o := 1) hV_ef11.out rfl, cell_of_block (o := 2) hV_ef11.out rfl⟩) ?_
                  clear hK K
                  try simp only [Act.put, List.setIfInBounds_toArray, List.set_cons_zero, List.set_cons_succ]
                  refine wpAnyE_one (i := 7) (by kernel_rfl) rfl (fun K hK => ?_)
                  go_simp
                  refine (M.out _ _ _ _ _ _ _ bok fok).mono ?_
                  rintro e v_ef12 ⟨g0, g1, g2, rfl, gok, hv_ef12⟩
                  have hd_ef12 := hv_ef12
                  have hV_ef12 := hideq ((hd_ef12.block _ (heap_lt hV_ef11.out)).trans hV_ef11.out)
                  have hS_ef12 := hideq ((hd_ef12.block _ (heap_lt hS_ef11.out)).trans hS_ef11.out)
                  have hR_ef12 := hideq ((hd_ef12.block _ (heap_lt hR_ef11.out)).trans hR_ef11.out)
                  have hZ_ef12 := hideq ((hd_ef12.block _ (heap_lt hZ_ef11.out)).trans hZ_ef11.out)
                  have hB_ef12 := hideq (hB_ef11.out.trans (hd_ef12.mono hB_ef11.out.size))
                  clear hv_ef12 hd_ef12 hV_ef11 hS_ef11 hR_ef11 hZ_ef11 hB_ef11
                  go_wp2_with fail
                  refine hK.out _ _ (fun _ => ⟨cell_of_block (o := 0) hV_ef12.out rfl, cell_of_block (o := 1) hV_ef12.out rfl, cell_of_block (o := 2) hV_ef12.out rfl⟩) ?_
                  clear hK K
                  try simp only [Act.put, List.setIfInBounds_toArray, List.set_cons_zero, List.set_cons_succ]
                  have zc0 := cell_of_block (o := 0) hZ_ef12.out rfl
                  have zf0 := frozen_of_block (o := 0) hZ_ef12.out
                  have zc1 := cell_of_block (o := 1) hZ_ef12.out rfl
                  have zf1 := frozen_of_block (o := 1) hZ_ef12.out
                  have zc2 := cell_of_block (o := 2) hZ_ef12.out rfl
                  have zf2 := frozen_of_block (o := 2) hZ_ef12.out
                  refine wpAnyE_one (i := 9) (by kernel_rfl) rfl (fun K hK => ?_)
                  go_simp
                  refine hK.out _ _ (fun h => absurd h (by decide)) ?_
                  clear hK K
                  refine wpAnyE_done (by kernel_rfl) ?_ _
                  obtain ⟨Y, hY⟩ : ∃ Y, Y = (((v_ef12.setCell ⟨v_ef4.heap.size, 0, none⟩ (.int .i64 g0)).setCell ⟨v_ef4.heap.size, 1, none⟩ (.int .i64 g1)).setCell ⟨v_ef4.heap.size, 2, none⟩ (.bool g2)) := ⟨_, rfl⟩
                  rw [← hY]
                  have hSY : Y.heap[w2.heap.size]? = some (spCells s0 s1 s2) := by rw [hY, show ((((v_ef12.setCell ⟨v_ef4.heap.size, 0, none⟩ (.int .i64 g0)).setCell ⟨v_ef4.heap.size, 1, none⟩ (.int .i64 g1)).setCell ⟨v_ef4.heap.size, 2, none⟩ (.bool g2)) : World) = put3 v_ef12 (v_ef4.heap.size) g0 g1 g2 from rfl, put3_other (by omega)]; exact hS_ef12.out
                  have hRY : Y.heap[w.heap.size]? = some (spCells 0 0 false) := by rw [hY, show ((((v_ef12.setCell ⟨v_ef4.heap.size, 0, none⟩ (.int .i64 g0)).setCell ⟨v_ef4.heap.size, 1, none⟩ (.int .i64 g1)).setCell ⟨v_ef4.heap.size, 2, none⟩ (.bool g2)) : World) = put3 v_ef12 (v_ef4.heap.size) g0 g1 g2 from rfl, put3_other (by omega)]; exact hR_ef12.out
                  have hZY : Y.heap[v_ef4.heap.size]? = some (spCells g0 g1 g2) := hY ▸ put3_same hZ_ef12.out g0 g1 g2
                  have hBY : Below w.heap.size w Y := hY ▸ set3_below hB_ef12.out (by omega) g0 g1 g2
                  clear hY zc0 zc1 zc2 zf0 zf1 zf2 aok bok cok dok fok hV_ef12 hS_ef12 hR_ef12 hZ_ef12 hB_ef12
                  have ys0 := cell_of_block (o := 0) hSY rfl
                  have ys1 := cell_of_block (o := 1) hSY rfl
                  have ys2 := cell_of_block (o := 2) hSY rfl
                  have yz0 := cell_of_block (o := 0) hZY rfl
                  have yz1 := cell_of_block (o := 1) hZY rfl
                  have yz2 := cell_of_block (o := 2) hZY rfl
                  go_wp2_with fail
                  refine wp_region_E (fun w' : World => w'.cell? ⟨w2.heap.size, 0, none⟩ = some (.int .i64 s0) ∧ w'.cell? ⟨w2.heap.size, 1, none⟩ = some (.int .i64 s1) ∧ w'.cell? ⟨w2.heap.size, 2, none⟩ = some (.bool s2) ∧ w'.cell? ⟨v_ef4.heap.size, 0, none⟩ = some (.int .i64 g0) ∧ w'.cell? ⟨v_ef4.heap.size, 1, none⟩ = some (.int .i64 g1) ∧ w'.cell? ⟨v_ef4.heap.size, 2, none⟩ = some (.bool g2)) (fun i => !(i == 6)) (by kernel_rfl) ?_
                  have hSh : Shut ((fun w' : World => w'.cell? ⟨w2.heap.size, 0, none⟩ = some (.int .i64 s0) ∧ w'.cell? ⟨w2.heap.size, 1, none⟩ = some (.int .i64 s1) ∧ w'.cell? ⟨w2.heap.size, 2, none⟩ = some (.bool s2) ∧ w'.cell? ⟨v_ef4.heap.size, 0, none⟩ = some (.int .i64 g0) ∧ w'.cell? ⟨v_ef4.heap.size, 1, none⟩ = some (.int .i64 g1) ∧ w'.cell? ⟨v_ef4.heap.size, 2, none⟩ = some (.bool g2)) Y.drew) := ⟨ys0, ys1, ys2, yz0, yz1, yz2⟩
                  refine wpAnyE_take (i := 0) (v := ?vzef120) rfl (by kernel_rfl) (by kernel_rfl) (by kernel_rfl) (by kernel_rfl) (fun _ _ _ h => h) (Or.inl ⟨by rfl, ?yzef120⟩) hSh.out ?rzef120
                  case yzef120 =>
                    intro w hSw
                    try dsimp only at hSw
                    go_simp
                    try with_reducible rfl
                  try simp only [Act.put, List.setIfInBounds_toArray, List.set_cons_zero, List.set_cons_succ]
                  refine wpAnyE_take (i := 2) (v := ?vzef122) rfl (by kernel_rfl) (by kernel_rfl) (by kernel_rfl) (by kernel_rfl) (fun _ _ _ h => h) (Or.inl ⟨by rfl, ?yzef122⟩) hSh.out ?rzef122
                  case yzef122 =>
                    intro w hSw
                    try dsimp only at hSw
                    go_simp
                    try with_reducible rfl
                  try simp only [Act.put, List.setIfInBounds_toArray, List.set_cons_zero, List.set_cons_succ]
                  clear hSh
                  refine wpAnyE_one (i := 1) (by kernel_rfl) rfl (fun K hK => ?_)
                  go_simp
                  refine ((O.out _ _ _).mono (fun _ _ h => OfPost.sp (by decide) h)).mono ?_
                  rintro e u1 ⟨m0, m1, m2, rfl, mok, hu1⟩
                  have hdu := undrewS hu1
                  have hS1 := (hdu.block _ (heap_lt hSY)).trans hSY
                  have hZ1 := (hdu.block _ (heap_lt hZY)).trans hZY
                  have hR1 := (hdu.block _ (heap_lt hRY)).trans hRY
                  clear hu1
                  go_wp2_with fail
                  refine hK.out _ _ (fun _ => ⟨cell_of_block (o := 0) hS1 rfl, cell_of_block (o := 1) hS1 rfl, cell_of_block (o := 2) hS1 rfl, cell_of_block (o := 0) hZ1 rfl, cell_of_block (o := 1) hZ1 rfl, cell_of_block (o := 2) hZ1 rfl⟩) ?_
                  clear hK K
                  try simp only [Act.put, List.setIfInBounds_toArray, List.set_cons_zero, List.set_cons_succ]
                  refine wpAnyE_one (i := 3) (by kernel_rfl) rfl (fun K hK => ?_)
                  go_simp
                  refine (OD.out _ _ _ _ _ gok).mono ?_
                  rintro e u2 ⟨o0, o1, o2, rfl, ook, hu2⟩
                  have hS2 := (hu2.block _ (heap_lt hS1)).trans hS1
                  have hZ2 := (hu2.block _ (heap_lt hZ1)).trans hZ1
                  have hR2 := (hu2.block _ (heap_lt hR1)).trans hR1
                  go_wp2_with fail
                  refine hK.out _ _ (fun _ => ⟨cell_of_block (o := 0) hS2 rfl, cell_of_block (o := 1) hS2 rfl, cell_of_block (o := 2) hS2 rfl, cell_of_block (o := 0) hZ2 rfl, cell_of_block (o := 1) hZ2 rfl, cell_of_block (o := 2) hZ2 rfl⟩) ?_
                  clear hK K
                  try simp only [Act.put, List.setIfInBounds_toArray, List.set_cons_zero, List.set_cons_succ]
                  refine wpAnyE_one (i := 4) (by kernel_rfl) rfl (fun K hK => ?_)
                  go_simp
                  refine (M.out _ _ _ _ _ _ _ mok ook).mono ?_
                  rintro e u3 ⟨l0, l1, l2, rfl, lok, hu3⟩
                  have hS3 := (hu3.block _ (heap_lt hS2)).trans hS2
                  have hZ3 := (hu3.block _ (heap_lt hZ2)).trans hZ2
                  have hR3 := (hu3.block _ (heap_lt hR2)).trans hR2
                  go_wp2_with fail
                  refine hK.out _ _ (fun _ => ⟨cell_of_block (o := 0) hS3 rfl, cell_of_block (o := 1) hS3 rfl, cell_of_block (o := 2) hS3 rfl, cell_of_block (o := 0) hZ3 rfl, cell_of_block (o := 1) hZ3 rfl, cell_of_block (o := 2) hZ3 rfl⟩) ?_
                  clear hK K
                  try simp only [Act.put, List.setIfInBounds_toArray, List.set_cons_zero, List.set_cons_succ]
                  refine wpAnyE_one (i := 5) (by kernel_rfl) rfl (fun K hK => ?_)
                  go_simp
                  refine (AD.out _ _ _ _ _ _ _ hokS lok).mono ?_
                  rintro e u4 ⟨k0, k1, k2, rfl, kok, hu4⟩
                  have hS4 := (hu4.block _ (heap_lt hS3)).trans hS3
                  have hZ4 := (hu4.block _ (heap_lt hZ3)).trans hZ3
                  have hR4 := (hu4.block _ (heap_lt hR3)).trans hR3
                  have rr0 := cell_of_block (o := 0) hR4 rfl
                  have rr1 := cell_of_block (o := 1) hR4 rfl
                  have rr2 := cell_of_block (o := 2) hR4 rfl
                  have rg0 := frozen_of_block (o := 0) hR4
                  have rg1 := frozen_of_block (o := 1) hR4
                  have rg2 := frozen_of_block (o := 2) hR4
                  go_wp2_with fail
                  refine hK.out _ _ (fun _ => ⟨cell_of_block (o := 0) hS4 rfl, cell_of_block (o := 1) hS4 rfl, cell_of_block (o := 2) hS4 rfl, cell_of_block (o := 0) hZ4 rfl, cell_of_block (o := 1) hZ4 rfl, cell_of_block (o := 2) hZ4 rfl⟩) ?_
                  clear hK K
                  try simp only [Act.put, List.setIfInBounds_toArray, List.set_cons_zero, List.set_cons_succ]
                  refine wpAnyE_one (i := 6) (by kernel_rfl) rfl (fun K hK => ?_)
                  go_simp
                  refine hK.out _ _ (fun h => absurd h (by decide)) ?_
                  clear hK K
                  refine wpAnyE_done (by kernel_rfl) ?_ _
                  have Q := hideq (set3 hR4 k0 k1 k2)
                  have HBt := hideq (set3_below (hBY.trans ((hdu.trans (Below.mono (hu2.trans (Below.mono (hu3.trans (hu4.mono hu3.size)) hu2.size)) hdu.size)).mono hBY.size)) (Nat.le_refl _) k0 k1 k2)
                  have HOK := hideq kok
                  clear hdu hu2 hu3 hu4 hS1 hS2 hS3 hS4 hZ1 hZ2 hZ3 hZ4 hR1 hR2 hR3 hR4
                  go_wp2_with fail
                  obtain ⟨q0, q1, q2⟩ := Q.out
                  refine bodyPost_ret (v := sv k0 k1 k2) (by simp [results, Tryd.results33, go_sem, q0, q1, q2]) rfl ?_
                  exact ⟨k0, k1, k2, rfl, HOK.out, HBt.out⟩
              · skip
                go_simp
                obtain ⟨X_ef13, hX_ef13⟩ : ∃ X, X = (v_ef3.alloc (.cells #[.int .i64 0, .int .i64 0, .bool false] 37)) := ⟨_, rfl⟩
                rw [← hX_ef13]
                have hV_ef13 : Hid (X_ef13.heap[bv]? = some (spCells p q false)) := by rw [hX_ef13]; exact alloc_old hV_ef3.out
                have hS_ef13 : Hid (X_ef13.heap[w2.heap.size]? = some (spCells s0 s1 s2)) := by rw [hX_ef13]; exact alloc_old hS_ef3.out
                have hR_ef13 : Hid (X_ef13.heap[w.heap.size]? = some (spCells 0 0 false)) := by rw [hX_ef13]; exact alloc_old hR_ef3.out
                have hZ_ef13 : Hid (X_ef13.heap[v_ef3.heap.size]? = some (spCells 0 0 false)) := by rw [hX_ef13]; exact cells_new _ _
                have hB_ef13 : Hid (Below w.heap.size w X_ef13) := by rw [hX_ef13]; exact hB_ef3.out.alloc hB_ef3.out.size _
                have hzl_ef13 := hB_ef3.out.size
                have hzn_ef13_0 := heap_lt hV_ef3.out
                have hzn_ef13_1 := heap_lt hS_ef3.out
                have hzn_ef13_2 := heap_lt hR_ef3.out
                clear hX_ef13 hV_ef3 hS_ef3 hR_ef3 hB_ef3
                refine hK.out _ _ (fun _ => ⟨cell_of_block (o := 0) hV_ef13.out rfl, cell_of_block (o := 1) hV_ef13.out rfl, cell_of_block (o := 2) hV_ef13.out rfl⟩) ?_
                clear hK K
                try simp only [Act.put, List.setIfInBounds_toArray, List.set_cons_zero, List.set_cons_succ]
                refine wpAnyE_one (i := 5) (by kernel_rfl) rfl (fun K hK => ?_)
                go_simp
                refine (AD.out _ _ _ _ _ _ _ hokV cok).mono ?_
                rintro e v_ef14 ⟨d0, d1, d2, rfl, dok, hv_ef14⟩
                have hd_ef14 := hv_ef14
                have hV_ef14 := hideq ((hd_ef14.block _ (heap_lt hV_ef13.out)).trans hV_ef13.out)
                have hS_ef14 := hideq ((hd_ef14.block _ (heap_lt hS_ef13.out)).trans hS_ef13.out)
                have hR_ef14 := hideq ((hd_ef14.block _ (heap_lt hR_ef13.out)).trans hR_ef13.out)
                have hZ_ef14 := hideq ((hd_ef14.block _ (heap_lt hZ_ef13.out)).trans hZ_ef13.out)
                have hB_ef14 := hideq (hB_ef13.out.trans (hd_ef14.mono hB_ef13.out.size))
                clear hv_ef14 hd_ef14 hV_ef13 hS_ef13 hR_ef13 hZ_ef13 hB_ef13
                go_wp2_with fail
                refine hK.out _ _ (fun _ => ⟨cell_of_block (o := 0) hV_ef14.out rfl, cell_of_block (o := 1) hV_ef14.out rfl, cell_of_block (o := 2) hV_ef14.out rfl⟩) ?_
                clear hK K
                try simp only [Act.put, List.setIfInBounds_toArray, List.set_cons_zero, List.set_cons_succ]
                refine wpAnyE_one (i := 6) (by kernel_rfl) rfl (fun K hK => ?_)
                go_simp
                refine (OV.out _ _ _ _ dok).mono ?_
                rintro e v_ef15 ⟨f0, f1, f2, rfl, fok, hv_ef15⟩
                have hd_ef15 := hv_ef15
                have hV_ef15 := hideq ((hd_ef15.block _ (heap_lt hV_ef14.out)).trans hV_ef14.out)
                have hS_ef15 := hideq ((hd_ef15.block _ (heap_lt hS_ef14.out)).trans hS_ef14.out)
                have hR_ef15 := hideq ((hd_ef15.block _ (heap_lt hR_ef14.out)).trans hR_ef14.out)
                have hZ_ef15 := hideq ((hd_ef15.block _ (heap_lt hZ_ef14.out)).trans hZ_ef14.out)
                have hB_ef15 := hideq (hB_ef14.out.trans (hd_ef15.mono hB_ef14.out.size))
                clear hv_ef15 hd_ef15 hV_ef14 hS_ef14 hR_ef14 hZ_ef14 hB_ef14
                go_wp2_with fail
                refine hK.out _ _ (fun _ => ⟨cell_of_block (o := 0) hV_ef15.out rfl, cell_of_block (o := 1) hV_ef15.out rfl, cell_of_block (o := 2) hV_ef15.out rfl⟩) ?_
                clear hK K
                try simp only [Act.put, List.setIfInBounds_toArray, List.set_cons_zero, List.set_cons_succ]
                refine wpAnyE_one (i := 7) (by kernel_rfl) rfl (fun K hK => ?_)
                go_simp
                refine (M.out _ _ _ _ _ _ _ bok fok).mono ?_
                rintro e v_ef16 ⟨g0, g1, g2, rfl, gok, hv_ef16⟩
                have hd_ef16 := hv_ef16
                have hV_ef16 := hideq ((hd_ef16.block _ (heap_lt hV_ef15.out)).trans hV_ef15.out)
                have hS_ef16 := hideq ((hd_ef16.block _ (heap_lt hS_ef15.out)).trans hS_ef15.out)
                have hR_ef16 := hideq ((hd_ef16.block _ (heap_lt hR_ef15.out)).trans hR_ef15.out)
                have hZ_ef16 := hideq ((hd_ef16.block _ (heap_lt hZ_ef15.out)).trans hZ_ef15.out)
                have hB_ef16 := hideq (hB_ef15.out.trans (hd_ef16.mono hB_ef15.out.size))
                clear hv_ef16 hd_ef16 hV_ef15 hS_ef15 hR_ef15 hZ_ef15 hB_ef15
                go_wp2_with fail
                refine hK.out _ _ (fun _ => ⟨cell_of_block (o := 0) hV_ef16.out rfl, cell_of_block (o := 1) hV_ef16.out rfl, cell_of_block (o := 2) hV_ef16.out rfl⟩) ?_
                clear hK K
                try simp only [Act.put, List.setIfInBounds_toArray, List.set_cons_zero, List.set_cons_succ]
                have zc0 := cell_of_block (o := 0) hZ_ef16.out rfl
                have zf0 := frozen_of_block (o := 0) hZ_ef16.out
                have zc1 := cell_of_block (o := 1) hZ_ef16.out rfl
                have zf1 := frozen_of_block (o := 1) hZ_ef16.out
                have zc2 := cell_of_block (o := 2) hZ_ef16.out rfl
                have zf2 := frozen_of_block (o := 2) hZ_ef16.out
                refine wpAnyE_one (i := 9) (by kernel_rfl) rfl (fun K hK => ?_)
                go_simp
                refine hK.out _ _ (fun h => absurd h (by decide)) ?_
                clear hK K
                refine wpAnyE_done (by kernel_rfl) ?_ _
                obtain ⟨Y, hY⟩ : ∃ Y, Y = (((v_ef16.setCell ⟨v_ef3.heap.size, 0, none⟩ (.int .i64 g0)).setCell ⟨v_ef3.heap.size, 1, none⟩ (.int .i64 g1)).setCell ⟨v_ef3.heap.size, 2, none⟩ (.bool g2)) := ⟨_, rfl⟩
                rw [← hY]
                have hSY : Y.heap[w2.heap.size]? = some (spCells s0 s1 s2) := by rw [hY, show ((((v_ef16.setCell ⟨v_ef3.heap.size, 0, none⟩ (.int .i64 g0)).setCell ⟨v_ef3.heap.size, 1, none⟩ (.int .i64 g1)).setCell ⟨v_ef3.heap.size, 2, none⟩ (.bool g2)) : World) = put3 v_ef16 (v_ef3.heap.size) g0 g1 g2 from rfl, put3_other (by omega)]; exact hS_ef16.out
                have hRY : Y.heap[w.heap.size]? = some (spCells 0 0 false) := by rw [hY, show ((((v_ef16.setCell ⟨v_ef3.heap.size, 0, none⟩ (.int .i64 g0)).setCell ⟨v_ef3.heap.size, 1, none⟩ (.int .i64 g1)).setCell ⟨v_ef3.heap.size, 2, none⟩ (.bool g2)) : World) = put3 v_ef16 (v_ef3.heap.size) g0 g1 g2 from rfl, put3_other (by omega)]; exact hR_ef16.out
                have hZY : Y.heap[v_ef3.heap.size]? = some (spCells g0 g1 g2) := hY ▸ put3_same hZ_ef16.out g0 g1 g2
                have hBY : Below w.heap.size w Y := hY ▸ set3_below hB_ef16.out (by omega) g0 g1 g2
                clear hY zc0 zc1 zc2 zf0 zf1 zf2 aok bok cok dok fok hV_ef16 hS_ef16 hR_ef16 hZ_ef16 hB_ef16
                have ys0 := cell_of_block (o := 0) hSY rfl
                have ys1 := cell_of_block (o := 1) hSY rfl
                have ys2 := cell_of_block (o := 2) hSY rfl
                have yz0 := cell_of_block (o := 0) hZY rfl
                have yz1 := cell_of_block (o := 1) hZY rfl
                have yz2 := cell_of_block (o := 2) hZY rfl
                go_wp2_with fail
                refine wp_region_E (fun w' : World => w'.cell? ⟨w2.heap.size, 0, none⟩ = some (.int .i64 s0) ∧ w'.cell? ⟨w2.heap.size, 1, none⟩ = some (.int .i64 s1) ∧ w'.cell? ⟨w2.heap.size, 2, none⟩ = some (.bool s2) ∧ w'.cell? ⟨v_ef3.heap.size, 0, none⟩ = some (.int .i64 g0) ∧ w'.cell? ⟨v_ef3.heap.size, 1, none⟩ = some (.int .i64 g1) ∧ w'.cell? ⟨v_ef3.heap.size, 2, none⟩ = some (.bool g2)) (fun i => !(i == 6)) (by kernel_rfl) ?_
                have hSh : Shut ((fun w' : World => w'.cell? ⟨w2.heap.size, 0, none⟩ = some (.int .i64 s0) ∧ w'.cell? ⟨w2.heap.size, 1, none⟩ = some (.int .i64 s1) ∧ w'.cell? ⟨w2.heap.size, 2, none⟩ = some (.bool s2) ∧ w'.cell? ⟨v_ef3.heap.size, 0, none⟩ = some (.int .i64 g0) ∧ w'.cell? ⟨v_ef3.heap.size, 1, none⟩ = some (.int .i64 g1) ∧ w'.cell? ⟨v_ef3.heap.size, 2, none⟩ = some (.bool g2)) Y.drew) := ⟨ys0, ys1, ys2, yz0, yz1, yz2⟩
                refine wpAnyE_take (i := 0) (v := ?vzef160) rfl (by kernel_rfl) (by kernel_rfl) (by kernel_rfl) (by kernel_rfl) (fun _ _ _ h => h) (Or.inl ⟨by rfl, ?yzef160⟩) hSh.out ?rzef160
                case yzef160 =>
                  intro w hSw
                  try dsimp only at hSw
                  go_simp
                  try with_reducible rfl
                try simp only [Act.put, List.setIfInBounds_toArray, List.set_cons_zero, List.set_cons_succ]
                refine wpAnyE_take (i := 2) (v := ?vzef162) rfl (by kernel_rfl) (by kernel_rfl) (by kernel_rfl) (by kernel_rfl) (fun _ _ _ h => h) (Or.inl ⟨by rfl, ?yzef162⟩) hSh.out ?rzef162
                case yzef162 =>
                  intro w hSw
                  try dsimp only at hSw
                  go_simp
                  try with_reducible rfl
                try simp only [Act.put, List.setIfInBounds_toArray, List.set_cons_zero, List.set_cons_succ]
                clear hSh
                refine wpAnyE_one (i := 1) (by kernel_rfl) rfl (fun K hK => ?_)
                go_simp
                refine ((O.out _ _ _).mono (fun _ _ h => OfPost.sp (by decide) h)).mono ?_
                rintro e u1 ⟨m0, m1, m2, rfl, mok, hu1⟩
                have hdu := undrewS hu1
                have hS1 := (hdu.block _ (heap_lt hSY)).trans hSY
                have hZ1 := (hdu.block _ (heap_lt hZY)).trans hZY
                have hR1 := (hdu.block _ (heap_lt hRY)).trans hRY
                clear hu1
                go_wp2_with fail
                refine hK.out _ _ (fun _ => ⟨cell_of_block (o := 0) hS1 rfl, cell_of_block (o := 1) hS1 rfl, cell_of_block (o := 2) hS1 rfl, cell_of_block (o := 0) hZ1 rfl, cell_of_block (o := 1) hZ1 rfl, cell_of_block (o := 2) hZ1 rfl⟩) ?_
                clear hK K
                try simp only [Act.put, List.setIfInBounds_toArray, List.set_cons_zero, List.set_cons_succ]
                refine wpAnyE_one (i := 3) (by kernel_rfl) rfl (fun K hK => ?_)
                go_simp
                refine (OD.out _ _ _ _ _ gok).mono ?_
                rintro e u2 ⟨o0, o1, o2, rfl, ook, hu2⟩
                have hS2 := (hu2.block _ (heap_lt hS1)).trans hS1
                have hZ2 := (hu2.block _ (heap_lt hZ1)).trans hZ1
                have hR2 := (hu2.block _ (heap_lt hR1)).trans hR1
                go_wp2_with fail
                refine hK.out _ _ (fun _ => ⟨cell_of_block (o := 0) hS2 rfl, cell_of_block (o := 1) hS2 rfl, cell_of_block (o := 2) hS2 rfl, cell_of_block (o := 0) hZ2 rfl, cell_of_block (o := 1) hZ2 rfl, cell_of_block (o := 2) hZ2 rfl⟩) ?_
                clear hK K
                try simp only [Act.put, List.setIfInBounds_toArray, List.set_cons_zero, List.set_cons_succ]
                refine wpAnyE_one (i := 4) (by kernel_rfl) rfl (fun K hK => ?_)
                go_simp
                refine (M.out _ _ _ _ _ _ _ mok ook).mono ?_
                rintro e u3 ⟨l0, l1, l2, rfl, lok, hu3⟩
                have hS3 := (hu3.block _ (heap_lt hS2)).trans hS2
                have hZ3 := (hu3.block _ (heap_lt hZ2)).trans hZ2
                have hR3 := (hu3.block _ (heap_lt hR2)).trans hR2
                go_wp2_with fail
                refine hK.out _ _ (fun _ => ⟨cell_of_block (o := 0) hS3 rfl, cell_of_block (o := 1) hS3 rfl, cell_of_block (o := 2) hS3 rfl, cell_of_block (o := 0) hZ3 rfl, cell_of_block (o := 1) hZ3 rfl, cell_of_block (o := 2) hZ3 rfl⟩) ?_
                clear hK K
                try simp only [Act.put, List.setIfInBounds_toArray, List.set_cons_zero, List.set_cons_succ]
                refine wpAnyE_one (i := 5) (by kernel_rfl) rfl (fun K hK => ?_)
                go_simp
                refine (AD.out _ _ _ _ _ _ _ hokS lok).mono ?_
                rintro e u4 ⟨k0, k1, k2, rfl, kok, hu4⟩
                have hS4 := (hu4.block _ (heap_lt hS3)).trans hS3
                have hZ4 := (hu4.block _ (heap_lt hZ3)).trans hZ3
                have hR4 := (hu4.block _ (heap_lt hR3)).trans hR3
                have rr0 := cell_of_block (o := 0) hR4 rfl
                have rr1 := cell_of_block (o := 1) hR4 rfl
                have rr2 := cell_of_block (o := 2) hR4 rfl
                have rg0 := frozen_of_block (o := 0) hR4
                have rg1 := frozen_of_block (o := 1) hR4
                have rg2 := frozen_of_block (o := 2) hR4
                go_wp2_with fail
                refine hK.out _ _ (fun _ => ⟨cell_of_block (o := 0) hS4 rfl, cell_of_block (o := 1) hS4 rfl, cell_of_block (o := 2) hS4 rfl, cell_of_block (o := 0) hZ4 rfl, cell_of_block (o := 1) hZ4 rfl, cell_of_block (o := 2) hZ4 rfl⟩) ?_
                clear hK K
                try simp only [Act.put, List.setIfInBounds_toArray, List.set_cons_zero, List.set_cons_succ]
                refine wpAnyE_one (i := 6) (by kernel_rfl) rfl (fun K hK => ?_)
                go_simp
                refine hK.out _ _ (fun h => absurd h (by decide)) ?_
                clear hK K
                refine wpAnyE_done (by kernel_rfl) ?_ _
                have Q := hideq (set3 hR4 k0 k1 k2)
                have HBt := hideq (set3_below (hBY.trans ((hdu.trans (Below.mono (hu2.trans (Below.mono (hu3.trans (hu4.mono hu3.size)) hu2.size)) hdu.size)).mono hBY.size)) (Nat.le_refl _) k0 k1 k2)
                have HOK := hideq kok
                clear hdu hu2 hu3 hu4 hS1 hS2 hS3 hS4 hZ1 hZ2 hZ3 hZ4 hR1 hR2 hR3 hR4
                go_wp2_with fail
                obtain ⟨q0, q1, q2⟩ := Q.out
                refine bodyPost_ret (v := sv k0 k1 k2) (by simp [results, Tryd.results33, go_sem, q0, q1, q2]) rfl ?_
                exact ⟨k0, k1, k2, rfl, HOK.out, HBt.out⟩
            · skip
              go_simp
              obtain ⟨X_ef17, hX_ef17⟩ : ∃ X, X = (v_ef2.alloc (.cells #[.int .i64 0, .int .i64 0, .bool false] 37)) := ⟨_, rfl⟩
              rw [← hX_ef17]
              have hV_ef17 : Hid (X_ef17.heap[bv]? = some (spCells p q false)) := by rw [hX_ef17]; exact alloc_old hV_ef2.out
              have hS_ef17 : Hid (X_ef17.heap[w2.heap.size]? = some (spCells s0 s1 s2)) := by rw [hX_ef17]; exact alloc_old hS_ef2.out
              have hR_ef17 : Hid (X_ef17.heap[w.heap.size]? = some (spCells 0 0 false)) := by rw [hX_ef17]; exact alloc_old hR_ef2.out
              have hZ_ef17 : Hid (X_ef17.heap[v_ef2.heap.size]? = some (spCells 0 0 false)) := by rw [hX_ef17]; exact cells_new _ _
              have hB_ef17 : Hid (Below w.heap.size w X_ef17) := by rw [hX_ef17]; exact hB_ef2.out.alloc hB_ef2.out.size _
              have hzl_ef17 := hB_ef2.out.size
              have hzn_ef17_0 := heap_lt hV_ef2.out
              have hzn_ef17_1 := heap_lt hS_ef2.out
              have hzn_ef17_2 := heap_lt hR_ef2.out
              clear hX_ef17 hV_ef2 hS_ef2 hR_ef2 hB_ef2
              refine hK.out _ _ (fun _ => ⟨cell_of_block (o := 0) hV_ef17.out rfl, cell_of_block (o := 1) hV_ef17.out rfl, cell_of_block (o := 2) hV_ef17.out rfl⟩) ?_
              clear hK K
              try simp only [Act.put, List.setIfInBounds_toArray, List.set_cons_zero, List.set_cons_succ]
              refine wpAnyE_one (i := 4) (by kernel_rfl) rfl (fun K hK => ?_)
              go_simp
              refine ((O.out _ _ _).mono (fun _ _ h => OfPost.sp (by decide) h)).mono ?_
              rintro e v_ef18 ⟨c0, c1, c2, rfl, cok, hv_ef18⟩
              have hd_ef18 := hv_ef18
              have hV_ef18 := hideq ((hd_ef18.block _ (heap_lt hV_ef17.out)).trans hV_ef17.out)
              have hS_ef18 := hideq ((hd_ef18.block _ (heap_lt hS_ef17.out)).trans hS_ef17.out)
              have hR_ef18 := hideq ((hd_ef18.block _ (heap_lt hR_ef17.out)).trans hR_ef17.out)
              have hZ_ef18 := hideq ((hd_ef18.block _ (heap_lt hZ_ef17.out)).trans hZ_ef17.out)
              have hB_ef18 := hideq (hB_ef17.out.trans (hd_ef18.mono hB_ef17.out.size))
              clear hv_ef18 hd_ef18 hV_ef17 hS_ef17 hR_ef17 hZ_ef17 hB_ef17
              go_wp2_with fail
              refine hK.out _ _ (fun _ => ⟨cell_of_block (o := 0) hV_ef18.out rfl, cell_of_block (o := 1) hV_ef18.out rfl, cell_of_block (o := 2) hV_ef18.out rfl⟩) ?_
              clear hK K
              try simp only [Act.put, List.setIfInBounds_toArray, List.set_cons_zero, List.set_cons_succ]
              refine wpAnyE_one (i := 5) (by kernel_rfl) rfl (fun K hK => ?_)
              go_simp
              refine (AD.out _ _ _ _ _ _ _ hokV cok).mono ?_
              rintro e v_ef19 ⟨d0, d1, d2, rfl, dok, hv_ef19⟩
              have hd_ef19 := hv_ef19
              have hV_ef19 := hideq ((hd_ef19.block _ (heap_lt hV_ef18.out)).trans hV_ef18.out)
              have hS_ef19 := hideq ((hd_ef19.block _ (heap_lt hS_ef18.out)).trans hS_ef18.out)
              have hR_ef19 := hideq ((hd_ef19.block _ (heap_lt hR_ef18.out)).trans hR_ef18.out)
              have hZ_ef19 := hideq ((hd_ef19.block _ (heap_lt hZ_ef18.out)).trans hZ_ef18.out)
              have hB_ef19 := hideq (hB_ef18.out.trans (hd_ef19.mono hB_ef18.out.size))
              clear hv_ef19 hd_ef19 hV_ef18 hS_ef18 hR_ef18 hZ_ef18 hB_ef18
              go_wp2_with fail
              refine hK.out _ _ (fun _ => ⟨cell_of_block (o := 0) hV_ef19.out rfl, cell_of_block (o := 1) hV_ef19.out rfl, cell_of_block (o := 2) hV_ef19.out rfl⟩) ?_
              clear hK K
              try simp only [Act.put, List.setIfInBounds_toArray, List.set_cons_zero, List.set_cons_succ]
              refine wpAnyE_one (i := 6) (by kernel_rfl) rfl (fun K hK => ?_)
              go_simp
              refine (OV.out _ _ _ _ dok).mono ?_
              rintro e v_ef20 ⟨f0, f1, f2, rfl, fok, hv_ef20⟩
              have hd_ef20 := hv_ef20
              have hV_ef20 := hideq ((hd_ef20.block _ (heap_lt hV_ef19.out)).trans hV_ef19.out)
              have hS_ef20 := hideq ((hd_ef20.block _ (heap_lt hS_ef19.out)).trans hS_ef19.out)
              have hR_ef20 := hideq ((hd_ef20.block _ (heap_lt hR_ef19.out)).trans hR_ef19.out)
              have hZ_ef20 := hideq ((hd_ef20.block _ (heap_lt hZ_ef19.out)).trans hZ_ef19.out)
              have hB_ef20 := hideq (hB_ef19.out.trans (hd_ef20.mono hB_ef19.out.size))
              clear hv_ef20 hd_ef20 hV_ef19 hS_ef19 hR_ef19 hZ_ef19 hB_ef19
              go_wp2_with fail
              refine hK.out _ _ (fun _ => ⟨cell_of_block (o := 0) hV_ef20.out rfl, cell_of_block (o := 1) hV_ef20.out rfl, cell_of_block (o := 2) hV_ef20.out rfl⟩) ?_
              clear hK K
              try simp only [Act.put, List.setIfInBounds_toArray, List.set_cons_zero, List.set_cons_succ]
              refine wpAnyE_one (i := 7) (by kernel_rfl) rfl (fun K hK => ?_)
              go_simp
              refine (M.out _ _ _ _ _ _ _ bok fok).mono ?_
              rintro e v_ef21 ⟨g0, g1, g2, rfl, gok, hv_ef21⟩
              have hd_ef21 := hv_ef21
              have hV_ef21 := hideq ((hd_ef21.block _ (heap_lt hV_ef20.out)).trans hV_ef20.out)
              have hS_ef21 := hideq ((hd_ef21.block _ (heap_lt hS_ef20.out)).trans hS_ef20.out)
              have hR_ef21 := hideq ((hd_ef21.block _ (heap_lt hR_ef20.out)).trans hR_ef20.out)
              have hZ_ef21 := hideq ((hd_ef21.block _ (heap_lt hZ_ef20.out)).trans hZ_ef20.out)
              have hB_ef21 := hideq (hB_ef20.out.trans (hd_ef21.mono hB_ef20.out.size))
              clear hv_ef21 hd_ef21 hV_ef20 hS_ef20 hR_ef20 hZ_ef20 hB_ef20
              go_wp2_with fail
              refine hK.out _ _ (fun _ => ⟨cell_of_block (o := 0) hV_ef21.out rfl, cell_of_block (o := 1) hV_ef21.out rfl, cell_of_block (o := 2) hV_ef21.out rfl⟩) ?_
              clear hK K
              try simp only [Act.put, List.setIfInBounds_toArray, List.set_cons_zero, List.set_cons_succ]
              have zc0 := cell_of_block (o := 0) hZ_ef21.out rfl
              have zf0 := frozen_of_block (o := 0) hZ_ef21.out
              have zc1 := cell_of_block (o := 1) hZ_ef21.out rfl
              have zf1 := frozen_of_block (o := 1) hZ_ef21.out
              have zc2 := cell_of_block (o := 2) hZ_ef21.out rfl
              have zf2 := frozen_of_block (o := 2) hZ_ef21.out
              refine wpAnyE_one (i := 9) (by kernel_rfl) rfl (fun K hK => ?_)
              go_simp
              refine hK.out _ _ (fun h => absurd h (by decide)) ?_
              clear hK K
              refine wpAnyE_done (by kernel_rfl) ?_ _
              obtain ⟨Y, hY⟩ : ∃ Y, Y = (((v_ef21.setCell ⟨v_ef2.heap.size, 0, none⟩ (.int .i64 g0)).setCell ⟨v_ef2.heap.size, 1, none⟩ (.int .i64 g1)).setCell ⟨v_ef2.heap.size, 2, none⟩ (.bool g2)) := ⟨_, rfl⟩
              rw [← hY]
              have hSY : Y.heap[w2.heap.size]? = some (spCells s0 s1 s2) := by rw [hY, show ((((v_ef21.setCell ⟨v_ef2.heap.size, 0, none⟩ (.int .i64 g0)).setCell ⟨v_ef2.heap.size, 1, none⟩ (.int .i64 g1)).setCell ⟨v_ef2.heap.size, 2, none⟩ (.bool g2)) : World) = put3 v_ef21 (v_ef2.heap.size) g0 g1 g2 from rfl, put3_other (by omega)]; exact hS_ef21.out
              have hRY : Y.heap[w.heap.size]? = some (spCells 0 0 false) := by rw [hY, show ((((v_ef21.setCell ⟨v_ef2.heap.size, 0, none⟩ (.int .i64 g0)).setCell ⟨v_ef2.heap.size, 1, none⟩ (.int .i64 g1)).setCell ⟨v_ef2.heap.size, 2, none⟩ (.bool g2)) : World) = put3 v_ef21 (v_ef2.heap.size) g0 g1 g2 from rfl, put3_other (by omega)]; exact hR_ef21.out
              have hZY : Y.heap[v_ef2.heap.size]? = some (spCells g0 g1 g2) := hY ▸ put3_same hZ_ef21.out g0 g1 g2
              have hBY : Below w.heap.size w Y := hY ▸ set3_below hB_ef21.out (by omega) g0 g1 g2
              clear hY zc0 zc1 zc2 zf0 zf1 zf2 aok bok cok dok fok hV_ef21 hS_ef21 hR_ef21 hZ_ef21 hB_ef21
              have ys0 := cell_of_block (o := 0) hSY rfl
              have ys1 := cell_of_block (o := 1) hSY rfl
              have ys2 := cell_of_block (o := 2) hSY rfl
              have yz0 := cell_of_block (o := 0) hZY rfl
              have yz1 := cell_of_block (o := 1) hZY rfl
              have yz2 := cell_of_block (o := 2) hZY rfl
              go_wp2_with fail
              refine wp_region_E (fun w' : World => w'.cell? ⟨w2.heap.size, 0, none⟩ = some (.int .i64 s0) ∧ w'.cell? ⟨w2.heap.size, 1, none⟩ = some (.int .i64 s1) ∧ w'.cell? ⟨w2.heap.size, 2, none⟩ = some (.bool s2) ∧ w'.cell? ⟨v_ef2.heap.size, 0, none⟩ = some (.int .i64 g0) ∧ w'.cell? ⟨v_ef2.heap.size, 1, none⟩ = some (.int .i64 g1) ∧ w'.cell? ⟨v_ef2.heap.size, 2, none⟩ = some (.bool g2)) (fun i => !(i == 6)) (by kernel_rfl) ?_
              have hSh : Shut ((fun w' : World => w'.cell? ⟨w2.heap.size, 0, none⟩ = some (.int .i64 s0) ∧ w'.cell? ⟨w2.heap.size, 1, none⟩ = some (.int .i64 s1) ∧ w'.cell? ⟨w2.heap.size, 2, none⟩ = some (.bool s2) ∧ w'.cell? ⟨v_ef2.heap.size, 0, none⟩ = some (.int .i64 g0) ∧ w'.cell? ⟨v_ef2.heap.size, 1, none⟩ = some (.int .i64 g1) ∧ w'.cell? ⟨v_ef2.heap.size, 2, none⟩ = some (.bool g2)) Y.drew) := ⟨ys0, ys1, ys2, yz0, yz1, yz2⟩
              refine wpAnyE_take (i := 0) (v := ?vzef210) rfl (by kernel_rfl) (by kernel_rfl) (by kernel_rfl) (by kernel_rfl) (fun _ _ _ h => h) (Or.inl ⟨by rfl, ?yzef210⟩) hSh.out ?rzef210
              case yzef210 =>
                intro w hSw
                try dsimp only at hSw
                go_simp
                try with_reducible rfl
              try simp only [Act.put, List.setIfInBounds_toArray, List.set_cons_zero, List.set_cons_succ]
              refine wpAnyE_take (i := 2) (v := ?vzef212) rfl (by kernel_rfl) (by kernel_rfl) (by kernel_rfl) (by kernel_rfl) (fun _ _ _ h => h) (Or.inl ⟨by rfl, ?yzef212⟩) hSh.out ?rzef212
              case yzef212 =>
                intro w hSw
                try dsimp only at hSw
                go_simp
                try with_reducible rfl
              try simp only [Act.put, List.setIfInBounds_toArray, List.set_cons_zero, List.set_cons_succ]
              clear hSh
              refine wpAnyE_one (i := 1) (by kernel_rfl) rfl (fun K hK => ?_)
              go_simp
              refine ((O.out _ _ _).mono (fun _ _ h => OfPost.sp (by decide) h)).mono ?_
              rintro e u1 ⟨m0, m1, m2, rfl, mok, hu1⟩
              have hdu := undrewS hu1
              have hS1 := (hdu.block _ (heap_lt hSY)).trans hSY
              have hZ1 := (hdu.block _ (heap_lt hZY)).trans hZY
              have hR1 := (hdu.block _ (heap_lt hRY)).trans hRY
              clear hu1
              go_wp2_with fail
              refine hK.out _ _ (fun _ => ⟨cell_of_block (o := 0) hS1 rfl, cell_of_block (o := 1) hS1 rfl, cell_of_block (o := 2) hS1 rfl, cell_of_block (o := 0) hZ1 rfl, cell_of_block (o := 1) hZ1 rfl, cell_of_block (o := 2) hZ1 rfl⟩) ?_
              clear hK K
              try simp only [Act.put, List.setIfInBounds_toArray, List.set_cons_zero, List.set_cons_succ]
              refine wpAnyE_one (i := 3) (by kernel_rfl) rfl (fun K hK => ?_)
              go_simp
              refine (OD.out _ _ _ _ _ gok).mono ?_
              rintro e u2 ⟨o0, o1, o2, rfl, ook, hu2⟩
              have hS2 := (hu2.block _ (heap_lt hS1)).trans hS1
              have hZ2 := (hu2.block _ (heap_lt hZ1)).trans hZ1
              have hR2 := (hu2.block _ (heap_lt hR1)).trans hR1
              go_wp2_with fail
              refine hK.out _ _ (fun _ => ⟨cell_of_block (o := 0) hS2 rfl, cell_of_block (o := 1) hS2 rfl, cell_of_block (o := 2) hS2 rfl, cell_of_block (o := 0) hZ2 rfl, cell_of_block (o := 1) hZ2 rfl, cell_of_block (o := 2) hZ2 rfl⟩) ?_
              clear hK K
              try simp only [Act.put, List.setIfInBounds_toArray, List.set_cons_zero, List.set_cons_succ]
              refine wpAnyE_one (i := 4) (by kernel_rfl) rfl (fun K hK => ?_)
              go_simp
              refine (M.out _ _ _ _ _ _ _ mok ook).mono ?_
              rintro e u3 ⟨l0, l1, l2, rfl, lok, hu3⟩
              have hS3 := (hu3.block _ (heap_lt hS2)).trans hS2
              have hZ3 := (hu3.block _ (heap_lt hZ2)).trans hZ2
              have hR3 := (hu3.block _ (heap_lt hR2)).trans hR2
              go_wp2_with fail
              refine hK.out _ _ (fun _ => ⟨cell_of_block (o := 0) hS3 rfl, cell_of_block (o := 1) hS3 rfl, cell_of_block (o := 2) hS3 rfl, cell_of_block (o := 0) hZ3 rfl, cell_of_block (o := 1) hZ3 rfl, cell_of_block (o := 2) hZ3 rfl⟩) ?_
              clear hK K
              try simp only [Act.put, List.setIfInBounds_toArray, List.set_cons_zero, List.set_cons_succ]
              refine wpAnyE_one (i := 5) (by kernel_rfl) rfl (fun K hK => ?_)
              go_simp
              refine (AD.out _ _ _ _ _ _ _ hokS lok).mono ?_
              rintro e u4 ⟨k0, k1, k2, rfl, kok, hu4⟩
              have hS4 := (hu4.block _ (heap_lt hS3)).trans hS3
              have hZ4 := (hu4.block _ (heap_lt hZ3)).trans hZ3
              have hR4 := (hu4.block _ (heap_lt hR3)).trans hR3
              have rr0 := cell_of_block (o := 0) hR4 rfl
              have rr1 := cell_of_block (o := 1) hR4 rfl
              have rr2 := cell_of_block (o := 2) hR4 rfl
              have rg0 := frozen_of_block (o := 0) hR4
              have rg1 := frozen_of_block (o := 1) hR4
              have rg2 := frozen_of_block (o := 2) hR4
              go_wp2_with fail
              refine hK.out _ _ (fun _ => ⟨cell_of_block (o := 0) hS4 rfl, cell_of_block (o := 1) hS4 rfl, cell_of_block (o := 2) hS4 rfl, cell_of_block (o := 0) hZ4 rfl, cell_of_block (o := 1) hZ4 rfl, cell_of_block (o := 2) hZ4 rfl⟩) ?_
              clear hK K
              try simp only [Act.put, List.setIfInBounds_toArray, List.set_cons_zero, List.set_cons_succ]
              refine wpAnyE_one (i := 6) (by kernel_rfl) rfl (fun K hK => ?_)
              go_simp
              refine hK.out _ _ (fun h => absurd h (by decide)) ?_
              clear hK K
              refine wpAnyE_done (by kernel_rfl) ?_ _
              have Q := hideq (set3 hR4 k0 k1 k2)
              have HBt := hideq (set3_below (hBY.trans ((hdu.trans (Below.mono (hu2.trans (Below.mono (hu3.trans (hu4.mono hu3.size)) hu2.size)) hdu.size)).mono hBY.size)) (Nat.le_refl _) k0 k1 k2)
              have HOK := hideq kok
              clear hdu hu2 hu3 hu4 hS1 hS2 hS3 hS4 hZ1 hZ2 hZ3 hZ4 hR1 hR2 hR3 hR4
              go_wp2_with fail
              obtain ⟨q0, q1, q2⟩ := Q.out
              refine bodyPost_ret (v := sv k0 k1 k2) (by simp [results, Tryd.results33, go_sem, q0, q1, q2]) rfl ?_
              exact ⟨k0, k1, k2, rfl, HOK.out, HBt.out⟩
          · skip
            go_simp
            obtain ⟨X_ef22, hX_ef22⟩ : ∃ X, X = (v_ef1.alloc (.cells #[.int .i64 0, .int .i64 0, .bool false] 37)) := ⟨_, rfl⟩
            rw [← hX_ef22]
            have hV_ef22 : Hid (X_ef22.heap[bv]? = some (spCells p q false)) := by rw [hX_ef22]; exact alloc_old hV_ef1.out
            have hS_ef22 : Hid (X_ef22.heap[w2.heap.size]? = some (spCells s0 s1 s2)) := by rw [hX_ef22]; exact alloc_old hS_ef1.out
            have hR_ef22 : Hid (X_ef22.heap[w.heap.size]? = some (spCells 0 0 false)) := by rw [hX_ef22]; exact alloc_old hR_ef1.out
            have hZ_ef22 : Hid (X_ef22.heap[v_ef1.heap.size]? = some (spCells 0 0 false)) := by rw [hX_ef22]; exact cells_new _ _
            have hB_ef22 : Hid (Below w.heap.size w X_ef22) := by rw [hX_ef22]; exact hB_ef1.out.alloc hB_ef1.out.size _
            have hzl_ef22 := hB_ef1.out.size
            have hzn_ef22_0 := heap_lt hV_ef1.out
            have hzn_ef22_1 := heap_lt hS_ef1.out
            have hzn_ef22_2 := heap_lt hR_ef1.out
            clear hX_ef22 hV_ef1 hS_ef1 hR_ef1 hB_ef1
            refine hK.out _ _ (fun _ => ⟨cell_of_block (o := 0) hV_ef22.out rfl, cell_of_block (o := 1) hV_ef22.out rfl, cell_of_block (o := 2) hV_ef22.out rfl⟩) ?_
            clear hK K
            try simp only [Act.put, List.setIfInBounds_toArray, List.set_cons_zero, List.set_cons_succ]
            refine wpAnyE_one (i := 2) (by kernel_rfl) rfl (fun K hK => ?_)
            go_simp
            refine (AD.out _ _ _ _ _ _ _ hokV aok).mono ?_
            rintro e v_ef23 ⟨b0, b1, b2, rfl, bok, hv_ef23⟩
            have hd_ef23 := hv_ef23
            have hV_ef23 := hideq ((hd_ef23.block _ (heap_lt hV_ef22.out)).trans hV_ef22.out)
            have hS_ef23 := hideq ((hd_ef23.block _ (heap_lt hS_ef22.out)).trans hS_ef22.out)
            have hR_ef23 := hideq ((hd_ef23.block _ (heap_lt hR_ef22.out)).trans hR_ef22.out)
            have hZ_ef23 := hideq ((hd_ef23.block _ (heap_lt hZ_ef22.out)).trans hZ_ef22.out)
            have hB_ef23 := hideq (hB_ef22.out.trans (hd_ef23.mono hB_ef22.out.size))
            clear hv_ef23 hd_ef23 hV_ef22 hS_ef22 hR_ef22 hZ_ef22 hB_ef22
            go_wp2_with fail
            refine hK.out _ _ (fun _ => ⟨cell_of_block (o := 0) hV_ef23.out rfl, cell_of_block (o := 1) hV_ef23.out rfl, cell_of_block (o := 2) hV_ef23.out rfl⟩) ?_
            clear hK K
            try simp only [Act.put, List.setIfInBounds_toArray, List.set_cons_zero, List.set_cons_succ]
            refine wpAnyE_one (i := 4) (by kernel_rfl) rfl (fun K hK => ?_)
            go_simp
            refine ((O.out _ _ _).mono (fun _ _ h => OfPost.sp (by decide) h)).mono ?_
            rintro e v_ef24 ⟨c0, c1, c2, rfl, cok, hv_ef24⟩
            have hd_ef24 := hv_ef24
            have hV_ef24 := hideq ((hd_ef24.block _ (heap_lt hV_ef23.out)).trans hV_ef23.out)
            have hS_ef24 := hideq ((hd_ef24.block _ (heap_lt hS_ef23.out)).trans hS_ef23.out)
            have hR_ef24 := hideq ((hd_ef24.block _ (heap_lt hR_ef23.out)).trans hR_ef23.out)
            have hZ_ef24 := hideq ((hd_ef24.block _ (heap_lt hZ_ef23.out)).trans hZ_ef23.out)
            have hB_ef24 := hideq (hB_ef23.out.trans (hd_ef24.mono hB_ef23.out.size))
            clear hv_ef24 hd_ef24 hV_ef23 hS_ef23 hR_ef23 hZ_ef23 hB_ef23
            go_wp2_with fail
            refine hK.out _ _ (fun _ => ⟨cell_of_block (o := 0) hV_ef24.out rfl, cell_of_block (o := 1) hV_ef24.out rfl, cell_of_block (o := 2) hV_ef24.out rfl⟩) ?_
            clear hK K
            try simp only [Act.put, List.setIfInBounds_toArray, List.set_cons_zero, List.set_cons_succ]
            refine wpAnyE_one (i := 5) (by kernel_rfl) rfl (fun K hK => ?_)
            go_simp
            refine (AD.out _ _ _ _ _ _ _ hokV cok).mono ?_
            rintro e v_ef25 ⟨d0, d1, d2, rfl, dok, hv_ef25⟩
            have hd_ef25 := hv_ef25
            have hV_ef25 := hideq ((hd_ef25.block _ (heap_lt hV_ef24.out)).trans hV_ef24.out)
            have hS_ef25 := hideq ((hd_ef25.block _ (heap_lt hS_ef24.out)).trans hS_ef24.out)
            have hR_ef25 := hideq ((hd_ef25.block _ (heap_lt hR_ef24.out)).trans hR_ef24.out)
            have hZ_ef25 := hideq ((hd_ef25.block _ (heap_lt hZ_ef24.out)).trans hZ_ef24.out)
            have hB_ef25 := hideq (hB_ef24.out.trans (hd_ef25.mono hB_ef24.out.size))
            clear hv_ef25 hd_ef25 hV_ef24 hS_ef24 hR_ef24 hZ_ef24 hB_ef24
            go_wp2_with fail
            refine hK.out _ _ (fun _ => ⟨cell_of_block (o := 0) hV_ef25.out rfl, cell_of_block (o := 1) hV_ef25.out rfl, cell_of_block (o := 2) hV_ef25.out rfl⟩) ?_
            clear hK K
            try simp only [Act.put, List.setIfInBounds_toArray, List.set_cons_zero, List.set_cons_succ]
            refine wpAnyE_one (i := 6) (by kernel_rfl) rfl (fun K hK => ?_)
            go_simp
            refine (OV.out _ _ _ _ dok).mono ?_
            rintro e v_ef26 ⟨f0, f1, f2, rfl, fok, hv_ef26⟩
            have hd_ef26 := hv_ef26
            have hV_ef26 := hideq ((hd_ef26.block _ (heap_lt hV_ef25.out)).trans hV_ef25.out)
            have hS_ef26 := hideq ((hd_ef26.block _ (heap_lt hS_ef25.out)).trans hS_ef25.out)
            have hR_ef26 := hideq ((hd_ef26.block _ (heap_lt hR_ef25.out)).trans hR_ef25.out)
            have hZ_ef26 := hideq ((hd_ef26.block _ (heap_lt hZ_ef25.out)).trans hZ_ef25.out)
            have hB_ef26 := hideq (hB_ef25.out.trans (hd_ef26.mono hB_ef25.out.size))
            clear hv_ef26 hd_ef26 hV_ef25 hS_ef25 hR_ef25 hZ_ef25 hB_ef25
            go_wp2_with fail
            refine hK.out _ _ (fun _ => ⟨cell_of_block (o := 0) hV_ef26.out rfl, cell_of_block (o := 1) hV_ef26.out rfl, cell_of_block (o := 2) hV_ef26.out rfl⟩) ?_
            clear hK K
            try simp only [Act.put, List.setIfInBounds_toArray, List.set_cons_zero, List.set_cons_succ]
            refine wpAnyE_one (i := 7) (by kernel_rfl) rfl (fun K hK => ?_)
            go_simp
            refine (M.out _ _ _ _ _ _ _ bok fok).mono ?_
            rintro e v_ef27 ⟨g0, g1, g2, rfl, gok, hv_ef27⟩
            have hd_ef27 := hv_ef27
            have hV_ef27 := hideq ((hd_ef27.block _ (heap_lt hV_ef26.out)).trans hV_ef26.out)
            have hS_ef27 := hideq ((hd_ef27.block _ (heap_lt hS_ef26.out)).trans hS_ef26.out)
            have hR_ef27 := hideq ((hd_ef27.block _ (heap_lt hR_ef26.out)).trans hR_ef26.out)
            have hZ_ef27 := hideq ((hd_ef27.block _ (heap_lt hZ_ef26.out)).trans hZ_ef26.out)
            have hB_ef27 := hideq (hB_ef26.out.trans (hd_ef27.mono hB_ef26.out.size))
            clear hv_ef27 hd_ef27 hV_ef26 hS_ef26 hR_ef26 hZ_ef26 hB_ef26
            go_wp2_with fail
            refine hK.out _ _ (fun _ => ⟨cell_of_block (o := 0) hV_ef27.out rfl, cell_of_block (o := 1) hV_ef27.out rfl, cell_of_block (o := 2) hV_ef27.out rfl⟩) ?_
            clear hK K
            try simp only [Act.put, List.setIfInBounds_toArray, List.set_cons_zero, List.set_cons_succ]
            have zc0 := cell_of_block (o := 0) hZ_ef27.out rfl
            have zf0 := frozen_of_block (o := 0) hZ_ef27.out
            have zc1 := cell_of_block (o := 1) hZ_ef27.out rfl
            have zf1 := frozen_of_block (o := 1) hZ_ef27.out
            have zc2 := cell_of_block (o := 2) hZ_ef27.out rfl
            have zf2 := frozen_of_block (o := 2) hZ_ef27.out
            refine wpAnyE_one (i := 9) (by kernel_rfl) rfl (fun K hK => ?_)
            go_simp
            refine hK.out _ _ (fun h => absurd h (by decide)) ?_
            clear hK K
            refine wpAnyE_done (by kernel_rfl) ?_ _
            obtain ⟨Y, hY⟩ : ∃ Y, Y = (((v_ef27.setCell ⟨v_ef1.heap.size, 0, none⟩ (.int .i64 g0)).setCell ⟨v_ef1.heap.size, 1, none⟩ (.int .i64 g1)).setCell ⟨v_ef1.heap.size, 2, none⟩ (.bool g2)) := ⟨_, rfl⟩
            rw [← hY]
            have hSY : Y.heap[w2.heap.size]? = some (spCells s0 s1 s2) := by rw [hY, show ((((v_ef27.setCell ⟨v_ef1.heap.size, 0, none⟩ (.int .i64 g0)).setCell ⟨v_ef1.heap.size, 1, none⟩ (.int .i64 g1)).setCell ⟨v_ef1.heap.size, 2, none⟩ (.bool g2)) : World) = put3 v_ef27 (v_ef1.heap.size) g0 g1 g2 from rfl, put3_other (by omega)]; exact hS_ef27.out
            have hRY : Y.heap[w.heap.size]? = some (spCells 0 0 false) := by rw [hY, show ((((v_ef27.setCell ⟨v_ef1.heap.size, 0, none⟩ (.int .i64 g0)).setCell ⟨v_ef1.heap.size, 1, none⟩ (.int .i64 g1)).setCell ⟨v_ef1.heap.size, 2, none⟩ (.bool g2)) : World) = put3 v_ef27 (v_ef1.heap.size) g0 g1 g2 from rfl, put3_other (by omega)]; exact hR_ef27.out
            have hZY : Y.heap[v_ef1.heap.size]? = some (spCells g0 g1 g2) := hY ▸ put3_same hZ_ef27.out g0 g1 g2
            have hBY : Below w.heap.size w Y := hY ▸ set3_below hB_ef27.out (by omega) g0 g1 g2
            clear hY zc0 zc1 zc2 zf0 zf1 zf2 aok bok cok dok fok hV_ef27 hS_ef27 hR_ef27 hZ_ef27 hB_ef27
            have ys0 := cell_of_block (o := 0) hSY rfl
            have ys1 := cell_of_block (o := 1) hSY rfl
            have ys2 := cell_of_block (o := 2) hSY rfl
            have yz0 := cell_of_block (o := 0) hZY rfl
            have yz1 := cell_of_block (o := 1) hZY rfl
            have yz2 := cell_of_block (o := 2) hZY rfl
            go_wp2_with fail
            refine wp_region_E (fun w' : World => w'.cell? ⟨w2.heap.size, 0, none⟩ = some (.int .i64 s0) ∧ w'.cell? ⟨w2.heap.size, 1, none⟩ = some (.int .i64 s1) ∧ w'.cell? ⟨w2.heap.size, 2, none⟩ = some (.bool s2) ∧ w'.cell? ⟨v_ef1.heap.size, 0, none⟩ = some (.int .i64 g0) ∧ w'.cell? ⟨v_ef1.heap.size, 1, none⟩ = some (.int .i64 g1) ∧ w'.cell? ⟨v_ef1.heap.size, 2, none⟩ = some (.bool g2)) (fun i => !(i == 6)) (by kernel_rfl) ?_
            have hSh : Shut ((fun w' : World => w'.cell? ⟨w2.heap.size, 0, none⟩ = some (.int .i64 s0) ∧ w'.cell? ⟨w2.heap.size, 1, none⟩ = some (.int .i64 s1) ∧ w'.cell? ⟨w2.heap.size, 2, none⟩ = some (.bool s2) ∧ w'.cell? ⟨v_ef1.heap.size, 0, none⟩ = some (.int .i64 g0) ∧ w'.cell? ⟨v_ef1.heap.size, 1, none⟩ = some (.int .i64 g1) ∧ w'.cell? ⟨v_ef1.heap.size, 2, none⟩ = some (.bool g2)) Y.drew) := ⟨ys0, ys1, ys2, yz0, yz1, yz2⟩
            refine wpAnyE_take (i := 0) (v := ?vzef270) rfl (by kernel_rfl) (by kernel_rfl) (by kernel_rfl) (by kernel_rfl) (fun _ _ _ h => h) (Or.inl ⟨by rfl, ?yzef270⟩) hSh.out ?rzef270
            case yzef270 =>
              intro w hSw
              try dsimp only at hSw
              go_simp
              try with_reducible rfl
            try simp only [Act.put, List.setIfInBounds_toArray, List.set_cons_zero, List.set_cons_succ]
            refine wpAnyE_take (i := 2) (v := ?vzef272) rfl (by kernel_rfl) (by kernel_rfl) (by kernel_rfl) (by kernel_rfl) (fun _ _ _ h => h) (Or.inl ⟨by rfl, ?yzef272⟩) hSh.out ?rzef272
            case yzef272 =>
              intro w hSw
              try dsimp only at hSw
              go_simp
              try with_reducible rfl
            try simp only [Act.put, List.setIfInBounds_toArray, List.set_cons_zero, List.set_cons_succ]
            clear hSh
            refine wpAnyE_one (i := 1) (by kernel_rfl) rfl (fun K hK => ?_)
            go_simp
            refine ((O.out _ _ _).mono (fun _ _ h => OfPost.sp (by decide) h)).mono ?_
            rintro e u1 ⟨m0, m1, m2, rfl, mok, hu1⟩
            have hdu := undrewS hu1
            have hS1 := (hdu.block _ (heap_lt hSY)).trans hSY
            have hZ1 := (hdu.block _ (heap_lt hZY)).trans hZY
            have hR1 := (hdu.block _ (heap_lt hRY)).trans hRY
            clear hu1
            go_wp2_with fail
            refine hK.out _ _ (fun _ => ⟨cell_of_block (o := 0) hS1 rfl, cell_of_block (o := 1) hS1 rfl, cell_of_block (o := 2) hS1 rfl, cell_of_block (o := 0) hZ1 rfl, cell_of_block (o := 1) hZ1 rfl, cell_of_block (o := 2) hZ1 rfl⟩) ?_
            clear hK K
            try simp only [Act.put, List.setIfInBounds_toArray, List.set_cons_zero, List.set_cons_succ]
            refine wpAnyE_one (i := 3) (by kernel_rfl) rfl (fun K hK => ?_)
            go_simp
            refine (OD.out _ _ _ _ _ gok).mono ?_
            rintro e u2 ⟨o0, o1, o2, rfl, ook, hu2⟩
            have hS2 := (hu2.block _ (heap_lt hS1)).trans hS1
            have hZ2 := (hu2.block _ (heap_lt hZ1)).trans hZ1
            have hR2 := (hu2.block _ (heap_lt hR1)).trans hR1
            go_wp2_with fail
            refine hK.out _ _ (fun _ => ⟨cell_of_block (o := 0) hS2 rfl, cell_of_block (o := 1) hS2 rfl, cell_of_block (o := 2) hS2 rfl, cell_of_block (o := 0) hZ2 rfl, cell_of_block (o := 1) hZ2 rfl, cell_of_block (o := 2) hZ2 rfl⟩) ?_
            clear hK K
            try simp only [Act.put, List.setIfInBounds_toArray, List.set_cons_zero, List.set_cons_succ]
            refine wpAnyE_one (i := 4) (by kernel_rfl) rfl (fun K hK => ?_)
            go_simp
            refine (M.out _ _ _ _ _ _ _ mok ook).mono ?_
            rintro e u3 ⟨l0, l1, l2, rfl, lok, hu3⟩
            have hS3 := (hu3.block _ (heap_lt hS2)).trans hS2
            have hZ3 := (hu3.block _ (heap_lt hZ2)).trans hZ2
            have hR3 := (hu3.block _ (heap_lt hR2)).trans hR2
            go_wp2_with fail
            refine hK.out _ _ (fun _ => ⟨cell_of_block (o := 0) hS3 rfl, cell_of_block (o := 1) hS3 rfl, cell_of_block (o := 2) hS3 rfl, cell_of_block (o := 0) hZ3 rfl, cell_of_block (o := 1) hZ3 rfl, cell_of_block (o := 2) hZ3 rfl⟩) ?_
            clear hK K
            try simp only [Act.put, List.setIfInBounds_toArray, List.set_cons_zero, List.set_cons_succ]
            refine wpAnyE_one (i := 5) (by kernel_rfl) rfl (fun K hK => ?_)
            go_simp
            refine (AD.out _ _ _ _ _ _ _ hokS lok).mono ?_
            rintro e u4 ⟨k0, k1, k2, rfl, kok, hu4⟩
            have hS4 := (hu4.block _ (heap_lt hS3)).trans hS3
            have hZ4 := (hu4.block _ (heap_lt hZ3)).trans hZ3
            have hR4 := (hu4.block _ (heap_lt hR3)).trans hR3
            have rr0 := cell_of_block (o := 0) hR4 rfl
            have rr1 := cell_of_block (o := 1) hR4 rfl
            have rr2 := cell_of_block (o := 2) hR4 rfl
            have rg0 := frozen_of_block (o := 0) hR4
            have rg1 := frozen_of_block (o := 1) hR4
            have rg2 := frozen_of_block (o := 2) hR4
            go_wp2_with fail
            refine hK.out _ _ (fun _ => ⟨cell_of_block (o := 0) hS4 rfl, cell_of_block (o := 1) hS4 rfl, cell_of_block (o := 2) hS4 rfl, cell_of_block (o := 0) hZ4 rfl, cell_of_block (o := 1) hZ4 rfl, cell_of_block (o := 2) hZ4 rfl⟩) ?_
            clear hK K
            try simp only [Act.put, List.setIfInBounds_toArray, List.set_cons_zero, List.set_cons_succ]
            refine wpAnyE_one (i := 6) (by kernel_rfl) rfl (fun K hK => ?_)
            go_simp
            refine hK.out _ _ (fun h => absurd h (by decide)) ?_
            clear hK K
            refine wpAnyE_done (by kernel_rfl) ?_ _
            have Q := hideq (set3 hR4 k0 k1 k2)
            have HBt := hideq (set3_below (hBY.trans ((hdu.trans (Below.mono (hu2.trans (Below.mono (hu3.trans (hu4.mono hu3.size)) hu2.size)) hdu.size)).mono hBY.size)) (Nat.le_refl _) k0 k1 k2)
            have HOK := hideq kok
            clear hdu hu2 hu3 hu4 hS1 hS2 hS3 hS4 hZ1 hZ2 hZ3 hZ4 hR1 hR2 hR3 hR4
            go_wp2_with fail
            obtain ⟨q0, q1, q2⟩ := Q.out
            refine bodyPost_ret (v := sv k0 k1 k2) (by simp [results, Tryd.results33, go_sem, q0, q1, q2]) rfl ?_
            exact ⟨k0, k1, k2, rfl, HOK.out, HBt.out⟩
        · skip
          go_simp
          obtain ⟨X_ef28, hX_ef28⟩ : ∃ X, X = (wr.alloc (.cells #[.int .i64 0, .int .i64 0, .bool false] 37)).drew := ⟨_, rfl⟩
          rw [← hX_ef28]
          have hV_ef28 : Hid (X_ef28.heap[bv]? = some (spCells p q false)) := by rw [hX_ef28]; exact alloc_old hV.out
          have hS_ef28 : Hid (X_ef28.heap[w2.heap.size]? = some (spCells s0 s1 s2)) := by rw [hX_ef28]; exact alloc_old hS.out
          have hR_ef28 : Hid (X_ef28.heap[w.heap.size]? = some (spCells 0 0 false)) := by rw [hX_ef28]; exact alloc_old hR.out
          have hZ_ef28 : Hid (X_ef28.heap[wr.heap.size]? = some (spCells 0 0 false)) := by rw [hX_ef28]; exact cells_new _ _
          have hB_ef28 : Hid (Below w.heap.size w X_ef28) := by rw [hX_ef28]; exact (hB.out.alloc hB.out.size _).trans ((drewS _).mono (hB.out.alloc hB.out.size _).size)
          have hzl_ef28 := hB.out.size
          have hzn_ef28_0 := heap_lt hV.out
          have hzn_ef28_1 := heap_lt hS.out
          have hzn_ef28_2 := heap_lt hR.out
          clear hX_ef28 hV hS hR hB
          refine hK.out _ _ (fun _ => ⟨cell_of_block (o := 0) hV_ef28.out rfl, cell_of_block (o := 1) hV_ef28.out rfl, cell_of_block (o := 2) hV_ef28.out rfl⟩) ?_
          clear hK K
          try simp only [Act.put, List.setIfInBounds_toArray, List.set_cons_zero, List.set_cons_succ]
          refine wpAnyE_one (i := 1) (by kernel_rfl) rfl (fun K hK => ?_)
          go_simp
          refine ((O.out _ _ _).mono (fun _ _ h => OfPost.sp (by decide) h)).mono ?_
          rintro e v_ef29 ⟨a0, a1, a2, rfl, aok, hv_ef29⟩
          have hd_ef29 := hv_ef29
          have hV_ef29 := hideq ((hd_ef29.block _ (heap_lt hV_ef28.out)).trans hV_ef28.out)
          have hS_ef29 := hideq ((hd_ef29.block _ (heap_lt hS_ef28.out)).trans hS_ef28.out)
          have hR_ef29 := hideq ((hd_ef29.block _ (heap_lt hR_ef28.out)).trans hR_ef28.out)
          have hZ_ef29 := hideq ((hd_ef29.block _ (heap_lt hZ_ef28.out)).trans hZ_ef28.out)
          have hB_ef29 := hideq (hB_ef28.out.trans (hd_ef29.mono hB_ef28.out.size))
          clear hv_ef29 hd_ef29 hV_ef28 hS_ef28 hR_ef28 hZ_ef28 hB_ef28
          go_wp2_with fail
          refine hK.out _ _ (fun _ => ⟨cell_of_block (o := 0) hV_ef29.out rfl, cell_of_block (o := 1) hV_ef29.out rfl, cell_of_block (o := 2) hV_ef29.out rfl⟩) ?_
          clear hK K
          try simp only [Act.put, List.setIfInBounds_toArray, List.set_cons_zero, List.set_cons_succ]
          refine wpAnyE_one (i := 2) (by kernel_rfl) rfl (fun K hK => ?_)
          go_simp
          refine (AD.out _ _ _ _ _ _ _ hokV aok).mono ?_
          rintro e v_ef30 ⟨b0, b1, b2, rfl, bok, hv_ef30⟩
          have hd_ef30 := hv_ef30
          have hV_ef30 := hideq ((hd_ef30.block _ (heap_lt hV_ef29.out)).trans hV_ef29.out)
          have hS_ef30 := hideq ((hd_ef30.block _ (heap_lt hS_ef29.out)).trans hS_ef29.out)
          have hR_ef30 := hideq ((hd_ef30.block _ (heap_lt hR_ef29.out)).trans hR_ef29.out)
          have hZ_ef30 := hideq ((hd_ef30.block _ (heap_lt hZ_ef29.out)).trans hZ_ef29.out)
          have hB_ef30 := hideq (hB_ef29.out.trans (hd_ef30.mono hB_ef29.out.size))
          clear hv_ef30 hd_ef30 hV_ef29 hS_ef29 hR_ef29 hZ_ef29 hB_ef29
          go_wp2_with fail
          refine hK.out _ _ (fun _ => ⟨cell_of_block (o := 0) hV_ef30.out rfl, cell_of_block (o := 1) hV_ef30.out rfl, cell_of_block (o := 2) hV_ef30.out rfl⟩) ?_
          clear hK K
          try simp only [Act.put, List.setIfInBounds_toArray, List.set_cons_zero, List.set_cons_succ]
          refine wpAnyE_one (i := 4) (by kernel_rfl) rfl (fun K hK => ?_)
          go_simp
          refine ((O.out _ _ _).mono (fun _ _ h => OfPost.sp (by decide) h)).mono ?_
          rintro e v_ef31 ⟨c0, c1, c2, rfl, cok, hv_ef31⟩
          have hd_ef31 := hv_ef31
          have hV_ef31 := hideq ((hd_ef31.block _ (heap_lt hV_ef30.out)).trans hV_ef30.out)
          have hS_ef31 := hideq ((hd_ef31.block _ (heap_lt hS_ef30.out)).trans hS_ef30.out)
          have hR_ef31 := hideq ((hd_ef31.block _ (heap_lt hR_ef30.out)).trans hR_ef30.out)
          have hZ_ef31 := hideq ((hd_ef31.block _ (heap_lt hZ_ef30.out)).trans hZ_ef30.out)
          have hB_ef31 := hideq (hB_ef30.out.trans (hd_ef31.mono hB_ef30.out.size))
          clear hv_ef31 hd_ef31 hV_ef30 hS_ef30 hR_ef30 hZ_ef30 hB_ef30
          go_wp2_with fail
          refine hK.out _ _ (fun _ => ⟨cell_of_block (o := 0) hV_ef31.out rfl, cell_of_block (o := 1) hV_ef31.out rfl, cell_of_block (o := 2) hV_ef31.out rfl⟩) ?_
          clear hK K
          try simp only [Act.put, List.setIfInBounds_toArray, List.set_cons_zero, List.set_cons_succ]
          refine wpAnyE_one (i := 5) (by kernel_rfl) rfl (fun K hK => ?_)
          go_simp
          refine (AD.out _ _ _ _ _ _ _ hokV cok).mono ?_
          rintro e v_ef32 ⟨d0, d1, d2, rfl, dok, hv_ef32⟩
          have hd_ef32 := hv_ef32
          have hV_ef32 := hideq ((hd_ef32.block _ (heap_lt hV_ef31.out)).trans hV_ef31.out)
          have hS_ef32 := hideq ((hd_ef32.block _ (heap_lt hS_ef31.out)).trans hS_ef31.out)
          have hR_ef32 := hideq ((hd_ef32.block _ (heap_lt hR_ef31.out)).trans hR_ef31.out)
          have hZ_ef32 := hideq ((hd_ef32.block _ (heap_lt hZ_ef31.out)).trans hZ_ef31.out)
          have hB_ef32 := hideq (hB_ef31.out.trans (hd_ef32.mono hB_ef31.out.size))
          clear hv_ef32 hd_ef32 hV_ef31 hS_ef31 hR_ef31 hZ_ef31 hB_ef31
          go_wp2_with fail
          refine hK.out _ _ (fun _ => ⟨cell_of_block (o := 0) hV_ef32.out rfl, cell_of_block (o := 1) hV_ef32.out rfl, cell_of_block (o := 2) hV_ef32.out rfl⟩) ?_
          clear hK K
          try simp only [Act.put, List.setIfInBounds_toArray, List.set_cons_zero, List.set_cons_succ]
          refine wpAnyE_one (i := 6) (by kernel_rfl) rfl (fun K hK => ?_)
          go_simp
          refine (OV.out _ _ _ _ dok).mono ?_
          rintro e v_ef33 ⟨f0, f1, f2, rfl, fok, hv_ef33⟩
          have hd_ef33 := hv_ef33
          have hV_ef33 := hideq ((hd_ef33.block _ (heap_lt hV_ef32.out)).trans hV_ef32.out)
          have hS_ef33 := hideq ((hd_ef33.block _ (heap_lt hS_ef32.out)).trans hS_ef32.out)
          have hR_ef33 := hideq ((hd_ef33.block _ (heap_lt hR_ef32.out)).trans hR_ef32.out)
          have hZ_ef33 := hideq ((hd_ef33.block _ (heap_lt hZ_ef32.out)).trans hZ_ef32.out)
          have hB_ef33 := hideq (hB_ef32.out.trans (hd_ef33.mono hB_ef32.out.size))
          clear hv_ef33 hd_ef33 hV_ef32 hS_ef32 hR_ef32 hZ_ef32 hB_ef32
          go_wp2_with fail
          refine hK.out _ _ (fun _ => ⟨cell_of_block (o := 0) hV_ef33.out rfl, cell_of_block (o := 1) hV_ef33.out rfl, cell_of_block (o := 2) hV_ef33.out rfl⟩) ?_
          clear hK K
          try simp only [Act.put, List.setIfInBounds_toArray, List.set_cons_zero, List.set_cons_succ]
          refine wpAnyE_one (i := 7) (by kernel_rfl) rfl (fun K hK => ?_)
          go_simp
          refine (M.out _ _ _ _ _ _ _ bok fok).mono ?_
          rintro e v_ef34 ⟨g0, g1, g2, rfl, gok, hv_ef34⟩
          have hd_ef34 := hv_ef34
          have hV_ef34 := hideq ((hd_ef34.block _ (heap_lt hV_ef33.out)).trans hV_ef33.out)
          have hS_ef34 := hideq ((hd_ef34.block _ (heap_lt hS_ef33.out)).trans hS_ef33.out)
          have hR_ef34 := hideq ((hd_ef34.block _ (heap_lt hR_ef33.out)).trans hR_ef33.out)
          have hZ_ef34 := hideq ((hd_ef34.block _ (heap_lt hZ_ef33.out)).trans hZ_ef33.out)
          have hB_ef34 := hideq (hB_ef33.out.trans (hd_ef34.mono hB_ef33.out.size))
          clear hv_ef34 hd_ef34 hV_ef33 hS_ef33 hR_ef33 hZ_ef33 hB_ef33
          go_wp2_with fail
          refine hK.out _ _ (fun _ => ⟨cell_of_block (o := 0) hV_ef34.out rfl, cell_of_block (o := 1) hV_ef34.out rfl, cell_of_block (o := 2) hV_ef34.out rfl⟩) ?_
          clear hK K
          try simp only [Act.put, List.setIfInBounds_toArray, List.set_cons_zero, List.set_cons_succ]
          have zc0 := cell_of_block (o := 0) hZ_ef34.out rfl
          have zf0 := frozen_of_block (o := 0) hZ_ef34.out
          have zc1 := cell_of_block (o := 1) hZ_ef34.out rfl
          have zf1 := frozen_of_block (o := 1) hZ_ef34.out
          have zc2 := cell_of_block (o := 2) hZ_ef34.out rfl
          have zf2 := frozen_of_block (o := 2) hZ_ef34.out
          refine wpAnyE_one (i := 9) (by kernel_rfl) rfl (fun K hK => ?_)
          go_simp
          refine hK.out _ _ (fun h => absurd h (by decide)) ?_
          clear hK K
          refine wpAnyE_done (by kernel_rfl) ?_ _
          obtain ⟨Y, hY⟩ : ∃ Y, Y = (((v_ef34.setCell ⟨wr.heap.size, 0, none⟩ (.int .i64 g0)).setCell ⟨wr.heap.size, 1, none⟩ (.int .i64 g1)).setCell ⟨wr.heap.size, 2, none⟩ (.bool g2)) := ⟨_, rfl⟩
          rw [← hY]
          have hSY : Y.heap[w2.heap.size]? = some (spCells s0 s1 s2) := by rw [hY, show ((((v_ef34.setCell ⟨wr.heap.size, 0, none⟩ (.int .i64 g0)).setCell ⟨wr.heap.size, 1, none⟩ (.int .i64 g1)).setCell ⟨wr.heap.size, 2, none⟩ (.bool g2)) : World) = put3 v_ef34 (wr.heap.size) g0 g1 g2 from rfl, put3_other (by omega)]; exact hS_ef34.out
          have hRY : Y.heap[w.heap.size]? = some (spCells 0 0 false) := by rw [hY, show ((((v_ef34.setCell ⟨wr.heap.size, 0, none⟩ (.int .i64 g0)).setCell ⟨wr.heap.size, 1, none⟩ (.int .i64 g1)).setCell ⟨wr.heap.size, 2, none⟩ (.bool g2)) : World) = put3 v_ef34 (wr.heap.size) g0 g1 g2 from rfl, put3_other (by omega)]; exact hR_ef34.out
          have hZY : Y.heap[wr.heap.size]? = some (spCells g0 g1 g2) := hY ▸ put3_same hZ_ef34.out g0 g1 g2
          have hBY : Below w.heap.size w Y := hY ▸ set3_below hB_ef34.out (by omega) g0 g1 g2
          clear hY zc0 zc1 zc2 zf0 zf1 zf2 aok bok cok dok fok hV_ef34 hS_ef34 hR_ef34 hZ_ef34 hB_ef34
          have ys0 := cell_of_block (o := 0) hSY rfl
          have ys1 := cell_of_block (o := 1) hSY rfl
          have ys2 := cell_of_block (o := 2) hSY rfl
          have yz0 := cell_of_block (o := 0) hZY rfl
          have yz1 := cell_of_block (o := 1) hZY rfl
          have yz2 := cell_of_block (o := 2) hZY rfl
          go_wp2_with fail
          refine wp_region_E (fun w' : World => w'.cell? ⟨w2.heap.size, 0, none⟩ = some (.int .i64 s0) ∧ w'.cell? ⟨w2.heap.size, 1, none⟩ = some (.int .i64 s1) ∧ w'.cell? ⟨w2.heap.size, 2, none⟩ = some (.bool s2) ∧ w'.cell? ⟨wr.heap.size, 0, none⟩ = some (.int .i64 g0) ∧ w'.cell? ⟨wr.heap.size, 1, none⟩ = some (.int .i64 g1) ∧ w'.cell? ⟨wr.heap.size, 2, none⟩ = some (.bool g2)) (fun i => !(i == 6)) (by kernel_rfl) ?_
          have hSh : Shut ((fun w' : World => w'.cell? ⟨w2.heap.size, 0, none⟩ = some (.int .i64 s0) ∧ w'.cell? ⟨w2.heap.size, 1, none⟩ = some (.int .i64 s1) ∧ w'.cell? ⟨w2.heap.size, 2, none⟩ = some (.bool s2) ∧ w'.cell? ⟨wr.heap.size, 0, none⟩ = some (.int .i64 g0) ∧ w'.cell? ⟨wr.heap.size, 1, none⟩ = some (.int .i64 g1) ∧ w'.cell? ⟨wr.heap.size, 2, none⟩ = some (.bool g2)) Y.drew) := ⟨ys0, ys1, ys2, yz0, yz1, yz2⟩
          refine wpAnyE_take (i := 0) (v := ?vzef340) rfl (by kernel_rfl) (by kernel_rfl) (by kernel_rfl) (by kernel_rfl) (fun _ _ _ h => h) (Or.inl ⟨by rfl, ?yzef340⟩) hSh.out ?rzef340
          case yzef340 =>
            intro w hSw
            try dsimp only at hSw
            go_simp
            try with_reducible rfl
          try simp only [Act.put, List.setIfInBounds_toArray, List.set_cons_zero, List.set_cons_succ]
          refine wpAnyE_take (i := 2) (v := ?vzef342) rfl (by kernel_rfl) (by kernel_rfl) (by kernel_rfl) (by kernel_rfl) (fun _ _ _ h => h) (Or.inl ⟨by rfl, ?yzef342⟩) hSh.out ?rzef342
          case yzef342 =>
            intro w hSw
            try dsimp only at hSw
            go_simp
            try with_reducible rfl
          try simp only [Act.put, List.setIfInBounds_toArray, List.set_cons_zero, List.set_cons_succ]
          clear hSh
          refine wpAnyE_one (i := 1) (by kernel_rfl) rfl (fun K hK => ?_)
          go_simp
          refine ((O.out _ _ _).mono (fun _ _ h => OfPost.sp (by decide) h)).mono ?_
          rintro e u1 ⟨m0, m1, m2, rfl, mok, hu1⟩
          have hdu := undrewS hu1
          have hS1 := (hdu.block _ (heap_lt hSY)).trans hSY
          have hZ1 := (hdu.block _ (heap_lt hZY)).trans hZY
          have hR1 := (hdu.block _ (heap_lt hRY)).trans hRY
          clear hu1
          go_wp2_with fail
          refine hK.out _ _ (fun _ => ⟨cell_of_block (o := 0) hS1 rfl, cell_of_block (o := 1) hS1 rfl, cell_of_block (o := 2) hS1 rfl, cell_of_block (o := 0) hZ1 rfl, cell_of_block (o := 1) hZ1 rfl, cell_of_block (o := 2) hZ1 rfl⟩) ?_
          clear hK K
          try simp only [Act.put, List.setIfInBounds_toArray, List.set_cons_zero, List.set_cons_succ]
          refine wpAnyE_one (i := 3) (by kernel_rfl) rfl (fun K hK => ?_)
          go_simp
          refine (OD.out _ _ _ _ _ gok).mono ?_
          rintro e u2 ⟨o0, o1, o2, rfl, ook, hu2⟩
          have hS2 := (hu2.block _ (heap_lt hS1)).trans hS1
          have hZ2 := (hu2.block _ (heap_lt hZ1)).trans hZ1
          have hR2 := (hu2.block _ (heap_lt hR1)).trans hR1
          go_wp2_with fail
          refine hK.out _ _ (fun _ => ⟨cell_of_block (o := 0) hS2 rfl, cell_of_block (o := 1) hS2 rfl, cell_of_block (o := 2) hS2 rfl, cell_of_block (o := 0) hZ2 rfl, cell_of_block (o := 1) hZ2 rfl, cell_of_block (o := 2) hZ2 rfl⟩) ?_
          clear hK K
          try simp only [Act.put, List.setIfInBounds_toArray, List.set_cons_zero, List.set_cons_succ]
          refine wpAnyE_one (i := 4) (by kernel_rfl) rfl (fun K hK => ?_)
          go_simp
          refine (M.out _ _ _ _ _ _ _ mok ook).mono ?_
          rintro e u3 ⟨l0, l1, l2, rfl, lok, hu3⟩
          have hS3 := (hu3.block _ (heap_lt hS2)).trans hS2
          have hZ3 := (hu3.block _ (heap_lt hZ2)).trans hZ2
          have hR3 := (hu3.block _ (heap_lt hR2)).trans hR2
          go_wp2_with fail
          refine hK.out _ _ (fun _ => ⟨cell_of_block (o := 0) hS3 rfl, cell_of_block (o := 1) hS3 rfl, cell_of_block (o := 2) hS3 rfl, cell_of_block (o := 0) hZ3 rfl, cell_of_block (o := 1) hZ3 rfl, cell_of_block (o := 2) hZ3 rfl⟩) ?_
          clear hK K
          try simp only [Act.put, List.setIfInBounds_toArray, List.set_cons_zero, List.set_cons_succ]
          refine wpAnyE_one (i := 5) (by kernel_rfl) rfl (fun K hK => ?_)
          go_simp
          refine (AD.out _ _ _ _ _ _ _ hokS lok).mono ?_
          rintro e u4 ⟨k0, k1, k2, rfl, kok, hu4⟩
          have hS4 := (hu4.block _ (heap_lt hS3)).trans hS3
          have hZ4 := (hu4.block _ (heap_lt hZ3)).trans hZ3
          have hR4 := (hu4.block _ (heap_lt hR3)).trans hR3
          have rr0 := cell_of_block (o := 0) hR4 rfl
          have rr1 := cell_of_block (o := 1) hR4 rfl
          have rr2 := cell_of_block (o := 2) hR4 rfl
          have rg0 := frozen_of_block (o := 0) hR4
          have rg1 := frozen_of_block (o := 1) hR4
          have rg2 := frozen_of_block (o := 2) hR4
          go_wp2_with fail
          refine hK.out _ _ (fun _ => ⟨cell_of_block (o := 0) hS4 rfl, cell_of_block (o := 1) hS4 rfl, cell_of_block (o := 2) hS4 rfl, cell_of_block (o := 0) hZ4 rfl, cell_of_block (o := 1) hZ4 rfl, cell_of_block (o := 2) hZ4 rfl⟩) ?_
          clear hK K
          try simp only [Act.put, List.setIfInBounds_toArray, List.set_cons_zero, List.set_cons_succ]
          refine wpAnyE_one (i := 6) (by kernel_rfl) rfl (fun K hK => ?_)
          go_simp
          refine hK.out _ _ (fun h => absurd h (by decide)) ?_
          clear hK K
          refine wpAnyE_done (by kernel_rfl) ?_ _
          have Q := hideq (set3 hR4 k0 k1 k2)
          have HBt := hideq (set3_below (hBY.trans ((hdu.trans (Below.mono (hu2.trans (Below.mono (hu3.trans (hu4.mono hu3.size)) hu2.size)) hdu.size)).mono hBY.size)) (Nat.le_refl _) k0 k1 k2)
          have HOK := hideq kok
          clear hdu hu2 hu3 hu4 hS1 hS2 hS3 hS4 hZ1 hZ2 hZ3 hZ4 hR1 hR2 hR3 hR4
          go_wp2_with fail
          obtain ⟨q0, q1, q2⟩ := Q.out
          refine bodyPost_ret (v := sv k0 k1 k2) (by simp [results, Tryd.results33, go_sem, q0, q1, q2]) rfl ?_
          exact ⟨k0, k1, k2, rfl, HOK.out, HBt.out⟩
      · have hq : ¬ 1572864 < q := fun h => hc ⟨rfl, h⟩
        clear hc
        go_wp2_with fail
        obtain ⟨s0, s1, s2, hokS, hS⟩ := id hLs1
        have hR := hideq hRr
        have hB := hideq hbr
        have hV := hideq hV
        have hS := hideq hS
        clear hRr hbr hLs1 hLv1
        refine wp_region_E (fun w' : World => w'.cell? ⟨bv, 0, none⟩ = some (.int .i64 p) ∧ w'.cell? ⟨bv, 1, none⟩ = some (.int .i64 q) ∧ w'.cell? ⟨bv, 2, none⟩ = some (.bool true)) (fun i => !(i == 9)) (by kernel_rfl) ?_
        have hSh : Shut ((fun w' : World => w'.cell? ⟨bv, 0, none⟩ = some (.int .i64 p) ∧ w'.cell? ⟨bv, 1, none⟩ = some (.int .i64 q) ∧ w'.cell? ⟨bv, 2, none⟩ = some (.bool true)) wr.drew) := ⟨av0, av1, av2⟩
        refine wpAnyE_take (i := 0) (v := ?vet0) rfl (by kernel_rfl) (by kernel_rfl) (by kernel_rfl) (by kernel_rfl) (fun _ _ _ h => h) (Or.inl ⟨by rfl, ?yet0⟩) hSh.out ?ret0
        case yet0 =>
          intro w hSw
          try dsimp only at hSw
          go_simp
          try with_reducible rfl
        try simp only [Act.put, List.setIfInBounds_toArray, List.set_cons_zero, List.set_cons_succ]
        refine wpAnyE_take (i := 3) (v := ?vet3) rfl (by kernel_rfl) (by kernel_rfl) (by kernel_rfl) (by kernel_rfl) (fun _ _ _ h => h) (Or.inl ⟨by rfl, ?yet3⟩) hSh.out ?ret3
        case yet3 =>
          intro w hSw
          try dsimp only at hSw
          go_simp
          try with_reducible rfl
        try simp only [Act.put, List.setIfInBounds_toArray, List.set_cons_zero, List.set_cons_succ]
        clear hSh
        refine wpAnyE_two (i := 1) (j := 8) (by kernel_rfl) rfl rfl (fun K hK => ?_) (fun K hK => ?_)
        · skip
          go_simp
          refine ((O.out _ _ _).mono (fun _ _ h => OfPost.sp (by decide) h)).mono ?_
          rintro e v_et1 ⟨a0, a1, a2, rfl, aok, hv_et1⟩
          have hd_et1 := undrewS hv_et1
          have hV_et1 := hideq ((hd_et1.block _ (heap_lt hV.out)).trans hV.out)
          have hS_et1 := hideq ((hd_et1.block _ (heap_lt hS.out)).trans hS.out)
          have hR_et1 := hideq ((hd_et1.block _ (heap_lt hR.out)).trans hR.out)
          have hB_et1 := hideq (hB.out.trans (hd_et1.mono hB.out.size))
          clear hv_et1 hd_et1 hV hS hR hB
          go_wp2_with fail
          refine hK.out _ _ (fun _ => ⟨cell_of_block (o := 0) hV_et1.out rfl, cell_of_block (o := 1) hV_et1.out rfl, cell_of_block (o := 2) hV_et1.out rfl⟩) ?_
          clear hK K
          try simp only [Act.put, List.setIfInBounds_toArray, List.set_cons_zero, List.set_cons_succ]
          refine wpAnyE_two (i := 2) (j := 8) (by kernel_rfl) rfl rfl (fun K hK => ?_) (fun K hK => ?_)
          · skip
            go_simp
            refine (AD.out _ _ _ _ _ _ _ hokV aok).mono ?_
            rintro e v_et2 ⟨b0, b1, b2, rfl, bok, hv_et2⟩
            have hd_et2 := hv_et2
            have hV_et2 := hideq ((hd_et2.block _ (heap_lt hV_et1.out)).trans hV_et1.out)
            have hS_et2 := hideq ((hd_et2.block _ (heap_lt hS_et1.out)).trans hS_et1.out)
            have hR_et2 := hideq ((hd_et2.block _ (heap_lt hR_et1.out)).trans hR_et1.out)
            have hB_et2 := hideq (hB_et1.out.trans (hd_et2.mono hB_et1.out.size))
            clear hv_et2 hd_et2 hV_et1 hS_et1 hR_et1 hB_et1
            go_wp2_with fail
            refine hK.out _ _ (fun _ => ⟨cell_of_block (o := 0) hV_et2.out rfl, cell_of_block (o := 1) hV_et2.out rfl, cell_of_block (o := 2) hV_et2.out rfl⟩) ?_
            clear hK K
            try simp only [Act.put, List.setIfInBounds_toArray, List.set_cons_zero, List.set_cons_succ]
            refine wpAnyE_two (i := 4) (j := 8) (by kernel_rfl) rfl rfl (fun K hK => ?_) (fun K hK => ?_)
            · skip
              go_simp
              refine ((O.out _ _ _).mono (fun _ _ h => OfPost.sp (by decide) h)).mono ?_
              rintro e v_et3 ⟨c0, c1, c2, rfl, cok, hv_et3⟩
              have hd_et3 := hv_et3
              have hV_et3 := hideq ((hd_et3.block _ (heap_lt hV_et2.out)).trans hV_et2.out)
              have hS_et3 := hideq ((hd_et3.block _ (heap_lt hS_et2.out)).trans hS_et2.out)
              have hR_et3 := hideq ((hd_et3.block _ (heap_lt hR_et2.out)).trans hR_et2.out)
              have hB_et3 := hideq (hB_et2.out.trans (hd_et3.mono hB_et2.out.size))
              clear hv_et3 hd_et3 hV_et2 hS_et2 hR_et2 hB_et2
              go_wp2_with fail
              refine hK.out _ _ (fun _ => ⟨cell_of_block (o := 0) hV_et3.out rfl, cell_of_block (o := 1) hV_et3.out rfl, cell_of_block (o := 2) hV_et3.out rfl⟩) ?_
              clear hK K
              try simp only [Act.put, List.setIfInBounds_toArray, List.set_cons_zero, List.set_cons_succ]
              refine wpAnyE_two (i := 5) (j := 8) (by kernel_rfl) rfl rfl (fun K hK => ?_) (fun K hK => ?_)
              · skip
                go_simp
                refine (AD.out _ _ _ _ _ _ _ hokV cok).mono ?_
                rintro e v_et4 ⟨d0, d1, d2, rfl, dok, hv_et4⟩
                have hd_et4 := hv_et4
                have hV_et4 := hideq ((hd_et4.block _ (heap_lt hV_et3.out)).trans hV_et3.out)
                have hS_et4 := hideq ((hd_et4.block _ (heap_lt hS_et3.out)).trans hS_et3.out)
                have hR_et4 := hideq ((hd_et4.block _ (heap_lt hR_et3.out)).trans hR_et3.out)
                have hB_et4 := hideq (hB_et3.out.trans (hd_et4.mono hB_et3.out.size))
                clear hv_et4 hd_et4 hV_et3 hS_et3 hR_et3 hB_et3
                go_wp2_with fail
                refine hK.out _ _ (fun _ => ⟨cell_of_block (o := 0) hV_et4.out rfl, cell_of_block (o := 1) hV_et4.out rfl, cell_of_block (o := 2) hV_et4.out rfl⟩) ?_
                clear hK K
                try simp only [Act.put, List.setIfInBounds_toArray, List.set_cons_zero, List.set_cons_succ]
                refine wpAnyE_two (i := 6) (j := 8) (by kernel_rfl) rfl rfl (fun K hK => ?_) (fun K hK => ?_)
                · skip
                  go_simp
                  refine (OV.out _ _ _ _ dok).mono ?_
                  rintro e v_et5 ⟨f0, f1, f2, rfl, fok, hv_et5⟩
                  have hd_et5 := hv_et5
                  have hV_et5 := hideq ((hd_et5.block _ (heap_lt hV_et4.out)).trans hV_et4.out)
                  have hS_et5 := hideq ((hd_et5.block _ (heap_lt hS_et4.out)).trans hS_et4.out)
                  have hR_et5 := hideq ((hd_et5.block _ (heap_lt hR_et4.out)).trans hR_et4.out)
                  have hB_et5 := hideq (hB_et4.out.trans (hd_et5.mono hB_et4.out.size))
                  clear hv_et5 hd_et5 hV_et4 hS_et4 hR_et4 hB_et4
                  go_wp2_with fail
                  refine hK.out _ _ (fun _ => ⟨cell_of_block (o := 0) hV_et5.out rfl, cell_of_block (o := 1) hV_et5.out rfl, cell_of_block (o := 2) hV_et5.out rfl⟩) ?_
                  clear hK K
                  try simp only [Act.put, List.setIfInBounds_toArray, List.set_cons_zero, List.set_cons_succ]
                  refine wpAnyE_two (i := 7) (j := 8) (by kernel_rfl) rfl rfl (fun K hK => ?_) (fun K hK => ?_)
                  · skip
                    go_simp
                    refine (M.out _ _ _ _ _ _ _ bok fok).mono ?_
                    rintro e v_et6 ⟨g0, g1, g2, rfl, gok, hv_et6⟩
                    have hd_et6 := hv_et6
                    have hV_et6 := hideq ((hd_et6.block _ (heap_lt hV_et5.out)).trans hV_et5.out)
                    have hS_et6 := hideq ((hd_et6.block _ (heap_lt hS_et5.out)).trans hS_et5.out)
                    have hR_et6 := hideq ((hd_et6.block _ (heap_lt hR_et5.out)).trans hR_et5.out)
                    have hB_et6 := hideq (hB_et5.out.trans (hd_et6.mono hB_et5.out.size))
                    clear hv_et6 hd_et6 hV_et5 hS_et5 hR_et5 hB_et5
                    go_wp2_with fail
                    refine hK.out _ _ (fun _ => ⟨cell_of_block (o := 0) hV_et6.out rfl, cell_of_block (o := 1) hV_et6.out rfl, cell_of_block (o := 2) hV_et6.out rfl⟩) ?_
                    clear hK K
                    try simp only [Act.put, List.setIfInBounds_toArray, List.set_cons_zero, List.set_cons_succ]
                    refine wpAnyE_one (i := 8) (by kernel_rfl) rfl (fun K hK => ?_)
                    go_simp
                    obtain ⟨X_et7, hX_et7⟩ : ∃ X, X = (v_et6.alloc (.cells #[.int .i64 0, .int .i64 0, .bool false] 37)) := ⟨_, rfl⟩
                    rw [← hX_et7]
                    have hV_et7 : Hid (X_et7.heap[bv]? = some (spCells p q true)) := by rw [hX_et7]; exact alloc_old hV_et6.out
                    have hS_et7 : Hid (X_et7.heap[w2.heap.size]? = some (spCells s0 s1 s2)) := by rw [hX_et7]; exact alloc_old hS_et6.out
                    have hR_et7 : Hid (X_et7.heap[w.heap.size]? = some (spCells 0 0 false)) := by rw [hX_et7]; exact alloc_old hR_et6.out
                    have hZ_et7 : Hid (X_et7.heap[v_et6.heap.size]? = some (spCells 0 0 false)) := by rw [hX_et7]; exact cells_new _ _
                    have hB_et7 : Hid (Below w.heap.size w X_et7) := by rw [hX_et7]; exact hB_et6.out.alloc hB_et6.out.size _
                    have hzl_et7 := hB_et6.out.size
                    have hzn_et7_0 := heap_lt hV_et6.out
                    have hzn_et7_1 := heap_lt hS_et6.out
                    have hzn_et7_2 := heap_lt hR_et6.out
                    clear hX_et7 hV_et6 hS_et6 hR_et6 hB_et6
                    refine hK.out _ _ (fun _ => ⟨cell_of_block (o := 0) hV_et7.out rfl, cell_of_block (o := 1) hV_et7.out rfl, cell_of_block (o := 2) hV_et7.out rfl⟩) ?_
                    clear hK K
                    try simp only [Act.put, List.setIfInBounds_toArray, List.set_cons_zero, List.set_cons_succ]
                    have zc0 := cell_of_block (o := 0) hZ_et7.out rfl
                    have zf0 := frozen_of_block (o := 0) hZ_et7.out
                    have zc1 := cell_of_block (o := 1) hZ_et7.out rfl
                    have zf1 := frozen_of_block (o := 1) hZ_et7.out
                    have zc2 := cell_of_block (o := 2) hZ_et7.out rfl
                    have zf2 := frozen_of_block (o := 2) hZ_et7.out
                    refine wpAnyE_one (i := 9) (by kernel_rfl) rfl (fun K hK => ?_)
                    go_simp
                    refine hK.out _ _ (fun h => absurd h (by decide)) ?_
                    clear hK K
                    refine wpAnyE_done (by kernel_rfl) ?_ _
                    obtain ⟨Y, hY⟩ : ∃ Y, Y = (((X_et7.setCell ⟨v_et6.heap.size, 0, none⟩ (.int .i64 g0)).setCell ⟨v_et6.heap.size, 1, none⟩ (.int .i64 g1)).setCell ⟨v_et6.heap.size, 2, none⟩ (.bool g2)) := ⟨_, rfl⟩
                    rw [← hY]
                    have hSY : Y.heap[w2.heap.size]? = some (spCells s0 s1 s2) := by rw [hY, show ((((X_et7.setCell ⟨v_et6.heap.size, 0, none⟩ (.int .i64 g0)).setCell ⟨v_et6.heap.size, 1, none⟩ (.int .i64 g1)).setCell ⟨v_et6.heap.size, 2, none⟩ (.bool g2)) : World) = put3 X_et7 (v_et6.heap.size) g0 g1 g2 from rfl, put3_other (by omega)]; exact hS_et7.out
                    have hRY : Y.heap[w.heap.size]? = some (spCells 0 0 false) := by rw [hY, show ((((X_et7.setCell ⟨v_et6.heap.size, 0, none⟩ (.int .i64 g0)).setCell ⟨v_et6.heap.size, 1, none⟩ (.int .i64 g1)).setCell ⟨v_et6.heap.size, 2, none⟩ (.bool g2)) : World) = put3 X_et7 (v_et6.heap.size) g0 g1 g2 from rfl, put3_other (by omega)]; exact hR_et7.out
                    have hZY : Y.heap[v_et6.heap.size]? = some (spCells g0 g1 g2) := hY ▸ put3_same hZ_et7.out g0 g1 g2
                    have hBY : Below w.heap.size w Y := hY ▸ set3_below hB_et7.out (by omega) g0 g1 g2
                    clear hY zc0 zc1 zc2 zf0 zf1 zf2 aok bok cok dok fok hV_et7 hS_et7 hR_et7 hZ_et7 hB_et7
                    have ys0 := cell_of_block (o := 0) hSY rfl
                    have ys1 := cell_of_block (o := 1) hSY rfl
                    have ys2 := cell_of_block (o := 2) hSY rfl
                    have yz0 := cell_of_block (o := 0) hZY rfl
                    have yz1 := cell_of_block (o := 1) hZY rfl
                    have yz2 := cell_of_block (o := 2) hZY rfl
                    go_wp2_with fail
                    refine wp_region_E (fun w' : World => w'.cell? ⟨w2.heap.size, 0, none⟩ = some (.int .i64 s0) ∧ w'.cell? ⟨w2.heap.size, 1, none⟩ = some (.int .i64 s1) ∧ w'.cell? ⟨w2.heap.size, 2, none⟩ = some (.bool s2) ∧ w'.cell? ⟨v_et6.heap.size, 0, none⟩ = some (.int .i64 g0) ∧ w'.cell? ⟨v_et6.heap.size, 1, none⟩ = some (.int .i64 g1) ∧ w'.cell? ⟨v_et6.heap.size, 2, none⟩ = some (.bool g2)) (fun i => !(i == 6)) (by kernel_rfl) ?_
                    have hSh : Shut ((fun w' : World => w'.cell? ⟨w2.heap.size, 0, none⟩ = some (.int .i64 s0) ∧ w'.cell? ⟨w2.heap.size, 1, none⟩ = some (.int .i64 s1) ∧ w'.cell? ⟨w2.heap.size, 2, none⟩ = some (.bool s2) ∧ w'.cell? ⟨v_et6.heap.size, 0, none⟩ = some (.int .i64 g0) ∧ w'.cell? ⟨v_et6.heap.size, 1, none⟩ = some (.int .i64 g1) ∧ w'.cell? ⟨v_et6.heap.size, 2, none⟩ = some (.bool g2)) Y.drew) := ⟨ys0, ys1, ys2, yz0, yz1, yz2⟩
                    refine wpAnyE_take (i := 0) (v := ?vzet70) rfl (by kernel_rfl) (by kernel_rfl) (by kernel_rfl) (by kernel_rfl) (fun _ _ _ h => h) (Or.inl ⟨by rfl, ?yzet70⟩) hSh.out ?rzet70
                    case yzet70 =>
                      intro w hSw
                      try dsimp only at hSw
                      go_simp
                      try with_reducible rfl
                    try simp only [Act.put, List.setIfInBounds_toArray, List.set_cons_zero, List.set_cons_succ]
                    refine wpAnyE_take (i := 2) (v := ?vzet72) rfl (by kernel_rfl) (by kernel_rfl) (by kernel_rfl) (by kernel_rfl) (fun _ _ _ h => h) (Or.inl ⟨by rfl, ?yzet72⟩) hSh.out ?rzet72
                    case yzet72 =>
                      intro w hSw
                      try dsimp only at hSw
                      go_simp
                      try with_reducible rfl
                    try simp only [Act.put, List.setIfInBounds_toArray, List.set_cons_zero, List.set_cons_succ]
                    clear hSh
                    refine wpAnyE_one (i := 1) (by kernel_rfl) rfl (fun K hK => ?_)
                    go_simp
                    refine ((O.out _ _ _).mono (fun _ _ h => OfPost.sp (by decide) h)).mono ?_
                    rintro e u1 ⟨m0, m1, m2, rfl, mok, hu1⟩
                    have hdu := undrewS hu1
                    have hS1 := (hdu.block _ (heap_lt hSY)).trans hSY
                    have hZ1 := (hdu.block _ (heap_lt hZY)).trans hZY
                    have hR1 := (hdu.block _ (heap_lt hRY)).trans hRY
                    clear hu1
                    go_wp2_with fail
                    refine hK.out _ _ (fun _ => ⟨cell_of_block (o := 0) hS1 rfl, cell_of_block (o := 1) hS1 rfl, cell_of_block (o := 2) hS1 rfl, cell_of_block (o := 0) hZ1 rfl, cell_of_block (o := 1) hZ1 rfl, cell_of_block (o := 2) hZ1 rfl⟩) ?_
                    clear hK K
                    try simp only [Act.put, List.setIfInBounds_toArray, List.set_cons_zero, List.set_cons_succ]
                    refine wpAnyE_one (i := 3) (by kernel_rfl) rfl (fun K hK => ?_)
                    go_simp
                    refine (OD.out _ _ _ _ _ gok).mono ?_
                    rintro e u2 ⟨o0, o1, o2, rfl, ook, hu2⟩
                    have hS2 := (hu2.block _ (heap_lt hS1)).trans hS1
                    have hZ2 := (hu2.block _ (heap_lt hZ1)).trans hZ1
                    have hR2 := (hu2.block _ (heap_lt hR1)).trans hR1
                    go_wp2_with fail
                    refine hK.out _ _ (fun _ => ⟨cell_of_block (o := 0) hS2 rfl, cell_of_block (o := 1) hS2 rfl, cell_of_block (o := 2) hS2 rfl, cell_of_block (o := 0) hZ2 rfl, cell_of_block (o := 1) hZ2 rfl, cell_of_block (o := 2) hZ2 rfl⟩) ?_
                    clear hK K
                    try simp only [Act.put, List.setIfInBounds_toArray, List.set_cons_zero, List.set_cons_succ]
                    refine wpAnyE_one (i := 4) (by kernel_rfl) rfl (fun K hK => ?_)
                    go_simp
                    refine (M.out _ _ _ _ _ _ _ mok ook).mono ?_
                    rintro e u3 ⟨l0, l1, l2, rfl, lok, hu3⟩
                    have hS3 := (hu3.block _ (heap_lt hS2)).trans hS2
                    have hZ3 := (hu3.block _ (heap_lt hZ2)).trans hZ2
                    have hR3 := (hu3.block _ (heap_lt hR2)).trans hR2
                    go_wp2_with fail
                    refine hK.out _ _ (fun _ => ⟨cell_of_block (o := 0) hS3 rfl, cell_of_block (o := 1) hS3 rfl, cell_of_block (o := 2) hS3 rfl, cell_of_block (o := 0) hZ3 rfl, cell_of_block (o := 1) hZ3 rfl, cell_of_block (o := 2) hZ3 rfl⟩) ?_
                    clear hK K
                    try simp only [Act.put, List.setIfInBounds_toArray, List.set_cons_zero, List.set_cons_succ]
                    refine wpAnyE_one (i := 5) (by kernel_rfl) rfl (fun K hK => ?_)
                    go_simp
                    refine (AD.out _ _ _ _ _ _ _ hokS lok).mono ?_
                    rintro e u4 ⟨k0, k1, k2, rfl, kok, hu4⟩
                    have hS4 := (hu4.block _ (heap_lt hS3)).trans hS3
                    have hZ4 := (hu4.block _ (heap_lt hZ3)).trans hZ3
                    have hR4 := (hu4.block _ (heap_lt hR3)).trans hR3
                    have rr0 := cell_of_block (o := 0) hR4 rfl
                    have rr1 := cell_of_block (o := 1) hR4 rfl
                    have rr2 := cell_of_block (o := 2) hR4 rfl
                    have rg0 := frozen_of_block (o := 0) hR4
                    have rg1 := frozen_of_block (o := 1) hR4
                    have rg2 := frozen_of_block (o := 2) hR4
                    go_wp2_with fail
                    refine hK.out _ _ (fun _ => ⟨cell_of_block (o := 0) hS4 rfl, cell_of_block (o := 1) hS4 rfl, cell_of_block (o := 2) hS4 rfl, cell_of_block (o := 0) hZ4 rfl, cell_of_block (o := 1) hZ4 rfl, cell_of_block (o := 2) hZ4 rfl⟩) ?_
                    clear hK K
                    try simp only [Act.put, List.setIfInBounds_toArray, List.set_cons_zero, List.set_cons_succ]
                    refine wpAnyE_one (i := 6) (by kernel_rfl) rfl (fun K hK => ?_)
                    go_simp
                    refine hK.out _ _ (fun h => absurd h (by decide)) ?_
                    clear hK K
                    refine wpAnyE_done (by kernel_rfl) ?_ _
                    have Q := hideq (set3 hR4 k0 k1 k2)
                    have HBt := hideq (set3_below (hBY.trans ((hdu.trans (Below.mono (hu2.trans (Below.mono (hu3.trans (hu4.mono hu3.size)) hu2.size)) hdu.size)).mono hBY.size)) (Nat.le_refl _) k0 k1 k2)
                    have HOK := hideq kok
                    clear hdu hu2 hu3 hu4 hS1 hS2 hS3 hS4 hZ1 hZ2 hZ3 hZ4 hR1 hR2 hR3 hR4
                    go_wp2_with fail
                    obtain ⟨q0, q1, q2⟩ := Q.out
                    refine bodyPost_ret (v := sv k0 k1 k2) (by simp [results, Tryd.results33, go_sem, q0, q1, q2]) rfl ?_
                    exact ⟨k0, k1, k2, rfl, HOK.out, HBt.out⟩
                  · skip
                    go_simp
                    obtain ⟨X_et8, hX_et8⟩ : ∃ X, X = (v_et5.alloc (.cells #[.int .i64 0, .int .i64 0, .bool false] 37)) := ⟨_, rfl⟩
                    rw [← hX_et8]
                    have hV_et8 : Hid (X_et8.heap[bv]? = some (spCells p q true)) := by rw [hX_et8]; exact alloc_old hV_et5.out
                    have hS_et8 : Hid (X_et8.heap[w2.heap.size]? = some (spCells s0 s1 s2)) := by rw [hX_et8]; exact alloc_old hS_et5.out
                    have hR_et8 : Hid (X_et8.heap[w.heap.size]? = some (spCells 0 0 false)) := by rw [hX_et8]; exact alloc_old hR_et5.out
                    have hZ_et8 : Hid (X_et8.heap[v_et5.heap.size]? = some (spCells 0 0 false)) := by rw [hX_et8]; exact cells_new _ _
                    have hB_et8 : Hid (Below w.heap.size w X_et8) := by rw [hX_et8]; exact hB_et5.out.alloc hB_et5.out.size _
                    have hzl_et8 := hB_et5.out.size
                    have hzn_et8_0 := heap_lt hV_et5.out
                    have hzn_et8_1 := heap_lt hS_et5.out
                    have hzn_et8_2 := heap_lt hR_et5.out
                    clear hX_et8 hV_et5 hS_et5 hR_et5 hB_et5
                    refine hK.out _ _ (fun _ => ⟨cell_of_block (o := 0) hV_et8.out rfl, cell_of_block (o := 1) hV_et8.out rfl, cell_of_block (o := 2) hV_et8.out rfl⟩) ?_
                    clear hK K
                    try simp only [Act.put, List.setIfInBounds_toArray, List.set_cons_zero, List.set_cons_succ]
                    refine wpAnyE_one (i := 7) (by kernel_rfl) rfl (fun K hK => ?_)
                    go_simp
                    refine (M.out _ _ _ _ _ _ _ bok fok).mono ?_
                    rintro e v_et9 ⟨g0, g1, g2, rfl, gok, hv_et9⟩
                    have hd_et9 := hv_et9
                    have hV_et9 := hideq ((hd_et9.block _ (heap_lt hV_et8.out)).trans hV_et8.out)
                    have hS_et9 := hideq ((hd_et9.block _ (heap_lt hS_et8.out)).trans hS_et8.out)
                    have hR_et9 := hideq ((hd_et9.block _ (heap_lt hR_et8.out)).trans hR_et8.out)
                    have hZ_et9 := hideq ((hd_et9.block _ (heap_lt hZ_et8.out)).trans hZ_et8.out)
                    have hB_et9 := hideq (hB_et8.out.trans (hd_et9.mono hB_et8.out.size))
                    clear hv_et9 hd_et9 hV_et8 hS_et8 hR_et8 hZ_et8 hB_et8
                    go_wp2_with fail
                    refine hK.out _ _ (fun _ => ⟨cell_of_block (o := 0) hV_et9.out rfl, cell_of_block (o := 1) hV_et9.out rfl, cell_of_block (o := 2) hV_et9.out rfl⟩) ?_
                    clear hK K
                    try simp only [Act.put, List.setIfInBounds_toArray, List.set_cons_zero, List.set_cons_succ]
                    have zc0 := cell_of_block (o := 0) hZ_et9.out rfl
                    have zf0 := frozen_of_block (o := 0) hZ_et9.out
                    have zc1 := cell_of_block (o := 1) hZ_et9.out rfl
                    have zf1 := frozen_of_block (o := 1) hZ_et9.out
                    have zc2 := cell_of_block (o := 2) hZ_et9.out rfl
                    have zf2 := frozen_of_block (o := 2) hZ_et9.out
                    refine wpAnyE_one (i := 9) (by kernel_rfl) rfl (fun K hK => ?_)
                    go_simp
                    refine hK.out _ _ (fun h => absurd h (by decide)) ?_
                    clear hK K
                    refine wpAnyE_done (by kernel_rfl) ?_ _
                    obtain ⟨Y, hY⟩ : ∃ Y, Y = (((v_et9.setCell ⟨v_et5.heap.size, 0, none⟩ (.int .i64 g0)).setCell ⟨v_et5.heap.size, 1, none⟩ (.int .i64 g1)).setCell ⟨v_et5.heap.size, 2, none⟩ (.bool g2)) := ⟨_, rfl⟩
                    rw [← hY]
                    have hSY : Y.heap[w2.heap.size]? = some (spCells s0 s1 s2) := by rw [hY, show ((((v_et9.setCell ⟨v_et5.heap.size, 0, none⟩ (.int .i64 g0)).setCell ⟨v_et5.heap.size, 1, none⟩ (.int .i64 g1)).setCell ⟨v_et5.heap.size, 2, none⟩ (.bool g2)) : World) = put3 v_et9 (v_et5.heap.size) g0 g1 g2 from rfl, put3_other (by omega)]; exact hS_et9.out
                    have hRY : Y.heap[w.heap.size]? = some (spCells 0 0 false) := by rw [hY, show ((((v_et9.setCell ⟨v_et5.heap.size, 0, none⟩ (.int .i64 g0)).setCell ⟨v_et5.heap.size, 1, none⟩ (.int .i64 g1)).setCell ⟨v_et5.heap.size, 2, none⟩ (.bool g2)) : World) = put3 v_et9 (v_et5.heap.size) g0 g1 g2 from rfl, put3_other (by omega)]; exact hR_et9.out
                    have hZY : Y.heap[v_et5.heap.size]? = some (spCells g0 g1 g2) := hY ▸ put3_same hZ_et9.out g0 g1 g2
                    have hBY : Below w.heap.size w Y := hY ▸ set3_below hB_et9.out (by omega) g0 g1 g2
                    clear hY zc0 zc1 zc2 zf0 zf1 zf2 aok bok cok dok fok hV_et9 hS_et9 hR_et9 hZ_et9 hB_et9
                    have ys0 := cell_of_block (o := 0) hSY rfl
                    have ys1 := cell_of_block (o := 1) hSY rfl
                    have ys2 := cell_of_block (o := 2) hSY rfl
                    have yz0 := cell_of_block (o := 0) hZY rfl
                    have yz1 := cell_of_block (o := 1) hZY rfl
                    have yz2 := cell_of_block (o := 2) hZY rfl
                    go_wp2_with fail
                    refine wp_region_E (fun w' : World => w'.cell? ⟨w2.heap.size, 0, none⟩ = some (.int .i64 s0) ∧ w'.cell? ⟨w2.heap.size, 1, none⟩ = some (.int .i64 s1) ∧ w'.cell? ⟨w2.heap.size, 2, none⟩ = some (.bool s2) ∧ w'.cell? ⟨v_et5.heap.size, 0, none⟩ = some (.int .i64 g0) ∧ w'.cell? ⟨v_et5.heap.size, 1, none⟩ = some (.int .i64 g1) ∧ w'.cell? ⟨v_et5.heap.size, 2, none⟩ = some (.bool g2)) (fun i => !(i == 6)) (by kernel_rfl) ?_
                    have hSh : Shut ((fun w' : World => w'.cell? ⟨w2.heap.size, 0, none⟩ = some (.int .i64 s0) ∧ w'.cell? ⟨w2.heap.size, 1, none⟩ = some (.int .i64 s1) ∧ w'.cell? ⟨w2.heap.size, 2, none⟩ = some (.bool s2) ∧ w'.cell? ⟨v_et5.heap.size, 0, none⟩ = some (.int .i64 g0) ∧ w'.cell? ⟨v_et5.heap.size, 1, none⟩ = some (.int .i64 g1) ∧ w'.cell? ⟨v_et5.heap.size, 2, none⟩ = some (.bool g2)) Y.drew) := ⟨ys0, ys1, ys2, yz0, yz1, yz2⟩
                    refine wpAnyE_take (i := 0) (v := ?vzet90) rfl (by kernel_rfl) (by kernel_rfl) (by kernel_rfl) (by kernel_rfl) (fun _ _ _ h => h) (Or.inl ⟨by rfl, ?yzet90⟩) hSh.out ?rzet90
                    case yzet90 =>
                      intro w hSw
                      try dsimp only at hSw
                      go_simp
                      try with_reducible rfl
                    try simp only [Act.put, List.setIfInBounds_toArray, List.set_cons_zero, List.set_cons_succ]
                    refine wpAnyE_take (i := 2) (v := ?vzet92) rfl (by kernel_rfl) (by kernel_rfl) (by kernel_rfl) (by kernel_rfl) (fun _ _ _ h => h) (Or.inl ⟨by rfl, ?yzet92⟩) hSh.out ?rzet92
                    case yzet92 =>
                      intro w hSw
                      try dsimp only at hSw
                      go_simp
                      try with_reducible rfl
                    try simp only [Act.put, List.setIfInBounds_toArray, List.set_cons_zero, List.set_cons_succ]
                    clear hSh
                    refine wpAnyE_one (i := 1) (by kernel_rfl) rfl (fun K hK => ?_)
                    go_simp
                    refine ((O.out _ _ _).mono (fun _ _ h => OfPost.sp (by decide) h)).mono ?_
                    rintro e u1 ⟨m0, m1, m2, rfl, mok, hu1⟩
                    have hdu := undrewS hu1
                    have hS1 := (hdu.block _ (heap_lt hSY)).trans hSY
                    have hZ1 := (hdu.block _ (heap_lt hZY)).trans hZY
                    have hR1 := (hdu.block _ (heap_lt hRY)).trans hRY
                    clear hu1
                    go_wp2_with fail
                    refine hK.out _ _ (fun _ => ⟨cell_of_block (o := 0) hS1 rfl, cell_of_block (o := 1) hS1 rfl, cell_of_block (o := 2) hS1 rfl, cell_of_block (o := 0) hZ1 rfl, cell_of_block (o := 1) hZ1 rfl, cell_of_block (o := 2) hZ1 rfl⟩) ?_
                    clear hK K
                    try simp only [Act.put, List.setIfInBounds_toArray, List.set_cons_zero, List.set_cons_succ]
                    refine wpAnyE_one (i := 3) (by kernel_rfl) rfl (fun K hK => ?_)
                    go_simp
                    refine (OD.out _ _ _ _ _ gok).mono ?_
                    rintro e u2 ⟨o0, o1, o2, rfl, ook, hu2⟩
                    have hS2 := (hu2.block _ (heap_lt hS1)).trans hS1
                    have hZ2 := (hu2.block _ (heap_lt hZ1)).trans hZ1
                    have hR2 := (hu2.block _ (heap_lt hR1)).trans hR1
                    go_wp2_with fail
                    refine hK.out _ _ (fun _ => ⟨cell_of_block (o := 0) hS2 rfl, cell_of_block (o := 1) hS2 rfl, cell_of_block (o := 2) hS2 rfl, cell_of_block (o := 0) hZ2 rfl, cell_of_block (o := 1) hZ2 rfl, cell_of_block (o := 2) hZ2 rfl⟩) ?_
                    clear hK K
                    try simp only [Act.put, List.setIfInBounds_toArray, List.set_cons_zero, List.set_cons_succ]
                    refine wpAnyE_one (i := 4) (by kernel_rfl) rfl (fun K hK => ?_)
                    go_simp
                    refine (M.out _ _ _ _ _ _ _ mok ook).mono ?_
                    rintro e u3 ⟨l0, l1, l2, rfl, lok, hu3⟩
                    have hS3 := (hu3.block _ (heap_lt hS2)).trans hS2
                    have hZ3 := (hu3.block _ (heap_lt hZ2)).trans hZ2
                    have hR3 := (hu3.block _ (heap_lt hR2)).trans hR2
                    go_wp2_with fail
                    refine hK.out _ _ (fun _ => ⟨cell_of_block (o := 0) hS3 rfl, cell_of_block (o := 1) hS3 rfl, cell_of_block (o := 2) hS3 rfl, cell_of_block (o := 0) hZ3 rfl, cell_of_block (o := 1) hZ3 rfl, cell_of_block (o := 2) hZ3 rfl⟩) ?_
                    clear hK K
                    try simp only [Act.put, List.setIfInBounds_toArray, List.set_cons_zero, List.set_cons_succ]
                    refine wpAnyE_one (i := 5) (by kernel_rfl) rfl (fun K hK => ?_)
                    go_simp
                    refine (AD.out _ _ _ _ _ _ _ hokS lok).mono ?_
                    rintro e u4 ⟨k0, k1, k2, rfl, kok, hu4⟩
                    have hS4 := (hu4.block _ (heap_lt hS3)).trans hS3
                    have hZ4 := (hu4.block _ (heap_lt hZ3)).trans hZ3
                    have hR4 := (hu4.block _ (heap_lt hR3)).trans hR3
                    have rr0 := cell_of_block (o := 0) hR4 rfl
                    have rr1 := cell_of_block (o := 1) hR4 rfl
                    have rr2 := cell_of_block (o := 2) hR4 rfl
                    have rg0 := frozen_of_block (o := 0) hR4
                    have rg1 := frozen_of_block (o := 1) hR4
                    have rg2 := frozen_of_block (o := 2) hR4
                    go_wp2_with fail
                    refine hK.out _ _ (fun _ => ⟨cell_of_block (o := 0) hS4 rfl, cell_of_block (o := 1) hS4 rfl, cell_of_block (o := 2) hS4 rfl, cell_of_block (o := 0) hZ4 rfl, cell_of_block (o := 1) hZ4 rfl, cell_of_block (o := 2) hZ4 rfl⟩) ?_
                    clear hK K
                    try simp only [Act.put, List.setIfInBounds_toArray, List.set_cons_zero, List.set_cons_succ]
                    refine wpAnyE_one (i := 6) (by kernel_rfl) rfl (fun K hK => ?_)
                    go_simp
                    refine hK.out _ _ (fun h => absurd h (by decide)) ?_
                    clear hK K
                    refine wpAnyE_done (by kernel_rfl) ?_ _
                    have Q := hideq (set3 hR4 k0 k1 k2)
                    have HBt := hideq (set3_below (hBY.trans ((hdu.trans (Below.mono (hu2.trans (Below.mono (hu3.trans (hu4.mono hu3.size)) hu2.size)) hdu.size)).mono hBY.size)) (Nat.le_refl _) k0 k1 k2)
                    have HOK := hideq kok
                    clear hdu hu2 hu3 hu4 hS1 hS2 hS3 hS4 hZ1 hZ2 hZ3 hZ4 hR1 hR2 hR3 hR4
                    go_wp2_with fail
                    obtain ⟨q0, q1, q2⟩ := Q.out
                    refine bodyPost_ret (v := sv k0 k1 k2) (by simp [results, Tryd.results33, go_sem, q0, q1, q2]) rfl ?_
                    exact ⟨k0, k1, k2, rfl, HOK.out, HBt.out⟩
                · skip
                  go_simp
                  obtain ⟨X_et10, hX_et10⟩ : ∃ X, X = (v_et4.alloc (.cells #[.int .i64 0, .int .i64 0, .bool false] 37)) := ⟨_, rfl⟩
                  rw [← hX_et10]
                  have hV_et10 : Hid (X_et10.heap[bv]? = some (spCells p q true)) := by rw [hX_et10]; exact alloc_old hV_et4.out
                  have hS_et10 : Hid (X_et10.heap[w2.heap.size]? = some (spCells s0 s1 s2)) := by rw [hX_et10]; exact alloc_old hS_et4.out
                  have hR_et10 : Hid (X_et10.heap[w.heap.size]? = some (spCells 0 0 false)) := by rw [hX_et10]; exact alloc_old hR_et4.out
                  have hZ_et10 : Hid (X_et10.heap[v_et4.heap.size]? = some (spCells 0 0 false)) := by rw [hX_et10]; exact cells_new _ _
                  have hB_et10 : Hid (Below w.heap.size w X_et10) := by rw [hX_et10]; exact hB_et4.out.alloc hB_et4.out.size _
                  have hzl_et10 := hB_et4.out.size
                  have hzn_et10_0 := heap_lt hV_et4.out
                  have hzn_et10_1 := heap_lt hS_et4.out
                  have hzn_et10_2 := heap_lt hR_et4.out
                  clear hX_et10 hV_et4 hS_et4 hR_et4 hB_et4
                  refine hK.out _ _ (fun _ => ⟨cell_of_block (o := 0) hV_et10.out rfl, cell_of_block (o := 1) hV_et10.out rfl, cell_of_block (o := 2) hV_et10.out rfl⟩) ?_
                  clear hK K
                  try simp only [Act.put, List.setIfInBounds_toArray, List.set_cons_zero, List.set_cons_succ]
                  refine wpAnyE_one (i := 6) (by kernel_rfl) rfl (fun K hK => ?_)
                  go_simp
                  refine (OV.out _ _ _ _ dok).mono ?_
                  rintro e v_et11 ⟨f0, f1, f2, rfl, fok, hv_et11⟩
                  have hd_et11 := hv_et11
                  have hV_et11 := hideq ((hd_et11.block _ (heap_lt hV_et10.out)).trans hV_et10.out)
                  have hS_et11 := hideq ((hd_et11.block _ (heap_lt hS_et10.out)).trans hS_et10.out)
                  have hR_et11 := hideq ((hd_et11.block _ (heap_lt hR_et10.out)).trans hR_et10.out)
                  have hZ_et11 := hideq ((hd_et11.block _ (heap_lt hZ_et10.out)).trans hZ_et10.out)
                  have hB_et11 := hideq (hB_et10.out.trans (hd_et11.mono hB_et10.out.size))
                  clear hv_et11 hd_et11 hV_et10 hS_et10 hR_et10 hZ_et10 hB_et10
                  go_wp2_with fail
                  refine hK.out _ _ (fun _ => ⟨cell_of_block (o := 0) hV_et11.out rfl, cell_of_block (o := 1) hV_et11.out rfl, cell_of_block (o := 2) hV_et11.out rfl⟩) ?_
                  clear hK K
                  try simp only [Act.put, List.setIfInBounds_toArray, List.set_cons_zero, List.set_cons_succ]
                  refine wpAnyE_one (i := 7) (by kernel_rfl) rfl (fun K hK => ?_)
                  go_simp
                  refine (M.out _ _ _ _ _ _ _ bok fok).mono ?_
                  rintro e v_et12 ⟨g0, g1, g2, rfl, gok, hv_et12⟩
                  have hd_et12 := hv_et12
                  have hV_et12 := hideq ((hd_et12.block _ (heap_lt hV_et11.out)).trans hV_et11.out)
                  have hS_et12 := hideq ((hd_et12.block _ (heap_lt hS_et11.out)).trans hS_et11.out)
                  have hR_et12 := hideq ((hd_et12.block _ (heap_lt hR_et11.out)).trans hR_et11.out)
                  have hZ_et12 := hideq ((hd_et12.block _ (heap_lt hZ_et11.out)).trans hZ_et11.out)
                  have hB_et12 := hideq (hB_et11.out.trans (hd_et12.mono hB_et11.out.size))
                  clear hv_et12 hd_et12 hV_et11 hS_et11 hR_et11 hZ_et11 hB_et11
                  go_wp2_with fail
                  refine hK.out _ _ (fun _ => ⟨cell_of_block (o := 0) hV_et12.out rfl, cell_of_block (o := 1) hV_et12.out rfl, cell_of_block (o := 2) hV_et12.out rfl⟩) ?_
                  clear hK K
                  try simp only [Act.put, List.setIfInBounds_toArray, List.set_cons_zero, List.set_cons_succ]
                  have zc0 := cell_of_block (o := 0) hZ_et12.out rfl
                  have zf0 := frozen_of_block (o := 0) hZ_et12.out
                  have zc1 := cell_of_block (o := 1) hZ_et12.out rfl
                  have zf1 := frozen_of_block (o := 1) hZ_et12.out
                  have zc2 := cell_of_block (o := 2) hZ_et12.out rfl
                  have zf2 := frozen_of_block (o := 2) hZ_et12.out
                  refine wpAnyE_one (i := 9) (by kernel_rfl) rfl (fun K hK => ?_)
                  go_simp
                  refine hK.out _ _ (fun h => absurd h (by decide)) ?_
                  clear hK K
                  refine wpAnyE_done (by kernel_rfl) ?_ _
                  obtain ⟨Y, hY⟩ : ∃ Y, Y = (((v_et12.setCell ⟨v_et4.heap.size, 0, none⟩ (.int .i64 g0)).setCell ⟨v_et4.heap.size, 1, none⟩ (.int .i64 g1)).setCell ⟨v_et4.heap.size, 2, none⟩ (.bool g2)) := ⟨_, rfl⟩
                  rw [← hY]
                  have hSY : Y.heap[w2.heap.size]? = some (spCells s0 s1 s2) := by rw [hY, show ((((v_et12.setCell ⟨v_et4.heap.size, 0, none⟩ (.int .i64 g0)).setCell ⟨v_et4.heap.size, 1, none⟩ (.int .i64 g1)).setCell ⟨v_et4.heap.size, 2, none⟩ (.bool g2)) : World) = put3 v_et12 (v_et4.heap.size) g0 g1 g2 from rfl, put3_other (by omega)]; exact hS_et12.out
                  have hRY : Y.heap[w.heap.size]? = some (spCells 0 0 false) := by rw [hY, show ((((v_et12.setCell ⟨v_et4.heap.size, 0, none⟩ (.int .i64 g0)).setCell ⟨v_et4.heap.size, 1, none⟩ (.int .i64 g1)).setCell ⟨v_et4.heap.size, 2, none⟩ (.bool g2)) : World) = put3 v_et12 (v_et4.heap.size) g0 g1 g2 from rfl, put3_other (by omega)]; exact hR_et12.out
                  have hZY : Y.heap[v_et4.heap.size]? = some (spCells g0 g1 g2) := hY ▸ put3_same hZ_et12.out g0 g1 g2
                  have hBY : Below w.heap.size w Y := hY ▸ set3_below hB_et12.out (by omega) g0 g1 g2
                  clear hY zc0 zc1 zc2 zf0 zf1 zf2 aok bok cok dok fok hV_et12 hS_et12 hR_et12 hZ_et12 hB_et12
                  have ys0 := cell_of_block (o := 0) hSY rfl
                  have ys1 := cell_of_block (o := 1) hSY rfl
                  have ys2 := cell_of_block (o := 2) hSY rfl
                  have yz0 := cell_of_block (o := 0) hZY rfl
                  have yz1 := cell_of_block (o := 1) hZY rfl
                  have yz2 := cell_of_block (o := 2) hZY rfl
                  go_wp2_with fail
                  refine wp_region_E (fun w' : World => w'.cell? ⟨w2.heap.size, 0, none⟩ = some (.int .i64 s0) ∧ w'.cell? ⟨w2.heap.size, 1, none⟩ = some (.int .i64 s1) ∧ w'.cell? ⟨w2.heap.size, 2, none⟩ = some (.bool s2) ∧ w'.cell? ⟨v_et4.heap.size, 0, none⟩ = some (.int .i64 g0) ∧ w'.cell? ⟨v_et4.heap.size, 1, none⟩ = some (.int .i64 g1) ∧ w'.cell? ⟨v_et4.heap.size, 2, none⟩ = some (.bool g2)) (fun i => !(i == 6)) (by kernel_rfl) ?_
                  have hSh : Shut ((fun w' : World => w'.cell? ⟨w2.heap.size, 0, none⟩ = some (.int .i64 s0) ∧ w'.cell? ⟨w2.heap.size, 1, none⟩ = some (.int .i64 s1) ∧ w'.cell? ⟨w2.heap.size, 2, none⟩ = some (.bool s2) ∧ w'.cell? ⟨v_et4.heap.size, 0, none⟩ = some (.int .i64 g0) ∧ w'.cell? ⟨v_et4.heap.size, 1, none⟩ = some (.int .i64 g1) ∧ w'.cell? ⟨v_et4.heap.size, 2, none⟩ = some (.bool g2)) Y.drew) := ⟨ys0, ys1, ys2, yz0, yz1, yz2⟩
                  refine wpAnyE_take (i := 0) (v := ?vzet120) rfl (by kernel_rfl) (by kernel_rfl) (by kernel_rfl) (by kernel_rfl) (fun _ _ _ h => h) (Or.inl ⟨by rfl, ?yzet120⟩) hSh.out ?rzet120
                  case yzet120 =>
                    intro w hSw
                    try dsimp only at hSw
                    go_simp
                    try with_reducible rfl
                  try simp only [Act.put, List.setIfInBounds_toArray, List.set_cons_zero, List.set_cons_succ]
                  refine wpAnyE_take (i := 2) (v := ?vzet122) rfl (by kernel_rfl) (by kernel_rfl) (by kernel_rfl) (by kernel_rfl) (fun _ _ _ h => h) (Or.inl ⟨by rfl, ?yzet122⟩) hSh.out ?rzet122
                  case yzet122 =>
                    intro w hSw
                    try dsimp only at hSw
                    go_simp
                    try with_reducible rfl
                  try simp only [Act.put, List.setIfInBounds_toArray, List.set_cons_zero, List.set_cons_succ]
                  clear hSh
                  refine wpAnyE_one (i := 1) (by kernel_rfl) rfl (fun K hK => ?_)
                  go_simp
                  refine ((O.out _ _ _).mono (fun _ _ h => OfPost.sp (by decide) h)).mono ?_
                  rintro e u1 ⟨m0, m1, m2, rfl, mok, hu1⟩
                  have hdu := undrewS hu1
                  have hS1 := (hdu.block _ (heap_lt hSY)).trans hSY
                  have hZ1 := (hdu.block _ (heap_lt hZY)).trans hZY
                  have hR1 := (hdu.block _ (heap_lt hRY)).trans hRY
                  clear hu1
                  go_wp2_with fail
                  refine hK.out _ _ (fun _ => ⟨cell_of_block (o := 0) hS1 rfl, cell_of_block (o := 1) hS1 rfl, cell_of_block (o := 2) hS1 rfl, cell_of_block (o := 0) hZ1 rfl, cell_of_block (o := 1) hZ1 rfl, cell_of_block (o := 2) hZ1 rfl⟩) ?_
                  clear hK K
                  try simp only [Act.put, List.setIfInBounds_toArray, List.set_cons_zero, List.set_cons_succ]
                  refine wpAnyE_one (i := 3) (by kernel_rfl) rfl (fun K hK => ?_)
                  go_simp
                  refine (OD.out _ _ _ _ _ gok).mono ?_
                  rintro e u2 ⟨o0, o1, o2, rfl, ook, hu2⟩
                  have hS2 := (hu2.block _ (heap_lt hS1)).trans hS1
                  have hZ2 := (hu2.block _ (heap_lt hZ1)).trans hZ1
                  have hR2 := (hu2.block _ (heap_lt hR1)).trans hR1
                  go_wp2_with fail
                  refine hK.out _ _ (fun _ => ⟨cell_of_block (o := 0) hS2 rfl, cell_of_block (o := 1) hS2 rfl, cell_of_block (o := 2) hS2 rfl, cell_of_block (o := 0) hZ2 rfl, cell_of_block (o := 1) hZ2 rfl, cell_of_block (o := 2) hZ2 rfl⟩) ?_
                  clear hK K
                  try simp only [Act.put, List.setIfInBounds_toArray, List.set_cons_zero, List.set_cons_succ]
                  refine wpAnyE_one (i := 4) (by kernel_rfl) rfl (fun K hK => ?_)
                  go_simp
                  refine (M.out _ _ _ _ _ _ _ mok ook).mono ?_
                  rintro e u3 ⟨l0, l1, l2, rfl, lok, hu3⟩
                  have hS3 := (hu3.block _ (heap_lt hS2)).trans hS2
                  have hZ3 := (hu3.block _ (heap_lt hZ2)).trans hZ2
                  have hR3 := (hu3.block _ (heap_lt hR2)).trans hR2
                  go_wp2_with fail
                  refine hK.out _ _ (fun _ => ⟨cell_of_block (o := 0) hS3 rfl, cell_of_block (o := 1) hS3 rfl, cell_of_block (o := 2) hS3 rfl, cell_of_block (o := 0) hZ3 rfl, cell_of_block (o := 1) hZ3 rfl, cell_of_block (o := 2) hZ3 rfl⟩) ?_
                  clear hK K
                  try simp only [Act.put, List.setIfInBounds_toArray, List.set_cons_zero, List.set_cons_succ]
                  refine wpAnyE_one (i := 5) (by kernel_rfl) rfl (fun K hK => ?_)
                  go_simp
                  refine (AD.out _ _ _ _ _ _ _ hokS lok).mono ?_
                  rintro e u4 ⟨k0, k1, k2, rfl, kok, hu4⟩
                  have hS4 := (hu4.block _ (heap_lt hS3)).trans hS3
                  have hZ4 := (hu4.block _ (heap_lt hZ3)).trans hZ3
                  have hR4 := (hu4.block _ (heap_lt hR3)).trans hR3
                  have rr0 := cell_of_block (o := 0) hR4 rfl
                  have rr1 := cell_of_block (o := 1) hR4 rfl
                  have rr2 := cell_of_block (o := 2) hR4 rfl
                  have rg0 := frozen_of_block (o := 0) hR4
                  have rg1 := frozen_of_block (o := 1) hR4
                  have rg2 := frozen_of_block (o := 2) hR4
                  go_wp2_with fail
                  refine hK.out _ _ (fun _ => ⟨cell_of_block (o := 0) hS4 rfl, cell_of_block (o := 1) hS4 rfl, cell_of_block (o := 2) hS4 rfl, cell_of_block (o := 0) hZ4 rfl, cell_of_block (o := 1) hZ4 rfl, cell_of_block (o := 2) hZ4 rfl⟩) ?_
                  clear hK K
                  try simp only [Act.put, List.setIfInBounds_toArray, List.set_cons_zero, List.set_cons_succ]
                  refine wpAnyE_one (i := 6) (by kernel_rfl) rfl (fun K hK => ?_)
                  go_simp
                  refine hK.out _ _ (fun h => absurd h (by decide)) ?_
                  clear hK K
                  refine wpAnyE_done (by kernel_rfl) ?_ _
                  have Q := hideq (set3 hR4 k0 k1 k2)
                  have HBt := hideq (set3_below (hBY.trans ((hdu.trans (Below.mono (hu2.trans (Below.mono (hu3.trans (hu4.mono hu3.size)) hu2.size)) hdu.size)).mono hBY.size)) (Nat.le_refl _) k0 k1 k2)
                  have HOK := hideq kok
                  clear hdu hu2 hu3 hu4 hS1 hS2 hS3 hS4 hZ1 hZ2 hZ3 hZ4 hR1 hR2 hR3 hR4
                  go_wp2_with fail
                  obtain ⟨q0, q1, q2⟩ := Q.out
                  refine bodyPost_ret (v := sv k0 k1 k2) (by simp [results, Tryd.results33, go_sem, q0, q1, q2]) rfl ?_
                  exact ⟨k0, k1, k2, rfl, HOK.out, HBt.out⟩
              · skip
                go_simp
                obtain ⟨X_et13, hX_et13⟩ : ∃ X, X = (v_et3.alloc (.cells #[.int .i64 0, .int .i64 0, .bool false] 37)) := ⟨_, rfl⟩
                rw [← hX_et13]
                have hV_et13 : Hid (X_et13.heap[bv]? = some (spCells p q true)) := by rw [hX_et13]; exact alloc_old hV_et3.out
                have hS_et13 : Hid (X_et13.heap[w2.heap.size]? = some (spCells s0 s1 s2)) := by rw [hX_et13]; exact alloc_old hS_et3.out
                have hR_et13 : Hid (X_et13.heap[w.heap.size]? = some (spCells 0 0 false)) := by rw [hX_et13]; exact alloc_old hR_et3.out
                have hZ_et13 : Hid (X_et13.heap[v_et3.heap.size]? = some (spCells 0 0 false)) := by rw [hX_et13]; exact cells_new _ _
                have hB_et13 : Hid (Below w.heap.size w X_et13) := by rw [hX_et13]; exact hB_et3.out.alloc hB_et3.out.size _
                have hzl_et13 := hB_et3.out.size
                have hzn_et13_0 := heap_lt hV_et3.out
                have hzn_et13_1 := heap_lt hS_et3.out
                have hzn_et13_2 := heap_lt hR_et3.out
                clear hX_et13 hV_et3 hS_et3 hR_et3 hB_et3
                refine hK.out _ _ (fun _ => ⟨cell_of_block (o := 0) hV_et13.out rfl, cell_of_block (o := 1) hV_et13.out rfl, cell_of_block (o := 2) hV_et13.out rfl⟩) ?_
                clear hK K
                try simp only [Act.put, List.setIfInBounds_toArray, List.set_cons_zero, List.set_cons_succ]
                refine wpAnyE_one (i := 5) (by kernel_rfl) rfl (fun K hK => ?_)
                go_simp
                refine (AD.out _ _ _ _ _ _ _ hokV cok).mono ?_
                rintro e v_et14 ⟨d0, d1, d2, rfl, dok, hv_et14⟩
                have hd_et14 := hv_et14
                have hV_et14 := hideq ((hd_et14.block _ (heap_lt hV_et13.out)).trans hV_et13.out)
                have hS_et14 := hideq ((hd_et14.block _ (heap_lt hS_et13.out)).trans hS_et13.out)
                have hR_et14 := hideq ((hd_et14.block _ (heap_lt hR_et13.out)).trans hR_et13.out)
                have hZ_et14 := hideq ((hd_et14.block _ (heap_lt hZ_et13.out)).trans hZ_et13.out)
                have hB_et14 := hideq (hB_et13.out.trans (hd_et14.mono hB_et13.out.size))
                clear hv_et14 hd_et14 hV_et13 hS_et13 hR_et13 hZ_et13 hB_et13
                go_wp2_with fail
                refine hK.out _ _ (fun _ => ⟨cell_of_block (o := 0) hV_et14.out rfl, cell_of_block (o := 1) hV_et14.out rfl, cell_of_block (o := 2) hV_et14.out rfl⟩) ?_
                clear hK K
                try simp only [Act.put, List.setIfInBounds_toArray, List.set_cons_zero, List.set_cons_succ]
                refine wpAnyE_one (i := 6) (by kernel_rfl) rfl (fun K hK => ?_)
                go_simp
                refine (OV.out _ _ _ _ dok).mono ?_
                rintro e v_et15 ⟨f0, f1, f2, rfl, fok, hv_et15⟩
                have hd_et15 := hv_et15
                have hV_et15 := hideq ((hd_et15.block _ (heap_lt hV_et14.out)).trans hV_et14.out)
                have hS_et15 := hideq ((hd_et15.block _ (heap_lt hS_et14.out)).trans hS_et14.out)
                have hR_et15 := hideq ((hd_et15.block _ (heap_lt hR_et14.out)).trans hR_et14.out)
                have hZ_et15 := hideq ((hd_et15.block _ (heap_lt hZ_et14.out)).trans hZ_et14.out)
                have hB_et15 := hideq (hB_et14.out.trans (hd_et15.mono hB_et14.out.size))
                clear hv_et15 hd_et15 hV_et14 hS_et14 hR_et14 hZ_et14 hB_et14
                go_wp2_with fail
                refine hK.out _ _ (fun _ => ⟨cell_of_block (o := 0) hV_et15.out rfl, cell_of_block (o := 1) hV_et15.out rfl, cell_of_block (o := 2) hV_et15.out rfl⟩) ?_
                clear hK K
                try simp only [Act.put, List.setIfInBounds_toArray, List.set_cons_zero, List.set_cons_succ]
                refine wpAnyE_one (i := 7) (by kernel_rfl) rfl (fun K hK => ?_)
                go_simp
                refine (M.out _ _ _ _ _ _ _ bok fok).mono ?_
                rintro e v_et16 ⟨g0, g1, g2, rfl, gok, hv_et16⟩
                have hd_et16 := hv_et16
                have hV_et16 := hideq ((hd_et16.block _ (heap_lt hV_et15.out)).trans hV_et15.out)
                have hS_et16 := hideq ((hd_et16.block _ (heap_lt hS_et15.out)).trans hS_et15.out)
                have hR_et16 := hideq ((hd_et16.block _ (heap_lt hR_et15.out)).trans hR_et15.out)
                have hZ_et16 := hideq ((hd_et16.block _ (heap_lt hZ_et15.out)).trans hZ_et15.out)
                have hB_et16 := hideq (hB_et15.out.trans (hd_et16.mono hB_et15.out.size))
                clear hv_et16 hd_et16 hV_et15 hS_et15 hR_et15 hZ_et15 hB_et15
                go_wp2_with fail
                refine hK.out _ _ (fun _ => ⟨cell_of_block (o := 0) hV_et16.out rfl, cell_of_block (o := 1) hV_et16.out rfl, cell_of_block (o := 2) hV_et16.out rfl⟩) ?_
                clear hK K
                try simp only [Act.put, List.setIfInBounds_toArray, List.set_cons_zero, List.set_cons_succ]
                have zc0 := cell_of_block (o := 0) hZ_et16.out rfl
                have zf0 := frozen_of_block (o := 0) hZ_et16.out
                have zc1 := cell_of_block (o := 1) hZ_et16.out rfl
                have zf1 := frozen_of_block (o := 1) hZ_et16.out
                have zc2 := cell_of_block (o := 2) hZ_et16.out rfl
                have zf2 := frozen_of_block (o := 2) hZ_et16.out
                refine wpAnyE_one (i := 9) (by kernel_rfl) rfl (fun K hK => ?_)
                go_simp
                refine hK.out _ _ (fun h => absurd h (by decide)) ?_
                clear hK K
                refine wpAnyE_done (by kernel_rfl) ?_ _
                obtain ⟨Y, hY⟩ : ∃ Y, Y = (((v_et16.setCell ⟨v_et3.heap.size, 0, none⟩ (.int .i64 g0)).setCell ⟨v_et3.heap.size, 1, none⟩ (.int .i64 g1)).setCell ⟨v_et3.heap.size, 2, none⟩ (.bool g2)) := ⟨_, rfl⟩
                rw [← hY]
                have hSY : Y.heap[w2.heap.size]? = some (spCells s0 s1 s2) := by rw [hY, show ((((v_et16.setCell ⟨v_et3.heap.size, 0, none⟩ (.int .i64 g0)).setCell ⟨v_et3.heap.size, 1, none⟩ (.int .i64 g1)).setCell ⟨v_et3.heap.size, 2, none⟩ (.bool g2)) : World) = put3 v_et16 (v_et3.heap.size) g0 g1 g2 from rfl, put3_other (by omega)]; exact hS_et16.out
                have hRY : Y.heap[w.heap.size]? = some (spCells 0 0 false) := by rw [hY, show ((((v_et16.setCell ⟨v_et3.heap.size, 0, none⟩ (.int .i64 g0)).setCell ⟨v_et3.heap.size, 1, none⟩ (.int .i64 g1)).setCell ⟨v_et3.heap.size, 2, none⟩ (.bool g2)) : World) = put3 v_et16 (v_et3.heap.size) g0 g1 g2 from rfl, put3_other (by omega)]; exact hR_et16.out
                have hZY : Y.heap[v_et3.heap.size]? = some (spCells g0 g1 g2) := hY ▸ put3_same hZ_et16.out g0 g1 g2
                have hBY : Below w.heap.size w Y := hY ▸ set3_below hB_et16.out (by omega) g0 g1 g2
                clear hY zc0 zc1 zc2 zf0 zf1 zf2 aok bok cok dok fok hV_et16 hS_et16 hR_et16 hZ_et16 hB_et16
                have ys0 := cell_of_block (o := 0) hSY rfl
                have ys1 := cell_of_block (o := 1) hSY rfl
                have ys2 := cell_of_block (o := 2) hSY rfl
                have yz0 := cell_of_block (o := 0) hZY rfl
                have yz1 := cell_of_block (o := 1) hZY rfl
                have yz2 := cell_of_block (o := 2) hZY rfl
                go_wp2_with fail
                refine wp_region_E (fun w' : World => w'.cell? ⟨w2.heap.size, 0, none⟩ = some (.int .i64 s0) ∧ w'.cell? ⟨w2.heap.size, 1, none⟩ = some (.int .i64 s1) ∧ w'.cell? ⟨w2.heap.size, 2, none⟩ = some (.bool s2) ∧ w'.cell? ⟨v_et3.heap.size, 0, none⟩ = some (.int .i64 g0) ∧ w'.cell? ⟨v_et3.heap.size, 1, none⟩ = some (.int .i64 g1) ∧ w'.cell? ⟨v_et3.heap.size, 2, none⟩ = some (.bool g2)) (fun i => !(i == 6)) (by kernel_rfl) ?_
                have hSh : Shut ((fun w' : World => w'.cell? ⟨w2.heap.size, 0, none⟩ = some (.int .i64 s0) ∧ w'.cell? ⟨w2.heap.size, 1, none⟩ = some (.int .i64 s1) ∧ w'.cell? ⟨w2.heap.size, 2, none⟩ = some (.bool s2) ∧ w'.cell? ⟨v_et3.heap.size, 0, none⟩ = some (.int .i64 g0) ∧ w'.cell? ⟨v_et3.heap.size, 1, none⟩ = some (.int .i64 g1) ∧ w'.cell? ⟨v_et3.heap.size, 2, none⟩ = some (.bool g2)) Y.drew) := ⟨ys0, ys1, ys2, yz0, yz1, yz2⟩
                refine wpAnyE_take (i := 0) (v := ?vzet160) rfl (by kernel_rfl) (by kernel_rfl) (by kernel_rfl) (by kernel_rfl) (fun _ _ _ h => h) (Or.inl ⟨by rfl, ?yzet160⟩) hSh.out ?rzet160
                case yzet160 =>
                  intro w hSw
                  try dsimp only at hSw
                  go_simp
                  try with_reducible rfl
                try simp only [Act.put, List.setIfInBounds_toArray, List.set_cons_zero, List.set_cons_succ]
                refine wpAnyE_take (i := 2) (v := ?vzet162) rfl (by kernel_rfl) (by kernel_rfl) (by kernel_rfl) (by kernel_rfl) (fun _ _ _ h => h) (Or.inl ⟨by rfl, ?yzet162⟩) hSh.out ?rzet162
                case yzet162 =>
                  intro w hSw
                  try dsimp only at hSw
                  go_simp
                  try with_reducible rfl
                try simp only [Act.put, List.setIfInBounds_toArray, List.set_cons_zero, List.set_cons_succ]
                clear hSh
                refine wpAnyE_one (i := 1) (by kernel_rfl) rfl (fun K hK => ?_)
                go_simp
                refine ((O.out _ _ _).mono (fun _ _ h => OfPost.sp (by decide) h)).mono ?_
                rintro e u1 ⟨m0, m1, m2, rfl, mok, hu1⟩
                have hdu := undrewS hu1
                have hS1 := (hdu.block _ (heap_lt hSY)).trans hSY
                have hZ1 := (hdu.block _ (heap_lt hZY)).trans hZY
                have hR1 := (hdu.block _ (heap_lt hRY)).trans hRY
                clear hu1
                go_wp2_with fail
                refine hK.out _ _ (fun _ => ⟨cell_of_block (o := 0) hS1 rfl, cell_of_block (o := 1) hS1 rfl, cell_of_block (o := 2) hS1 rfl, cell_of_block (o := 0) hZ1 rfl, cell_of_block (o := 1) hZ1 rfl, cell_of_block (o := 2) hZ1 rfl⟩) ?_
                clear hK K
                try simp only [Act.put, List.setIfInBounds_toArray, List.set_cons_zero, List.set_cons_succ]
                refine wpAnyE_one (i := 3) (by kernel_rfl) rfl (fun K hK => ?_)
                go_simp
                refine (OD.out _ _ _ _ _ gok).mono ?_
                rintro e u2 ⟨o0, o1, o2, rfl, ook, hu2⟩
                have hS2 := (hu2.block _ (heap_lt hS1)).trans hS1
                have hZ2 := (hu2.block _ (heap_lt hZ1)).trans hZ1
                have hR2 := (hu2.block _ (heap_lt hR1)).trans hR1
                go_wp2_with fail
                refine hK.out _ _ (fun _ => ⟨cell_of_block (o := 0) hS2 rfl, cell_of_block (o := 1) hS2 rfl, cell_of_block (o := 2) hS2 rfl, cell_of_block (o := 0) hZ2 rfl, cell_of_block (o := 1) hZ2 rfl, cell_of_block (o := 2) hZ2 rfl⟩) ?_
                clear hK K
                try simp only [Act.put, List.setIfInBounds_toArray, List.set_cons_zero, List.set_cons_succ]
                refine wpAnyE_one (i := 4) (by kernel_rfl) rfl (fun K hK => ?_)
                go_simp
                refine (M.out _ _ _ _ _ _ _ mok ook).mono ?_
                rintro e u3 ⟨l0, l1, l2, rfl, lok, hu3⟩
                have hS3 := (hu3.block _ (heap_lt hS2)).trans hS2
                have hZ3 := (hu3.block _ (heap_lt hZ2)).trans hZ2
                have hR3 := (hu3.block _ (heap_lt hR2)).trans hR2
                go_wp2_with fail
                refine hK.out _ _ (fun _ => ⟨cell_of_block (o := 0) hS3 rfl, cell_of_block (o := 1) hS3 rfl, cell_of_block (o := 2) hS3 rfl, cell_of_block (o := 0) hZ3 rfl, cell_of_block (o := 1) hZ3 rfl, cell_of_block (o := 2) hZ3 rfl⟩) ?_
                clear hK K
                try simp only [Act.put, List.setIfInBounds_toArray, List.set_cons_zero, List.set_cons_succ]
                refine wpAnyE_one (i := 5) (by kernel_rfl) rfl (fun K hK => ?_)
                go_simp
                refine (AD.out _ _ _ _ _ _ _ hokS lok).mono ?_
                rintro e u4 ⟨k0, k1, k2, rfl, kok, hu4⟩
                have hS4 := (hu4.block _ (heap_lt hS3)).trans hS3
                have hZ4 := (hu4.block _ (heap_lt hZ3)).trans hZ3
                have hR4 := (hu4.block _ (heap_lt hR3)).trans hR3
                have rr0 := cell_of_block (o := 0) hR4 rfl
                have rr1 := cell_of_block (o := 1) hR4 rfl
                have rr2 := cell_of_block (o := 2) hR4 rfl
                have rg0 := frozen_of_block (o := 0) hR4
                have rg1 := frozen_of_block (o := 1) hR4
                have rg2 := frozen_of_block (o := 2) hR4
                go_wp2_with fail
                refine hK.out _ _ (fun _ => ⟨cell_of_block (o := 0) hS4 rfl, cell_of_block (o := 1) hS4 rfl, cell_of_block (o := 2) hS4 rfl, cell_of_block (o := 0) hZ4 rfl, cell_of_block (o := 1) hZ4 rfl, cell_of_block (o := 2) hZ4 rfl⟩) ?_
                clear hK K
                try simp only [Act.put, List.setIfInBounds_toArray, List.set_cons_zero, List.set_cons_succ]
                refine wpAnyE_one (i := 6) (by kernel_rfl) rfl (fun K hK => ?_)
                go_simp
                refine hK.out _ _ (fun h => absurd h (by decide)) ?_
                clear hK K
                refine wpAnyE_done (by kernel_rfl) ?_ _
                have Q := hideq (set3 hR4 k0 k1 k2)
                have HBt := hideq (set3_below (hBY.trans ((hdu.trans (Below.mono (hu2.trans (Below.mono (hu3.trans (hu4.mono hu3.size)) hu2.size)) hdu.size)).mono hBY.size)) (Nat.le_refl _) k0 k1 k2)
                have HOK := hideq kok
                clear hdu hu2 hu3 hu4 hS1 hS2 hS3 hS4 hZ1 hZ2 hZ3 hZ4 hR1 hR2 hR3 hR4
                go_wp2_with fail
                obtain ⟨q0, q1, q2⟩ := Q.out
                refine bodyPost_ret (v := sv k0 k1 k2) (by simp [results, Tryd.results33, go_sem, q0, q1, q2]) rfl ?_
                exact ⟨k0, k1, k2, rfl, HOK.out, HBt.out⟩
            · skip
              go_simp
              obtain ⟨X_et17, hX_et17⟩ : ∃ X, X = (v_et2.alloc (.cells #[.int .i64 0, .int .i64 0, .bool false] 37)) := ⟨_, rfl⟩
              rw [← hX_et17]
              have hV_et17 : Hid (X_et17.heap[bv]? = some (spCells p q true)) := by rw [hX_et17]; exact alloc_old hV_et2.out
              have hS_et17 : Hid (X_et17.heap[w2.heap.size]? = some (spCells s0 s1 s2)) := by rw [hX_et17]; exact alloc_old hS_et2.out
              have hR_et17 : Hid (X_et17.heap[w.heap.size]? = some (spCells 0 0 false)) := by rw [hX_et17]; exact alloc_old hR_et2.out
              have hZ_et17 : Hid (X_et17.heap[v_et2.heap.size]? = some (spCells 0 0 false)) := by rw [hX_et17]; exact cells_new _ _
              have hB_et17 : Hid (Below w.heap.size w X_et17) := by rw [hX_et17]; exact hB_et2.out.alloc hB_et2.out.size _
              have hzl_et17 := hB_et2.out.size
              have hzn_et17_0 := heap_lt hV_et2.out
              have hzn_et17_1 := heap_lt hS_et2.out
              have hzn_et17_2 := heap_lt hR_et2.out
              clear hX_et17 hV_et2 hS_et2 hR_et2 hB_et2
              refine hK.out _ _ (fun _ => ⟨cell_of_block (o := 0) hV_et17.out rfl, cell_of_block (o := 1) hV_et17.out rfl, cell_of_block (o := 2) hV_et17.out rfl⟩) ?_
              clear hK K
              try simp only [Act.put, List.setIfInBounds_toArray, List.set_cons_zero, List.set_cons_succ]
              refine wpAnyE_one (i := 4) (by kernel_rfl) rfl (fun K hK => ?_)
              go_simp
              refine ((O.out _ _ _).mono (fun _ _ h => OfPost.sp (by decide) h)).mono ?_
              rintro e v_et18 ⟨c0, c1, c2, rfl, cok, hv_et18⟩
              have hd_et18 := hv_et18
              have hV_et18 := hideq ((hd_et18.block _ (heap_lt hV_et17.out)).trans hV_et17.out)
              have hS_et18 := hideq ((hd_et18.block _ (heap_lt hS_et17.out)).trans hS_et17.out)
              have hR_et18 := hideq ((hd_et18.block _ (heap_lt hR_et17.out)).trans hR_et17.out)
              have hZ_et18 := hideq ((hd_et18.block _ (heap_lt hZ_et17.out)).trans hZ_et17.out)
              have hB_et18 := hideq (hB_et17.out.trans (hd_et18.mono hB_et17.out.size))
              clear hv_et18 hd_et18 hV_et17 hS_et17 hR_et17 hZ_et17 hB_et17
              go_wp2_with fail
              refine hK.out _ _ (fun _ => ⟨cell_of_block (o := 0) hV_et18.out rfl, cell_of_block (o := 1) hV_et18.out rfl, cell_of_block (o := 2) hV_et18.out rfl⟩) ?_
              clear hK K
              try simp only [Act.put, List.setIfInBounds_toArray, List.set_cons_zero, List.set_cons_succ]
              refine wpAnyE_one (i := 5) (by kernel_rfl) rfl (fun K hK => ?_)
              go_simp
              refine (AD.out _ _ _ _ _ _ _ hokV cok).mono ?_
              rintro e v_et19 ⟨d0, d1, d2, rfl, dok, hv_et19⟩
              have hd_et19 := hv_et19
              have hV_et19 := hideq ((hd_et19.block _ (heap_lt hV_et18.out)).trans hV_et18.out)
              have hS_et19 := hideq ((hd_et19.block _ (heap_lt hS_et18.out)).trans hS_et18.out)
              have hR_et19 := hideq ((hd_et19.block _ (heap_lt hR_et18.out)).trans hR_et18.out)
              have hZ_et19 := hideq ((hd_et19.block _ (heap_lt hZ_et18.out)).trans hZ_et18.out)
              have hB_et19 := hideq (hB_et18.out.trans (hd_et19.mono hB_et18.out.size))
              clear hv_et19 hd_et19 hV_et18 hS_et18 hR_et18 hZ_et18 hB_et18
              go_wp2_with fail
              refine hK.out _ _ (fun _ => ⟨cell_of_block (o := 0) hV_et19.out rfl, cell_of_block (o := 1) hV_et19.out rfl, cell_of_block (o := 2) hV_et19.out rfl⟩) ?_
              clear hK K
              try simp only [Act.put, List.setIfInBounds_toArray, List.set_cons_zero, List.set_cons_succ]
              refine wpAnyE_one (i := 6) (by kernel_rfl) rfl (fun K hK => ?_)
              go_simp
              refine (OV.out _ _ _ _ dok).mono ?_
              rintro e v_et20 ⟨f0, f1, f2, rfl, fok, hv_et20⟩
              have hd_et20 := hv_et20
              have hV_et20 := hideq ((hd_et20.block _ (heap_lt hV_et19.out)).trans hV_et19.out)
              have hS_et20 := hideq ((hd_et20.block _ (heap_lt hS_et19.out)).trans hS_et19.out)
              have hR_et20 := hideq ((hd_et20.block _ (heap_lt hR_et19.out)).trans hR_et19.out)
              have hZ_et20 := hideq ((hd_et20.block _ (heap_lt hZ_et19.out)).trans hZ_et19.out)
              have hB_et20 := hideq (hB_et19.out.trans (hd_et20.mono hB_et19.out.size))
              clear hv_et20 hd_et20 hV_et19 hS_et19 hR_et19 hZ_et19 hB_et19
              go_wp2_with fail
              refine hK.out _ _ (fun _ => ⟨cell_of_block (o := 0) hV_et20.out rfl, cell_of_block (o := 1) hV_et20.out rfl, cell_of_block (o := 2) hV_et20.out rfl⟩) ?_
              clear hK K
              try simp only [Act.put, List.setIfInBounds_toArray, List.set_cons_zero, List.set_cons_succ]
              refine wpAnyE_one (i := 7) (by kernel_rfl) rfl (fun K hK => ?_)
              go_simp
              refine (M.out _ _ _ _ _ _ _ bok fok).mono ?_
              rintro e v_et21 ⟨g0, g1, g2, rfl, gok, hv_et21⟩
              have hd_et21 := hv_et21
              have hV_et21 := hideq ((hd_et21.block _ (heap_lt hV_et20.out)).trans hV_et20.out)
              have hS_et21 := hideq ((hd_et21.block _ (heap_lt hS_et20.out)).trans hS_et20.out)
              have hR_et21 := hideq ((hd_et21.block _ (heap_lt hR_et20.out)).trans hR_et20.out)
              have hZ_et21 := hideq ((hd_et21.block _ (heap_lt hZ_et20.out)).trans hZ_et20.out)
              have hB_et21 := hideq (hB_et20.out.trans (hd_et21.mono hB_et20.out.size))
              clear hv_et21 hd_et21 hV_et20 hS_et20 hR_et20 hZ_et20 hB_et20
              go_wp2_with fail
              refine hK.out _ _ (fun _ => ⟨cell_of_block (o := 0) hV_et21.out rfl, cell_of_block (o := 1) hV_et21.out rfl, cell_of_block (o := 2) hV_et21.out rfl⟩) ?_
              clear hK K
              try simp only [Act.put, List.setIfInBounds_toArray, List.set_cons_zero, List.set_cons_succ]
              have zc0 := cell_of_block (o := 0) hZ_et21.out rfl
              have zf0 := frozen_of_block (o := 0) hZ_et21.out
              have zc1 := cell_of_block (o := 1) hZ_et21.out rfl
              have zf1 := frozen_of_block (o := 1) hZ_et21.out
              have zc2 := cell_of_block (o := 2) hZ_et21.out rfl
              have zf2 := frozen_of_block (o := 2) hZ_et21.out
              refine wpAnyE_one (i := 9) (by kernel_rfl) rfl (fun K hK => ?_)
              go_simp
              refine hK.out _ _ (fun h => absurd h (by decide)) ?_
              clear hK K
              refine wpAnyE_done (by kernel_rfl) ?_ _
              obtain ⟨Y, hY⟩ : ∃ Y, Y = (((v_et21.setCell ⟨v_et2.heap.size, 0, none⟩ (.int .i64 g0)).setCell ⟨v_et2.heap.size, 1, none⟩ (.int .i64 g1)).setCell ⟨v_et2.heap.size, 2, none⟩ (.bool g2)) := ⟨_, rfl⟩
              rw [← hY]
              have hSY : Y.heap[w2.heap.size]? = some (spCells s0 s1 s2) := by rw [hY, show ((((v_et21.setCell ⟨v_et2.heap.size, 0, none⟩ (.int .i64 g0)).setCell ⟨v_et2.heap.size, 1, none⟩ (.int .i64 g1)).setCell ⟨v_et2.heap.size, 2, none⟩ (.bool g2)) : World) = put3 v_et21 (v_et2.heap.size) g0 g1 g2 from rfl, put3_other (by omega)]; exact hS_et21.out
              have hRY : Y.heap[w.heap.size]? = some (spCells 0 0 false) := by rw [hY, show ((((v_et21.setCell ⟨v_et2.heap.size, 0, none⟩ (.int .i64 g0)).setCell ⟨v_et2.heap.size, 1, none⟩ (.int .i64 g1)).setCell ⟨v_et2.heap.size, 2, none⟩ (.bool g2)) : World) = put3 v_et21 (v_et2.heap.size) g0 g1 g2 from rfl, put3_other (by omega)]; exact hR_et21.out
              have hZY : Y.heap[v_et2.heap.size]? = some (spCells g0 g1 g2) := hY ▸ put3_same hZ_et21.out g0 g1 g2
              have hBY : Below w.heap.size w Y := hY ▸ set3_below hB_et21.out (by omega) g0 g1 g2
              clear hY zc0 zc1 zc2 zf0 zf1 zf2 aok bok cok dok fok hV_et21 hS_et21 hR_et21 hZ_et21 hB_et21
              have ys0 := cell_of_block (o := 0) hSY rfl
              have ys1 := cell_of_block (o := 1) hSY rfl
              have ys2 := cell_of_block (o := 2) hSY rfl
              have yz0 := cell_of_block (o := 0) hZY rfl
              have yz1 := cell_of_block (o := 1) hZY rfl
              have yz2 := cell_of_block (o := 2) hZY rfl
              go_wp2_with fail
              refine wp_region_E (fun w' : World => w'.cell? ⟨w2.heap.size, 0, none⟩ = some (.int .i64 s0) ∧ w'.cell? ⟨w2.heap.size, 1, none⟩ = some (.int .i64 s1) ∧ w'.cell? ⟨w2.heap.size, 2, none⟩ = some (.bool s2) ∧ w'.cell? ⟨v_et2.heap.size, 0, none⟩ = some (.int .i64 g0) ∧ w'.cell? ⟨v_et2.heap.size, 1, none⟩ = some (.int .i64 g1) ∧ w'.cell? ⟨v_et2.heap.size, 2, none⟩ = some (.bool g2)) (fun i => !(i == 6)) (by kernel_rfl) ?_
              have hSh : Shut ((fun w' : World => w'.cell? ⟨w2.heap.size, 0, none⟩ = some (.int .i64 s0) ∧ w'.cell? ⟨w2.heap.size, 1, none⟩ = some (.int .i64 s1) ∧ w'.cell? ⟨w2.heap.size, 2, none⟩ = some (.bool s2) ∧ w'.cell? ⟨v_et2.heap.size, 0, none⟩ = some (.int .i64 g0) ∧ w'.cell? ⟨v_et2.heap.size, 1, none⟩ = some (.int .i64 g1) ∧ w'.cell? ⟨v_et2.heap.size, 2, none⟩ = some (.bool g2)) Y.drew) := ⟨ys0, ys1, ys2, yz0, yz1, yz2⟩
              refine wpAnyE_take (i := 0) (v := ?vzet210) rfl (by kernel_rfl) (by kernel_rfl) (by kernel_rfl) (by kernel_rfl) (fun _ _ _ h => h) (Or.inl ⟨by rfl, ?yzet210⟩) hSh.out ?rzet210
              case yzet210 =>
                intro w hSw
                try dsimp only at hSw
                go_simp
                try with_reducible rfl
              try simp only [Act.put, List.setIfInBounds_toArray, List.set_cons_zero, List.set_cons_succ]
              refine wpAnyE_take (i := 2) (v := ?vzet212) rfl (by kernel_rfl) (by kernel_rfl) (by kernel_rfl) (by kernel_rfl) (fun _ _ _ h => h) (Or.inl ⟨by rfl, ?yzet212⟩) hSh.out ?rzet212
              case yzet212 =>
                intro w hSw
                try dsimp only at hSw
                go_simp
                try with_reducible rfl
              try simp only [Act.put, List.setIfInBounds_toArray, List.set_cons_zero, List.set_cons_succ]
              clear hSh
              refine wpAnyE_one (i := 1) (by kernel_rfl) rfl (fun K hK => ?_)
              go_simp
              refine ((O.out _ _ _).mono (fun _ _ h => OfPost.sp (by decide) h)).mono ?_
              rintro e u1 ⟨m0, m1, m2, rfl, mok, hu1⟩
              have hdu := undrewS hu1
              have hS1 := (hdu.block _ (heap_lt hSY)).trans hSY
              have hZ1 := (hdu.block _ (heap_lt hZY)).trans hZY
              have hR1 := (hdu.block _ (heap_lt hRY)).trans hRY
              clear hu1
              go_wp2_with fail
              refine hK.out _ _ (fun _ => ⟨cell_of_block (o := 0) hS1 rfl, cell_of_block (o := 1) hS1 rfl, cell_of_block (o := 2) hS1 rfl, cell_of_block (o := 0) hZ1 rfl, cell_of_block (o := 1) hZ1 rfl, cell_of_block (o := 2) hZ1 rfl⟩) ?_
              clear hK K
              try simp only [Act.put, List.setIfInBounds_toArray, List.set_cons_zero, List.set_cons_succ]
              refine wpAnyE_one (i := 3) (by kernel_rfl) rfl (fun K hK => ?_)
              go_simp
              refine (OD.out _ _ _ _ _ gok).mono ?_
              rintro e u2 ⟨o0, o1, o2, rfl, ook, hu2⟩
              have hS2 := (hu2.block _ (heap_lt hS1)).trans hS1
              have hZ2 := (hu2.block _ (heap_lt hZ1)).trans hZ1
              have hR2 := (hu2.block _ (heap_lt hR1)).trans hR1
              go_wp2_with fail
              refine hK.out _ _ (fun _ => ⟨cell_of_block (o := 0) hS2 rfl, cell_of_block (o := 1) hS2 rfl, cell_of_block (o := 2) hS2 rfl, cell_of_block (o := 0) hZ2 rfl, cell_of_block (o := 1) hZ2 rfl, cell_of_block (o := 2) hZ2 rfl⟩) ?_
              clear hK K
              try simp only [Act.put, List.setIfInBounds_toArray, List.set_cons_zero, List.set_cons_succ]
              refine wpAnyE_one (i := 4) (by kernel_rfl) rfl (fun K hK => ?_)
              go_simp
              refine (M.out _ _ _ _ _ _ _ mok ook).mono ?_
              rintro e u3 ⟨l0, l1, l2, rfl, lok, hu3⟩
              have hS3 := (hu3.block _ (heap_lt hS2)).trans hS2
              have hZ3 := (hu3.block _ (heap_lt hZ2)).trans hZ2
              have hR3 := (hu3.block _ (heap_lt hR2)).trans hR2
              go_wp2_with fail
              refine hK.out _ _ (fun _ => ⟨cell_of_block (o := 0) hS3 rfl, cell_of_block (o := 1) hS3 rfl, cell_of_block (o := 2) hS3 rfl, cell_of_block (o := 0) hZ3 rfl, cell_of_block (o := 1) hZ3 rfl, cell_of_block (o := 2) hZ3 rfl⟩) ?_
              clear hK K
              try simp only [Act.put, List.setIfInBounds_toArray, List.set_cons_zero, List.set_cons_succ]
              refine wpAnyE_one (i := 5) (by kernel_rfl) rfl (fun K hK => ?_)
              go_simp
              refine (AD.out _ _ _ _ _ _ _ hokS lok).mono ?_
              rintro e u4 ⟨k0, k1, k2, rfl, kok, hu4⟩
              have hS4 := (hu4.block _ (heap_lt hS3)).trans hS3
              have hZ4 := (hu4.block _ (heap_lt hZ3)).trans hZ3
              have hR4 := (hu4.block _ (heap_lt hR3)).trans hR3
              have rr0 := cell_of_block (o := 0) hR4 rfl
              have rr1 := cell_of_block (o := 1) hR4 rfl
              have rr2 := cell_of_block (o := 2) hR4 rfl
              have rg0 := frozen_of_block (o := 0) hR4
              have rg1 := frozen_of_block (o := 1) hR4
              have rg2 := frozen_of_block (o := 2) hR4
              go_wp2_with fail
              refine hK.out _ _ (fun _ => ⟨cell_of_block (o := 0) hS4 rfl, cell_of_block (o := 1) hS4 rfl, cell_of_block (o := 2) hS4 rfl, cell_of_block (o := 0) hZ4 rfl, cell_of_block (o := 1) hZ4 rfl, cell_of_block (o := 2) hZ4 rfl⟩) ?_
              clear hK K
              try simp only [Act.put, List.setIfInBounds_toArray, List.set_cons_zero, List.set_cons_succ]
              refine wpAnyE_one (i := 6) (by kernel_rfl) rfl (fun K hK => ?_)
              go_simp
              refine hK.out _ _ (fun h => absurd h (by decide)) ?_
              clear hK K
              refine wpAnyE_done (by kernel_rfl) ?_ _
              have Q := hideq (set3 hR4 k0 k1 k2)
              have HBt := hideq (set3_below (hBY.trans ((hdu.trans (Below.mono (hu2.trans (Below.mono (hu3.trans (hu4.mono hu3.size)) hu2.size)) hdu.size)).mono hBY.size)) (Nat.le_refl _) k0 k1 k2)
              have HOK := hideq kok
              clear hdu hu2 hu3 hu4 hS1 hS2 hS3 hS4 hZ1 hZ2 hZ3 hZ4 hR1 hR2 hR3 hR4
              go_wp2_with fail
              obtain ⟨q0, q1, q2⟩ := Q.out
              refine bodyPost_ret (v := sv k0 k1 k2) (by simp [results, Tryd.results33, go_sem, q0, q1, q2]) rfl ?_
              exact ⟨k0, k1, k2, rfl, HOK.out, HBt.out⟩
          · skip
            go_simp
            obtain ⟨X_et22, hX_et22⟩ : ∃ X, X = (v_et1.alloc (.cells #[.int .i64 0, .int .i64 0, .bool false] 37)) := ⟨_, rfl⟩
            rw [← hX_et22]
            have hV_et22 : Hid (X_et22.heap[bv]? = some (spCells p q true)) := by rw [hX_et22]; exact alloc_old hV_et1.out
            have hS_et22 : Hid (X_et22.heap[w2.heap.size]? = some (spCells s0 s1 s2)) := by rw [hX_et22]; exact alloc_old hS_et1.out
            have hR_et22 : Hid (X_et22.heap[w.heap.size]? = some (spCells 0 0 false)) := by rw [hX_et22]; exact alloc_old hR_et1.out
            have hZ_et22 : Hid (X_et22.heap[v_et1.heap.size]? = some (spCells 0 0 false)) := by rw [hX_et22]; exact cells_new _ _
            have hB_et22 : Hid (Below w.heap.size w X_et22) := by rw [hX_et22]; exact hB_et1.out.alloc hB_et1.out.size _
            have hzl_et22 := hB_et1.out.size
            have hzn_et22_0 := heap_lt hV_et1.out
            have hzn_et22_1 := heap_lt hS_et1.out
            have hzn_et22_2 := heap_lt hR_et1.out
            clear hX_et22 hV_et1 hS_et1 hR_et1 hB_et1
            refine hK.out _ _ (fun _ => ⟨cell_of_block (o := 0) hV_et22.out rfl, cell_of_block (o := 1) hV_et22.out rfl, cell_of_block (o := 2) hV_et22.out rfl⟩) ?_
            clear hK K
            try simp only [Act.put, List.setIfInBounds_toArray, List.set_cons_zero, List.set_cons_succ]
            refine wpAnyE_one (i := 2) (by kernel_rfl) rfl (fun K hK => ?_)
            go_simp
            refine (AD.out _ _ _ _ _ _ _ hokV aok).mono ?_
            rintro e v_et23 ⟨b0, b1, b2, rfl, bok, hv_et23⟩
            have hd_et23 := hv_et23
            have hV_et23 := hideq ((hd_et23.block _ (heap_lt hV_et22.out)).trans hV_et22.out)
            have hS_et23 := hideq ((hd_et23.block _ (heap_lt hS_et22.out)).trans hS_et22.out)
            have hR_et23 := hideq ((hd_et23.block _ (heap_lt hR_et22.out)).trans hR_et22.out)
            have hZ_et23 := hideq ((hd_et23.block _ (heap_lt hZ_et22.out)).trans hZ_et22.out)
            have hB_et23 := hideq (hB_et22.out.trans (hd_et23.mono hB_et22.out.size))
            clear hv_et23 hd_et23 hV_et22 hS_et22 hR_et22 hZ_et22 hB_et22
            go_wp2_with fail
            refine hK.out _ _ (fun _ => ⟨cell_of_block (o := 0) hV_et23.out rfl, cell_of_block (o := 1) hV_et23.out rfl, cell_of_block (o := 2) hV_et23.out rfl⟩) ?_
            clear hK K
            try simp only [Act.put, List.setIfInBounds_toArray, List.set_cons_zero, List.set_cons_succ]
            refine wpAnyE_one (i := 4) (by kernel_rfl) rfl (fun K hK => ?_)
            go_simp
            refine ((O.out _ _ _).mono (fun _ _ h => OfPost.sp (by decide) h)).mono ?_
            rintro e v_et24 ⟨c0, c1, c2, rfl, cok, hv_et24⟩
            have hd_et24 := hv_et24
            have hV_et24 := hideq ((hd_et24.block _ (heap_lt hV_et23.out)).trans hV_et23.out)
            have hS_et24 := hideq ((hd_et24.block _ (heap_lt hS_et23.out)).trans hS_et23.out)
            have hR_et24 := hideq ((hd_et24.block _ (heap_lt hR_et23.out)).trans hR_et23.out)
            have hZ_et24 := hideq ((hd_et24.block _ (heap_lt hZ_et23.out)).trans hZ_et23.out)
            have hB_et24 := hideq (hB_et23.out.trans (hd_et24.mono hB_et23.out.size))
            clear hv_et24 hd_et24 hV_et23 hS_et23 hR_et23 hZ_et23 hB_et23
            go_wp2_with fail
            refine hK.out _ _ (fun _ => ⟨cell_of_block (o := 0) hV_et24.out rfl, cell_of_block (o := 1) hV_et24.out rfl, cell_of_block (o := 2) hV_et24.out rfl⟩) ?_
            clear hK K
            try simp only [Act.put, List.setIfInBounds_toArray, List.set_cons_zero, List.set_cons_succ]
            refine wpAnyE_one (i := 5) (by kernel_rfl) rfl (fun K hK => ?_)
            go_simp
            refine (AD.out _ _ _ _ _ _ _ hokV cok).mono ?_
            rintro e v_et25 ⟨d0, d1, d2, rfl, dok, hv_et25⟩
            have hd_et25 := hv_et25
            have hV_et25 := hideq ((hd_et25.block _ (heap_lt hV_et24.out)).trans hV_et24.out)
            have hS_et25 := hideq ((hd_et25.block _ (heap_lt hS_et24.out)).trans hS_et24.out)
            have hR_et25 := hideq ((hd_et25.block _ (heap_lt hR_et24.out)).trans hR_et24.out)
            have hZ_et25 := hideq ((hd_et25.block _ (heap_lt hZ_et24.out)).trans hZ_et24.out)
            have hB_et25 := hideq (hB_et24.out.trans (hd_et25.mono hB_et24.out.size))
            clear hv_et25 hd_et25 hV_et24 hS_et24 hR_et24 hZ_et24 hB_et24
            go_wp2_with fail
            refine hK.out _ _ (fun _ => ⟨cell_of_block (o := 0) hV_et25.out rfl, cell_of_block (o := 1) hV_et25.out rfl, cell_of_block (o := 2) hV_et25.out rfl⟩) ?_
            clear hK K
            try simp only [Act.put, List.setIfInBounds_toArray, List.set_cons_zero, List.set_cons_succ]
            refine wpAnyE_one (i := 6) (by kernel_rfl) rfl (fun K hK => ?_)
            go_simp
            refine (OV.out _ _ _ _ dok).mono ?_
            rintro e v_et26 ⟨f0, f1, f2, rfl, fok, hv_et26⟩
            have hd_et26 := hv_et26
            have hV_et26 := hideq ((hd_et26.block _ (heap_lt hV_et25.out)).trans hV_et25.out)
            have hS_et26 := hideq ((hd_et26.block _ (heap_lt hS_et25.out)).trans hS_et25.out)
            have hR_et26 := hideq ((hd_et26.block _ (heap_lt hR_et25.out)).trans hR_et25.out)
            have hZ_et26 := hideq ((hd_et26.block _ (heap_lt hZ_et25.out)).trans hZ_et25.out)
            have hB_et26 := hideq (hB_et25.out.trans (hd_et26.mono hB_et25.out.size))
            clear hv_et26 hd_et26 hV_et25 hS_et25 hR_et25 hZ_et25 hB_et25
            go_wp2_with fail
            refine hK.out _ _ (fun _ => ⟨cell_of_block (o := 0) hV_et26.out rfl, cell_of_block (o := 1) hV_et26.out rfl, cell_of_block (o := 2) hV_et26.out rfl⟩) ?_
            clear hK K
            try simp only [Act.put, List.setIfInBounds_toArray, List.set_cons_zero, List.set_cons_succ]
            refine wpAnyE_one (i := 7) (by kernel_rfl) rfl (fun K hK => ?_)
            go_simp
            refine (M.out _ _ _ _ _ _ _ bok fok).mono ?_
            rintro e v_et27 ⟨g0, g1, g2, rfl, gok, hv_et27⟩
            have hd_et27 := hv_et27
            have hV_et27 := hideq ((hd_et27.block _ (heap_lt hV_et26.out)).trans hV_et26.out)
            have hS_et27 := hideq ((hd_et27.block _ (heap_lt hS_et26.out)).trans hS_et26.out)
            have hR_et27 := hideq ((hd_et27.block _ (heap_lt hR_et26.out)).trans hR_et26.out)
            have hZ_et27 := hideq ((hd_et27.block _ (heap_lt hZ_et26.out)).trans hZ_et26.out)
            have hB_et27 := hideq (hB_et26.out.trans (hd_et27.mono hB_et26.out.size))
            clear hv_et27 hd_et27 hV_et26 hS_et26 hR_et26 hZ_et26 hB_et26
            go_wp2_with fail
            refine hK.out _ _ (fun _ => ⟨cell_of_block (o := 0) hV_et27.out rfl, cell_of_block (o := 1) hV_et27.out rfl, cell_of_block (o := 2) hV_et27.out rfl⟩) ?_
            clear hK K
            try simp only [Act.put, List.setIfInBounds_toArray, List.set_cons_zero, List.set_cons_succ]
            have zc0 := cell_of_block (o := 0) hZ_et27.out rfl
            have zf0 := frozen_of_block (o := 0) hZ_et27.out
            have zc1 := cell_of_block (o := 1) hZ_et27.out rfl
            have zf1 := frozen_of_block (o := 1) hZ_et27.out
            have zc2 := cell_of_block (o := 2) hZ_et27.out rfl
            have zf2 := frozen_of_block (o := 2) hZ_et27.out
            refine wpAnyE_one (i := 9) (by kernel_rfl) rfl (fun K hK => ?_)
            go_simp
            refine hK.out _ _ (fun h => absurd h (by decide)) ?_
            clear hK K
            refine wpAnyE_done (by kernel_rfl) ?_ _
            obtain ⟨Y, hY⟩ : ∃ Y, Y = (((v_et27.setCell ⟨v_et1.heap.size, 0, none⟩ (.int .i64 g0)).setCell ⟨v_et1.heap.size, 1, none⟩ (.int .i64 g1)).setCell ⟨v_et1.heap.size, 2, none⟩ (.bool g2)) := ⟨_, rfl⟩
            rw [← hY]
            have hSY : Y.heap[w2.heap.size]? = some (spCells s0 s1 s2) := by rw [hY, show ((((v_et27.setCell ⟨v_et1.heap.size, 0, none⟩ (.int .i64 g0)).setCell ⟨v_et1.heap.size, 1, none⟩ (.int .i64 g1)).setCell ⟨v_et1.heap.size, 2, none⟩ (.bool g2)) : World) = put3 v_et27 (v_et1.heap.size) g0 g1 g2 from rfl, put3_other (by omega)]; exact hS_et27.out
            have hRY : Y.heap[w.heap.size]? = some (spCells 0 0 false) := by rw [hY, show ((((v_et27.setCell ⟨v_et1.heap.size, 0, none⟩ (.int .i64 g0)).setCell ⟨v_et1.heap.size, 1, none⟩ (.int .i64 g1)).setCell ⟨v_et1.heap.size, 2, none⟩ (.bool g2)) : World) = put3 v_et27 (v_et1.heap.size) g0 g1 g2 from rfl, put3_other (by omega)]; exact hR_et27.out
            have hZY : Y.heap[v_et1.heap.size]? = some (spCells g0 g1 g2) := hY ▸ put3_same hZ_et27.out g0 g1 g2
            have hBY : Below w.heap.size w Y := hY ▸ set3_below hB_et27.out (by omega) g0 g1 g2
            clear hY zc0 zc1 zc2 zf0 zf1 zf2 aok bok cok dok fok hV_et27 hS_et27 hR_et27 hZ_et27 hB_et27
            have ys0 := cell_of_block (o := 0) hSY rfl
            have ys1 := cell_of_block (o := 1) hSY rfl
            have ys2 := cell_of_block (o := 2) hSY rfl
            have yz0 := cell_of_block (o := 0) hZY rfl
            have yz1 := cell_of_block (o := 1) hZY rfl
            have yz2 := cell_of_block (o := 2) hZY rfl
            go_wp2_with fail
            refine wp_region_E (fun w' : World => w'.cell? ⟨w2.heap.size, 0, none⟩ = some (.int .i64 s0) ∧ w'.cell? ⟨w2.heap.size, 1, none⟩ = some (.int .i64 s1) ∧ w'.cell? ⟨w2.heap.size, 2, none⟩ = some (.bool s2) ∧ w'.cell? ⟨v_et1.heap.size, 0, none⟩ = some (.int .i64 g0) ∧ w'.cell? ⟨v_et1.heap.size, 1, none⟩ = some (.int .i64 g1) ∧ w'.cell? ⟨v_et1.heap.size, 2, none⟩ = some (.bool g2)) (fun i => !(i == 6)) (by kernel_rfl) ?_
            have hSh : Shut ((fun w' : World => w'.cell? ⟨w2.heap.size, 0, none⟩ = some (.int .i64 s0) ∧ w'.cell? ⟨w2.heap.size, 1, none⟩ = some (.int .i64 s1) ∧ w'.cell? ⟨w2.heap.size, 2, none⟩ = some (.bool s2) ∧ w'.cell? ⟨v_et1.heap.size, 0, none⟩ = some (.int .i64 g0) ∧ w'.cell? ⟨v_et1.heap.size, 1, none⟩ = some (.int .i64 g1) ∧ w'.cell? ⟨v_et1.heap.size, 2, none⟩ = some (.bool g2)) Y.drew) := ⟨ys0, ys1, ys2, yz0, yz1, yz2⟩
            refine wpAnyE_take (i := 0) (v := ?vzet270) rfl (by kernel_rfl) (by kernel_rfl) (by kernel_rfl) (by kernel_rfl) (fun _ _ _ h => h) (Or.inl ⟨by rfl, ?yzet270⟩) hSh.out ?rzet270
            case yzet270 =>
              intro w hSw
              try dsimp only at hSw
              go_simp
              try with_reducible rfl
            try simp only [Act.put, List.setIfInBounds_toArray, List.set_cons_zero, List.set_cons_succ]
            refine wpAnyE_take (i := 2) (v := ?vzet272) rfl (by kernel_rfl) (by kernel_rfl) (by kernel_rfl) (by kernel_rfl) (fun _ _ _ h => h) (Or.inl ⟨by rfl, ?yzet272⟩) hSh.out ?rzet272
            case yzet272 =>
              intro w hSw
              try dsimp only at hSw
              go_simp
              try with_reducible rfl
            try simp only [Act.put, List.setIfInBounds_toArray, List.set_cons_zero, List.set_cons_succ]
            clear hSh
            refine wpAnyE_one (i := 1) (by kernel_rfl) rfl (fun K hK => ?_)
            go_simp
            refine ((O.out _ _ _).mono (fun _ _ h => OfPost.sp (by decide) h)).mono ?_
            rintro e u1 ⟨m0, m1, m2, rfl, mok, hu1⟩
            have hdu := undrewS hu1
            have hS1 := (hdu.block _ (heap_lt hSY)).trans hSY
            have hZ1 := (hdu.block _ (heap_lt hZY)).trans hZY
            have hR1 := (hdu.block _ (heap_lt hRY)).trans hRY
            clear hu1
            go_wp2_with fail
            refine hK.out _ _ (fun _ => ⟨cell_of_block (o := 0) hS1 rfl, cell_of_block (o := 1) hS1 rfl, cell_of_block (o := 2) hS1 rfl, cell_of_block (o := 0) hZ1 rfl, cell_of_block (o := 1) hZ1 rfl, cell_of_block (o := 2) hZ1 rfl⟩) ?_
            clear hK K
            try simp only [Act.put, List.setIfInBounds_toArray, List.set_cons_zero, List.set_cons_succ]
            refine wpAnyE_one (i := 3) (by kernel_rfl) rfl (fun K hK => ?_)
            go_simp
            refine (OD.out _ _ _ _ _ gok).mono ?_
            rintro e u2 ⟨o0, o1, o2, rfl, ook, hu2⟩
            have hS2 := (hu2.block _ (heap_lt hS1)).trans hS1
            have hZ2 := (hu2.block _ (heap_lt hZ1)).trans hZ1
            have hR2 := (hu2.block _ (heap_lt hR1)).trans hR1
            go_wp2_with fail
            refine hK.out _ _ (fun _ => ⟨cell_of_block (o := 0) hS2 rfl, cell_of_block (o := 1) hS2 rfl, cell_of_block (o := 2) hS2 rfl, cell_of_block (o := 0) hZ2 rfl, cell_of_block (o := 1) hZ2 rfl, cell_of_block (o := 2) hZ2 rfl⟩) ?_
            clear hK K
            try simp only [Act.put, List.setIfInBounds_toArray, List.set_cons_zero, List.set_cons_succ]
            refine wpAnyE_one (i := 4) (by kernel_rfl) rfl (fun K hK => ?_)
            go_simp
            refine (M.out _ _ _ _ _ _ _ mok ook).mono ?_
            rintro e u3 ⟨l0, l1, l2, rfl, lok, hu3⟩
            have hS3 := (hu3.block _ (heap_lt hS2)).trans hS2
            have hZ3 := (hu3.block _ (heap_lt hZ2)).trans hZ2
            have hR3 := (hu3.block _ (heap_lt hR2)).trans hR2
            go_wp2_with fail
            refine hK.out _ _ (fun _ => ⟨cell_of_block (o := 0) hS3 rfl, cell_of_block (o := 1) hS3 rfl, cell_of_block (o := 2) hS3 rfl, cell_of_block (o := 0) hZ3 rfl, cell_of_block (o := 1) hZ3 rfl, cell_of_block (o := 2) hZ3 rfl⟩) ?_
            clear hK K
            try simp only [Act.put, List.setIfInBounds_toArray, List.set_cons_zero, List.set_cons_succ]
            refine wpAnyE_one (i := 5) (by kernel_rfl) rfl (fun K hK => ?_)
            go_simp
            refine (AD.out _ _ _ _ _ _ _ hokS lok).mono ?_
            rintro e u4 ⟨k0, k1, k2, rfl, kok, hu4⟩
            have hS4 := (hu4.block _ (heap_lt hS3)).trans hS3
            have hZ4 := (hu4.block _ (heap_lt hZ3)).trans hZ3
            have hR4 := (hu4.block _ (heap_lt hR3)).trans hR3
            have rr0 := cell_of_block (o := 0) hR4 rfl
            have rr1 := cell_of_block (o := 1) hR4 rfl
            have rr2 := cell_of_block (o := 2) hR4 rfl
            have rg0 := frozen_of_block (o := 0) hR4
            have rg1 := frozen_of_block (o := 1) hR4
            have rg2 := frozen_of_block (o := 2) hR4
            go_wp2_with fail
            refine hK.out _ _ (fun _ => ⟨cell_of_block (o := 0) hS4 rfl, cell_of_block (o := 1) hS4 rfl, cell_of_block (o := 2) hS4 rfl, cell_of_block (o := 0) hZ4 rfl, cell_of_block (o := 1) hZ4 rfl, cell_of_block (o := 2) hZ4 rfl⟩) ?_
            clear hK K
            try simp only [Act.put, List.setIfInBounds_toArray, List.set_cons_zero, List.set_cons_succ]
            refine wpAnyE_one (i := 6) (by kernel_rfl) rfl (fun K hK => ?_)
            go_simp
            refine hK.out _ _ (fun h => absurd h (by decide)) ?_
            clear hK K
            refine wpAnyE_done (by kernel_rfl) ?_ _
            have Q := hideq (set3 hR4 k0 k1 k2)
            have HBt := hideq (set3_below (hBY.trans ((hdu.trans (Below.mono (hu2.trans (Below.mono (hu3.trans (hu4.mono hu3.size)) hu2.size)) hdu.size)).mono hBY.size)) (Nat.le_refl _) k0 k1 k2)
            have HOK := hideq kok
            clear hdu hu2 hu3 hu4 hS1 hS2 hS3 hS4 hZ1 hZ2 hZ3 hZ4 hR1 hR2 hR3 hR4
            go_wp2_with fail
            obtain ⟨q0, q1, q2⟩ := Q.out
            refine bodyPost_ret (v := sv k0 k1 k2) (by simp [results, Tryd.results33, go_sem, q0, q1, q2]) rfl ?_
            exact ⟨k0, k1, k2, rfl, HOK.out, HBt.out⟩
        · skip
          go_simp
          obtain ⟨X_et28, hX_et28⟩ : ∃ X, X = (wr.alloc (.cells #[.int .i64 0, .int .i64 0, .bool false] 37)).drew := ⟨_, rfl⟩
          rw [← hX_et28]
          have hV_et28 : Hid (X_et28.heap[bv]? = some (spCells p q true)) := by rw [hX_et28]; exact alloc_old hV.out
          have hS_et28 : Hid (X_et28.heap[w2.heap.size]? = some (spCells s0 s1 s2)) := by rw [hX_et28]; exact alloc_old hS.out
          have hR_et28 : Hid (X_et28.heap[w.heap.size]? = some (spCells 0 0 false)) := by rw [hX_et28]; exact alloc_old hR.out
          have hZ_et28 : Hid (X_et28.heap[wr.heap.size]? = some (spCells 0 0 false)) := by rw [hX_et28]; exact cells_new _ _
          have hB_et28 : Hid (Below w.heap.size w X_et28) := by rw [hX_et28]; exact (hB.out.alloc hB.out.size _).trans ((drewS _).mono (hB.out.alloc hB.out.size _).size)
          have hzl_et28 := hB.out.size
          have hzn_et28_0 := heap_lt hV.out
          have hzn_et28_1 := heap_lt hS.out
          have hzn_et28_2 := heap_lt hR.out
          clear hX_et28 hV hS hR hB
          refine hK.out _ _ (fun _ => ⟨cell_of_block (o := 0) hV_et28.out rfl, cell_of_block (o := 1) hV_et28.out rfl, cell_of_block (o := 2) hV_et28.out rfl⟩) ?_
          clear hK K
          try simp only [Act.put, List.setIfInBounds_toArray, List.set_cons_zero, List.set_cons_succ]
          refine wpAnyE_one (i := 1) (by kernel_rfl) rfl (fun K hK => ?_)
          go_simp
          refine ((O.out _ _ _).mono (fun _ _ h => OfPost.sp (by decide) h)).mono ?_
          rintro e v_et29 ⟨a0, a1, a2, rfl, aok, hv_et29⟩
          have hd_et29 := hv_et29
          have hV_et29 := hideq ((hd_et29.block _ (heap_lt hV_et28.out)).trans hV_et28.out)
          have hS_et29 := hideq ((hd_et29.block _ (heap_lt hS_et28.out)).trans hS_et28.out)
          have hR_et29 := hideq ((hd_et29.block _ (heap_lt hR_et28.out)).trans hR_et28.out)
          have hZ_et29 := hideq ((hd_et29.block _ (heap_lt hZ_et28.out)).trans hZ_et28.out)
          have hB_et29 := hideq (hB_et28.out.trans (hd_et29.mono hB_et28.out.size))
          clear hv_et29 hd_et29 hV_et28 hS_et28 hR_et28 hZ_et28 hB_et28
          go_wp2_with fail
          refine hK.out _ _ (fun _ => ⟨cell_of_block (o := 0) hV_et29.out rfl, cell_of_block (o := 1) hV_et29.out rfl, cell_of_block (o := 2) hV_et29.out rfl⟩) ?_
          clear hK K
          try simp only [Act.put, List.setIfInBounds_toArray, List.set_cons_zero, List.set_cons_succ]
          refine wpAnyE_one (i := 2) (by kernel_rfl) rfl (fun K hK => ?_)
          go_simp
          refine (AD.out _ _ _ _ _ _ _ hokV aok).mono ?_
          rintro e v_et30 ⟨b0, b1, b2, rfl, bok, hv_et30⟩
          have hd_et30 := hv_et30
          have hV_et30 := hideq ((hd_et30.block _ (heap_lt hV_et29.out)).trans hV_et29.out)
          have hS_et30 := hideq ((hd_et30.block _ (heap_lt hS_et29.out)).trans hS_et29.out)
          have hR_et30 := hideq ((hd_et30.block _ (heap_lt hR_et29.out)).trans hR_et29.out)
          have hZ_et30 := hideq ((hd_et30.block _ (heap_lt hZ_et29.out)).trans hZ_et29.out)
          have hB_et30 := hideq (hB_et29.out.trans (hd_et30.mono hB_et29.out.size))
          clear hv_et30 hd_et30 hV_et29 hS_et29 hR_et29 hZ_et29 hB_et29
          go_wp2_with fail
          refine hK.out _ _ (fun _ => ⟨cell_of_block (o := 0) hV_et30.out rfl, cell_of_block (o := 1) hV_et30.out rfl, cell_of_block (o := 2) hV_et30.out rfl⟩) ?_
          clear hK K
          try simp only [Act.put, List.setIfInBounds_toArray, List.set_cons_zero, List.set_cons_succ]
          refine wpAnyE_one (i := 4) (by kernel_rfl) rfl (fun K hK => ?_)
          go_simp
          refine ((O.out _ _ _).mono (fun _ _ h => OfPost.sp (by decide) h)).mono ?_
          rintro e v_et31 ⟨c0, c1, c2, rfl, cok, hv_et31⟩
          have hd_et31 := hv_et31
          have hV_et31 := hideq ((hd_et31.block _ (heap_lt hV_et30.out)).trans hV_et30.out)
          have hS_et31 := hideq ((hd_et31.block _ (heap_lt hS_et30.out)).trans hS_et30.out)
          have hR_et31 := hideq ((hd_et31.block _ (heap_lt hR_et30.out)).trans hR_et30.out)
          have hZ_et31 := hideq ((hd_et31.block _ (heap_lt hZ_et30.out)).trans hZ_et30.out)
          have hB_et31 := hideq (hB_et30.out.trans (hd_et31.mono hB_et30.out.size))
          clear hv_et31 hd_et31 hV_et30 hS_et30 hR_et30 hZ_et30 hB_et30
          go_wp2_with fail
          refine hK.out _ _ (fun _ => ⟨cell_of_block (o := 0) hV_et31.out rfl, cell_of_block (o := 1) hV_et31.out rfl, cell_of_block (o := 2) hV_et31.out rfl⟩) ?_
          clear hK K
          try simp only [Act.put, List.setIfInBounds_toArray, List.set_cons_zero, List.set_cons_succ]
          refine wpAnyE_one (i := 5) (by kernel_rfl) rfl (fun K hK => ?_)
          go_simp
          refine (AD.out _ _ _ _ _ _ _ hokV cok).mono ?_
          rintro e v_et32 ⟨d0, d1, d2, rfl, dok, hv_et32⟩
          have hd_et32 := hv_et32
          have hV_et32 := hideq ((hd_et32.block _ (heap_lt hV_et31.out)).trans hV_et31.out)
          have hS_et32 := hideq ((hd_et32.block _ (heap_lt hS_et31.out)).trans hS_et31.out)
          have hR_et32 := hideq ((hd_et32.block _ (heap_lt hR_et31.out)).trans hR_et31.out)
          have hZ_et32 := hideq ((hd_et32.block _ (heap_lt hZ_et31.out)).trans hZ_et31.out)
          have hB_et32 := hideq (hB_et31.out.trans (hd_et32.mono hB_et31.out.size))
          clear hv_et32 hd_et32 hV_et31 hS_et31 hR_et31 hZ_et31 hB_et31
          go_wp2_with fail
          refine hK.out _ _ (fun _ => ⟨cell_of_block (o := 0) hV_et32.out rfl, cell_of_block (o := 1) hV_et32.out rfl, cell_of_block (o := 2) hV_et32.out rfl⟩) ?_
          clear hK K
          try simp only [Act.put, List.setIfInBounds_toArray, List.set_cons_zero, List.set_cons_succ]
          refine wpAnyE_one (i := 6) (by kernel_rfl) rfl (fun K hK => ?_)
          go_simp
          refine (OV.out _ _ _ _ dok).mono ?_
          rintro e v_et33 ⟨f0, f1, f2, rfl, fok, hv_et33⟩
          have hd_et33 := hv_et33
          have hV_et33 := hideq ((hd_et33.block _ (heap_lt hV_et32.out)).trans hV_et32.out)
          have hS_et33 := hideq ((hd_et33.block _ (heap_lt hS_et32.out)).trans hS_et32.out)
          have hR_et33 := hideq ((hd_et33.block _ (heap_lt hR_et32.out)).trans hR_et32.out)
          have hZ_et33 := hideq ((hd_et33.block _ (heap_lt hZ_et32.out)).trans hZ_et32.out)
          have hB_et33 := hideq (hB_et32.out.trans (hd_et33.mono hB_et32.out.size))
          clear hv_et33 hd_et33 hV_et32 hS_et32 hR_et32 hZ_et32 hB_et32
          go_wp2_with fail
          refine hK.out _ _ (fun _ => ⟨cell_of_block (o := 0) hV_et33.out rfl, cell_of_block (o := 1) hV_et33.out rfl, cell_of_block (o := 2) hV_et33.out rfl⟩) ?_
          clear hK K
          try simp only [Act.put, List.setIfInBounds_toArray, List.set_cons_zero, List.set_cons_succ]
          refine wpAnyE_one (i := 7) (by kernel_rfl) rfl (fun K hK => ?_)
          go_simp
          refine (M.out _ _ _ _ _ _ _ bok fok).mono ?_
          rintro e v_et34 ⟨g0, g1, g2, rfl, gok, hv_et34⟩
          have hd_et34 := hv_et34
          have hV_et34 := hideq ((hd_et34.block _ (heap_lt hV_et33.out)).trans hV_et33.out)
          have hS_et34 := hideq ((hd_et34.block _ (heap_lt hS_et33.out)).trans hS_et33.out)
          have hR_et34 := hideq ((hd_et34.block _ (heap_lt hR_et33.out)).trans hR_et33.out)
          have hZ_et34 := hideq ((hd_et34.block _ (heap_lt hZ_et33.out)).trans hZ_et33.out)
          have hB_et34 := hideq (hB_et33.out.trans (hd_et34.mono hB_et33.out.size))
          clear hv_et34 hd_et34 hV_et33 hS_et33 hR_et33 hZ_et33 hB_et33
          go_wp2_with fail
          refine hK.out _ _ (fun _ => ⟨cell_of_block (o := 0) hV_et34.out rfl, cell_of_block (o := 1) hV_et34.out rfl, cell_of_block (o := 2) hV_et34.out rfl⟩) ?_
          clear hK K
          try simp only [Act.put, List.setIfInBounds_toArray, List.set_cons_zero, List.set_cons_succ]
          have zc0 := cell_of_block (o := 0) hZ_et34.out rfl
          have zf0 := frozen_of_block (o := 0) hZ_et34.out
          have zc1 := cell_of_block (o := 1) hZ_et34.out rfl
          have zf1 := frozen_of_block (o := 1) hZ_et34.out
          have zc2 := cell_of_block (o := 2) hZ_et34.out rfl
          have zf2 := frozen_of_block (o := 2) hZ_et34.out
          refine wpAnyE_one (i := 9) (by kernel_rfl) rfl (fun K hK => ?_)
          go_simp
          refine hK.out _ _ (fun h => absurd h (by decide)) ?_
          clear hK K
          refine wpAnyE_done (by kernel_rfl) ?_ _
          obtain ⟨Y, hY⟩ : ∃ Y, Y = (((v_et34.setCell ⟨wr.heap.size, 0, none⟩ (.int .i64 g0)).setCell ⟨wr.heap.size, 1, none⟩ (.int .i64 g1)).setCell ⟨wr.heap.size, 2, none⟩ (.bool g2)) := ⟨_, rfl⟩
          rw [← hY]
          have hSY : Y.heap[w2.heap.size]? = some (spCells s0 s1 s2) := by rw [hY, show ((((v_et34.setCell ⟨wr.heap.size, 0, none⟩ (.int .i64 g0)).setCell ⟨wr.heap.size, 1, none⟩ (.int .i64 g1)).setCell ⟨wr.heap.size, 2, none⟩ (.bool g2)) : World) = put3 v_et34 (wr.heap.size) g0 g1 g2 from rfl, put3_other (by omega)]; exact hS_et34.out
          have hRY : Y.heap[w.heap.size]? = some (spCells 0 0 false) := by rw [hY, show ((((v_et34.setCell ⟨wr.heap.size, 0, none⟩ (.int .i64 g0)).setCell ⟨wr.heap.size, 1, none⟩ (.int .i64 g1)).setCell ⟨wr.heap.size, 2, none⟩ (.bool g2)) : World) = put3 v_et34 (wr.heap.size) g0 g1 g2 from rfl, put3_other (by omega)]; exact hR_et34.out
          have hZY : Y.heap[wr.heap.size]? = some (spCells g0 g1 g2) := hY ▸ put3_same hZ_et34.out g0 g1 g2
          have hBY : Below w.heap.size w Y := hY ▸ set3_below hB_et34.out (by omega) g0 g1 g2
          clear hY zc0 zc1 zc2 zf0 zf1 zf2 aok bok cok dok fok hV_et34 hS_et34 hR_et34 hZ_et34 hB_et34
          have ys0 := cell_of_block (o := 0) hSY rfl
          have ys1 := cell_of_block (o := 1) hSY rfl
          have ys2 := cell_of_block (o := 2) hSY rfl
          have yz0 := cell_of_block (o := 0) hZY rfl
          have yz1 := cell_of_block (o := 1) hZY rfl
          have yz2 := cell_of_block (o := 2) hZY rfl
          go_wp2_with fail
          refine wp_region_E (fun w' : World => w'.cell? ⟨w2.heap.size, 0, none⟩ = some (.int .i64 s0) ∧ w'.cell? ⟨w2.heap.size, 1, none⟩ = some (.int .i64 s1) ∧ w'.cell? ⟨w2.heap.size, 2, none⟩ = some (.bool s2) ∧ w'.cell? ⟨wr.heap.size, 0, none⟩ = some (.int .i64 g0) ∧ w'.cell? ⟨wr.heap.size, 1, none⟩ = some (.int .i64 g1) ∧ w'.cell? ⟨wr.heap.size, 2, none⟩ = some (.bool g2)) (fun i => !(i == 6)) (by kernel_rfl) ?_
          have hSh : Shut ((fun w' : World => w'.cell? ⟨w2.heap.size, 0, none⟩ = some (.int .i64 s0) ∧ w'.cell? ⟨w2.heap.size, 1, none⟩ = some (.int .i64 s1) ∧ w'.cell? ⟨w2.heap.size, 2, none⟩ = some (.bool s2) ∧ w'.cell? ⟨wr.heap.size, 0, none⟩ = some (.int .i64 g0) ∧ w'.cell? ⟨wr.heap.size, 1, none⟩ = some (.int .i64 g1) ∧ w'.cell? ⟨wr.heap.size, 2, none⟩ = some (.bool g2)) Y.drew) := ⟨ys0, ys1, ys2, yz0, yz1, yz2⟩
          refine wpAnyE_take (i := 0) (v := ?vzet340) rfl (by kernel_rfl) (by kernel_rfl) (by kernel_rfl) (by kernel_rfl) (fun _ _ _ h => h) (Or.inl ⟨by rfl, ?yzet340⟩) hSh.out ?rzet340
          case yzet340 =>
            intro w hSw
            try dsimp only at hSw
            go_simp
            try with_reducible rfl
          try simp only [Act.put, List.setIfInBounds_toArray, List.set_cons_zero, List.set_cons_succ]
          refine wpAnyE_take (i := 2) (v := ?vzet342) rfl (by kernel_rfl) (by kernel_rfl) (by kernel_rfl) (by kernel_rfl) (fun _ _ _ h => h) (Or.inl ⟨by rfl, ?yzet342⟩) hSh.out ?rzet342
          case yzet342 =>
            intro w hSw
            try dsimp only at hSw
            go_simp
            try with_reducible rfl
          try simp only [Act.put, List.setIfInBounds_toArray, List.set_cons_zero, List.set_cons_succ]
          clear hSh
          refine wpAnyE_one (i := 1) (by kernel_rfl) rfl (fun K hK => ?_)
          go_simp
          refine ((O.out _ _ _).mono (fun _ _ h => OfPost.sp (by decide) h)).mono ?_
          rintro e u1 ⟨m0, m1, m2, rfl, mok, hu1⟩
          have hdu := undrewS hu1
          have hS1 := (hdu.block _ (heap_lt hSY)).trans hSY
          have hZ1 := (hdu.block _ (heap_lt hZY)).trans hZY
          have hR1 := (hdu.block _ (heap_lt hRY)).trans hRY
          clear hu1
          go_wp2_with fail
          refine hK.out _ _ (fun _ => ⟨cell_of_block (o := 0) hS1 rfl, cell_of_block (o := 1) hS1 rfl, cell_of_block (o := 2) hS1 rfl, cell_of_block (o := 0) hZ1 rfl, cell_of_block (o := 1) hZ1 rfl, cell_of_block (o := 2) hZ1 rfl⟩) ?_
          clear hK K
          try simp only [Act.put, List.setIfInBounds_toArray, List.set_cons_zero, List.set_cons_succ]
          refine wpAnyE_one (i := 3) (by kernel_rfl) rfl (fun K hK => ?_)
          go_simp
          refine (OD.out _ _ _ _ _ gok).mono ?_
          rintro e u2 ⟨o0, o1, o2, rfl, ook, hu2⟩
          have hS2 := (hu2.block _ (heap_lt hS1)).trans hS1
          have hZ2 := (hu2.block _ (heap_lt hZ1)).trans hZ1
          have hR2 := (hu2.block _ (heap_lt hR1)).trans hR1
          go_wp2_with fail
          refine hK.out _ _ (fun _ => ⟨cell_of_block (o := 0) hS2 rfl, cell_of_block (o := 1) hS2 rfl, cell_of_block (o := 2) hS2 rfl, cell_of_block (o := 0) hZ2 rfl, cell_of_block (o := 1) hZ2 rfl, cell_of_block (o := 2) hZ2 rfl⟩) ?_
          clear hK K
          try simp only [Act.put, List.setIfInBounds_toArray, List.set_cons_zero, List.set_cons_succ]
          refine wpAnyE_one (i := 4) (by kernel_rfl) rfl (fun K hK => ?_)
          go_simp
          refine (M.out _ _ _ _ _ _ _ mok ook).mono ?_
          rintro e u3 ⟨l0, l1, l2, rfl, lok, hu3⟩
          have hS3 := (hu3.block _ (heap_lt hS2)).trans hS2
          have hZ3 := (hu3.block _ (heap_lt hZ2)).trans hZ2
          have hR3 := (hu3.block _ (heap_lt hR2)).trans hR2
          go_wp2_with fail
          refine hK.out _ _ (fun _ => ⟨cell_of_block (o := 0) hS3 rfl, cell_of_block (o := 1) hS3 rfl, cell_of_block (o := 2) hS3 rfl, cell_of_block (o := 0) hZ3 rfl, cell_of_block (o := 1) hZ3 rfl, cell_of_block (o := 2) hZ3 rfl⟩) ?_
          clear hK K
          try simp only [Act.put, List.setIfInBounds_toArray, List.set_cons_zero, List.set_cons_succ]
          refine wpAnyE_one (i := 5) (by kernel_rfl) rfl (fun K hK => ?_)
          go_simp
          refine (AD.out _ _ _ _ _ _ _ hokS lok).mono ?_
          rintro e u4 ⟨k0, k1, k2, rfl, kok, hu4⟩
          have hS4 := (hu4.block _ (heap_lt hS3)).trans hS3
          have hZ4 := (hu4.block _ (heap_lt hZ3)).trans hZ3
          have hR4 := (hu4.block _ (heap_lt hR3)).trans hR3
          have rr0 := cell_of_block (o := 0) hR4 rfl
          have rr1 := cell_of_block (o := 1) hR4 rfl
          have rr2 := cell_of_block (o := 2) hR4 rfl
          have rg0 := frozen_of_block (o := 0) hR4
          have rg1 := frozen_of_block (o := 1) hR4
          have rg2 := frozen_of_block (o := 2) hR4
          go_wp2_with fail
          refine hK.out _ _ (fun _ => ⟨cell_of_block (o := 0) hS4 rfl, cell_of_block (o := 1) hS4 rfl, cell_of_block (o := 2) hS4 rfl, cell_of_block (o := 0) hZ4 rfl, cell_of_block (o := 1) hZ4 rfl, cell_of_block (o := 2) hZ4 rfl⟩) ?_
          clear hK K
          try simp only [Act.put, List.setIfInBounds_toArray, List.set_cons_zero, List.set_cons_succ]
          refine wpAnyE_one (i := 6) (by kernel_rfl) rfl (fun K hK => ?_)
          go_simp
          refine hK.out _ _ (fun h => absurd h (by decide)) ?_
          clear hK K
          refine wpAnyE_done (by kernel_rfl) ?_ _
          have Q := hideq (set3 hR4 k0 k1 k2)
          have HBt := hideq (set3_below (hBY.trans ((hdu.trans (Below.mono (hu2.trans (Below.mono (hu3.trans (hu4.mono hu3.size)) hu2.size)) hdu.size)).mono hBY.size)) (Nat.le_refl _) k0 k1 k2)
          have HOK := hideq kok
          clear hdu hu2 hu3 hu4 hS1 hS2 hS3 hS4 hZ1 hZ2 hZ3 hZ4 hR1 hR2 hR3 hR4
          go_wp2_with fail
          obtain ⟨q0, q1, q2⟩ := Q.out
          refine bodyPost_ret (v := sv k0 k1 k2) (by simp [results, Tryd.results33, go_sem, q0, q1, q2]) rfl ?_
          exact ⟨k0, k1, k2, rfl, HOK.out, HBt.out⟩
end Go.Proofs.YtmepffenlgedbaaDoor
