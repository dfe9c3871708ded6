/-
  THE WALK of realskeep's constant.
-/
import Derived.Test.YtmepffenlgedbaaDoorKTwo
set_option linter.unusedSimpArgs false
namespace Go.Proofs.YtmepffenlgedbaaDoor
open Go.RowKit

def cfRel (w : World) (bs : Nat) (i : Value) (wr : World) : Prop :=
  ∃ j : Nat, j ≤ 16 ∧ i = .int .i64 j ∧ Loc wr bs ∧ wr.heap[w.heap.size]? = some (spCells 0 0 false) ∧ Below w.heap.size w wr

/-- A continued fraction's text, piece by piece. -/
theorem cf_txt (x y z : Nat) : [99, 102, 91] ++ Rd.dec (x : Int) ++ [59, 32] ++ Rd.dec (y : Int) ++ [44, 32] ++ Rd.dec (z : Int) ++ [93] = Rd.termsTxt [(x : Int), y, z] := by
  show _ = (([99, 102, 91] ++ ([] ++ Rd.dec (x : Int))) ++ ([59, 32] ++ Rd.dec (y : Int))) ++ ([44, 32] ++ Rd.dec (z : Int)) ++ [93]
  simp

set_option maxRecDepth 100000 in
set_option maxHeartbeats 2000000 in
theorem constant_0 (a b : Int) (w : World) (hn : pickI a 4 = 0) (h0 : -9223372036854775808 ≤ a) (h1 : a ≤ 9223372036854775807) :
    Calls Tryd.prog 11 #[.int .i64 a, .int .i64 b] w (TxtSp w [112, 105]) := by
  have PK := hideq (fun w => pick_any a 4 w h0 h1 (by decide) (by decide))
  rw [hn] at PK
  have O := hideq (fun x y w => of_any x y w)
  go_enter Tryd.func11, Tryd.ntmps11
  go_wp2_with fail
  refine (PK.out _).mono ?_
  rintro e w1 ⟨rfl, rfl⟩
  go_wp2_with fail
  refine calls_in (fun W => Below w.heap.size w W ∧ W.heap[w.heap.size]? = some (spCells 0 0 false)) ⟨(Below.refl _ _).alloc (Nat.le_refl _) _, cells_new _ _⟩ ?_
  rintro W ⟨hbW, hRW⟩
  refine ((O.out _ _ _).mono (fun _ _ h => OfPost.sp (by decide) h)).mono ?_
  rintro e w2 ⟨p0, p1, p2, rfl, pok, hb⟩
  have hR := (hb.block _ (heap_lt hRW)).trans hRW
  have rr0 := cell_of_block (o := 0) hR rfl
  have rr1 := cell_of_block (o := 1) hR rfl
  have rr2 := cell_of_block (o := 2) hR rfl
  have rg0 := frozen_of_block (o := 0) hR
  have rg1 := frozen_of_block (o := 1) hR
  have rg2 := frozen_of_block (o := 2) hR
  have Q := hideq (set3 hR p0 p1 p2)
  have HBt := hideq (set3_below (hbW.trans (hb.mono hbW.size)) (Nat.le_refl _) p0 p1 p2)
  have HOK := hideq pok
  clear hR hb hbW hRW
  go_wp2_with fail
  obtain ⟨q0, q1, q2⟩ := Q.out
  refine bodyPost_ret (v := .tuple #[.string ⟨#[112, 105]⟩, sv p0 p1 p2]) (by simp [results, Tryd.results11, go_sem, q0, q1, q2]) rfl ?_
  exact ⟨_, _, _, _, rfl, Str.mk' [112, 105], HOK.out, HBt.out⟩

set_option maxRecDepth 100000 in
set_option maxHeartbeats 2000000 in
theorem constant_1 (a b : Int) (w : World) (hn : pickI a 4 = 1) (h0 : -9223372036854775808 ≤ a) (h1 : a ≤ 9223372036854775807) :
    Calls Tryd.prog 11 #[.int .i64 a, .int .i64 b] w (TxtSp w [101]) := by
  have PK := hideq (fun w => pick_any a 4 w h0 h1 (by decide) (by decide))
  rw [hn] at PK
  have O := hideq (fun x y w => of_any x y w)
  go_enter Tryd.func11, Tryd.ntmps11
  go_wp2_with fail
  refine (PK.out _).mono ?_
  rintro e w1 ⟨rfl, rfl⟩
  go_wp2_with fail
  refine calls_in (fun W => Below w.heap.size w W ∧ W.heap[w.heap.size]? = some (spCells 0 0 false)) ⟨(Below.refl _ _).alloc (Nat.le_refl _) _, cells_new _ _⟩ ?_
  rintro W ⟨hbW, hRW⟩
  refine ((O.out _ _ _).mono (fun _ _ h => OfPost.sp (by decide) h)).mono ?_
  rintro e w2 ⟨p0, p1, p2, rfl, pok, hb⟩
  have hR := (hb.block _ (heap_lt hRW)).trans hRW
  have rr0 := cell_of_block (o := 0) hR rfl
  have rr1 := cell_of_block (o := 1) hR rfl
  have rr2 := cell_of_block (o := 2) hR rfl
  have rg0 := frozen_of_block (o := 0) hR
  have rg1 := frozen_of_block (o := 1) hR
  have rg2 := frozen_of_block (o := 2) hR
  have Q := hideq (set3 hR p0 p1 p2)
  have HBt := hideq (set3_below (hbW.trans (hb.mono hbW.size)) (Nat.le_refl _) p0 p1 p2)
  have HOK := hideq pok
  clear hR hb hbW hRW
  go_wp2_with fail
  obtain ⟨q0, q1, q2⟩ := Q.out
  refine bodyPost_ret (v := .tuple #[.string ⟨#[101]⟩, sv p0 p1 p2]) (by simp [results, Tryd.results11, go_sem, q0, q1, q2]) rfl ?_
  exact ⟨_, _, _, _, rfl, Str.mk' [101], HOK.out, HBt.out⟩

set_option maxRecDepth 100000 in
set_option maxHeartbeats 2000000 in
theorem constant_2 (a b : Int) (w : World) (hn : pickI a 4 = 2) (h0 : -9223372036854775808 ≤ a) (h1 : a ≤ 9223372036854775807) (h2 : -9223372036854775808 ≤ b) (h3 : b ≤ 9223372036854775807) :
    Calls Tryd.prog 11 #[.int .i64 a, .int .i64 b] w fun e w' => ∃ x y z : Nat, x < 5 ∧ 1 ≤ y ∧ y ≤ 6 ∧ 1 ≤ z ∧ z ≤ 9 ∧ TxtSp w (Rd.termsTxt [(x : Int), y, z]) e w' := by
  have PK := hideq (fun w => pick_any a 4 w h0 h1 (by decide) (by decide))
  rw [hn] at PK
  have hx := pickI_lt b 5 (by decide)
  have PX := hideq (fun w => pick_any b 5 w h2 h3 (by decide) (by decide))
  have hy := pickI_lt (a.tdiv 4) 6 (by decide)
  have hz := pickI_lt (b.tdiv 5) 9 (by decide)
  have hd4 : -9223372036854775808 ≤ a.tdiv 4 ∧ a.tdiv 4 ≤ 9223372036854775807 := by
    have := Int.tdiv_mul_add_tmod a 4
    have := Int.tmod_lt_of_pos a (show (0 : Int) < 4 by decide)
    have h4 : -4 < a.tmod 4 := by
      have := Int.tmod_lt_of_pos (-a) (show (0 : Int) < 4 by decide)
      rw [Int.neg_tmod] at this
      omega
    omega
  have hd5 : -9223372036854775808 ≤ b.tdiv 5 ∧ b.tdiv 5 ≤ 9223372036854775807 := by
    have := Int.tdiv_mul_add_tmod b 5
    have := Int.tmod_lt_of_pos b (show (0 : Int) < 5 by decide)
    have h4 : -5 < b.tmod 5 := by
      have := Int.tmod_lt_of_pos (-b) (show (0 : Int) < 5 by decide)
      rw [Int.neg_tmod] at this
      omega
    omega
  have PY := hideq (fun w => pick_any (a.tdiv 4) 6 w hd4.1 hd4.2 (by decide) (by decide))
  have PZ := hideq (fun w => pick_any (b.tdiv 5) 9 w hd5.1 hd5.2 (by decide) (by decide))
  clear hn
  generalize pickI b 5 = x at *
  generalize pickI (a.tdiv 4) 6 = y at *
  generalize pickI (b.tdiv 5) 9 = z at *
  have O := hideq (fun x y w => of_any x y w)
  have PT := hideq (fun n w => point_any n w)
  have OV := hideq (fun a b k w h => over_any a b k w h)
  have AD := hideq (fun a b k c d m w h h' => add_any a b k c d m w h h')
  have N1 := hideq (fun w => number_any x w (by omega))
  have N2 : Hid (∀ (v : Int) (w : World), v = ((1 + y : Nat) : Int) → Calls Tryd.prog 8 #[.int .i64 v] w (StrPost w (Rd.dec ((1 + y : Nat) : Int)))) := by
    rintro v w rfl
    exact number_any (1 + y) w (by omega)
  have N3 : Hid (∀ (v : Int) (w : World), v = ((1 + z : Nat) : Int) → Calls Tryd.prog 8 #[.int .i64 v] w (StrPost w (Rd.dec ((1 + z : Nat) : Int)))) := by
    rintro v w rfl
    exact number_any (1 + z) w (by omega)
  have l1 : (Rd.dec (x : Int)).length ≤ 9 := Rd.dec_len ⟨by omega, by omega⟩
  have l2 : (Rd.dec ((1 + y : Nat) : Int)).length ≤ 9 := Rd.dec_len ⟨by omega, by omega⟩
  have l3 : (Rd.dec ((1 + z : Nat) : Int)).length ≤ 9 := Rd.dec_len ⟨by omega, by omega⟩
  go_enter Tryd.func11, Tryd.ntmps11
  go_wp2_with fail
  refine (PK.out _).mono ?_
  rintro e w1 ⟨rfl, rfl⟩
  go_wp2_with fail
  refine (PX.out _).mono ?_
  rintro e w1 ⟨rfl, rfl⟩
  go_wp2_with fail
  refine (PY.out _).mono ?_
  rintro e w1 ⟨rfl, rfl⟩
  go_wp2_with fail
  refine (PZ.out _).mono ?_
  rintro e w1 ⟨rfl, rfl⟩
  go_wp2_with fail
  refine calls_in (fun W => Below w.heap.size w W ∧ W.heap[w.heap.size]? = some (spCells 0 0 false)) ⟨(Below.refl _ _).alloc (Nat.le_refl _) _, cells_new _ _⟩ ?_
  rintro W ⟨hbW, hRW⟩
  refine ((O.out _ _ _).mono (fun _ _ h => OfPost.sp (by decide) h)).mono ?_
  rintro e w2 ⟨t0, t1, t2, rfl, ht, hb2⟩
  have hR2 := (hb2.block _ (heap_lt hRW)).trans hRW
  have hbw2 := hbW.trans (hb2.mono hbW.size)
  have hwt2 : w.heap.size < w2.heap.size := heap_lt hR2
  clear hb2 hRW hbW
  go_wp2_with fail
  go_loopw [10] (fun i wr => cfRel w w2.heap.size i wr) (fun i _ => 16 - (intOf i).toNat)
  case atStart => exact ⟨0, by omega, rfl, Loc.new w2 t2 ht, alloc_old hR2, hbw2.alloc hbw2.size _⟩
  case round =>
    clear hR2 hbw2 ht
    obtain ⟨j, hj, rfl, hLs1, hRr, hbr⟩ := hrel
    obtain ⟨p, q, r, hokS, hS⟩ := id hLs1
    have as0 := cell_of_block (o := 0) hS rfl
    have as1 := cell_of_block (o := 1) hS rfl
    have as2 := cell_of_block (o := 2) hS rfl
    by_cases hlt : j < 16
    · go_wp2_with fail
      refine wp_region_E (fun w' : World => w'.cell? ⟨w2.heap.size, 0, none⟩ = some (.int .i64 p) ∧ w'.cell? ⟨w2.heap.size, 1, none⟩ = some (.int .i64 q) ∧ w'.cell? ⟨w2.heap.size, 2, none⟩ = some (.bool r)) (fun i => !(i == 11)) (by kernel_rfl) ?_
      have hSh : Shut ((fun w' : World => w'.cell? ⟨w2.heap.size, 0, none⟩ = some (.int .i64 p) ∧ w'.cell? ⟨w2.heap.size, 1, none⟩ = some (.int .i64 q) ∧ w'.cell? ⟨w2.heap.size, 2, none⟩ = some (.bool r)) wr.drew) := ⟨as0, as1, as2⟩
      refine wpAnyE_take (i := 0) (v := ?va0) rfl (by kernel_rfl) (by kernel_rfl) (by kernel_rfl) (by kernel_rfl) (fun _ _ _ h => h) (Or.inl ⟨by rfl, ?ya0⟩) hSh.out ?ra0
      case ya0 =>
        intro w hSw
        try dsimp only at hSw
        go_simp
        try with_reducible rfl
      try simp only [Act.put, List.setIfInBounds_toArray, List.set_cons_zero, List.set_cons_succ]
      refine wpAnyE_take (i := 1) (v := ?va1) rfl (by kernel_rfl) (by kernel_rfl) (by kernel_rfl) (by kernel_rfl) (fun _ _ _ h => h) (Or.inl ⟨by rfl, ?ya1⟩) hSh.out ?ra1
      case ya1 =>
        intro w hSw
        try dsimp only at hSw
        go_simp
        try with_reducible rfl
      try simp only [Act.put, List.setIfInBounds_toArray, List.set_cons_zero, List.set_cons_succ]
      refine wpAnyE_take (i := 3) (v := ?va3) rfl (by kernel_rfl) (by kernel_rfl) (by kernel_rfl) (by kernel_rfl) (fun _ _ _ h => h) (Or.inl ⟨by rfl, ?ya3⟩) hSh.out ?ra3
      case ya3 =>
        intro w hSw
        try dsimp only at hSw
        go_simp
        try with_reducible rfl
      try simp only [Act.put, List.setIfInBounds_toArray, List.set_cons_zero, List.set_cons_succ]
      refine wpAnyE_take (i := 4) (v := ?va4) rfl (by kernel_rfl) (by kernel_rfl) (by kernel_rfl) (by kernel_rfl) (fun _ _ _ h => h) (Or.inl ⟨by rfl, ?ya4⟩) hSh.out ?ra4
      case ya4 =>
        intro w hSw
        try dsimp only at hSw
        go_simp
        try with_reducible rfl
      try simp only [Act.put, List.setIfInBounds_toArray, List.set_cons_zero, List.set_cons_succ]
      refine wpAnyE_take (i := 6) (v := ?va6) rfl (by kernel_rfl) (by kernel_rfl) (by kernel_rfl) (by kernel_rfl) (fun _ _ _ h => h) (Or.inl ⟨by rfl, ?ya6⟩) hSh.out ?ra6
      case ya6 =>
        intro w hSw
        try dsimp only at hSw
        go_simp
        try with_reducible rfl
      try simp only [Act.put, List.setIfInBounds_toArray, List.set_cons_zero, List.set_cons_succ]
      clear hSh
      refine wpAnyE_one (i := 2) (by kernel_rfl) rfl (fun K hK => ?_)
      go_simp
      refine ((PT.out _ _).mono (fun _ _ h => OfPost.sp (Int.le_refl _) h)).mono ?_
      rintro e u1 ⟨a0, a1, a2, rfl, aok, hu1⟩
      have hdu1 := undrewS hu1
      have HD1 := hideq hdu1
      have hS1 := (hdu1.block _ (heap_lt hS)).trans hS
      clear hu1 hdu1
      go_wp2_with fail
      refine hK.out _ _ (fun _ => ⟨cell_of_block (o := 0) hS1 rfl, cell_of_block (o := 1) hS1 rfl, cell_of_block (o := 2) hS1 rfl⟩) ?_
      clear hK K
      try simp only [Act.put, List.setIfInBounds_toArray, List.set_cons_zero, List.set_cons_succ]
      refine wpAnyE_one (i := 5) (by kernel_rfl) rfl (fun K hK => ?_)
      go_simp
      refine ((PT.out _ _).mono (fun _ _ h => OfPost.sp (Int.le_refl _) h)).mono ?_
      rintro e u2 ⟨b0, b1, b2, rfl, bok, hu2⟩
      have HD2 := hideq (HD1.out.trans (hu2.mono HD1.out.size))
      have hS2 := (hu2.block _ (heap_lt hS1)).trans hS1
      clear hu2 hS1 HD1
      go_wp2_with fail
      refine hK.out _ _ (fun _ => ⟨cell_of_block (o := 0) hS2 rfl, cell_of_block (o := 1) hS2 rfl, cell_of_block (o := 2) hS2 rfl⟩) ?_
      clear hK K
      try simp only [Act.put, List.setIfInBounds_toArray, List.set_cons_zero, List.set_cons_succ]
      refine wpAnyE_one (i := 7) (by kernel_rfl) rfl (fun K hK => ?_)
      go_simp
      refine (OV.out _ _ _ _ hokS).mono ?_
      rintro e u3 ⟨c0, c1, c2, rfl, cok, hu3⟩
      have HD3 := hideq (HD2.out.trans (hu3.mono HD2.out.size))
      have hS3 := (hu3.block _ (heap_lt hS2)).trans hS2
      clear hu3 hS2 HD2
      go_wp2_with fail
      refine hK.out _ _ (fun _ => ⟨cell_of_block (o := 0) hS3 rfl, cell_of_block (o := 1) hS3 rfl, cell_of_block (o := 2) hS3 rfl⟩) ?_
      clear hK K
      try simp only [Act.put, List.setIfInBounds_toArray, List.set_cons_zero, List.set_cons_succ]
      refine wpAnyE_one (i := 8) (by kernel_rfl) rfl (fun K hK => ?_)
      go_simp
      refine (AD.out _ _ _ _ _ _ _ bok cok).mono ?_
      rintro e u4 ⟨d0, d1, d2, rfl, dok, hu4⟩
      have HD4 := hideq (HD3.out.trans (hu4.mono HD3.out.size))
      have hS4 := (hu4.block _ (heap_lt hS3)).trans hS3
      clear hu4 hS3 HD3
      go_wp2_with fail
      refine hK.out _ _ (fun _ => ⟨cell_of_block (o := 0) hS4 rfl, cell_of_block (o := 1) hS4 rfl, cell_of_block (o := 2) hS4 rfl⟩) ?_
      clear hK K
      try simp only [Act.put, List.setIfInBounds_toArray, List.set_cons_zero, List.set_cons_succ]
      refine wpAnyE_one (i := 9) (by kernel_rfl) rfl (fun K hK => ?_)
      go_simp
      refine (OV.out _ _ _ _ dok).mono ?_
      rintro e u5 ⟨f0, f1, f2, rfl, fok, hu5⟩
      have HD5 := hideq (HD4.out.trans (hu5.mono HD4.out.size))
      have hS5 := (hu5.block _ (heap_lt hS4)).trans hS4
      clear hu5 hS4 HD4
      go_wp2_with fail
      refine hK.out _ _ (fun _ => ⟨cell_of_block (o := 0) hS5 rfl, cell_of_block (o := 1) hS5 rfl, cell_of_block (o := 2) hS5 rfl⟩) ?_
      clear hK K
      try simp only [Act.put, List.setIfInBounds_toArray, List.set_cons_zero, List.set_cons_succ]
      refine wpAnyE_one (i := 10) (by kernel_rfl) rfl (fun K hK => ?_)
      go_simp
      refine (AD.out _ _ _ _ _ _ _ aok fok).mono ?_
      rintro e u6 ⟨g0, g1, g2, rfl, gok, hu6⟩
      have HD6 := hideq (HD5.out.trans (hu6.mono HD5.out.size))
      have hS6 := (hu6.block _ (heap_lt hS5)).trans hS5
      clear hu6 hS5 HD5
      have sc0 := cell_of_block (o := 0) hS6 rfl
      have sc1 := cell_of_block (o := 1) hS6 rfl
      have sc2 := cell_of_block (o := 2) hS6 rfl
      have sg0 := frozen_of_block (o := 0) hS6
      have sg1 := frozen_of_block (o := 1) hS6
      have sg2 := frozen_of_block (o := 2) hS6
      go_wp2_with fail
      refine hK.out _ _ (fun _ => ⟨cell_of_block (o := 0) hS6 rfl, cell_of_block (o := 1) hS6 rfl, cell_of_block (o := 2) hS6 rfl⟩) ?_
      clear hK K
      try simp only [Act.put, List.setIfInBounds_toArray, List.set_cons_zero, List.set_cons_succ]
      refine wpAnyE_one (i := 11) (by kernel_rfl) rfl (fun K hK => ?_)
      go_simp
      refine hK.out _ _ (fun h => absurd h (by decide)) ?_
      clear hK K
      refine wpAnyE_done (by kernel_rfl) ?_ _
      have REL : Hid (cfRel w w2.heap.size (.int .i64 (j + 1)) (put3 u6 (w2.heap.size) g0 g1 g2)) := by
        have hs5 : Loc u6 (w2.heap.size) := hLs1.below HD6.out
        refine ⟨j + 1, by omega, by simp, Loc.put hs5 hs5 gok, ?_, set3_below (hbr.trans (HD6.out.mono hbr.size)) (by omega) g0 g1 g2⟩
        rw [put3_other (by omega)]
        exact (HD6.out.block _ (heap_lt hRr)).trans hRr
      clear HD6 hS6 hS hRr hbr hLs1 aok bok cok dok fok gok
      go_wp2_with fail
      go_roundw
      case rel => exact REL.out
      case measure => simp [intOf]; omega
    · obtain rfl : j = 16 := by omega
      go_wp2_with fail
      refine wp_region_E (fun w' : World => w'.cell? ⟨w2.heap.size, 0, none⟩ = some (.int .i64 p) ∧ w'.cell? ⟨w2.heap.size, 1, none⟩ = some (.int .i64 q) ∧ w'.cell? ⟨w2.heap.size, 2, none⟩ = some (.bool r)) (fun i => !(i == 19)) (by kernel_rfl) ?_
      have hSh : Shut ((fun w' : World => w'.cell? ⟨w2.heap.size, 0, none⟩ = some (.int .i64 p) ∧ w'.cell? ⟨w2.heap.size, 1, none⟩ = some (.int .i64 q) ∧ w'.cell? ⟨w2.heap.size, 2, none⟩ = some (.bool r)) wr.drew) := ⟨as0, as1, as2⟩
      refine wpAnyE_take (i := 0) (v := ?vb0) rfl (by kernel_rfl) (by kernel_rfl) (by kernel_rfl) (by kernel_rfl) (fun _ _ _ h => h) (Or.inl ⟨by rfl, ?yb0⟩) hSh.out ?rb0
      case yb0 =>
        intro w hSw
        try dsimp only at hSw
        go_simp
        try with_reducible rfl
      try simp only [Act.put, List.setIfInBounds_toArray, List.set_cons_zero, List.set_cons_succ]
      refine wpAnyE_take (i := 4) (v := ?vb4) rfl (by kernel_rfl) (by kernel_rfl) (by kernel_rfl) (by kernel_rfl) (fun _ _ _ h => h) (Or.inl ⟨by rfl, ?yb4⟩) hSh.out ?rb4
      case yb4 =>
        intro w hSw
        try dsimp only at hSw
        go_simp
        try with_reducible rfl
      try simp only [Act.put, List.setIfInBounds_toArray, List.set_cons_zero, List.set_cons_succ]
      refine wpAnyE_take (i := 8) (v := ?vb8) rfl (by kernel_rfl) (by kernel_rfl) (by kernel_rfl) (by kernel_rfl) (fun _ _ _ h => h) (Or.inl ⟨by rfl, ?yb8⟩) hSh.out ?rb8
      case yb8 =>
        intro w hSw
        try dsimp only at hSw
        go_simp
        try with_reducible rfl
      try simp only [Act.put, List.setIfInBounds_toArray, List.set_cons_zero, List.set_cons_succ]
      refine wpAnyE_take (i := 12) (v := ?vb12) rfl (by kernel_rfl) (by kernel_rfl) (by kernel_rfl) (by kernel_rfl) (fun _ _ _ h => h) (Or.inl ⟨by rfl, ?yb12⟩) hSh.out ?rb12
      case yb12 =>
        intro w hSw
        try dsimp only at hSw
        go_simp
        try with_reducible rfl
      try simp only [Act.put, List.setIfInBounds_toArray, List.set_cons_zero, List.set_cons_succ]
      refine wpAnyE_take (i := 13) (v := ?vb13) rfl (by kernel_rfl) (by kernel_rfl) (by kernel_rfl) (by kernel_rfl) (fun _ _ _ h => h) (Or.inl ⟨by rfl, ?yb13⟩) hSh.out ?rb13
      case yb13 =>
        intro w hSw
        try dsimp only at hSw
        go_simp
        try with_reducible rfl
      try simp only [Act.put, List.setIfInBounds_toArray, List.set_cons_zero, List.set_cons_succ]
      refine wpAnyE_take (i := 15) (v := ?vb15) rfl (by kernel_rfl) (by kernel_rfl) (by kernel_rfl) (by kernel_rfl) (fun _ _ _ h => h) (Or.inl ⟨by rfl, ?yb15⟩) hSh.out ?rb15
      case yb15 =>
        intro w hSw
        try dsimp only at hSw
        go_simp
        try with_reducible rfl
      try simp only [Act.put, List.setIfInBounds_toArray, List.set_cons_zero, List.set_cons_succ]
      clear hSh
      refine wpAnyE_one (i := 1) (by kernel_rfl) rfl (fun K hK => ?_)
      go_simp
      refine (N1.out _).mono ?_
      rintro e u1 ⟨s1, rfl, hs1, hu1⟩
      obtain ⟨y1, ya1, ys1⟩ := add_namedK (Str.mk' [99, 102, 91]) hs1 (by simp only [List.length_cons, List.length_nil]; omega)
      obtain ⟨y2, ya2, ys2⟩ := add_namedK ys1 (Str.mk' [59, 32]) (by simp only [List.length_append, List.length_cons, List.length_nil]; omega)
      clear hs1 ys1
      have hdu1 := undrewS hu1
      have HD1 := hideq hdu1
      have hS1 := (hdu1.block _ (heap_lt hS)).trans hS
      have hR1 := (hdu1.block _ (heap_lt hRr)).trans hRr
      clear hu1 hdu1
      go_wp2_with fail
      refine hK.out _ _ (fun _ => ⟨cell_of_block (o := 0) hS1 rfl, cell_of_block (o := 1) hS1 rfl, cell_of_block (o := 2) hS1 rfl⟩) ?_
      clear hK K
      try simp only [Act.put, List.setIfInBounds_toArray, List.set_cons_zero, List.set_cons_succ]
      refine wpAnyE_take (i := 2) (v := ?vb2) rfl (by kernel_rfl) (by kernel_rfl) (by kernel_rfl) (by kernel_rfl) (fun _ _ _ h => h) (Or.inl ⟨by rfl, ?yb2⟩) ⟨cell_of_block (o := 0) hS1 rfl, cell_of_block (o := 1) hS1 rfl, cell_of_block (o := 2) hS1 rfl⟩ ?rb2
      case yb2 =>
        intro w hSw
        try dsimp only at hSw
        go_simp
        try with_reducible rfl
      try simp only [Act.put, List.setIfInBounds_toArray, List.set_cons_zero, List.set_cons_succ]
      refine wpAnyE_take (i := 3) (v := ?vb3) rfl (by kernel_rfl) (by kernel_rfl) (by kernel_rfl) (by kernel_rfl) (fun _ _ _ h => h) (Or.inl ⟨by rfl, ?yb3⟩) ⟨cell_of_block (o := 0) hS1 rfl, cell_of_block (o := 1) hS1 rfl, cell_of_block (o := 2) hS1 rfl⟩ ?rb3
      case yb3 =>
        intro w hSw
        try dsimp only at hSw
        go_simp
        try with_reducible rfl
      try simp only [Act.put, List.setIfInBounds_toArray, List.set_cons_zero, List.set_cons_succ]
      refine wpAnyE_one (i := 5) (by kernel_rfl) rfl (fun K hK => ?_)
      go_simp
      refine (N2.out _ _ (by first | rfl | omega)).mono ?_
      rintro e u2 ⟨s2, rfl, hs2, hu2⟩
      obtain ⟨y3, ya3, ys3⟩ := add_namedK ys2 hs2 (by simp only [List.length_append, List.length_cons, List.length_nil]; omega)
      obtain ⟨y4, ya4, ys4⟩ := add_namedK ys3 (Str.mk' [44, 32]) (by simp only [List.length_append, List.length_cons, List.length_nil]; omega)
      clear hs2 ys2 ys3
      have HD2 := hideq (HD1.out.trans (hu2.mono HD1.out.size))
      have hS2 := (hu2.block _ (heap_lt hS1)).trans hS1
      have hR2 := (hu2.block _ (heap_lt hR1)).trans hR1
      clear hu2 hS1 HD1 hR1
      go_wp2_with fail
      refine hK.out _ _ (fun _ => ⟨cell_of_block (o := 0) hS2 rfl, cell_of_block (o := 1) hS2 rfl, cell_of_block (o := 2) hS2 rfl⟩) ?_
      clear hK K
      try simp only [Act.put, List.setIfInBounds_toArray, List.set_cons_zero, List.set_cons_succ]
      refine wpAnyE_take (i := 6) (v := ?vb6) rfl (by kernel_rfl) (by kernel_rfl) (by kernel_rfl) (by kernel_rfl) (fun _ _ _ h => h) (Or.inl ⟨by rfl, ?yb6⟩) ⟨cell_of_block (o := 0) hS2 rfl, cell_of_block (o := 1) hS2 rfl, cell_of_block (o := 2) hS2 rfl⟩ ?rb6
      case yb6 =>
        intro w hSw
        try dsimp only at hSw
        go_simp
        try with_reducible rfl
      try simp only [Act.put, List.setIfInBounds_toArray, List.set_cons_zero, List.set_cons_succ]
      refine wpAnyE_take (i := 7) (v := ?vb7) rfl (by kernel_rfl) (by kernel_rfl) (by kernel_rfl) (by kernel_rfl) (fun _ _ _ h => h) (Or.inl ⟨by rfl, ?yb7⟩) ⟨cell_of_block (o := 0) hS2 rfl, cell_of_block (o := 1) hS2 rfl, cell_of_block (o := 2) hS2 rfl⟩ ?rb7
      case yb7 =>
        intro w hSw
        try dsimp only at hSw
        go_simp
        try with_reducible rfl
      try simp only [Act.put, List.setIfInBounds_toArray, List.set_cons_zero, List.set_cons_succ]
      refine wpAnyE_one (i := 9) (by kernel_rfl) rfl (fun K hK => ?_)
      go_simp
      refine (N3.out _ _ (by first | rfl | omega)).mono ?_
      rintro e u3 ⟨s3, rfl, hs3, hu3⟩
      obtain ⟨y5, ya5, ys5⟩ := add_namedK ys4 hs3 (by simp only [List.length_append, List.length_cons, List.length_nil]; omega)
      obtain ⟨y6, ya6, ys6⟩ := add_namedK ys5 (Str.mk' [93]) (by simp only [List.length_append, List.length_cons, List.length_nil]; omega)
      have Y6 := hideq ys6
      clear hs3 ys4 ys5 ys6
      have HD3 := hideq (HD2.out.trans (hu3.mono HD2.out.size))
      have hS3 := (hu3.block _ (heap_lt hS2)).trans hS2
      have hR3 := (hu3.block _ (heap_lt hR2)).trans hR2
      clear hu3 hS2 HD2 hR2
      go_wp2_with fail
      refine hK.out _ _ (fun _ => ⟨cell_of_block (o := 0) hS3 rfl, cell_of_block (o := 1) hS3 rfl, cell_of_block (o := 2) hS3 rfl⟩) ?_
      clear hK K
      try simp only [Act.put, List.setIfInBounds_toArray, List.set_cons_zero, List.set_cons_succ]
      refine wpAnyE_take (i := 10) (v := ?vb10) rfl (by kernel_rfl) (by kernel_rfl) (by kernel_rfl) (by kernel_rfl) (fun _ _ _ h => h) (Or.inl ⟨by rfl, ?yb10⟩) ⟨cell_of_block (o := 0) hS3 rfl, cell_of_block (o := 1) hS3 rfl, cell_of_block (o := 2) hS3 rfl⟩ ?rb10
      case yb10 =>
        intro w hSw
        try dsimp only at hSw
        go_simp
        try with_reducible rfl
      try simp only [Act.put, List.setIfInBounds_toArray, List.set_cons_zero, List.set_cons_succ]
      refine wpAnyE_take (i := 11) (v := ?vb11) rfl (by kernel_rfl) (by kernel_rfl) (by kernel_rfl) (by kernel_rfl) (fun _ _ _ h => h) (Or.inl ⟨by rfl, ?yb11⟩) ⟨cell_of_block (o := 0) hS3 rfl, cell_of_block (o := 1) hS3 rfl, cell_of_block (o := 2) hS3 rfl⟩ ?rb11
      case yb11 =>
        intro w hSw
        try dsimp only at hSw
        go_simp
        try with_reducible rfl
      try simp only [Act.put, List.setIfInBounds_toArray, List.set_cons_zero, List.set_cons_succ]
      refine wpAnyE_one (i := 14) (by kernel_rfl) rfl (fun K hK => ?_)
      go_simp
      refine ((PT.out _ _).mono (fun _ _ h => OfPost.sp (Int.le_refl _) h)).mono ?_
      rintro e u4 ⟨a0, a1, a2, rfl, aok, hu4⟩
      have HD4 := hideq (HD3.out.trans (hu4.mono HD3.out.size))
      have hS4 := (hu4.block _ (heap_lt hS3)).trans hS3
      have hR4 := (hu4.block _ (heap_lt hR3)).trans hR3
      clear hu4 hS3 HD3 hR3
      go_wp2_with fail
      refine hK.out _ _ (fun _ => ⟨cell_of_block (o := 0) hS4 rfl, cell_of_block (o := 1) hS4 rfl, cell_of_block (o := 2) hS4 rfl⟩) ?_
      clear hK K
      try simp only [Act.put, List.setIfInBounds_toArray, List.set_cons_zero, List.set_cons_succ]
      refine wpAnyE_one (i := 16) (by kernel_rfl) rfl (fun K hK => ?_)
      go_simp
      refine (OV.out _ _ _ _ hokS).mono ?_
      rintro e u5 ⟨c0, c1, c2, rfl, cok, hu5⟩
      have HD5 := hideq (HD4.out.trans (hu5.mono HD4.out.size))
      have hS5 := (hu5.block _ (heap_lt hS4)).trans hS4
      have hR5 := (hu5.block _ (heap_lt hR4)).trans hR4
      clear hu5 hS4 HD4 hR4
      go_wp2_with fail
      refine hK.out _ _ (fun _ => ⟨cell_of_block (o := 0) hS5 rfl, cell_of_block (o := 1) hS5 rfl, cell_of_block (o := 2) hS5 rfl⟩) ?_
      clear hK K
      try simp only [Act.put, List.setIfInBounds_toArray, List.set_cons_zero, List.set_cons_succ]
      refine wpAnyE_one (i := 17) (by kernel_rfl) rfl (fun K hK => ?_)
      go_simp
      refine (AD.out _ _ _ _ _ _ _ aok cok).mono ?_
      rintro e u6 ⟨g0, g1, g2, rfl, gok, hu6⟩
      have HD6 := hideq (HD5.out.trans (hu6.mono HD5.out.size))
      have hS6 := (hu6.block _ (heap_lt hS5)).trans hS5
      have hR6 := (hu6.block _ (heap_lt hR5)).trans hR5
      clear hu6 hS5 HD5 hR5
      have rr0 := cell_of_block (o := 0) hR6 rfl
      have rr1 := cell_of_block (o := 1) hR6 rfl
      have rr2 := cell_of_block (o := 2) hR6 rfl
      have rg0 := frozen_of_block (o := 0) hR6
      have rg1 := frozen_of_block (o := 1) hR6
      have rg2 := frozen_of_block (o := 2) hR6
      go_wp2_with fail
      refine hK.out _ _ (fun _ => ⟨cell_of_block (o := 0) hS6 rfl, cell_of_block (o := 1) hS6 rfl, cell_of_block (o := 2) hS6 rfl⟩) ?_
      clear hK K
      try simp only [Act.put, List.setIfInBounds_toArray, List.set_cons_zero, List.set_cons_succ]
      refine wpAnyE_one (i := 18) (by kernel_rfl) rfl (fun K hK => ?_)
      go_simp
      refine hK.out _ _ (fun _ => ⟨cell_of_block (o := 0) hS6 rfl, cell_of_block (o := 1) hS6 rfl, cell_of_block (o := 2) hS6 rfl⟩) ?_
      clear hK K
      try simp only [Act.put, List.setIfInBounds_toArray, List.set_cons_zero, List.set_cons_succ]
      refine wpAnyE_one (i := 19) (by kernel_rfl) rfl (fun K hK => ?_)
      go_simp
      refine hK.out _ _ (fun h => absurd h (by decide)) ?_
      clear hK K
      refine wpAnyE_done (by kernel_rfl) ?_ _
      have Q := hideq (set3 hR6 g0 g1 g2)
      have HBt := hideq (set3_below (hbr.trans (HD6.out.mono hbr.size)) (Nat.le_refl _) g0 g1 g2)
      have HOK := hideq gok
      clear HD6 hS6 hS hRr hR6 hbr hLs1 aok cok gok
      go_wp2_with fail
      obtain ⟨q0, q1, q2⟩ := Q.out
      refine bodyPost_ret (v := .tuple #[.string y6, sv g0 g1 g2]) (by simp [results, Tryd.results11, go_sem, q0, q1, q2]) rfl ?_
      exact ⟨x, 1 + y, 1 + z, hx, by omega, by omega, by omega, by omega, y6, g0, g1, g2, rfl, Y6.out.to (cf_txt x (1 + y) (1 + z)), HOK.out, HBt.out⟩
set_option maxRecDepth 100000 in
set_option maxHeartbeats 2000000 in
theorem constant_3 (a b : Int) (w : World) (hn : pickI a 4 = 3) (h0 : -9223372036854775808 ≤ a) (h1 : a ≤ 9223372036854775807) (h2 : -9223372036854775808 ≤ b) (h3 : b ≤ 9223372036854775807) :
    Calls Tryd.prog 11 #[.int .i64 a, .int .i64 b] w fun e w' => ∃ x y z : Nat, x < 5 ∧ 1 ≤ y ∧ y ≤ 6 ∧ 1 ≤ z ∧ z ≤ 9 ∧ TxtSp w (Rd.termsTxt [(x : Int), y, z]) e w' := by
  have PK := hideq (fun w => pick_any a 4 w h0 h1 (by decide) (by decide))
  rw [hn] at PK
  have hx := pickI_lt b 5 (by decide)
  have PX := hideq (fun w => pick_any b 5 w h2 h3 (by decide) (by decide))
  have hy := pickI_lt (a.tdiv 4) 6 (by decide)
  have hz := pickI_lt (b.tdiv 5) 9 (by decide)
  have hd4 : -9223372036854775808 ≤ a.tdiv 4 ∧ a.tdiv 4 ≤ 9223372036854775807 := by
    have := Int.tdiv_mul_add_tmod a 4
    have := Int.tmod_lt_of_pos a (show (0 : Int) < 4 by decide)
    have h4 : -4 < a.tmod 4 := by
      have := Int.tmod_lt_of_pos (-a) (show (0 : Int) < 4 by decide)
      rw [Int.neg_tmod] at this
      omega
    omega
  have hd5 : -9223372036854775808 ≤ b.tdiv 5 ∧ b.tdiv 5 ≤ 9223372036854775807 := by
    have := Int.tdiv_mul_add_tmod b 5
    have := Int.tmod_lt_of_pos b (show (0 : Int) < 5 by decide)
    have h4 : -5 < b.tmod 5 := by
      have := Int.tmod_lt_of_pos (-b) (show (0 : Int) < 5 by decide)
      rw [Int.neg_tmod] at this
      omega
    omega
  have PY := hideq (fun w => pick_any (a.tdiv 4) 6 w hd4.1 hd4.2 (by decide) (by decide))
  have PZ := hideq (fun w => pick_any (b.tdiv 5) 9 w hd5.1 hd5.2 (by decide) (by decide))
  clear hn
  generalize pickI b 5 = x at *
  generalize pickI (a.tdiv 4) 6 = y at *
  generalize pickI (b.tdiv 5) 9 = z at *
  have O := hideq (fun x y w => of_any x y w)
  have PT := hideq (fun n w => point_any n w)
  have OV := hideq (fun a b k w h => over_any a b k w h)
  have AD := hideq (fun a b k c d m w h h' => add_any a b k c d m w h h')
  have N1 := hideq (fun w => number_any x w (by omega))
  have N2 : Hid (∀ (v : Int) (w : World), v = ((1 + y : Nat) : Int) → Calls Tryd.prog 8 #[.int .i64 v] w (StrPost w (Rd.dec ((1 + y : Nat) : Int)))) := by
    rintro v w rfl
    exact number_any (1 + y) w (by omega)
  have N3 : Hid (∀ (v : Int) (w : World), v = ((1 + z : Nat) : Int) → Calls Tryd.prog 8 #[.int .i64 v] w (StrPost w (Rd.dec ((1 + z : Nat) : Int)))) := by
    rintro v w rfl
    exact number_any (1 + z) w (by omega)
  have l1 : (Rd.dec (x : Int)).length ≤ 9 := Rd.dec_len ⟨by omega, by omega⟩
  have l2 : (Rd.dec ((1 + y : Nat) : Int)).length ≤ 9 := Rd.dec_len ⟨by omega, by omega⟩
  have l3 : (Rd.dec ((1 + z : Nat) : Int)).length ≤ 9 := Rd.dec_len ⟨by omega, by omega⟩
  go_enter Tryd.func11, Tryd.ntmps11
  go_wp2_with fail
  refine (PK.out _).mono ?_
  rintro e w1 ⟨rfl, rfl⟩
  go_wp2_with fail
  refine (PX.out _).mono ?_
  rintro e w1 ⟨rfl, rfl⟩
  go_wp2_with fail
  refine (PY.out _).mono ?_
  rintro e w1 ⟨rfl, rfl⟩
  go_wp2_with fail
  refine (PZ.out _).mono ?_
  rintro e w1 ⟨rfl, rfl⟩
  go_wp2_with fail
  refine calls_in (fun W => Below w.heap.size w W ∧ W.heap[w.heap.size]? = some (spCells 0 0 false)) ⟨(Below.refl _ _).alloc (Nat.le_refl _) _, cells_new _ _⟩ ?_
  rintro W ⟨hbW, hRW⟩
  refine ((O.out _ _ _).mono (fun _ _ h => OfPost.sp (by decide) h)).mono ?_
  rintro e w2 ⟨t0, t1, t2, rfl, ht, hb2⟩
  have hR2 := (hb2.block _ (heap_lt hRW)).trans hRW
  have hbw2 := hbW.trans (hb2.mono hbW.size)
  have hwt2 : w.heap.size < w2.heap.size := heap_lt hR2
  clear hb2 hRW hbW
  go_wp2_with fail
  go_loopw [10] (fun i wr => cfRel w w2.heap.size i wr) (fun i _ => 16 - (intOf i).toNat)
  case atStart => exact ⟨0, by omega, rfl, Loc.new w2 t2 ht, alloc_old hR2, hbw2.alloc hbw2.size _⟩
  case round =>
    clear hR2 hbw2 ht
    obtain ⟨j, hj, rfl, hLs1, hRr, hbr⟩ := hrel
    obtain ⟨p, q, r, hokS, hS⟩ := id hLs1
    have as0 := cell_of_block (o := 0) hS rfl
    have as1 := cell_of_block (o := 1) hS rfl
    have as2 := cell_of_block (o := 2) hS rfl
    by_cases hlt : j < 16
    · go_wp2_with fail
      refine wp_region_E (fun w' : World => w'.cell? ⟨w2.heap.size, 0, none⟩ = some (.int .i64 p) ∧ w'.cell? ⟨w2.heap.size, 1, none⟩ = some (.int .i64 q) ∧ w'.cell? ⟨w2.heap.size, 2, none⟩ = some (.bool r)) (fun i => !(i == 11)) (by kernel_rfl) ?_
      have hSh : Shut ((fun w' : World => w'.cell? ⟨w2.heap.size, 0, none⟩ = some (.int .i64 p) ∧ w'.cell? ⟨w2.heap.size, 1, none⟩ = some (.int .i64 q) ∧ w'.cell? ⟨w2.heap.size, 2, none⟩ = some (.bool r)) wr.drew) := ⟨as0, as1, as2⟩
      refine wpAnyE_take (i := 0) (v := ?va0) rfl (by kernel_rfl) (by kernel_rfl) (by kernel_rfl) (by kernel_rfl) (fun _ _ _ h => h) (Or.inl ⟨by rfl, ?ya0⟩) hSh.out ?ra0
      case ya0 =>
        intro w hSw
        try dsimp only at hSw
        go_simp
        try with_reducible rfl
      try simp only [Act.put, List.setIfInBounds_toArray, List.set_cons_zero, List.set_cons_succ]
      refine wpAnyE_take (i := 1) (v := ?va1) rfl (by kernel_rfl) (by kernel_rfl) (by kernel_rfl) (by kernel_rfl) (fun _ _ _ h => h) (Or.inl ⟨by rfl, ?ya1⟩) hSh.out ?ra1
      case ya1 =>
        intro w hSw
        try dsimp only at hSw
        go_simp
        try with_reducible rfl
      try simp only [Act.put, List.setIfInBounds_toArray, List.set_cons_zero, List.set_cons_succ]
      refine wpAnyE_take (i := 3) (v := ?va3) rfl (by kernel_rfl) (by kernel_rfl) (by kernel_rfl) (by kernel_rfl) (fun _ _ _ h => h) (Or.inl ⟨by rfl, ?ya3⟩) hSh.out ?ra3
      case ya3 =>
        intro w hSw
        try dsimp only at hSw
        go_simp
        try with_reducible rfl
      try simp only [Act.put, List.setIfInBounds_toArray, List.set_cons_zero, List.set_cons_succ]
      refine wpAnyE_take (i := 4) (v := ?va4) rfl (by kernel_rfl) (by kernel_rfl) (by kernel_rfl) (by kernel_rfl) (fun _ _ _ h => h) (Or.inl ⟨by rfl, ?ya4⟩) hSh.out ?ra4
      case ya4 =>
        intro w hSw
        try dsimp only at hSw
        go_simp
        try with_reducible rfl
      try simp only [Act.put, List.setIfInBounds_toArray, List.set_cons_zero, List.set_cons_succ]
      refine wpAnyE_take (i := 6) (v := ?va6) rfl (by kernel_rfl) (by kernel_rfl) (by kernel_rfl) (by kernel_rfl) (fun _ _ _ h => h) (Or.inl ⟨by rfl, ?ya6⟩) hSh.out ?ra6
      case ya6 =>
        intro w hSw
        try dsimp only at hSw
        go_simp
        try with_reducible rfl
      try simp only [Act.put, List.setIfInBounds_toArray, List.set_cons_zero, List.set_cons_succ]
      clear hSh
      refine wpAnyE_one (i := 2) (by kernel_rfl) rfl (fun K hK => ?_)
      go_simp
      refine ((PT.out _ _).mono (fun _ _ h => OfPost.sp (Int.le_refl _) h)).mono ?_
      rintro e u1 ⟨a0, a1, a2, rfl, aok, hu1⟩
      have hdu1 := undrewS hu1
      have HD1 := hideq hdu1
      have hS1 := (hdu1.block _ (heap_lt hS)).trans hS
      clear hu1 hdu1
      go_wp2_with fail
      refine hK.out _ _ (fun _ => ⟨cell_of_block (o := 0) hS1 rfl, cell_of_block (o := 1) hS1 rfl, cell_of_block (o := 2) hS1 rfl⟩) ?_
      clear hK K
      try simp only [Act.put, List.setIfInBounds_toArray, List.set_cons_zero, List.set_cons_succ]
      refine wpAnyE_one (i := 5) (by kernel_rfl) rfl (fun K hK => ?_)
      go_simp
      refine ((PT.out _ _).mono (fun _ _ h => OfPost.sp (Int.le_refl _) h)).mono ?_
      rintro e u2 ⟨b0, b1, b2, rfl, bok, hu2⟩
      have HD2 := hideq (HD1.out.trans (hu2.mono HD1.out.size))
      have hS2 := (hu2.block _ (heap_lt hS1)).trans hS1
      clear hu2 hS1 HD1
      go_wp2_with fail
      refine hK.out _ _ (fun _ => ⟨cell_of_block (o := 0) hS2 rfl, cell_of_block (o := 1) hS2 rfl, cell_of_block (o := 2) hS2 rfl⟩) ?_
      clear hK K
      try simp only [Act.put, List.setIfInBounds_toArray, List.set_cons_zero, List.set_cons_succ]
      refine wpAnyE_one (i := 7) (by kernel_rfl) rfl (fun K hK => ?_)
      go_simp
      refine (OV.out _ _ _ _ hokS).mono ?_
      rintro e u3 ⟨c0, c1, c2, rfl, cok, hu3⟩
      have HD3 := hideq (HD2.out.trans (hu3.mono HD2.out.size))
      have hS3 := (hu3.block _ (heap_lt hS2)).trans hS2
      clear hu3 hS2 HD2
      go_wp2_with fail
      refine hK.out _ _ (fun _ => ⟨cell_of_block (o := 0) hS3 rfl, cell_of_block (o := 1) hS3 rfl, cell_of_block (o := 2) hS3 rfl⟩) ?_
      clear hK K
      try simp only [Act.put, List.setIfInBounds_toArray, List.set_cons_zero, List.set_cons_succ]
      refine wpAnyE_one (i := 8) (by kernel_rfl) rfl (fun K hK => ?_)
      go_simp
      refine (AD.out _ _ _ _ _ _ _ bok cok).mono ?_
      rintro e u4 ⟨d0, d1, d2, rfl, dok, hu4⟩
      have HD4 := hideq (HD3.out.trans (hu4.mono HD3.out.size))
      have hS4 := (hu4.block _ (heap_lt hS3)).trans hS3
      clear hu4 hS3 HD3
      go_wp2_with fail
      refine hK.out _ _ (fun _ => ⟨cell_of_block (o := 0) hS4 rfl, cell_of_block (o := 1) hS4 rfl, cell_of_block (o := 2) hS4 rfl⟩) ?_
      clear hK K
      try simp only [Act.put, List.setIfInBounds_toArray, List.set_cons_zero, List.set_cons_succ]
      refine wpAnyE_one (i := 9) (by kernel_rfl) rfl (fun K hK => ?_)
      go_simp
      refine (OV.out _ _ _ _ dok).mono ?_
      rintro e u5 ⟨f0, f1, f2, rfl, fok, hu5⟩
      have HD5 := hideq (HD4.out.trans (hu5.mono HD4.out.size))
      have hS5 := (hu5.block _ (heap_lt hS4)).trans hS4
      clear hu5 hS4 HD4
      go_wp2_with fail
      refine hK.out _ _ (fun _ => ⟨cell_of_block (o := 0) hS5 rfl, cell_of_block (o := 1) hS5 rfl, cell_of_block (o := 2) hS5 rfl⟩) ?_
      clear hK K
      try simp only [Act.put, List.setIfInBounds_toArray, List.set_cons_zero, List.set_cons_succ]
      refine wpAnyE_one (i := 10) (by kernel_rfl) rfl (fun K hK => ?_)
      go_simp
      refine (AD.out _ _ _ _ _ _ _ aok fok).mono ?_
      rintro e u6 ⟨g0, g1, g2, rfl, gok, hu6⟩
      have HD6 := hideq (HD5.out.trans (hu6.mono HD5.out.size))
      have hS6 := (hu6.block _ (heap_lt hS5)).trans hS5
      clear hu6 hS5 HD5
      have sc0 := cell_of_block (o := 0) hS6 rfl
      have sc1 := cell_of_block (o := 1) hS6 rfl
      have sc2 := cell_of_block (o := 2) hS6 rfl
      have sg0 := frozen_of_block (o := 0) hS6
      have sg1 := frozen_of_block (o := 1) hS6
      have sg2 := frozen_of_block (o := 2) hS6
      go_wp2_with fail
      refine hK.out _ _ (fun _ => ⟨cell_of_block (o := 0) hS6 rfl, cell_of_block (o := 1) hS6 rfl, cell_of_block (o := 2) hS6 rfl⟩) ?_
      clear hK K
      try simp only [Act.put, List.setIfInBounds_toArray, List.set_cons_zero, List.set_cons_succ]
      refine wpAnyE_one (i := 11) (by kernel_rfl) rfl (fun K hK => ?_)
      go_simp
      refine hK.out _ _ (fun h => absurd h (by decide)) ?_
      clear hK K
      refine wpAnyE_done (by kernel_rfl) ?_ _
      have REL : Hid (cfRel w w2.heap.size (.int .i64 (j + 1)) (put3 u6 (w2.heap.size) g0 g1 g2)) := by
        have hs5 : Loc u6 (w2.heap.size) := hLs1.below HD6.out
        refine ⟨j + 1, by omega, by simp, Loc.put hs5 hs5 gok, ?_, set3_below (hbr.trans (HD6.out.mono hbr.size)) (by omega) g0 g1 g2⟩
        rw [put3_other (by omega)]
        exact (HD6.out.block _ (heap_lt hRr)).trans hRr
      clear HD6 hS6 hS hRr hbr hLs1 aok bok cok dok fok gok
      go_wp2_with fail
      go_roundw
      case rel => exact REL.out
      case measure => simp [intOf]; omega
    · obtain rfl : j = 16 := by omega
      go_wp2_with fail
      refine wp_region_E (fun w' : World => w'.cell? ⟨w2.heap.size, 0, none⟩ = some (.int .i64 p) ∧ w'.cell? ⟨w2.heap.size, 1, none⟩ = some (.int .i64 q) ∧ w'.cell? ⟨w2.heap.size, 2, none⟩ = some (.bool r)) (fun i => !(i == 19)) (by kernel_rfl) ?_
      have hSh : Shut ((fun w' : World => w'.cell? ⟨w2.heap.size, 0, none⟩ = some (.int .i64 p) ∧ w'.cell? ⟨w2.heap.size, 1, none⟩ = some (.int .i64 q) ∧ w'.cell? ⟨w2.heap.size, 2, none⟩ = some (.bool r)) wr.drew) := ⟨as0, as1, as2⟩
      refine wpAnyE_take (i := 0) (v := ?vb0) rfl (by kernel_rfl) (by kernel_rfl) (by kernel_rfl) (by kernel_rfl) (fun _ _ _ h => h) (Or.inl ⟨by rfl, ?yb0⟩) hSh.out ?rb0
      case yb0 =>
        intro w hSw
        try dsimp only at hSw
        go_simp
        try with_reducible rfl
      try simp only [Act.put, List.setIfInBounds_toArray, List.set_cons_zero, List.set_cons_succ]
      refine wpAnyE_take (i := 4) (v := ?vb4) rfl (by kernel_rfl) (by kernel_rfl) (by kernel_rfl) (by kernel_rfl) (fun _ _ _ h => h) (Or.inl ⟨by rfl, ?yb4⟩) hSh.out ?rb4
      case yb4 =>
        intro w hSw
        try dsimp only at hSw
        go_simp
        try with_reducible rfl
      try simp only [Act.put, List.setIfInBounds_toArray, List.set_cons_zero, List.set_cons_succ]
      refine wpAnyE_take (i := 8) (v := ?vb8) rfl (by kernel_rfl) (by kernel_rfl) (by kernel_rfl) (by kernel_rfl) (fun _ _ _ h => h) (Or.inl ⟨by rfl, ?yb8⟩) hSh.out ?rb8
      case yb8 =>
        intro w hSw
        try dsimp only at hSw
        go_simp
        try with_reducible rfl
      try simp only [Act.put, List.setIfInBounds_toArray, List.set_cons_zero, List.set_cons_succ]
      refine wpAnyE_take (i := 12) (v := ?vb12) rfl (by kernel_rfl) (by kernel_rfl) (by kernel_rfl) (by kernel_rfl) (fun _ _ _ h => h) (Or.inl ⟨by rfl, ?yb12⟩) hSh.out ?rb12
      case yb12 =>
        intro w hSw
        try dsimp only at hSw
        go_simp
        try with_reducible rfl
      try simp only [Act.put, List.setIfInBounds_toArray, List.set_cons_zero, List.set_cons_succ]
      refine wpAnyE_take (i := 13) (v := ?vb13) rfl (by kernel_rfl) (by kernel_rfl) (by kernel_rfl) (by kernel_rfl) (fun _ _ _ h => h) (Or.inl ⟨by rfl, ?yb13⟩) hSh.out ?rb13
      case yb13 =>
        intro w hSw
        try dsimp only at hSw
        go_simp
        try with_reducible rfl
      try simp only [Act.put, List.setIfInBounds_toArray, List.set_cons_zero, List.set_cons_succ]
      refine wpAnyE_take (i := 15) (v := ?vb15) rfl (by kernel_rfl) (by kernel_rfl) (by kernel_rfl) (by kernel_rfl) (fun _ _ _ h => h) (Or.inl ⟨by rfl, ?yb15⟩) hSh.out ?rb15
      case yb15 =>
        intro w hSw
        try dsimp only at hSw
        go_simp
        try with_reducible rfl
      try simp only [Act.put, List.setIfInBounds_toArray, List.set_cons_zero, List.set_cons_succ]
      clear hSh
      refine wpAnyE_one (i := 1) (by kernel_rfl) rfl (fun K hK => ?_)
      go_simp
      refine (N1.out _).mono ?_
      rintro e u1 ⟨s1, rfl, hs1, hu1⟩
      obtain ⟨y1, ya1, ys1⟩ := add_namedK (Str.mk' [99, 102, 91]) hs1 (by simp only [List.length_cons, List.length_nil]; omega)
      obtain ⟨y2, ya2, ys2⟩ := add_namedK ys1 (Str.mk' [59, 32]) (by simp only [List.length_append, List.length_cons, List.length_nil]; omega)
      clear hs1 ys1
      have hdu1 := undrewS hu1
      have HD1 := hideq hdu1
      have hS1 := (hdu1.block _ (heap_lt hS)).trans hS
      have hR1 := (hdu1.block _ (heap_lt hRr)).trans hRr
      clear hu1 hdu1
      go_wp2_with fail
      refine hK.out _ _ (fun _ => ⟨cell_of_block (o := 0) hS1 rfl, cell_of_block (o := 1) hS1 rfl, cell_of_block (o := 2) hS1 rfl⟩) ?_
      clear hK K
      try simp only [Act.put, List.setIfInBounds_toArray, List.set_cons_zero, List.set_cons_succ]
      refine wpAnyE_take (i := 2) (v := ?vb2) rfl (by kernel_rfl) (by kernel_rfl) (by kernel_rfl) (by kernel_rfl) (fun _ _ _ h => h) (Or.inl ⟨by rfl, ?yb2⟩) ⟨cell_of_block (o := 0) hS1 rfl, cell_of_block (o := 1) hS1 rfl, cell_of_block (o := 2) hS1 rfl⟩ ?rb2
      case yb2 =>
        intro w hSw
        try dsimp only at hSw
        go_simp
        try with_reducible rfl
      try simp only [Act.put, List.setIfInBounds_toArray, List.set_cons_zero, List.set_cons_succ]
      refine wpAnyE_take (i := 3) (v := ?vb3) rfl (by kernel_rfl) (by kernel_rfl) (by kernel_rfl) (by kernel_rfl) (fun _ _ _ h => h) (Or.inl ⟨by rfl, ?yb3⟩) ⟨cell_of_block (o := 0) hS1 rfl, cell_of_block (o := 1) hS1 rfl, cell_of_block (o := 2) hS1 rfl⟩ ?rb3
      case yb3 =>
        intro w hSw
        try dsimp only at hSw
        go_simp
        try with_reducible rfl
      try simp only [Act.put, List.setIfInBounds_toArray, List.set_cons_zero, List.set_cons_succ]
      refine wpAnyE_one (i := 5) (by kernel_rfl) rfl (fun K hK => ?_)
      go_simp
      refine (N2.out _ _ (by first | rfl | omega)).mono ?_
      rintro e u2 ⟨s2, rfl, hs2, hu2⟩
      obtain ⟨y3, ya3, ys3⟩ := add_namedK ys2 hs2 (by simp only [List.length_append, List.length_cons, List.length_nil]; omega)
      obtain ⟨y4, ya4, ys4⟩ := add_namedK ys3 (Str.mk' [44, 32]) (by simp only [List.length_append, List.length_cons, List.length_nil]; omega)
      clear hs2 ys2 ys3
      have HD2 := hideq (HD1.out.trans (hu2.mono HD1.out.size))
      have hS2 := (hu2.block _ (heap_lt hS1)).trans hS1
      have hR2 := (hu2.block _ (heap_lt hR1)).trans hR1
      clear hu2 hS1 HD1 hR1
      go_wp2_with fail
      refine hK.out _ _ (fun _ => ⟨cell_of_block (o := 0) hS2 rfl, cell_of_block (o := 1) hS2 rfl, cell_of_block (o := 2) hS2 rfl⟩) ?_
      clear hK K
      try simp only [Act.put, List.setIfInBounds_toArray, List.set_cons_zero, List.set_cons_succ]
      refine wpAnyE_take (i := 6) (v := ?vb6) rfl (by kernel_rfl) (by kernel_rfl) (by kernel_rfl) (by kernel_rfl) (fun _ _ _ h => h) (Or.inl ⟨by rfl, ?yb6⟩) ⟨cell_of_block (o := 0) hS2 rfl, cell_of_block (o := 1) hS2 rfl, cell_of_block (o := 2) hS2 rfl⟩ ?rb6
      case yb6 =>
        intro w hSw
        try dsimp only at hSw
        go_simp
        try with_reducible rfl
      try simp only [Act.put, List.setIfInBounds_toArray, List.set_cons_zero, List.set_cons_succ]
      refine wpAnyE_take (i := 7) (v := ?vb7) rfl (by kernel_rfl) (by kernel_rfl) (by kernel_rfl) (by kernel_rfl) (fun _ _ _ h => h) (Or.inl ⟨by rfl, ?yb7⟩) ⟨cell_of_block (o := 0) hS2 rfl, cell_of_block (o := 1) hS2 rfl, cell_of_block (o := 2) hS2 rfl⟩ ?rb7
      case yb7 =>
        intro w hSw
        try dsimp only at hSw
        go_simp
        try with_reducible rfl
      try simp only [Act.put, List.setIfInBounds_toArray, List.set_cons_zero, List.set_cons_succ]
      refine wpAnyE_one (i := 9) (by kernel_rfl) rfl (fun K hK => ?_)
      go_simp
      refine (N3.out _ _ (by first | rfl | omega)).mono ?_
      rintro e u3 ⟨s3, rfl, hs3, hu3⟩
      obtain ⟨y5, ya5, ys5⟩ := add_namedK ys4 hs3 (by simp only [List.length_append, List.length_cons, List.length_nil]; omega)
      obtain ⟨y6, ya6, ys6⟩ := add_namedK ys5 (Str.mk' [93]) (by simp only [List.length_append, List.length_cons, List.length_nil]; omega)
      have Y6 := hideq ys6
      clear hs3 ys4 ys5 ys6
      have HD3 := hideq (HD2.out.trans (hu3.mono HD2.out.size))
      have hS3 := (hu3.block _ (heap_lt hS2)).trans hS2
      have hR3 := (hu3.block _ (heap_lt hR2)).trans hR2
      clear hu3 hS2 HD2 hR2
      go_wp2_with fail
      refine hK.out _ _ (fun _ => ⟨cell_of_block (o := 0) hS3 rfl, cell_of_block (o := 1) hS3 rfl, cell_of_block (o := 2) hS3 rfl⟩) ?_
      clear hK K
      try simp only [Act.put, List.setIfInBounds_toArray, List.set_cons_zero, List.set_cons_succ]
      refine wpAnyE_take (i := 10) (v := ?vb10) rfl (by kernel_rfl) (by kernel_rfl) (by kernel_rfl) (by kernel_rfl) (fun _ _ _ h => h) (Or.inl ⟨by rfl, ?yb10⟩) ⟨cell_of_block (o := 0) hS3 rfl, cell_of_block (o := 1) hS3 rfl, cell_of_block (o := 2) hS3 rfl⟩ ?rb10
      case yb10 =>
        intro w hSw
        try dsimp only at hSw
        go_simp
        try with_reducible rfl
      try simp only [Act.put, List.setIfInBounds_toArray, List.set_cons_zero, List.set_cons_succ]
      refine wpAnyE_take (i := 11) (v := ?vb11) rfl (by kernel_rfl) (by kernel_rfl) (by kernel_rfl) (by kernel_rfl) (fun _ _ _ h => h) (Or.inl ⟨by rfl, ?yb11⟩) ⟨cell_of_block (o := 0) hS3 rfl, cell_of_block (o := 1) hS3 rfl, cell_of_block (o := 2) hS3 rfl⟩ ?rb11
      case yb11 =>
        intro w hSw
        try dsimp only at hSw
        go_simp
        try with_reducible rfl
      try simp only [Act.put, List.setIfInBounds_toArray, List.set_cons_zero, List.set_cons_succ]
      refine wpAnyE_one (i := 14) (by kernel_rfl) rfl (fun K hK => ?_)
      go_simp
      refine ((PT.out _ _).mono (fun _ _ h => OfPost.sp (Int.le_refl _) h)).mono ?_
      rintro e u4 ⟨a0, a1, a2, rfl, aok, hu4⟩
      have HD4 := hideq (HD3.out.trans (hu4.mono HD3.out.size))
      have hS4 := (hu4.block _ (heap_lt hS3)).trans hS3
      have hR4 := (hu4.block _ (heap_lt hR3)).trans hR3
      clear hu4 hS3 HD3 hR3
      go_wp2_with fail
      refine hK.out _ _ (fun _ => ⟨cell_of_block (o := 0) hS4 rfl, cell_of_block (o := 1) hS4 rfl, cell_of_block (o := 2) hS4 rfl⟩) ?_
      clear hK K
      try simp only [Act.put, List.setIfInBounds_toArray, List.set_cons_zero, List.set_cons_succ]
      refine wpAnyE_one (i := 16) (by kernel_rfl) rfl (fun K hK => ?_)
      go_simp
      refine (OV.out _ _ _ _ hokS).mono ?_
      rintro e u5 ⟨c0, c1, c2, rfl, cok, hu5⟩
      have HD5 := hideq (HD4.out.trans (hu5.mono HD4.out.size))
      have hS5 := (hu5.block _ (heap_lt hS4)).trans hS4
      have hR5 := (hu5.block _ (heap_lt hR4)).trans hR4
      clear hu5 hS4 HD4 hR4
      go_wp2_with fail
      refine hK.out _ _ (fun _ => ⟨cell_of_block (o := 0) hS5 rfl, cell_of_block (o := 1) hS5 rfl, cell_of_block (o := 2) hS5 rfl⟩) ?_
      clear hK K
      try simp only [Act.put, List.setIfInBounds_toArray, List.set_cons_zero, List.set_cons_succ]
      refine wpAnyE_one (i := 17) (by kernel_rfl) rfl (fun K hK => ?_)
      go_simp
      refine (AD.out _ _ _ _ _ _ _ aok cok).mono ?_
      rintro e u6 ⟨g0, g1, g2, rfl, gok, hu6⟩
      have HD6 := hideq (HD5.out.trans (hu6.mono HD5.out.size))
      have hS6 := (hu6.block _ (heap_lt hS5)).trans hS5
      have hR6 := (hu6.block _ (heap_lt hR5)).trans hR5
      clear hu6 hS5 HD5 hR5
      have rr0 := cell_of_block (o := 0) hR6 rfl
      have rr1 := cell_of_block (o := 1) hR6 rfl
      have rr2 := cell_of_block (o := 2) hR6 rfl
      have rg0 := frozen_of_block (o := 0) hR6
      have rg1 := frozen_of_block (o := 1) hR6
      have rg2 := frozen_of_block (o := 2) hR6
      go_wp2_with fail
      refine hK.out _ _ (fun _ => ⟨cell_of_block (o := 0) hS6 rfl, cell_of_block (o := 1) hS6 rfl, cell_of_block (o := 2) hS6 rfl⟩) ?_
      clear hK K
      try simp only [Act.put, List.setIfInBounds_toArray, List.set_cons_zero, List.set_cons_succ]
      refine wpAnyE_one (i := 18) (by kernel_rfl) rfl (fun K hK => ?_)
      go_simp
      refine hK.out _ _ (fun _ => ⟨cell_of_block (o := 0) hS6 rfl, cell_of_block (o := 1) hS6 rfl, cell_of_block (o := 2) hS6 rfl⟩) ?_
      clear hK K
      try simp only [Act.put, List.setIfInBounds_toArray, List.set_cons_zero, List.set_cons_succ]
      refine wpAnyE_one (i := 19) (by kernel_rfl) rfl (fun K hK => ?_)
      go_simp
      refine hK.out _ _ (fun h => absurd h (by decide)) ?_
      clear hK K
      refine wpAnyE_done (by kernel_rfl) ?_ _
      have Q := hideq (set3 hR6 g0 g1 g2)
      have HBt := hideq (set3_below (hbr.trans (HD6.out.mono hbr.size)) (Nat.le_refl _) g0 g1 g2)
      have HOK := hideq gok
      clear HD6 hS6 hS hRr hR6 hbr hLs1 aok cok gok
      go_wp2_with fail
      obtain ⟨q0, q1, q2⟩ := Q.out
      refine bodyPost_ret (v := .tuple #[.string y6, sv g0 g1 g2]) (by simp [results, Tryd.results11, go_sem, q0, q1, q2]) rfl ?_
      exact ⟨x, 1 + y, 1 + z, hx, by omega, by omega, by omega, by omega, y6, g0, g1, g2, rfl, Y6.out.to (cf_txt x (1 + y) (1 + z)), HOK.out, HBt.out⟩
/-- What a constant is written as. -/
def ConstTxt (l : List UInt8) : Prop := l = [112, 105] ∨ l = [101] ∨ ∃ x y z : Nat, x < 5 ∧ 1 ≤ y ∧ y ≤ 6 ∧ 1 ≤ z ∧ z ≤ 9 ∧ l = Rd.termsTxt [(x : Int), y, z]

theorem constant_any (a b : Int) (w : World) (h0 : -9223372036854775808 ≤ a) (h1 : a ≤ 9223372036854775807) (h2 : -9223372036854775808 ≤ b) (h3 : b ≤ 9223372036854775807) :
    Calls Tryd.prog 11 #[.int .i64 a, .int .i64 b] w fun e w' => ∃ l, ConstTxt l ∧ TxtSp w l e w' := by
  have hlt4 := pickI_lt a 4 (by decide)
  have hc : pickI a 4 = 0 ∨ pickI a 4 = 1 ∨ pickI a 4 = 2 ∨ pickI a 4 = 3 := by omega
  rcases hc with hn | hn | hn | hn
  · exact (constant_0 a b w hn h0 h1).mono (fun _ _ x => ⟨_, Or.inl rfl, x⟩)
  · exact (constant_1 a b w hn h0 h1).mono (fun _ _ x => ⟨_, Or.inr (Or.inl rfl), x⟩)
  · exact (constant_2 a b w hn h0 h1 h2 h3).mono (fun _ _ ⟨x, y, z, p1, p2, p3, p4, p5, p6⟩ => ⟨_, Or.inr (Or.inr ⟨x, y, z, p1, p2, p3, p4, p5, rfl⟩), p6⟩)
  · exact (constant_3 a b w hn h0 h1 h2 h3).mono (fun _ _ ⟨x, y, z, p1, p2, p3, p4, p5, p6⟩ => ⟨_, Or.inr (Or.inr ⟨x, y, z, p1, p2, p3, p4, p5, rfl⟩), p6⟩)

end Go.Proofs.YtmepffenlgedbaaDoor
