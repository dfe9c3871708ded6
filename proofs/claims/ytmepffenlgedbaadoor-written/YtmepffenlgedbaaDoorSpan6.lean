/-
  THE WALKS of realskeep's plain intervals: exp.
-/
import Derived.Test.YtmepffenlgedbaaDoorSpan5
import Derived.Test.YtmepffenlgedbaaDoorHeld
set_option linter.unusedSimpArgs false
namespace Go.Proofs.YtmepffenlgedbaaDoor
open Go.RowKit

/-- An interval lies in block b. -/
def Loc (w : World) (b : Nat) : Prop := ∃ p q r, SpOk p q ∧ w.heap[b]? = some (spCells p q r)

theorem Loc.lt {w : World} {b : Nat} (h : Loc w b) : b < w.heap.size := by
  obtain ⟨_, _, _, _, h⟩ := h
  exact heap_lt h
theorem Loc.below {w w' : World} {b : Nat} (h : Loc w b) (hb : Below w.heap.size w w') : Loc w' b := by
  obtain ⟨p, q, r, hok, h⟩ := h
  exact ⟨p, q, r, hok, (hb.block b (heap_lt h)).trans h⟩
theorem Loc.new (w : World) {p q : Int} (r : Bool) (h : SpOk p q) : Loc (w.alloc (.cells #[.int .i64 p, .int .i64 q, .bool r] 37)) w.heap.size := ⟨p, q, r, h, cells_new _ _⟩
theorem Loc.old {w : World} {b : Nat} (h : Loc w b) (o : Obj) : Loc (w.alloc o) b := by
  obtain ⟨p, q, r, hok, h⟩ := h
  exact ⟨p, q, r, hok, alloc_old h⟩

/-- A world behind the storing of an interval. -/
abbrev put3 (w : World) (b : Nat) (p q : Int) (r : Bool) : World := ((w.setCell ⟨b, 0, none⟩ (.int .i64 p)).setCell ⟨b, 1, none⟩ (.int .i64 q)).setCell ⟨b, 2, none⟩ (.bool r)

theorem put3_same {w : World} {b : Nat} {x y : Int} {z : Bool} (h : w.heap[b]? = some (spCells x y z)) (p q : Int) (r : Bool) : (put3 w b p q r).heap[b]? = some (spCells p q r) :=
  heap_set (heap_set (heap_set h (o := 0) (.int .i64 p)) (o := 1) (.int .i64 q)) (o := 2) (.bool r)
theorem put3_other {w : World} {b c : Nat} (h : c ≠ b) (p q : Int) (r : Bool) : (put3 w b p q r).heap[c]? = w.heap[c]? := by
  unfold put3
  rw [Below.heap_setCell _ _ _ _ (by simpa using h), Below.heap_setCell _ _ _ _ (by simpa using h), Below.heap_setCell _ _ _ _ (by simpa using h)]
theorem Loc.put {w : World} {b c : Nat} {p q : Int} {r : Bool} (hb : Loc w b) (h : Loc w c) (hok : SpOk p q) : Loc (put3 w b p q r) c := by
  obtain ⟨x, y, z, hxy, h⟩ := h
  by_cases e : c = b
  · subst e
    exact ⟨p, q, r, hok, put3_same h p q r⟩
  · exact ⟨x, y, z, hxy, (put3_other e p q r).trans h⟩

def expRel (w : World) (bx bt bs : Nat) (i : Value) (wr : World) : Prop :=
  ∃ k : Nat, 1 ≤ k ∧ k ≤ 10 ∧ i = .int .i64 k ∧ Loc wr bx ∧ Loc wr bt ∧ Loc wr bs ∧ wr.heap[w.heap.size]? = some (spCells 0 0 false) ∧ Below w.heap.size w wr

def exp2Rel (w : World) (bs : Nat) (i : Value) (wr : World) : Prop :=
  ∃ k : Nat, k ≤ 4 ∧ i = .int .i64 k ∧ Loc wr bs ∧ wr.heap[w.heap.size]? = some (spCells 0 0 false) ∧ Below w.heap.size w wr

set_option maxHeartbeats 2000000 in
theorem expOf_any (n : Int) (w : World) (h0 : -7340032 ≤ n) (h1 : n ≤ 7340032) : Calls Tryd.prog 32 #[.int .i64 n] w (SpPost w) := by
  have F := hideq (fun w => floor_any n 16 w (by omega) (by omega) (by omega) (by omega))
  have G := hideq (fun w => ceil_any n 16 w (by omega) (by omega) (by omega) (by omega))
  have HLE := hideq (floor_ceil (a := n) (b := n) (c := 16) (by decide) (Int.le_refl _))
  have O := hideq (fun x y w => of_any x y w)
  have M := hideq (fun a b k c d m w h h' => mul_any a b k c d m w h h')
  have AD := hideq (fun a b k c d m w h h' => add_any a b k c d m w h h')
  have RA := hideq (fun p q w h0 h1 h2 h3 => ratio_any p q w h0 h1 h2 h3)
  go_enter Tryd.func32, Tryd.ntmps32
  go_wp2_with fail
  refine calls_in (fun W => Below w.heap.size w W ∧ W.heap[w.heap.size]? = some (spCells 0 0 false)) ⟨(Below.refl _ _).alloc (Nat.le_refl _) _, cells_new _ _⟩ ?_
  rintro W ⟨hbW, hRW⟩
  refine (F.out _).mono ?_
  rintro e w1 ⟨rfl, rfl⟩
  go_wp2_with fail
  refine (G.out _).mono ?_
  rintro e w1 ⟨rfl, rfl⟩
  go_wp2_with fail
  refine ((O.out _ _ _).mono (fun _ _ h => OfPost.sp HLE.out h)).mono ?_
  rintro e w1 ⟨x0, x1, x2, rfl, hx, hb1⟩
  go_wp2_with fail
  refine calls_in (fun V => Loc V w1.heap.size ∧ Below w.heap.size w V ∧ V.heap[w.heap.size]? = some (spCells 0 0 false)) ⟨Loc.new w1 x2 hx, (hbW.trans (hb1.mono hbW.size)).alloc (Nat.le_trans hbW.size hb1.size) _, alloc_old ((hb1.block _ (heap_lt hRW)).trans hRW)⟩ ?_
  rintro V ⟨hLx, hbV, hRV⟩
  have hxs := hLx.lt
  generalize w1.heap.size = bx at *
  clear hb1 hx hRW hbW
  refine ((O.out _ _ _).mono (fun _ _ h => OfPost.sp (by decide) h)).mono ?_
  rintro e w2 ⟨t0, t1, t2, rfl, ht, hb2⟩
  go_wp2_with fail
  go_loopw [6] (fun i wr => expRel w bx w2.heap.size (w2.heap.size + 1) i wr) (fun i _ => 10 - (intOf i).toNat)
  case atStart => exact ⟨1, by omega, by omega, rfl, ((hLx.below hb2).old _).old _, (Loc.new w2 t2 ht).old _, ⟨t0, t1, t2, ht, alloc_at (by simp)⟩, alloc_old (alloc_old ((hb2.block _ (heap_lt hRV)).trans hRV)), ((hbV.trans (hb2.mono hbV.size)).alloc (Nat.le_trans hbV.size hb2.size) _).alloc (by simp; have := hbV.size; have := hb2.size; omega) _⟩
  case round =>
    obtain ⟨k, hk1, hk2, rfl, hLx1, hLt1, hLs1, hRr, hbr⟩ := hrel
    have hxw := Nat.lt_of_lt_of_le hxs hb2.size
    have hwt : w.heap.size ≤ w2.heap.size := Nat.le_trans hbV.size hb2.size
    have hwt2 : w.heap.size < w2.heap.size := Nat.lt_of_lt_of_le (heap_lt hRV) hb2.size
    clear hb2 hRV hbV hLx ht
    by_cases hlt : k ≤ 9
    · obtain ⟨p, q, r, hokT, hT⟩ := id hLt1
      obtain ⟨p', q', r', hokX, hX⟩ := id hLx1
      have at0 := cell_of_block (o := 0) hT rfl
      have at1 := cell_of_block (o := 1) hT rfl
      have at2 := cell_of_block (o := 2) hT rfl
      have ax0 := cell_of_block (o := 0) hX rfl
      have ax1 := cell_of_block (o := 1) hX rfl
      have ax2 := cell_of_block (o := 2) hX rfl
      go_wp2_with fail
      refine wp_region_E (fun w' : World => w'.cell? ⟨w2.heap.size, 0, none⟩ = some (.int .i64 p) ∧ w'.cell? ⟨w2.heap.size, 1, none⟩ = some (.int .i64 q) ∧ w'.cell? ⟨w2.heap.size, 2, none⟩ = some (.bool r) ∧ w'.cell? ⟨bx, 0, none⟩ = some (.int .i64 p') ∧ w'.cell? ⟨bx, 1, none⟩ = some (.int .i64 q') ∧ w'.cell? ⟨bx, 2, none⟩ = some (.bool r')) (fun i => !(i == 6)) (by kernel_rfl) ?_
      have hSh : Shut ((fun w' : World => w'.cell? ⟨w2.heap.size, 0, none⟩ = some (.int .i64 p) ∧ w'.cell? ⟨w2.heap.size, 1, none⟩ = some (.int .i64 q) ∧ w'.cell? ⟨w2.heap.size, 2, none⟩ = some (.bool r) ∧ w'.cell? ⟨bx, 0, none⟩ = some (.int .i64 p') ∧ w'.cell? ⟨bx, 1, none⟩ = some (.int .i64 q') ∧ w'.cell? ⟨bx, 2, none⟩ = some (.bool r')) wr.drew) := ⟨at0, at1, at2, ax0, ax1, ax2⟩
      refine wpAnyE_take (i := 0) (v := ?va0) rfl (by kernel_rfl) (by kernel_rfl) (by kernel_rfl) (by kernel_rfl) (fun _ _ _ h => h) (Or.inl ⟨by rfl, ?ya0⟩) hSh.out ?ra0
      case ya0 =>
        intro w hSw
        try dsimp only at hSw
        go_simp
        try with_reducible rfl
      try simp only [Act.put, List.setIfInBounds_toArray, List.set_cons_zero, List.set_cons_succ]
      refine wpAnyE_take (i := 1) (v := ?va1) rfl (by kernel_rfl) (by kernel_rfl) (by kernel_rfl) (by kernel_rfl) (fun _ _ _ h => h) (Or.inl ⟨by rfl, ?ya1⟩) hSh.out ?ra1
      case ya1 =>
        intro w hSw
        try dsimp only at hSw
        go_simp
        try with_reducible rfl
      try simp only [Act.put, List.setIfInBounds_toArray, List.set_cons_zero, List.set_cons_succ]
      refine wpAnyE_take (i := 2) (v := ?va2) rfl (by kernel_rfl) (by kernel_rfl) (by kernel_rfl) (by kernel_rfl) (fun _ _ _ h => h) (Or.inl ⟨by rfl, ?ya2⟩) hSh.out ?ra2
      case ya2 =>
        intro w hSw
        try dsimp only at hSw
        go_simp
        try with_reducible rfl
      try simp only [Act.put, List.setIfInBounds_toArray, List.set_cons_zero, List.set_cons_succ]
      clear hSh
      refine wpAnyE_one (i := 3) (by kernel_rfl) rfl (fun K hK => ?_)
      go_simp
      refine ((RA.out 1 _ _ (by decide) (by decide) (by omega) (by omega)).mono (fun _ _ h => OfPost.sp (floor_ceil (by omega) (Int.le_refl _)) h)).mono ?_
      rintro e v1 ⟨a1, b1, c1, rfl, hok1, hv1⟩
      have hd1 := undrewS hv1
      have hT1 := (hd1.block _ (heap_lt hT)).trans hT
      have hX1 := (hd1.block _ (heap_lt hX)).trans hX
      have ct0 := cell_of_block (o := 0) hT1 rfl
      have ct1 := cell_of_block (o := 1) hT1 rfl
      have ct2 := cell_of_block (o := 2) hT1 rfl
      have cx0 := cell_of_block (o := 0) hX1 rfl
      have cx1 := cell_of_block (o := 1) hX1 rfl
      have cx2 := cell_of_block (o := 2) hX1 rfl
      clear hv1
      go_wp2_with fail
      refine hK.out _ _ (fun _ => ⟨ct0, ct1, ct2, cx0, cx1, cx2⟩) ?_
      clear hK K
      try simp only [Act.put, List.setIfInBounds_toArray, List.set_cons_zero, List.set_cons_succ]
      refine wpAnyE_one (i := 4) (by kernel_rfl) rfl (fun K hK => ?_)
      go_simp
      refine (M.out _ _ _ _ _ _ _ hokX hok1).mono ?_
      rintro e v2 ⟨a2, b2, c2, rfl, hok2, hv2⟩
      have hT2 := (hv2.block _ (heap_lt hT1)).trans hT1
      have hX2 := (hv2.block _ (heap_lt hX1)).trans hX1
      have du0 := cell_of_block (o := 0) hT2 rfl
      have du1 := cell_of_block (o := 1) hT2 rfl
      have du2 := cell_of_block (o := 2) hT2 rfl
      have dx0 := cell_of_block (o := 0) hX2 rfl
      have dx1 := cell_of_block (o := 1) hX2 rfl
      have dx2 := cell_of_block (o := 2) hX2 rfl
      go_wp2_with fail
      refine hK.out _ _ (fun _ => ⟨du0, du1, du2, dx0, dx1, dx2⟩) ?_
      clear hK K
      try simp only [Act.put, List.setIfInBounds_toArray, List.set_cons_zero, List.set_cons_succ]
      refine wpAnyE_one (i := 5) (by kernel_rfl) rfl (fun K hK => ?_)
      go_simp
      refine (M.out _ _ _ _ _ _ _ hokT hok2).mono ?_
      rintro e v3 ⟨a3, b3, c3, rfl, hok3, hv3⟩
      have hT3 := (hv3.block _ (heap_lt hT2)).trans hT2
      have hX3 := (hv3.block _ (heap_lt hX2)).trans hX2
      have eu0 := cell_of_block (o := 0) hT3 rfl
      have eu1 := cell_of_block (o := 1) hT3 rfl
      have eu2 := cell_of_block (o := 2) hT3 rfl
      have ex0 := cell_of_block (o := 0) hX3 rfl
      have ex1 := cell_of_block (o := 1) hX3 rfl
      have ex2 := cell_of_block (o := 2) hX3 rfl
      have eg0 := frozen_of_block (o := 0) hT3
      have eg1 := frozen_of_block (o := 1) hT3
      have eg2 := frozen_of_block (o := 2) hT3
      go_wp2_with fail
      refine hK.out _ _ (fun _ => ⟨eu0, eu1, eu2, ex0, ex1, ex2⟩) ?_
      clear hK K
      try simp only [Act.put, List.setIfInBounds_toArray, List.set_cons_zero, List.set_cons_succ]
      refine wpAnyE_one (i := 6) (by kernel_rfl) rfl (fun K hK => ?_)
      go_simp
      refine hK.out _ _ (fun h => absurd h (by decide)) ?_
      clear hK K
      refine wpAnyE_done (by kernel_rfl) ?_ _
      obtain ⟨V4, hV4⟩ : ∃ V4, V4 = (((v3.setCell ⟨w2.heap.size, 0, none⟩ (.int .i64 a3)).setCell ⟨w2.heap.size, 1, none⟩ (.int .i64 b3)).setCell ⟨w2.heap.size, 2, none⟩ (.bool c3)) := ⟨_, rfl⟩
      rw [← hV4]
      have HD := hideq (hd1.trans (Below.mono (hv2.trans (hv3.mono hv2.size)) hd1.size))
      have hLt4 : Loc V4 w2.heap.size := hV4 ▸ Loc.put (hLt1.below HD.out) (hLt1.below HD.out) hok3
      have hLx4 : Loc V4 bx := hV4 ▸ Loc.put (hLt1.below HD.out) (hLx1.below HD.out) hok3
      have hLs4 : Loc V4 (w2.heap.size + 1) := hV4 ▸ Loc.put (hLt1.below HD.out) (hLs1.below HD.out) hok3
      have hb4 : Below w.heap.size w V4 := hV4 ▸ set3_below (hbr.trans (HD.out.mono hbr.size)) hwt a3 b3 c3
      have hR4 : V4.heap[w.heap.size]? = some (spCells 0 0 false) := by
        rw [hV4, show ((((v3.setCell ⟨w2.heap.size, 0, none⟩ (.int .i64 a3)).setCell ⟨w2.heap.size, 1, none⟩ (.int .i64 b3)).setCell ⟨w2.heap.size, 2, none⟩ (.bool c3)) : World) = put3 v3 w2.heap.size a3 b3 c3 from rfl, put3_other (by omega)]
        exact (HD.out.block _ (heap_lt hRr)).trans hRr
      clear hV4 HD hd1 hv2 hv3 hT1 hT2 hT3 hX1 hX2 hX3 ct0 ct1 ct2 cx0 cx1 cx2 du0 du1 du2 dx0 dx1 dx2 eu0 eu1 eu2 ex0 ex1 ex2 eg0 eg1 eg2 at0 at1 at2 ax0 ax1 ax2 hT hX hok1 hok2 hok3 hokT hokX hLt1 hLx1 hLs1 hRr hbr
      obtain ⟨p, q, r, hokT, hT⟩ := id hLt4
      obtain ⟨p', q', r', hokS, hS⟩ := id hLs4
      have at0 := cell_of_block (o := 0) hT rfl
      have at1 := cell_of_block (o := 1) hT rfl
      have at2 := cell_of_block (o := 2) hT rfl
      have as0 := cell_of_block (o := 0) hS rfl
      have as1 := cell_of_block (o := 1) hS rfl
      have as2 := cell_of_block (o := 2) hS rfl
      go_wp2_with fail
      refine (AD.out _ _ _ _ _ _ _ hokS hokT).mono ?_
      rintro e v5 ⟨a5, b5, c5, rfl, hok5, hv5⟩
      have hS5 := (hv5.block _ (heap_lt hS)).trans hS
      have bs0 := cell_of_block (o := 0) hS5 rfl
      have bs1 := cell_of_block (o := 1) hS5 rfl
      have bs2 := cell_of_block (o := 2) hS5 rfl
      have bg0 := frozen_of_block (o := 0) hS5
      have bg1 := frozen_of_block (o := 1) hS5
      have bg2 := frozen_of_block (o := 2) hS5
      have REL : Hid (expRel w bx w2.heap.size (w2.heap.size + 1) (.int .i64 (k + 1)) (put3 v5 (w2.heap.size + 1) a5 b5 c5)) := by
        have hs5 : Loc v5 (w2.heap.size + 1) := hLs4.below hv5
        refine ⟨k + 1, by omega, by omega, by simp, Loc.put hs5 (hLx4.below hv5) hok5, Loc.put hs5 (hLt4.below hv5) hok5, Loc.put hs5 hs5 hok5, ?_, set3_below (hb4.trans (hv5.mono hb4.size)) (by omega) a5 b5 c5⟩
        rw [put3_other (by omega)]
        exact (hv5.block _ (heap_lt hR4)).trans hR4
      clear hv5 hok5 hS5 hT hS hLt4 hLx4 hLs4 hb4 hR4 hokT hokS
      go_wp2_with fail
      go_roundw
      case rel => exact REL.out
      case measure => simp [intOf]; omega
    · obtain rfl : k = 10 := by omega
      obtain ⟨p, q, r, hokS, hS⟩ := id hLs1
      have as0 := cell_of_block (o := 0) hS rfl
      have as1 := cell_of_block (o := 1) hS rfl
      have as2 := cell_of_block (o := 2) hS rfl
      go_wp2_with fail
      refine wp_region_E (fun w' : World => w'.cell? ⟨w2.heap.size + 1, 0, none⟩ = some (.int .i64 p) ∧ w'.cell? ⟨w2.heap.size + 1, 1, none⟩ = some (.int .i64 q) ∧ w'.cell? ⟨w2.heap.size + 1, 2, none⟩ = some (.bool r)) (fun i => !(i == 3)) (by kernel_rfl) ?_
      have hSh : Shut ((fun w' : World => w'.cell? ⟨w2.heap.size + 1, 0, none⟩ = some (.int .i64 p) ∧ w'.cell? ⟨w2.heap.size + 1, 1, none⟩ = some (.int .i64 q) ∧ w'.cell? ⟨w2.heap.size + 1, 2, none⟩ = some (.bool r)) wr.drew) := ⟨as0, as1, as2⟩
      refine wpAnyE_take (i := 0) (v := ?vb0) rfl (by kernel_rfl) (by kernel_rfl) (by kernel_rfl) (by kernel_rfl) (fun _ _ _ h => h) (Or.inl ⟨by rfl, ?yb0⟩) hSh.out ?rb0
      case yb0 =>
        intro w hSw
        try dsimp only at hSw
        go_simp
        try with_reducible rfl
      try simp only [Act.put, List.setIfInBounds_toArray, List.set_cons_zero, List.set_cons_succ]
      clear hSh
      refine wpAnyE_one (i := 1) (by kernel_rfl) rfl (fun K hK => ?_)
      go_simp
      refine ((O.out _ _ _).mono (fun _ _ h => OfPost.sp (by decide) h)).mono ?_
      rintro e v1 ⟨a1, b1, c1, rfl, hok1, hv1⟩
      have hd1 := undrewS hv1
      have hS1 := (hd1.block _ (heap_lt hS)).trans hS
      have cs0 := cell_of_block (o := 0) hS1 rfl
      have cs1 := cell_of_block (o := 1) hS1 rfl
      have cs2 := cell_of_block (o := 2) hS1 rfl
      clear hv1
      go_wp2_with fail
      refine hK.out _ _ (fun _ => ⟨cs0, cs1, cs2⟩) ?_
      clear hK K
      try simp only [Act.put, List.setIfInBounds_toArray, List.set_cons_zero, List.set_cons_succ]
      refine wpAnyE_one (i := 2) (by kernel_rfl) rfl (fun K hK => ?_)
      go_simp
      refine (AD.out _ _ _ _ _ _ _ hokS hok1).mono ?_
      rintro e v2 ⟨a2, b2, c2, rfl, hok2, hv2⟩
      have hS2 := (hv2.block _ (heap_lt hS1)).trans hS1
      have ds0 := cell_of_block (o := 0) hS2 rfl
      have ds1 := cell_of_block (o := 1) hS2 rfl
      have ds2 := cell_of_block (o := 2) hS2 rfl
      have dg0 := frozen_of_block (o := 0) hS2
      have dg1 := frozen_of_block (o := 1) hS2
      have dg2 := frozen_of_block (o := 2) hS2
      go_wp2_with fail
      refine hK.out _ _ (fun _ => ⟨ds0, ds1, ds2⟩) ?_
      clear hK K
      try simp only [Act.put, List.setIfInBounds_toArray, List.set_cons_zero, List.set_cons_succ]
      refine wpAnyE_one (i := 3) (by kernel_rfl) rfl (fun K hK => ?_)
      go_simp
      refine hK.out _ _ (fun h => absurd h (by decide)) ?_
      clear hK K
      refine wpAnyE_done (by kernel_rfl) ?_ _
      obtain ⟨V6, hV6⟩ : ∃ V6, V6 = (((v2.setCell ⟨w2.heap.size + 1, 0, none⟩ (.int .i64 a2)).setCell ⟨w2.heap.size + 1, 1, none⟩ (.int .i64 b2)).setCell ⟨w2.heap.size + 1, 2, none⟩ (.bool c2)) := ⟨_, rfl⟩
      rw [← hV6]
      have HD := hideq (hd1.trans (hv2.mono hd1.size))
      have hLs6 : Loc V6 (w2.heap.size + 1) := hV6 ▸ Loc.put (hLs1.below HD.out) (hLs1.below HD.out) hok2
      have hb6 : Below w.heap.size w V6 := hV6 ▸ set3_below (hbr.trans (HD.out.mono hbr.size)) (by omega) a2 b2 c2
      have hR6 : V6.heap[w.heap.size]? = some (spCells 0 0 false) := by
        rw [hV6, show ((((v2.setCell ⟨w2.heap.size + 1, 0, none⟩ (.int .i64 a2)).setCell ⟨w2.heap.size + 1, 1, none⟩ (.int .i64 b2)).setCell ⟨w2.heap.size + 1, 2, none⟩ (.bool c2)) : World) = put3 v2 (w2.heap.size + 1) a2 b2 c2 from rfl, put3_other (by omega)]
        exact (HD.out.block _ (heap_lt hRr)).trans hRr
      clear hV6 HD hd1 hv2 hS1 hS2 cs0 cs1 cs2 ds0 ds1 ds2 dg0 dg1 dg2 as0 as1 as2 hS hok1 hok2 hokS hLs1 hLx1 hLt1 hRr hbr
      go_wp2_with fail
      go_loopw [7] (fun i wr => exp2Rel w (w2.heap.size + 1) i wr) (fun i _ => 4 - (intOf i).toNat)
      case atStart => exact ⟨0, by omega, rfl, hLs6, hR6, hb6⟩
      case round =>
        clear hLs6 hR6 hb6
        obtain ⟨k, hk, rfl, hLs1, hRr, hbr⟩ := hrel
        obtain ⟨p, q, r, hokS, hS⟩ := id hLs1
        have as0 := cell_of_block (o := 0) hS rfl
        have as1 := cell_of_block (o := 1) hS rfl
        have as2 := cell_of_block (o := 2) hS rfl
        by_cases hlt : k < 4
        · go_wp2_with fail
          refine (M.out _ _ _ _ _ _ _ hokS hokS).mono ?_
          rintro e v5 ⟨a5, b5, c5, rfl, hok5, hv5⟩
          have hS5 := (hv5.block _ (heap_lt hS)).trans hS
          have bs0 := cell_of_block (o := 0) hS5 rfl
          have bs1 := cell_of_block (o := 1) hS5 rfl
          have bs2 := cell_of_block (o := 2) hS5 rfl
          have bg0 := frozen_of_block (o := 0) hS5
          have bg1 := frozen_of_block (o := 1) hS5
          have bg2 := frozen_of_block (o := 2) hS5
          have REL : Hid (exp2Rel w (w2.heap.size + 1) (.int .i64 (k + 1)) (put3 v5 (w2.heap.size + 1) a5 b5 c5)) := by
            have hs5 : Loc v5 (w2.heap.size + 1) := hLs1.below hv5
            refine ⟨k + 1, by omega, by simp, Loc.put hs5 hs5 hok5, ?_, set3_below (hbr.trans (hv5.mono hbr.size)) (by omega) a5 b5 c5⟩
            rw [put3_other (by omega)]
            exact (hv5.block _ (heap_lt hRr)).trans hRr
          clear hv5 hok5 hS5 hS hLs1 hbr hRr hokS
          go_wp2_with fail
          go_roundw
          case rel => exact REL.out
          case measure => simp [intOf]; omega
        · obtain rfl : k = 4 := by omega
          have r0 := cell_of_block (o := 0) hRr rfl
          have r1 := cell_of_block (o := 1) hRr rfl
          have r2 := cell_of_block (o := 2) hRr rfl
          have g0 := frozen_of_block (o := 0) hRr
          have g1 := frozen_of_block (o := 1) hRr
          have g2 := frozen_of_block (o := 2) hRr
          have Q := hideq (set3 hRr p q r)
          have HBt := hideq (set3_below hbr (Nat.le_refl _) p q r)
          have HOK := hideq hokS
          clear hokS hRr hbr hS hLs1
          go_wp2_with fail
          obtain ⟨q0, q1, q2⟩ := Q.out
          refine bodyPost_ret (v := sv p q r) (by simp [results, Tryd.results32, go_sem, q0, q1, q2]) rfl ?_
          exact ⟨p, q, r, rfl, HOK.out, HBt.out⟩
end Go.Proofs.YtmepffenlgedbaaDoor
