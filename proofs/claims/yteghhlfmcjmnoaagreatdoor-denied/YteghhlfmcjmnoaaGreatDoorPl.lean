import Derived.Test.YteghhlfmcjmnoaaGreatDoorWDiv
import Derived.Test.YteghhlfmcjmnoaaGreatDoorWAdd
set_option linter.unusedSimpArgs false
namespace Go.Proofs.YteghhlfmcjmnoaaGreatDoor
open Go.RowKit
structure SetW (W U : World) (s : Nat) (p q : Value) : Prop where
  blk : U.heap[s]? = some (.cells #[p, q] 80 (0, 0))
  oth : ∀ k, k ≠ s → U.heap[k]? = W.heap[k]?
  size : U.heap.size = W.heap.size
  num : ∀ z v, WhoAt W z v → WhoAt U z v
  below : ∀ B w0, Below B w0 W → B ≤ s → Below B w0 U
theorem setw {W U : World} {s : Nat} {x y p q : Value} (hU : U = (W.setCell ⟨s, 0, none⟩ p).setCell ⟨s, 1, none⟩ q) (k : W.heap[s]? = some (.cells #[x, y] 80 (0, 0))) : SetW W U s p q := by
  subst hU
  refine ⟨?_, ?_, by simp, fun z v h => (h.other k (by decide) _).other (heap_set k (o := 0) _) (by decide) _, fun B w0 h hB => (h.setCell hB _).setCell hB _⟩
  · rw [heap_set (heap_set k (o := 0) p) (o := 1) q]; rfl
  · intro j hj
    rw [Below.heap_setCell _ _ _ _ hj, Below.heap_setCell _ _ _ _ hj]
def box4 (w : World) (a b c d : Value) : World := (boxw w a b c d).alloc (.cells #[.bool false, .slice none 0 0] 80)
theorem box4_below (w : World) (a b c d : Value) : Below w.heap.size w (box4 w a b c d) := belowW (boxw_below' w a b c d) (boxw_below' w a b c d).size _
theorem box4_size (w : World) (a b c d : Value) : (box4 w a b c d).heap.size = w.heap.size + 4 := by rw [box4, World.size_alloc, boxw_size']
theorem box4_at0 (w : World) (a b c d : Value) : (box4 w a b c d).heap[w.heap.size]? = some (.cells #[a, b] 80 (0, 0)) := at_oldW _ (boxw_at0' w a b c d)
theorem box4_at1 (w : World) (a b c d : Value) : (box4 w a b c d).heap[w.heap.size + 1]? = some (.cells #[c, d] 80 (0, 0)) := at_oldW _ (boxw_at1' w a b c d)
theorem box4_at2 (w : World) (a b c d : Value) : (box4 w a b c d).heap[w.heap.size + 2]? = some (.cells #[.bool false, .slice none 0 0] 80 (0, 0)) := at_oldW _ (boxw_at2' w a b c d)
theorem box4_at3 (w : World) (a b c d : Value) : (box4 w a b c d).heap[w.heap.size + 3]? = some (.cells #[.bool false, .slice none 0 0] 80 (0, 0)) := by
  have := at_newW (boxw w a b c d) (.cells #[.bool false, .slice none 0 0] 80)
  rw [boxw_size'] at this
  exact this
structure Fin4 (w U : World) (s : Nat) (x y : Int) (p q r t : Value) : Prop where
  c0 : ((((U.setCell ⟨s, 0, none⟩ p).setCell ⟨s, 1, none⟩ q).setCell ⟨s + 1, 0, none⟩ r).setCell ⟨s + 1, 1, none⟩ t).cell? ⟨s, 0, none⟩ = some p
  c1 : ((((U.setCell ⟨s, 0, none⟩ p).setCell ⟨s, 1, none⟩ q).setCell ⟨s + 1, 0, none⟩ r).setCell ⟨s + 1, 1, none⟩ t).cell? ⟨s, 1, none⟩ = some q
  c2 : ((((U.setCell ⟨s, 0, none⟩ p).setCell ⟨s, 1, none⟩ q).setCell ⟨s + 1, 0, none⟩ r).setCell ⟨s + 1, 1, none⟩ t).cell? ⟨s + 1, 0, none⟩ = some r
  c3 : ((((U.setCell ⟨s, 0, none⟩ p).setCell ⟨s, 1, none⟩ q).setCell ⟨s + 1, 0, none⟩ r).setCell ⟨s + 1, 1, none⟩ t).cell? ⟨s + 1, 1, none⟩ = some t
  f0 : U.frozen? ⟨s, 0, none⟩ = false
  f1 : U.frozen? ⟨s, 1, none⟩ = false
  f2 : U.frozen? ⟨s + 1, 0, none⟩ = false
  f3 : U.frozen? ⟨s + 1, 1, none⟩ = false
  d0 : ∃ v, U.cell? ⟨s, 0, none⟩ = some v
  a : WhoAt ((((U.setCell ⟨s, 0, none⟩ p).setCell ⟨s, 1, none⟩ q).setCell ⟨s + 1, 0, none⟩ r).setCell ⟨s + 1, 1, none⟩ t) x (.agg #[p, q])
  b : WhoAt ((((U.setCell ⟨s, 0, none⟩ p).setCell ⟨s, 1, none⟩ q).setCell ⟨s + 1, 0, none⟩ r).setCell ⟨s + 1, 1, none⟩ t) y (.agg #[r, t])
  below : Below w.heap.size w ((((U.setCell ⟨s, 0, none⟩ p).setCell ⟨s, 1, none⟩ q).setCell ⟨s + 1, 0, none⟩ r).setCell ⟨s + 1, 1, none⟩ t)
theorem fin4 {w U : World} {s : Nat} {x y : Int} {p q r t m n m' n' : Value} (h0 : U.heap[s]? = some (.cells #[m, n] 80 (0, 0))) (h1 : U.heap[s + 1]? = some (.cells #[m', n'] 80 (0, 0))) (hx : WhoAt U x (.agg #[p, q])) (hy : WhoAt U y (.agg #[r, t])) (hb : Below w.heap.size w U) (hs : w.heap.size ≤ s) : Fin4 w U s x y p q r t := by
  have S := setw (U := (U.setCell ⟨s, 0, none⟩ p).setCell ⟨s, 1, none⟩ q) rfl h0
  have T := setw (p := r) (q := t) rfl ((S.oth (s + 1) (by omega)).trans h1)
  have b0 := (T.oth s (by omega)).trans S.blk
  exact ⟨cell_of_block b0 rfl, cell_of_block b0 rfl, cell_of_block T.blk rfl, cell_of_block T.blk rfl, frozen_of_block h0, frozen_of_block h0, frozen_of_block h1, frozen_of_block h1, ⟨_, cell_of_block h0 rfl⟩, T.num _ _ (S.num _ _ hx), T.num _ _ (S.num _ _ hy), T.below _ _ (S.below _ _ hb hs) (by omega)⟩
def QuoPost (w : World) (x y : Int) : Ending → World → Prop := fun e w' => ∃ qv rv, e = .returned (.tuple #[qv, rv]) ∧ WhoAt w' (x / y) qv ∧ WhoAt w' (x % y) rv ∧ Below w.heap.size w w'
set_option maxRecDepth 100000 in
set_option maxHeartbeats 2000000 in
theorem divided_any (w : World) (x y : Int) (u v : Value) (n : Nat) (hx : WhoAt w x u) (hy : WhoAt w y v) (bx : x.natAbs < 2 ^ n) (bY : y.natAbs < 2 ^ n) (hn : n ≤ 1000000000) (hy0 : 0 < y) : Calls Tryz.prog 73 #[u, v] w (QuoPost w x y) := by
  obtain ⟨a, ao, cap, rfl, hI, hg, hv⟩ := hx.open
  obtain ⟨b, bo, bap, rfl, hJ, hh, hu⟩ := hy.open
  have hl := lims_len hg hv bx
  have hk := lims_len hh hu bY
  have hbp : 0 < b.length := by
    have := who_zero hh hu
    rcases Nat.eq_zero_or_pos b.length with h | h
    · have := this.1 (List.eq_nil_of_length_eq_zero h); omega
    · exact h
  have SG := hid (fun W hW => wsign_any W y _ (hy.below hW))
  rw [Nm.cmp_gt hy0] at SG
  have hu' : Nm.val 4294967296 b = y := by omega
  have DL := hid (fun W hW => divideLimbs_any W a b _ _ (hI.below hW) (hJ.below hW) (by omega) (by omega) hg hh hbp)
  rw [hv, hu'] at DL
  have HJ := hid hJ
  have HH := hid hh
  have HU := hid hu'
  rw [decide_eq_false (show ¬ y < 0 by omega)] at *
  have BX := hid bx
  clear hI hJ hg hh hu hu' hx hy bx bY
  by_cases hx0 : x < 0
  · rw [decide_eq_true hx0]
    go_enter Tryz.func73, Tryz.ntmps73
    go_wp2_with fail
    refine (SG.out _ (box4_below w _ _ _ _)).mono ?_
    rintro e w1 ⟨rfl, hb1⟩
    have hs1 := hb1.size
    rw [box4_size] at hs1
    have B1 := (box4_below w _ _ _ _).trans (hb1.mono (box4_below w _ _ _ _).size)
    have k0 := newW (by rw [box4_size]; omega) (box4_at0 _ _ _ _ _) hb1
    have k1 := newW (by rw [box4_size]; omega) (box4_at1 _ _ _ _ _) hb1
    have K2 := hid (newW (by rw [box4_size]; omega) (box4_at2 _ _ _ _ _) hb1)
    have K3 := hid (newW (by rw [box4_size]; omega) (box4_at3 _ _ _ _ _) hb1)
    have y0 := cell_of_block (o := 0) k0 rfl
    have y1 := cell_of_block (o := 1) k0 rfl
    have y2 := cell_of_block (o := 0) k1 rfl
    have y3 := cell_of_block (o := 1) k1 rfl
    have DD := hid (DL.out w1 B1)
    have HB1 := hid B1
    clear hb1 SG
    go_wp2_with fail
    refine (DD.out).mono ?_
    rintro e w2 ⟨qv, rv, Q, R, rfl, hQ, hR, gQ, gR, vQ, vR, hb2⟩
    have hs2 := hb2.size
    obtain ⟨qo, qc, rfl, _⟩ := hQ.shape
    obtain ⟨ro, rc, rfl, _⟩ := hR.shape
    have z0 := (hb2.cell (p := ⟨w.heap.size, 0, none⟩) (by simp only; omega)).trans y0
    have z3 := (hb2.cell (p := ⟨w.heap.size + 1, 1, none⟩) (by simp only; omega)).trans y3
    have B2 := HB1.out.trans (hb2.mono HB1.out.size)
    have hRz := Nm.val_zero (by decide) gR
    have hr0 := Nm.val_lo (by decide) gR.dig
    have hrx := Int.emod_lt_of_pos ((x.natAbs : Nat) : Int) hy0
    have hqr := Int.emod_add_mul_ediv ((x.natAbs : Nat) : Int) y
    have hq0 : 0 ≤ ((x.natAbs : Nat) : Int) / y := Int.ediv_nonneg (by omega) (by omega)
    have hfl := Nm.floor_neg hy0 (show ((x.natAbs : Nat) : Int) = ((x.natAbs : Nat) : Int) / y * y + ((x.natAbs : Nat) : Int) % y by rw [Int.mul_comm]; omega) (by omega) hrx
    rw [show -((x.natAbs : Nat) : Int) = x by omega] at hfl
    have hem := Int.emod_add_mul_ediv x y
    by_cases hR0 : R = []
    · subst hR0
      have e0 : ((x.natAbs : Nat) : Int) % y = 0 := by rw [← vR]; rfl
      rw [if_pos e0] at hfl
      have hqn : ((x.natAbs : Nat) : Int) / y ≠ 0 := by intro e; rw [e] at hqr; omega
      have hX : WhoAt w2 (x / y) (.agg #[.bool true, .slice qo Q.length qc]) := who_of hQ gQ (by rw [vQ, hfl]; omega) (by rw [hfl]; symm; simp; omega)
      have hY : WhoAt w2 (x % y) (.agg #[.bool false, .slice none 0 0]) := by
        have : x % y = 0 := by rw [hfl, Int.mul_neg] at hem; omega
        rw [this]
        exact who_nil w2
      have hr := B2
      have BB := hb2
      have hblk2 := newW (by omega) K2.out BB
      have hblk3 := newW (by omega) K3.out BB
      have s0 := cell_of_block (o := 0) hblk2 rfl
      have s1 := cell_of_block (o := 1) hblk2 rfl
      have s2 := cell_of_block (o := 0) hblk3 rfl
      have s3 := cell_of_block (o := 1) hblk3 rfl
      have F := fin4 hblk2 hblk3 hX hY hr (by omega)
      have r0 := F.f0
      have r1 := F.f1
      have r2 := F.f2
      have r3 := F.f3
      have q0 := F.c0
      have q1 := F.c1
      have q2 := F.c2
      have q3 := F.c3
      have FA := hid F.a
      have FY := hid F.b
      have FB := hid F.below
      clear F hX hY hr hblk2 hblk3 BB
      clear hqn hfl hem hqr hrx hq0 hr0 hRz gQ gR vQ vR hQ hR B2 hb2 e0
      go_wp2_with fail
      refine bodyPost_ret (v := .tuple #[.agg #[.bool true, .slice qo Q.length qc], .agg #[.bool false, .slice none 0 0]]) (by simp [results, Tryz.results73, go_sem, q0, q1, q2, q3]) rfl ⟨_, _, rfl, FA.out, FY.out, FB.out⟩
    · have hRl : ((R.length : Int) == 0) = false := by
        have := List.length_pos_iff.2 hR0
        exact beq_eq_false_iff_ne.2 (by omega)
      have e0 : ((x.natAbs : Nat) : Int) % y ≠ 0 := by rw [← vR]; exact fun h => hR0 (hRz.1 h)
      rw [if_neg e0] at hfl
      have LO := hid (limbsOf_any 1 w2 (by decide) (by decide))
      have HQ := hid hQ
      have HR := hid hR
      have GQ := hid gQ
      have GR := hid gR
      have VQ := hid vQ
      have VR := hid vR
      have HFL := hid hfl
      have HEM := hid hem
      have HQR := hid hqr
      have HRX := hid hrx
      have H2 := hid hb2
      have HB2 := hid B2
      have hQl : Q.length ≤ n := by
        have h1 := Int.ediv_le_self y (show 0 ≤ ((x.natAbs : Nat) : Int) by omega)
        have h2 := BX.out
        exact lims_len (z := ((x.natAbs : Nat) : Int) / y) gQ (by rw [vQ]; omega) (by omega)
      clear hQ hR gQ gR vQ vR hfl hem hqr hrx hb2 B2 hRz
      go_wp2_with fail
      refine (LO.out).mono ?_
      rintro e w3 ⟨lv, L, rfl, ⟨gL, vL, lL⟩, hI3, hb3⟩
      have hs3 := hb3.size
      have AD := hid (addLimbs_any w3 Q L _ _ (HQ.out.below hb3) (hI3.weak (Nat.zero_le _)) (by omega) (by omega) GQ.out.dig gL.dig)
      rw [vL, VQ.out] at AD
      have z3' := (hb3.cell (p := ⟨w.heap.size + 1, 1, none⟩) (by simp only; omega)).trans z3
      have H3 := hid hb3
      clear hb3 hI3 gL vL
      go_wp2_with fail
      refine (AD.out).mono ?_
      rintro e w4 ⟨fv, FL, rfl, ⟨gF, vF⟩, hIF, hb4⟩
      have hs4 := hb4.size
      obtain ⟨fo, fc, rfl, _⟩ := hIF.shape
      have z4 := (hb4.cell (p := ⟨w.heap.size + 1, 1, none⟩) (by simp only; omega)).trans z3'
      have B24 := hid (H3.out.trans (hb4.mono H3.out.size))
      have hle : Nm.val 4294967296 R ≤ Nm.val 4294967296 b := by rw [VR.out, HU.out]; have := HRX.out; omega
      have SB := hid (subtractLimbs_any w4 b R _ _ ((HJ.out.below HB2.out).below B24.out) (HR.out.below B24.out) (by omega) (wlen_le GR.out HH.out hle) HH.out.dig GR.out.dig hle)
      rw [VR.out, HU.out] at SB
      have HIF := hid hIF
      have GF := hid gF
      have VF := hid vF
      clear hIF gF vF hb4
      go_wp2_with fail
      refine (SB.out).mono ?_
      rintro e w5 ⟨tv, TL, rfl, ⟨gT, vT⟩, hIT, hb5⟩
      have hs5 := hb5.size
      obtain ⟨to', tc, rfl, _⟩ := hIT.shape
      have hX : WhoAt w5 (x / y) (.agg #[.bool true, .slice fo FL.length fc]) := who_of ((HIF.out.weak (Nat.zero_le _)).below hb5) GF.out (by rw [VF.out, HFL.out]; omega) (by rw [HFL.out]; symm; simp; omega)
      have hY : WhoAt w5 (x % y) (.agg #[.bool false, .slice to' TL.length tc]) := by
        have h1 := HEM.out
        have h2 := HQR.out
        have h3 := HRX.out
        rw [HFL.out, Int.mul_sub, Int.mul_neg, Int.mul_one] at h1
        have h5 := VR.out
        refine who_of (hIT.weak (Nat.zero_le _)) gT (by rw [vT]; omega) (by symm; simp; omega)
      have BB := (H2.out.trans (B24.out.mono H2.out.size)).trans (hb5.mono (show w1.heap.size ≤ w4.heap.size by omega))
      have hr := (HB2.out.trans (B24.out.mono (show w.heap.size ≤ w2.heap.size by omega))).trans (hb5.mono (show w.heap.size ≤ w4.heap.size by omega))
      have hblk2 := newW (by omega) K2.out BB
      have hblk3 := newW (by omega) K3.out BB
      have s0 := cell_of_block (o := 0) hblk2 rfl
      have s1 := cell_of_block (o := 1) hblk2 rfl
      have s2 := cell_of_block (o := 0) hblk3 rfl
      have s3 := cell_of_block (o := 1) hblk3 rfl
      have F := fin4 hblk2 hblk3 hX hY hr (by omega)
      have r0 := F.f0
      have r1 := F.f1
      have r2 := F.f2
      have r3 := F.f3
      have q0 := F.c0
      have q1 := F.c1
      have q2 := F.c2
      have q3 := F.c3
      have FA := hid F.a
      have FY := hid F.b
      have FB := hid F.below
      clear F hX hY hr hblk2 hblk3 BB
      clear gT vT hIT hb5
      go_wp2_with fail
      refine bodyPost_ret (v := .tuple #[.agg #[.bool true, .slice fo FL.length fc], .agg #[.bool false, .slice to' TL.length tc]]) (by simp [results, Tryz.results73, go_sem, q0, q1, q2, q3]) rfl ⟨_, _, rfl, FA.out, FY.out, FB.out⟩
  · rw [decide_eq_false hx0]
    go_enter Tryz.func73, Tryz.ntmps73
    go_wp2_with fail
    refine (SG.out _ (box4_below w _ _ _ _)).mono ?_
    rintro e w1 ⟨rfl, hb1⟩
    have hs1 := hb1.size
    rw [box4_size] at hs1
    have B1 := (box4_below w _ _ _ _).trans (hb1.mono (box4_below w _ _ _ _).size)
    have k0 := newW (by rw [box4_size]; omega) (box4_at0 _ _ _ _ _) hb1
    have k1 := newW (by rw [box4_size]; omega) (box4_at1 _ _ _ _ _) hb1
    have K2 := hid (newW (by rw [box4_size]; omega) (box4_at2 _ _ _ _ _) hb1)
    have K3 := hid (newW (by rw [box4_size]; omega) (box4_at3 _ _ _ _ _) hb1)
    have y0 := cell_of_block (o := 0) k0 rfl
    have y1 := cell_of_block (o := 1) k0 rfl
    have y2 := cell_of_block (o := 0) k1 rfl
    have y3 := cell_of_block (o := 1) k1 rfl
    have DD := hid (DL.out w1 B1)
    have HB1 := hid B1
    clear hb1 SG
    go_wp2_with fail
    refine (DD.out).mono ?_
    rintro e w2 ⟨qv, rv, Q, R, rfl, hQ, hR, gQ, gR, vQ, vR, hb2⟩
    have hs2 := hb2.size
    obtain ⟨qo, qc, rfl, _⟩ := hQ.shape
    obtain ⟨ro, rc, rfl, _⟩ := hR.shape
    have z0 := (hb2.cell (p := ⟨w.heap.size, 0, none⟩) (by simp only; omega)).trans y0
    have hr := HB1.out.trans (hb2.mono HB1.out.size)
    have BB := hb2
    rw [show ((x.natAbs : Nat) : Int) = x by omega] at vQ vR
    have hq0 : 0 ≤ x / y := Int.ediv_nonneg (by omega) (by omega)
    have hr0 : 0 ≤ x % y := Int.emod_nonneg _ (by omega)
    have hX : WhoAt w2 (x / y) (.agg #[.bool false, .slice qo Q.length qc]) := who_of hQ gQ (by rw [vQ]; omega) (by symm; simp; omega)
    have hY : WhoAt w2 (x % y) (.agg #[.bool false, .slice ro R.length rc]) := who_of hR gR (by rw [vR]; omega) (by symm; simp; omega)
    have hblk2 := newW (by omega) K2.out BB
    have hblk3 := newW (by omega) K3.out BB
    have s0 := cell_of_block (o := 0) hblk2 rfl
    have s1 := cell_of_block (o := 1) hblk2 rfl
    have s2 := cell_of_block (o := 0) hblk3 rfl
    have s3 := cell_of_block (o := 1) hblk3 rfl
    have F := fin4 hblk2 hblk3 hX hY hr (by omega)
    have r0 := F.f0
    have r1 := F.f1
    have r2 := F.f2
    have r3 := F.f3
    have q0 := F.c0
    have q1 := F.c1
    have q2 := F.c2
    have q3 := F.c3
    have FA := hid F.a
    have FY := hid F.b
    have FB := hid F.below
    clear F hX hY hr hblk2 hblk3 BB
    clear gQ gR vQ vR hQ hR hb2 hq0 hr0
    go_wp2_with fail
    refine bodyPost_ret (v := .tuple #[.agg #[.bool false, .slice qo Q.length qc], .agg #[.bool false, .slice ro R.length rc]]) (by simp [results, Tryz.results73, go_sem, q0, q1, q2, q3]) rfl ⟨_, _, rfl, FA.out, FY.out, FB.out⟩
end Go.Proofs.YteghhlfmcjmnoaaGreatDoor
set_option linter.unusedSimpArgs false
namespace Go.Proofs.YteghhlfmcjmnoaaGreatDoor
open Go.RowKit
structure GcdW (w : World) (A B C p q : Nat) : Prop where
  p : ∃ ao n c, w.heap[A]? = some (.cells #[.bool false, .slice ao n c] 80 (0, 0)) ∧ WhoAt w p (.agg #[.bool false, .slice ao n c])
  q : ∃ ao n c, w.heap[B]? = some (.cells #[.bool false, .slice ao n c] 80 (0, 0)) ∧ WhoAt w q (.agg #[.bool false, .slice ao n c])
  r : w.heap[C]? = some (.cells #[.bool false, .slice none 0 0] 80 (0, 0))
def gcdWRel (w : World) (A B n x y gk : Nat) (wr : World) : Prop :=
  ∃ p q : Nat, gk = q ∧ GcdW wr A B (w.heap.size + 2) p q ∧ Nat.gcd p q = Nat.gcd x y ∧ p < 2 ^ n ∧ q < 2 ^ n ∧ Below w.heap.size w wr
theorem GcdW.alloc {w : World} {A B C p q : Nat} (h : GcdW w A B C p q) (o : Obj) : GcdW (w.alloc o) A B C p q := by
  obtain ⟨⟨po, pn, pc, k0, n0⟩, ⟨qo, qn, qc, k1, n1⟩, k2⟩ := h
  exact ⟨⟨po, pn, pc, at_oldW o k0, n0.alloc o⟩, ⟨qo, qn, qc, at_oldW o k1, n1.alloc o⟩, at_oldW o k2⟩
theorem gcdWRel_alloc {w U : World} {A B n X Y gk : Nat} (h : gcdWRel w A B n X Y gk U) (o : Obj) : gcdWRel w A B n X Y gk (U.alloc o) := by
  obtain ⟨p, q, h1, h2, h3, h4, h5, h6⟩ := h
  exact ⟨p, q, h1, h2.alloc o, h3, h4, h5, belowW h6 h6.size o⟩
theorem gcdW_fin {w U : World} {A B n X Y gk Q R : Nat} {x y : Value} {qo ro : Option Addr} {qn qc rn rc : Nat} (kA : U.heap[A]? = some (.cells #[.bool false, x] 80 (0, 0))) (kB : U.heap[B]? = some (.cells #[.bool false, y] 80 (0, 0))) (kC : U.heap[w.heap.size + 2]? = some (.cells #[.bool false, .slice none 0 0] 80 (0, 0)))
    (hA : w.heap.size + 2 < A) (hB : A < B) (hq : WhoAt U Q (.agg #[.bool false, .slice qo qn qc])) (hr : WhoAt U R (.agg #[.bool false, .slice ro rn rc])) (hb : Below w.heap.size w U) (hk : gk = R) (hg : Nat.gcd Q R = Nat.gcd X Y) (bq : Q < 2 ^ n) (br : R < 2 ^ n) :
    gcdWRel w A B n X Y gk ((((U.setCell ⟨A, 0, none⟩ (.bool false)).setCell ⟨A, 1, none⟩ (.slice qo qn qc)).setCell ⟨B, 0, none⟩ (.bool false)).setCell ⟨B, 1, none⟩ (.slice ro rn rc)) := by
  have S := setw (U := (U.setCell ⟨A, 0, none⟩ (.bool false)).setCell ⟨A, 1, none⟩ (.slice qo qn qc)) rfl kA
  have T := setw (p := .bool false) (q := .slice ro rn rc) rfl ((S.oth B (by omega)).trans kB)
  exact ⟨Q, R, hk, ⟨⟨_, _, _, (T.oth _ (by omega)).trans S.blk, T.num _ _ (S.num _ _ hq)⟩, ⟨_, _, _, T.blk, T.num _ _ (S.num _ _ hr)⟩, (T.oth _ (by omega)).trans ((S.oth _ (by omega)).trans kC)⟩, hg, bq, br, T.below _ _ (S.below _ _ hb (by omega)) (by omega)⟩
theorem gcdw_step {p q n : Nat} {x y : Nat} (h : Nat.gcd p q = Nat.gcd x y) (hq : 0 < q) (bq : q < 2 ^ n) : Nat.gcd q (p % q) = Nat.gcd x y ∧ p % q < 2 ^ n ∧ p % q < q := by
  have hm := Nat.mod_lt p hq
  refine ⟨?_, by omega, hm⟩
  rw [← h, Nat.gcd_comm q, ← Nat.gcd_rec, Nat.gcd_comm]
set_option maxRecDepth 100000 in
set_option maxHeartbeats 4000000 in
theorem common_core (w : World) (x y : Int) (na nb : Bool) (ao bo : Option Addr) (la lb cap bap n : Nat) (hx : WhoAt w x (.agg #[.bool na, .slice ao la cap])) (hy : WhoAt w y (.agg #[.bool nb, .slice bo lb bap])) (bx : x.natAbs < 2 ^ n) (bY : y.natAbs < 2 ^ n) (hn : n ≤ 1000000000) :
    Calls Tryz.prog 138 #[.agg #[.bool na, .slice ao la cap], .agg #[.bool nb, .slice bo lb bap]] w (WhoPost w (Nat.gcd x.natAbs y.natAbs : Nat)) := by
  have HY := hid hy
  have BX := hid bx
  have BY := hid bY
  have b30 := boxw_below' w (.bool na) (.slice ao la cap) (.bool nb) (.slice bo lb bap)
  have A1 := hid (wsize_any _ x _ (hx.below b30))
  have B30 := hid b30
  clear hx hy bx bY b30
  go_enter Tryz.func138, Tryz.ntmps138
  go_wp2_with fail
  refine (A1.out).mono ?_
  rintro e w1 ⟨v1, rfl, hN1, hb1⟩
  have hs1 := hb1.size
  rw [boxw_size'] at hs1
  have k1 := newW (by rw [boxw_size']; omega) (boxw_at1' _ _ _ _ _) hb1
  have K2 := hid (newW (by rw [boxw_size']; omega) (boxw_at2' _ _ _ _ _) hb1)
  obtain ⟨d1, o1, c1, rfl, _⟩ := hN1.open
  rw [decide_eq_false (show ¬ ((x.natAbs : Nat) : Int) < 0 by omega)] at *
  have z2 := cell_of_block (o := 0) k1 rfl
  have z3 := cell_of_block (o := 1) k1 rfl
  have B1 := hid (B30.out.trans (hb1.mono B30.out.size))
  have HN1 := hid hN1
  have l1 : w.heap.size + 1 < w1.heap.size := by omega
  have A2 := hid (wsize_any (w1.alloc (.cells #[.bool false, .slice o1 d1.length c1] 80)) y _ ((HY.out.below B1.out).alloc _))
  clear hb1 k1 hN1 A1
  go_wp2_with fail
  refine (A2.out).mono ?_
  rintro e w3 ⟨v3, rfl, hN3, hb3⟩
  have hs3 := hb3.size
  rw [World.size_alloc] at hs3
  obtain ⟨d3, o3, c3, rfl, _⟩ := hN3.open
  rw [decide_eq_false (show ¬ ((y.natAbs : Nat) : Int) < 0 by omega)] at *
  have KA := hid (newW (by rw [World.size_alloc]; omega) (at_newW w1 (.cells #[.bool false, .slice o1 d1.length c1] 80)) hb3)
  have KC := hid (newW (by rw [World.size_alloc]; omega) (at_oldW (.cells #[.bool false, .slice o1 d1.length c1] 80) K2.out) hb3)
  have NA := hid ((HN1.out.alloc (.cells #[.bool false, .slice o1 d1.length c1] 80)).below hb3)
  have B3 := hid ((belowW B1.out (by omega) (.cells #[.bool false, .slice o1 d1.length c1] 80)).trans (hb3.mono (by rw [World.size_alloc]; omega)))
  have GA : Hid (GcdW (w3.alloc (.cells #[.bool false, .slice o3 d3.length c3] 80)) w1.heap.size w3.heap.size (w.heap.size + 2) x.natAbs y.natAbs) := ⟨⟨_, _, _, at_oldW _ KA.out, NA.out.alloc _⟩, ⟨_, _, _, at_newW w3 _, hN3.alloc _⟩, at_oldW _ KC.out⟩
  have B4 := hid (belowW B3.out (by omega) (.cells #[.bool false, .slice o3 d3.length c3] 80))
  have hAB : w1.heap.size < w3.heap.size := by omega
  clear hN3 hb3 A2 KA KC NA HN1 K2
  go_wp2_with fail
  go_loopg [] y.natAbs (fun gk wr => gcdWRel w w1.heap.size w3.heap.size n x.natAbs y.natAbs gk wr)
  case atStart => exact ⟨x.natAbs, y.natAbs, rfl, GA.out, rfl, BX.out, BY.out, B4.out⟩
  case round =>
    obtain ⟨p, q, hgk, hG, hgcd, bp, bq, hbw⟩ := hrel
    have HGK := hid hgk
    clear hgk
    obtain ⟨⟨po, pn, pc, hk0, hnp⟩, ⟨qo, qn, qc, hk1, hnq⟩, hk2⟩ := hG
    have hs := hbw.size
    have hltA := heap_lt hk0
    have hltB := heap_lt hk1
    have x0 := cell_of_block (o := 0) hk0 rfl
    have x1 := cell_of_block (o := 1) hk0 rfl
    have x2 := cell_of_block (o := 0) hk1 rfl
    have x3 := cell_of_block (o := 1) hk1 rfl
    have SG := hid (wsign_any wr q _ hnq)
    have HK0 := hid hk0
    have HK1 := hid hk1
    have HK2 := hid hk2
    have HP := hid hnp
    have HQ := hid hnq
    have HB := hid hbw
    clear hk0 hk1 hk2 hnp hnq hbw GA B4
    by_cases hq : q = 0
    · subst hq
      have hc : Nm.cmp ((0 : Nat) : Int) 0 = 0 := Nm.cmp_eq rfl
      rw [hc] at SG
      go_wp2_with fail
      refine (SG.out).mono ?_
      rintro e w5 ⟨rfl, hb5⟩
      have hs5 := hb5.size
      have k0 := newW (by omega) HK0.out hb5
      have hblk := newW (by omega) HK2.out hb5
      have u0 := cell_of_block (o := 0) k0 rfl
      have u1 := cell_of_block (o := 1) k0 rfl
      have F := finw hblk (HP.out.below hb5) (HB.out.trans (hb5.mono HB.out.size)) (by omega)
      have r0 := frozen_of_block (o := 0) hblk
      have r1 := frozen_of_block (o := 1) hblk
      have s0 := cell_of_block (o := 0) hblk rfl
      have s1 := cell_of_block (o := 1) hblk rfl
      have q0 := F.c0
      have q1 := F.c1
      have FN := hid F.num
      have FB := hid F.below
      clear F k0 hblk hb5
      go_wp2_with fail
      refine bodyPost_ret (v := .agg #[.bool false, .slice po pn pc]) (by simp [results, Tryz.results138, go_sem, q0, q1]) rfl ⟨_, rfl, ?_, FB.out⟩
      rw [← hgcd, Nat.gcd_zero_right]
      exact FN.out
    · have hc : Nm.cmp (q : Int) 0 = 1 := Nm.cmp_gt (by omega)
      rw [hc] at SG
      obtain ⟨e1, e2, e3⟩ := gcdw_step hgcd (by omega) bq
      have HE1 := hid e1
      have HE2 := hid e2
      have HE3 := hid e3
      clear e1 e2 e3
      go_wp2_with fail
      refine (SG.out).mono ?_
      rintro e w5 ⟨rfl, hb5⟩
      have hs5 := hb5.size
      have k0 := newW (by omega) HK0.out hb5
      have k1 := newW (by omega) HK1.out hb5
      have k2 := newW (by omega) HK2.out hb5
      have u0 := cell_of_block (o := 0) k0 rfl
      have u1 := cell_of_block (o := 1) k0 rfl
      have u2 := cell_of_block (o := 0) k1 rfl
      have u3 := cell_of_block (o := 1) k1 rfl
      have DV := hid (divided_any w5 p q _ _ n (HP.out.below hb5) (HQ.out.below hb5) (by simpa using bp) (by simpa using bq) hn (by omega))
      have NQ := hid (HQ.out.below hb5)
      have B5 := hid (HB.out.trans (hb5.mono HB.out.size))
      have K0 := hid k0
      have K1 := hid k1
      have K2 := hid k2
      clear k0 k1 k2 hb5 SG HK0 HK1 HK2 HP HQ HB x0 x1 x2 x3
      go_wp2_with fail
      refine (DV.out).mono ?_
      rintro e w6 ⟨qv, rv, rfl, hqv, hrv, hb6⟩
      have hs6 := hb6.size
      obtain ⟨d6, o6, c6, rfl, _⟩ := hqv.open
      obtain ⟨d7, o7, c7, rfl, _⟩ := hrv.open
      have hmod : ((p : Int) % (q : Int)) = ((p % q : Nat) : Int) := by rw [Int.natCast_emod]
      rw [hmod] at hrv ⊢
      rw [decide_eq_false (show ¬ (((p % q : Nat) : Int)) < 0 by omega)] at *
      have k0 := newW (by omega) K0.out hb6
      have k1 := newW (by omega) K1.out hb6
      have k2 := newW (by omega) K2.out hb6
      have t2 := cell_of_block (o := 0) k1 rfl
      have t3 := cell_of_block (o := 1) k1 rfl
      have t0 := cell_of_block (o := 0) k0 rfl
      have t1 := cell_of_block (o := 1) k0 rfl
      have f0 := frozen_of_block (o := 0) k0
      have f1 := frozen_of_block (o := 1) k0
      have f2 := frozen_of_block (o := 0) k1
      have f3 := frozen_of_block (o := 1) k1
      have lA : w1.heap.size < w6.heap.size := by omega
      have lB : w3.heap.size < w6.heap.size := by omega
      have nAB : ¬ (w1.heap.size = w3.heap.size) := by omega
      have nBA : ¬ (w3.heap.size = w1.heap.size) := by omega
      have nA6 : ¬ (w1.heap.size = w6.heap.size) := by omega
      have nA7 : ¬ (w1.heap.size = w6.heap.size + 1) := by omega
      have nB6 : ¬ (w3.heap.size = w6.heap.size) := by omega
      have nB7 : ¬ (w3.heap.size = w6.heap.size + 1) := by omega
      have n6A : ¬ (w6.heap.size = w1.heap.size) := by omega
      have n7A : ¬ (w6.heap.size + 1 = w1.heap.size) := by omega
      have n6B : ¬ (w6.heap.size = w3.heap.size) := by omega
      have n7B : ¬ (w6.heap.size + 1 = w3.heap.size) := by omega
      have FIN := hid (fun gk hk => gcdW_fin (n := n) (X := x.natAbs) (Y := y.natAbs) (gk := gk) k0 k1 k2 (show w.heap.size + 2 < w1.heap.size by omega) hAB (NQ.out.below hb6) hrv (B5.out.trans (hb6.mono (by omega))) hk HE1.out bq HE2.out)
      clear k0 k1 k2 hb6 hqv hrv hmod DV
      generalize decide ((p : Int) / (q : Int) < 0) = nq at *
      go_wp2_with fail
      go_roundg (p % q)
      case measure => have := HGK.out; have := HE3.out; omega
      case rel => exact gcdWRel_alloc (gcdWRel_alloc (FIN.out _ rfl) _) _
theorem common_any (w : World) (x y : Int) (u v : Value) (n : Nat) (hx : WhoAt w x u) (hy : WhoAt w y v) (bx : x.natAbs < 2 ^ n) (bY : y.natAbs < 2 ^ n) (hn : n ≤ 1000000000) : Calls Tryz.prog 138 #[u, v] w (WhoPost w (Nat.gcd x.natAbs y.natAbs : Nat)) := by
  obtain ⟨a, ao, cap, rfl, _⟩ := hx.open
  obtain ⟨b, bo, bap, rfl, _⟩ := hy.open
  exact common_core w x y _ _ _ _ _ _ _ _ n hx hy bx bY hn
end Go.Proofs.YteghhlfmcjmnoaaGreatDoor
set_option linter.unusedSimpArgs false
namespace Go.Proofs.YteghhlfmcjmnoaaGreatDoor
open Go.RowKit
def Nm.bl (z : Int) : Nat := if z = 0 then 0 else Nat.log2 z.natAbs + 1
theorem Nm.bl_eq {z : Int} {k : Nat} (hk : 1 ≤ k) (h1 : (2 : Int) ^ (k - 1) ≤ z) (h2 : z < 2 ^ k) : Nm.bl z = k := by
  have hp : (0 : Int) < 2 ^ (k - 1) := Nm.pow_pos' (by decide) _
  have hz : z ≠ 0 := by omega
  unfold Nm.bl
  rw [if_neg hz]
  have e1 : 2 ^ (k - 1) ≤ z.natAbs := by
    have : ((2 ^ (k - 1) : Nat) : Int) ≤ (z.natAbs : Int) := by
      rw [Int.natCast_pow]
      have : ((2 : Nat) : Int) = 2 := rfl
      rw [this]
      omega
    exact Int.ofNat_le.1 this
  have e2 : z.natAbs < 2 ^ k := by
    have : (z.natAbs : Int) < ((2 ^ k : Nat) : Int) := by
      rw [Int.natCast_pow]
      have : ((2 : Nat) : Int) = 2 := rfl
      rw [this]
      omega
    exact Int.ofNat_lt.1 this
  have h3 : z.natAbs ≠ 0 := by omega
  have g1 := (Nat.le_log2 h3).2 e1
  have g2 := (Nat.log2_lt h3).2 e2
  omega
theorem bl_top {r : List Int} {d : Int} {c : Nat} (hr : Nm.Dig 4294967296 r) (hc : 1 ≤ c) (h1 : (2 : Int) ^ (c - 1) ≤ d) (h2 : d < 2 ^ c) : Nm.bl (Nm.val 4294967296 (r ++ [d])) = 32 * r.length + c := by
  have lo := Nm.val_lo (by decide) hr
  have hi := Nm.val_hi (by decide) hr
  rw [Nm.val_snoc]
  have hB : (4294967296 : Int) ^ r.length = 2 ^ (32 * r.length) := by rw [Int.pow_mul]; rfl
  rw [hB] at hi ⊢
  have hp : (0 : Int) < 2 ^ (32 * r.length) := Nm.pow_pos' (by decide) _
  refine Nm.bl_eq (by omega) ?_ ?_
  · have : 2 ^ (c - 1) * (2 : Int) ^ (32 * r.length) ≤ d * 2 ^ (32 * r.length) := Int.mul_le_mul_of_nonneg_right h1 (by omega)
    rw [← Int.pow_add] at this
    rw [show 32 * r.length + c - 1 = c - 1 + 32 * r.length by omega]
    omega
  · have : (d + 1) * (2 : Int) ^ (32 * r.length) ≤ 2 ^ c * 2 ^ (32 * r.length) := Int.mul_le_mul_of_nonneg_right (by omega) (by omega)
    rw [← Int.pow_add] at this
    rw [show 32 * r.length + c = c + 32 * r.length by omega]
    rw [Int.add_mul] at this
    omega
theorem half_step {x T : Int} {c : Nat} (hT : T = x / 2 ^ c) : T / 2 = x / 2 ^ (c + 1) := by
  rw [hT, Int.pow_succ, Int.ediv_ediv_of_nonneg (Int.le_of_lt (Nm.pow_pos' (by decide) _))]
set_option maxHeartbeats 400000 in
theorem bitLen_any (w : World) (a : List Int) (v : Value) (ha : Lims w a v) (hal : a.length ≤ 10000000000) (ga : Nm.Good 4294967296 a) :
    Calls Tryz.prog 149 #[v] w fun e w' => e = .returned (.int .i64 (Nm.bl (Nm.val 4294967296 a))) ∧ w' = w := by
  obtain ⟨ao, cap, rfl, _⟩ := ha.shape
  rcases Nm.good_cases ga with rfl | ⟨r, d, rfl, hr, d1, d2⟩
  · have e : Nm.bl (Nm.val 4294967296 []) = 0 := rfl
    rw [e]
    clear ha ga
    simp only [List.length_nil]
    go_enter Tryz.func149, Tryz.ntmps149
    go_wp2_with fail
    go_ret
    exact ⟨rfl, rfl⟩
  · obtain ⟨g, rfl, hc⟩ := ha.place (by simp)
    have hl : (r ++ [d]).length = r.length + 1 := by simp
    have x1 := hc r.length (by simp)
    have e1 : Nm.at' (r ++ [d]) r.length = d := by unfold Nm.at'; simp
    rw [e1] at x1
    rw [hl] at hal ⊢
    have l0 : (((r.length + 1 : Nat) : Int) == 0) = false := beq_eq_false_iff_ne.2 (by omega)
    have i2 : (((r.length + 1 : Nat) : Int) - 1).toNat = r.length := by omega
    have i3 : ((r.length + 1 : Nat) : Int) - 1 = r.length := by omega
    have FIN := hid (fun (c : Nat) (h0 : 1 ≤ c) h1 h2 => bl_top (d := d) (c := c) hr h0 h1 h2)
    clear ha hc ga hl
    go_enter Tryz.func149, Tryz.ntmps149
    go_wp2_with fail
    go_loop [3, 4] (fun l t => ∃ (c : Nat) (T : Int), l = .int .i64 ((32 * r.length + c : Nat) : Int) ∧ t = .int .u32 T ∧ 0 ≤ T ∧ T < 4294967296 ∧ T = d / 2 ^ c ∧ (c = 0 ∨ (2 : Int) ^ (c - 1) ≤ d) ∧ c ≤ 32) (fun _ t => (intOf t).toNat)
    case atStart => exact ⟨0, d, by simp; try omega, rfl, by omega, d2, by simp, Or.inl rfl, by omega⟩
    case round =>
      obtain ⟨c, T, rfl, rfl, t0, t3, t1, tc, hc⟩ := hrel
      have HT := hid t1
      have TC := hid tc
      clear t1 tc
      by_cases h : 0 < T
      · have hpc : (2 : Int) ^ c ≤ d := by
          have h1 : 1 ≤ d / 2 ^ c := by rw [← HT.out]; omega
          have := (Int.le_ediv_iff_mul_le (Nm.pow_pos' (by decide) c)).1 h1
          omega
        have hc2 : c < 32 := by
          rcases Nat.lt_or_ge c 32 with h1 | h1
          · exact h1
          · have h2 : (2 : Int) ^ 32 ≤ 2 ^ c := Nm.pow_mono (by decide) h1
            have h4 : (2 : Int) ^ 32 = 4294967296 := rfl
            omega
        have HP := hid hpc
        clear hpc
        go_wp2_with fail
        go_round
        case rel => exact ⟨c + 1, T / 2, by simp; omega, rfl, by omega, by omega, half_step HT.out, Or.inr (by simpa using HP.out), by omega⟩
        case measure => simp [intOf]; omega
      · have hT0 : d / 2 ^ c = 0 := by rw [← HT.out]; omega
        have hd : d < 2 ^ c := by
          have hp : (0 : Int) < 2 ^ c := Nm.pow_pos' (by decide) c
          rcases Int.lt_or_le d (2 ^ c) with h1 | h1
          · exact h1
          · have : (1 : Int) ≤ d / 2 ^ c := (Int.le_ediv_iff_mul_le hp).2 (by omega)
            omega
        have hc1 : 1 ≤ c := by
          rcases Nat.eq_zero_or_pos c with rfl | h1
          · simp at hd; omega
          · exact h1
        have hlow : (2 : Int) ^ (c - 1) ≤ d := by
          rcases TC.out with h1 | h1
          · omega
          · exact h1
        have FF := hid (FIN.out c hc1 hlow hd)
        clear hT0 hd hlow
        go_wp2_with fail
        go_ret
        exact ⟨by rw [FF.out]; rfl, rfl⟩
end Go.Proofs.YteghhlfmcjmnoaaGreatDoor
set_option linter.unusedSimpArgs false
set_option linter.unusedVariables false
namespace Go.Proofs.YteghhlfmcjmnoaaGreatDoor
open Go.RowKit
namespace Ab
def lmb (ν : List (Int × Nat)) : AV → Option (Int × Nat)
  | .one (.dg true i) => (ν[i]?).bind fun zn => bif Nat.ble zn.2 100 then some zn else none
  | _ => none
def intV : AV → Option Int
  | .one (.int .i64 n) => some n
  | .one (.sint .i64 n) => some n
  | _ => none
theorem lmb_ok {φ : Nat → Option (Nat × Nat)} {ν μ : List (Int × Nat)} {w : World} (hμ : ∀ (i : Nat) (x : Int × Nat), ν[i]? = some x → μ[i]? = some x) {v : AV} {z : Int} {n : Nat} {x : Value} (h : lmb ν v = some (z, n)) (r : relV Z φ μ w v x) : ∃ ds, Lims w ds x ∧ Nm.Good 4294967296 ds ∧ Nm.val 4294967296 ds = z.natAbs ∧ Bits n z ∧ n ≤ 100 ∧ ds.length ≤ 10000000 * n := by
  unfold lmb at h
  split at h
  · rename_i i
    obtain ⟨⟨z', n'⟩, h1, h2⟩ := bnd h
    cases hb : Nat.ble n' 100 with
    | false => simp only [hb] at h2; cases h2
    | true =>
      simp only [hb, cond_true] at h2
      cases h2
      obtain ⟨z2, n2, f1, ⟨ds, f2, f3, f4⟩, f5⟩ := r
      rw [hμ _ _ h1] at f1
      cases f1
      exact ⟨ds, f2, f3, f4, f5, Nat.le_of_ble_eq_true hb, lims_len f3 f4 f5⟩
  · cases h
theorem intV_ok {φ : Nat → Option (Nat × Nat)} {μ : List (Int × Nat)} {w : World} {v : AV} {n : Int} {x : Value} (h : intV v = some n) (r : relV Z φ μ w v x) : x = .int .i64 n := by
  unfold intV at h
  split at h
  · cases h; exact r
  · cases h; exact r
  · cases h
theorem zbits {n : Nat} {z : Int} (h : Bits n z) : Z.bits n z := h
def spL : Spec := fun f _ ν _ bx vs =>
  bif f == 149 then (match vs with
    | [a] => (lmb ν a).map fun zn => ([], .val (.one (.sint .i64 (Nm.bl zn.1))), [], none)
    | _ => none)
  else bif f == 154 then (match vs with
    | [a, b] => (lmb ν a).bind fun x => (lmb ν b).map fun y => ([], .val (.one (.sint .i64 (Nm.cmp (x.1.natAbs : Int) (y.1.natAbs : Int)))), [], none)
    | _ => none)
  else bif f == 153 then (match vs with
    | [a, b] => (lmb ν a).bind fun x => (lmb ν b).map fun y => ([((x.1.natAbs : Int) * (y.1.natAbs : Int), x.2 + y.2)], .val (.one (.dg true ν.length)), [], none)
    | _ => none)
  else bif f == 119 then (match vs with
    | [.one (.int .u64 n)] => bif decide (0 ≤ n) && decide (n < 1000000000) then some ([(n, 1)], .val (.one (.dg true ν.length)), [], none) else none
    | _ => none)
  else bif f == 150 then (match vs with
    | [a, b] => (lmb ν a).bind fun x => (intV b).map fun t => ([((x.1.natAbs : Int) * 2 ^ t.toNat, 100)], .val (.one (.dg true ν.length)), [0 ≤ t ∧ t ≤ 900000000 ∧ 10000000 * x.2 + t.toNat ≤ 1000000000], none)
    | _ => none)
  else none
theorem one_v {φ : Nat → Option (Nat × Nat)} {μ : List (Int × Nat)} {w : World} {a : AV} {xs : List Value} (h : All2 (relV Z φ μ w) [a] xs) : ∃ x, xs = [x] ∧ relV Z φ μ w a x := by
  match xs, h with
  | [u], ⟨h, _⟩ => exact ⟨u, rfl, h⟩
  | _ :: _ :: _, ⟨_, h⟩ => exact h.elim
theorem two_v {φ : Nat → Option (Nat × Nat)} {μ : List (Int × Nat)} {w : World} {a b : AV} {xs : List Value} (h : All2 (relV Z φ μ w) [a, b] xs) : ∃ x y, xs = [x, y] ∧ relV Z φ μ w a x ∧ relV Z φ μ w b y := by
  match xs, h with
  | [u, v], ⟨h, g, _⟩ => exact ⟨u, v, rfl, h, g⟩
  | [_], ⟨_, h⟩ => exact h.elim
  | _ :: _ :: _ :: _, ⟨_, _, h⟩ => exact h.elim
theorem spL_ok (w0 : World) (ψ : Nat → Option (Nat × Nat)) : SpecOk Z w0 ψ spL := by
  intro f d ν id bx vs ν' r p nbx h
  unfold spL at h
  cases h1 : f == 149 with
  | true =>
    have : f = 149 := by simpa using h1
    subst this
    rw [h1] at h
    simp only [cond_true] at h
    split at h
    · obtain ⟨⟨z, n⟩, e1, e2⟩ := mpd h
      cases e2
      refine ⟨(fn_of Tryz.func149 rfl rfl).en, fun _ μ hμ φ w xs _ _ _ _ hxs => ?_⟩
      obtain ⟨x, rfl, hx⟩ := one_v hxs
      obtain ⟨ds, q1, q2, q3, q4, q5, q6⟩ := lmb_ok (fun i x hx => hμ i x (app_ext _ _ i x hx)) e1 hx
      refine (bitLen_any w ds x q1 (by omega) q2).mono ?_
      rintro e w' ⟨rfl, rfl⟩
      rw [q3, bl_abs]
      exact ⟨_, rfl, Below.refl _ _, rfl⟩
    · cases h
  | false =>
  rw [h1] at h
  simp only [cond_false] at h
  cases h2 : f == 154 with
  | true =>
    have : f = 154 := by simpa using h2
    subst this
    rw [h2] at h
    simp only [cond_true] at h
    split at h
    · obtain ⟨⟨z, n⟩, e1, e2⟩ := bnd h
      obtain ⟨⟨y, m⟩, e3, e4⟩ := mpd e2
      cases e4
      refine ⟨(fn_of Tryz.func154 rfl rfl).en, fun _ μ hμ φ w xs _ _ _ _ hxs => ?_⟩
      obtain ⟨x, t, rfl, hx, ht⟩ := two_v hxs
      obtain ⟨ds, q1, q2, q3, q4, q5, q6⟩ := lmb_ok (fun i x hx => hμ i x (app_ext _ _ i x hx)) e1 hx
      obtain ⟨es, k1, k2, k3, k4, k5, k6⟩ := lmb_ok (fun i x hx => hμ i x (app_ext _ _ i x hx)) e3 ht
      refine (compareLimbs_any w ds es x t q1 k1 (by omega) q2 k2).mono ?_
      rintro e w' ⟨rfl, hb⟩
      rw [q3, k3]
      exact ⟨_, rfl, hb, rfl⟩
    · cases h
  | false =>
  rw [h2] at h
  simp only [cond_false] at h
  cases h3 : f == 153 with
  | true =>
    have : f = 153 := by simpa using h3
    subst this
    rw [h3] at h
    simp only [cond_true] at h
    split at h
    · obtain ⟨⟨z, n⟩, e1, e2⟩ := bnd h
      obtain ⟨⟨y, m⟩, e3, e4⟩ := mpd e2
      cases e4
      refine ⟨(fn_of Tryz.func153 rfl rfl).en, fun _ μ hμ φ w xs _ _ _ _ hxs => ?_⟩
      obtain ⟨x, t, rfl, hx, ht⟩ := two_v hxs
      obtain ⟨ds, q1, q2, q3, q4, q5, q6⟩ := lmb_ok (fun i x hx => hμ i x (app_ext _ _ i x hx)) e1 hx
      obtain ⟨es, k1, k2, k3, k4, k5, k6⟩ := lmb_ok (fun i x hx => hμ i x (app_ext _ _ i x hx)) e3 ht
      refine (multiplyLimbs_any w ds es x t q1 k1 (by omega) (by omega) q2.dig k2.dig).mono ?_
      rintro e w' ⟨v, xs, rfl, ⟨g1, g2⟩, g3, hb⟩
      rw [q3, k3] at g2
      refine ⟨v, rfl, hb, ⟨(z.natAbs : Int) * (y.natAbs : Int), n + m, hμ _ _ (by simp), ⟨xs, g3.weak (Nat.zero_le _), g1, by rw [g2, Int.natAbs_mul]; simp⟩, bits_mul (bits_abs q4) (bits_abs k4)⟩⟩
    · cases h
  | false =>
  rw [h3] at h
  simp only [cond_false] at h
  cases h4 : f == 119 with
  | true =>
    have : f = 119 := by simpa using h4
    subst this
    rw [h4] at h
    simp only [cond_true] at h
    split at h
    · rename_i n
      cases hn : (decide (0 ≤ n) && decide (n < 1000000000)) with
      | false => rw [hn] at h; cases h
      | true =>
        rw [hn] at h
        cases h
        simp only [Bool.and_eq_true, decide_eq_true_eq] at hn
        refine ⟨(fn_of Tryz.func119 rfl rfl).en, fun _ μ hμ φ w xs _ _ _ _ hxs => ?_⟩
        obtain ⟨x, rfl, hx⟩ := one_v hxs
        have hx : x = .int .u64 n := hx
        subst hx
        refine (limbsOf_any n w hn.1 (by omega)).mono ?_
        rintro e w' ⟨v, xs, rfl, ⟨g1, g2, _⟩, g3, hb⟩
        refine ⟨v, rfl, hb, ⟨n, 1, hμ _ _ (by simp), ⟨xs, g3.weak (Nat.zero_le _), g1, by rw [g2]; omega⟩, ?_⟩⟩
        exact bits60 (by omega)
    · cases h
  | false =>
  rw [h4] at h
  simp only [cond_false] at h
  cases h5 : f == 150 with
  | true =>
    have : f = 150 := by simpa using h5
    subst this
    rw [h5] at h
    simp only [cond_true] at h
    split at h
    · obtain ⟨⟨z, n⟩, e1, e2⟩ := bnd h
      obtain ⟨t, e3, e4⟩ := mpd e2
      cases e4
      refine ⟨(fn_of Tryz.func150 rfl rfl).en, fun hp μ hμ φ w xs _ _ _ _ hxs => ?_⟩
      obtain ⟨x, y, rfl, hx, hy⟩ := two_v hxs
      obtain ⟨ds, q1, q2, q3, q4, q5, q6⟩ := lmb_ok (fun i x hx => hμ i x (app_ext _ _ i x hx)) e1 hx
      have := intV_ok e3 hy
      subst this
      have hp : 0 ≤ t ∧ t ≤ 900000000 ∧ 10000000 * n + t.toNat ≤ 1000000000 := hp.one
      obtain ⟨b, rfl⟩ : ∃ b : Nat, t = b := ⟨t.toNat, by omega⟩
      refine (shiftUp_any w ds x b q1 (by omega) q2.dig (by omega)).mono ?_
      rintro e w' ⟨v, xs, rfl, ⟨g1, g2⟩, g3, hb⟩
      rw [q3] at g2
      have hp2 : (0 : Int) < 2 ^ b := Nm.pow_pos' (by decide) b
      have hnn : 0 ≤ (z.natAbs : Int) * 2 ^ b := Int.mul_nonneg (by omega) (by omega)
      have e5 : ((b : Int)).toNat = b := by omega
      refine ⟨v, rfl, hb, ⟨(z.natAbs : Int) * 2 ^ ((b : Int)).toNat, 100, hμ _ _ (by simp), ⟨xs, g3.weak (Nat.zero_le _), g1, by rw [g2, e5]; omega⟩, ?_⟩⟩
      have e6 : 10000000 * n + b ≤ 1000000000 := by have := hp.2.2; rw [e5] at this; exact this
      rw [e5]
      have key : Go.Proofs.YteghhlfmcjmnoaaGreatDoor.Bits (10000000 * n + b) ((z.natAbs : Int) * 2 ^ b) := by
        show ((z.natAbs : Int) * 2 ^ b).natAbs < 2 ^ (10000000 * n + b)
        rw [Int.natAbs_mul, Int.natAbs_pow, Nat.pow_add]
        have e7 : ((z.natAbs : Int)).natAbs = z.natAbs := by omega
        have e8 : (2 : Int).natAbs = 2 := rfl
        rw [e7, e8]
        exact Nat.mul_lt_mul_of_pos_right q4 (Nat.pow_pos (by decide))
      exact zbits (bits_in key e6)
    · cases h
  | false =>
    rw [h5] at h
    cases h
where
  bl_abs (z : Int) : Nm.bl (z.natAbs : Int) = Nm.bl z := by
    unfold Nm.bl
    by_cases h : z = 0
    · subst h; rfl
    · rw [if_neg h, if_neg (by omega)]
      simp
end Ab
end Go.Proofs.YteghhlfmcjmnoaaGreatDoor
