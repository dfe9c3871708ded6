import Derived.Test.YteghhlfmcjmnoaaGreatDoorWInt
set_option linter.unusedSimpArgs false
namespace Go.Proofs.YteghhlfmcjmnoaaGreatDoor
open Go.RowKit
set_option maxRecDepth 100000 in
set_option maxHeartbeats 1000000 in
theorem wplus_same (w : World) (na nb : Bool) (ao bo : Option Addr) (la lb cap bap : Nat) (z : Int) (P : List Int → Prop) (hs : na = nb)
    (hP : ∀ W, Below w.heap.size w W → Calls Tryz.prog 118 #[.slice ao la cap, .slice bo lb bap] W (LimPost W P))
    (hT : ∀ W xs v, P xs → Lims W xs v → WhoAt W z (.agg #[.bool (na), v])) :
    Calls Tryz.prog 137 #[.agg #[.bool na, .slice ao la cap], .agg #[.bool nb, .slice bo lb bap]] w (WhoPost w z) := by
  subst hs
  have HP := hid hP
  have HT := hid hT
  clear hP hT
  have ne1 : ¬ (w.heap.size = w.heap.size + 1 + 1) := by omega
  have ne2 : ¬ (w.heap.size + 1 + 1 = w.heap.size) := by omega
  go_enter Tryz.func137, Tryz.ntmps137
  go_wp2_with fail
  go_region_held3 (fun w' => w'.cell? ⟨w.heap.size, 0, none⟩ = some (.bool na) ∧ w'.cell? ⟨w.heap.size, 1, none⟩ = some (.slice ao la cap) ∧ w'.cell? ⟨w.heap.size + 1, 1, none⟩ = some (.slice bo lb bap)) (go_keep) (
      (go_at_call 118
       refine (HP.out _ (boxw_below w _ _ _ _)).mono ?_
       rintro e w1 ⟨v1, xs, rfl, hp, hI1, hb1⟩
       have hs1 := hb1.size
       rw [boxw_size] at hs1
       obtain ⟨o1, c1, rfl, _⟩ := hI1.shape
       have hblk := newW (by rw [boxw_size]; omega) (boxw_at2 _ _ _ _ _) hb1
       have x0 := cell_of_block (o := 0) (newW (by rw [boxw_size]; omega) (boxw_at0 _ _ _ _ _) hb1) rfl
       have x1 := cell_of_block (o := 1) (newW (by rw [boxw_size]; omega) (boxw_at0 _ _ _ _ _) hb1) rfl
       have x2 := cell_of_block (o := 1) (newW (by rw [boxw_size]; omega) (boxw_at1 _ _ _ _ _) hb1) rfl
       have hl1 : w.heap.size + 1 < w1.heap.size := by omega
       have hN := HT.out _ xs _ hp (hI1.weak (Nat.zero_le _))
       have hr := (boxw_below w _ _ _ _).trans (hb1.mono (boxw_below w _ _ _ _).size)
       have F := finw hblk hN hr (by omega)
       have r0 := frozen_of_block (o := 0) hblk
       have r1 := frozen_of_block (o := 1) hblk
       have s0 := cell_of_block (o := 0) hblk rfl
       have s1 := cell_of_block (o := 1) hblk rfl
       have q0 := F.c0
       have q1 := F.c1
       have FN := hid F.num
       have FB := hid F.below
       clear F hN hr hblk
       clear hb1 hI1 hp))
  all_goals
    go_wp2_with fail
    refine bodyPost_ret (v := .agg #[.bool (na), .slice o1 xs.length c1]) (by simp [results, Tryz.results137, go_sem, q0, q1]) rfl ⟨_, rfl, FN.out, FB.out⟩
set_option maxRecDepth 100000 in
set_option maxHeartbeats 1000000 in
theorem wplus_gt (w : World) (na nb : Bool) (ao bo : Option Addr) (la lb cap bap : Nat) (z : Int) (P : List Int → Prop) (hs : (na == nb) = false)
    (hS : ∀ W, Below w.heap.size w W → Calls Tryz.prog 154 #[.slice ao la cap, .slice bo lb bap] W fun e w' => e = .returned (.int .i64 (1)) ∧ Below W.heap.size W w')
    (hP : ∀ W, Below w.heap.size w W → Calls Tryz.prog 120 #[.slice ao la cap, .slice bo lb bap] W (LimPost W P))
    (hT : ∀ W xs v, P xs → Lims W xs v → WhoAt W z (.agg #[.bool na, v])) :
    Calls Tryz.prog 137 #[.agg #[.bool na, .slice ao la cap], .agg #[.bool nb, .slice bo lb bap]] w (WhoPost w z) := by
  have HS := hid hS
  have HP := hid hP
  have HT := hid hT
  clear hP hT hS
  have ne1 : ¬ (w.heap.size = w.heap.size + 1 + 1) := by omega
  have ne2 : ¬ (w.heap.size + 1 + 1 = w.heap.size) := by omega
  go_enter Tryz.func137, Tryz.ntmps137
  go_wp2_with fail
  refine (HS.out _ (boxw_below' w _ _ _ _)).mono ?_
  rintro e w0 ⟨rfl, hb0⟩
  have hs0 := hb0.size
  rw [boxw_size'] at hs0
  have b2 := newW (by rw [boxw_size']; omega) (boxw_at2' _ _ _ _ _) hb0
  have b1 := newW (by rw [boxw_size']; omega) (boxw_at1' _ _ _ _ _) hb0
  have b0 := newW (by rw [boxw_size']; omega) (boxw_at0' _ _ _ _ _) hb0
  have z0 := cell_of_block (o := 0) b0 rfl
  have z1 := cell_of_block (o := 1) b0 rfl
  have z2 := cell_of_block (o := 1) b1 rfl
  have B0 := hid ((boxw_below' w _ _ _ _).trans (hb0.mono (boxw_below' w _ _ _ _).size))
  clear hb0 b0 b1
  go_wp2_with fail
  go_region_held3 (fun w' => w'.cell? ⟨w.heap.size, 0, none⟩ = some (.bool na) ∧ w'.cell? ⟨w.heap.size, 1, none⟩ = some (.slice ao la cap) ∧ w'.cell? ⟨w.heap.size + 1, 1, none⟩ = some (.slice bo lb bap)) (go_keep) (
      (go_at_call 120
       refine (HP.out _ (B0.out.trans ((drewW _).mono B0.out.size))).mono ?_
       rintro e w1 ⟨v1, xs, rfl, hp, hI1, hb1'⟩
       have hb1 := undrewW hb1'
       clear hb1'
       have hs1 := hb1.size
       obtain ⟨o1, c1, rfl, _⟩ := hI1.shape
       have hblk := newW (by omega) b2 hb1
       have x0 := (hb1.cell (p := ⟨w.heap.size, 0, none⟩) (by simp only; omega)).trans z0
       have x1 := (hb1.cell (p := ⟨w.heap.size, 1, none⟩) (by simp only; omega)).trans z1
       have x2 := (hb1.cell (p := ⟨w.heap.size + 1, 1, none⟩) (by simp only; omega)).trans z2
       have hN := HT.out _ xs _ hp (hI1.weak (Nat.zero_le _))
       have hr := B0.out.trans (hb1.mono B0.out.size)
       have F := finw hblk hN hr (by omega)
       have r0 := frozen_of_block (o := 0) hblk
       have r1 := frozen_of_block (o := 1) hblk
       have s0 := cell_of_block (o := 0) hblk rfl
       have s1 := cell_of_block (o := 1) hblk rfl
       have q0 := F.c0
       have q1 := F.c1
       have FN := hid F.num
       have FB := hid F.below
       clear F hN hr hblk
       clear hb1 hI1 hp b2))
  all_goals
    go_wp2_with fail
    refine bodyPost_ret (v := .agg #[.bool na, .slice o1 xs.length c1]) (by simp [results, Tryz.results137, go_sem, q0, q1]) rfl ⟨_, rfl, FN.out, FB.out⟩
set_option maxRecDepth 100000 in
set_option maxHeartbeats 1000000 in
theorem wplus_lt (w : World) (na nb : Bool) (ao bo : Option Addr) (la lb cap bap : Nat) (z : Int) (P : List Int → Prop) (hs : (na == nb) = false)
    (hS : ∀ W, Below w.heap.size w W → Calls Tryz.prog 154 #[.slice ao la cap, .slice bo lb bap] W fun e w' => e = .returned (.int .i64 (-1)) ∧ Below W.heap.size W w')
    (hP : ∀ W, Below w.heap.size w W → Calls Tryz.prog 120 #[.slice bo lb bap, .slice ao la cap] W (LimPost W P))
    (hT : ∀ W xs v, P xs → Lims W xs v → WhoAt W z (.agg #[.bool nb, v])) :
    Calls Tryz.prog 137 #[.agg #[.bool na, .slice ao la cap], .agg #[.bool nb, .slice bo lb bap]] w (WhoPost w z) := by
  have HS := hid hS
  have HP := hid hP
  have HT := hid hT
  clear hP hT hS
  have ne1 : ¬ (w.heap.size = w.heap.size + 1 + 1) := by omega
  have ne2 : ¬ (w.heap.size + 1 + 1 = w.heap.size) := by omega
  go_enter Tryz.func137, Tryz.ntmps137
  go_wp2_with fail
  refine (HS.out _ (boxw_below' w _ _ _ _)).mono ?_
  rintro e w0 ⟨rfl, hb0⟩
  have hs0 := hb0.size
  rw [boxw_size'] at hs0
  have b2 := newW (by rw [boxw_size']; omega) (boxw_at2' _ _ _ _ _) hb0
  have b1 := newW (by rw [boxw_size']; omega) (boxw_at1' _ _ _ _ _) hb0
  have b0 := newW (by rw [boxw_size']; omega) (boxw_at0' _ _ _ _ _) hb0
  have z0 := cell_of_block (o := 0) b1 rfl
  have z1 := cell_of_block (o := 1) b0 rfl
  have z2 := cell_of_block (o := 1) b1 rfl
  have B0 := hid ((boxw_below' w _ _ _ _).trans (hb0.mono (boxw_below' w _ _ _ _).size))
  clear hb0 b0 b1
  go_wp2_with fail
  go_region_held3 (fun w' => w'.cell? ⟨w.heap.size + 1, 0, none⟩ = some (.bool nb) ∧ w'.cell? ⟨w.heap.size, 1, none⟩ = some (.slice ao la cap) ∧ w'.cell? ⟨w.heap.size + 1, 1, none⟩ = some (.slice bo lb bap)) (go_keep) (
      (go_at_call 120
       refine (HP.out _ (B0.out.trans ((drewW _).mono B0.out.size))).mono ?_
       rintro e w1 ⟨v1, xs, rfl, hp, hI1, hb1'⟩
       have hb1 := undrewW hb1'
       clear hb1'
       have hs1 := hb1.size
       obtain ⟨o1, c1, rfl, _⟩ := hI1.shape
       have hblk := newW (by omega) b2 hb1
       have x0 := (hb1.cell (p := ⟨w.heap.size + 1, 0, none⟩) (by simp only; omega)).trans z0
       have x1 := (hb1.cell (p := ⟨w.heap.size, 1, none⟩) (by simp only; omega)).trans z1
       have x2 := (hb1.cell (p := ⟨w.heap.size + 1, 1, none⟩) (by simp only; omega)).trans z2
       have hN := HT.out _ xs _ hp (hI1.weak (Nat.zero_le _))
       have hr := B0.out.trans (hb1.mono B0.out.size)
       have F := finw hblk hN hr (by omega)
       have r0 := frozen_of_block (o := 0) hblk
       have r1 := frozen_of_block (o := 1) hblk
       have s0 := cell_of_block (o := 0) hblk rfl
       have s1 := cell_of_block (o := 1) hblk rfl
       have q0 := F.c0
       have q1 := F.c1
       have FN := hid F.num
       have FB := hid F.below
       clear F hN hr hblk
       clear hb1 hI1 hp b2))
  all_goals
    go_wp2_with fail
    refine bodyPost_ret (v := .agg #[.bool nb, .slice o1 xs.length c1]) (by simp [results, Tryz.results137, go_sem, q0, q1]) rfl ⟨_, rfl, FN.out, FB.out⟩
theorem who_nil (W : World) : WhoAt W 0 (.agg #[.bool false, .slice none 0 0]) := ⟨[], _, rfl, LimsB.nil _ _, Nm.Good.nil _, rfl⟩
set_option maxRecDepth 100000 in
set_option maxHeartbeats 1000000 in
theorem wplus_eq (w : World) (na nb : Bool) (ao bo : Option Addr) (la lb cap bap : Nat) (hs : (na == nb) = false)
    (hS : ∀ W, Below w.heap.size w W → Calls Tryz.prog 154 #[.slice ao la cap, .slice bo lb bap] W fun e w' => e = .returned (.int .i64 0) ∧ Below W.heap.size W w') :
    Calls Tryz.prog 137 #[.agg #[.bool na, .slice ao la cap], .agg #[.bool nb, .slice bo lb bap]] w (WhoPost w 0) := by
  have HS := hid hS
  clear hS
  have ne1 : ¬ (w.heap.size = w.heap.size + 1 + 1) := by omega
  have ne2 : ¬ (w.heap.size + 1 + 1 = w.heap.size) := by omega
  go_enter Tryz.func137, Tryz.ntmps137
  go_wp2_with fail
  refine (HS.out _ (boxw_below' w _ _ _ _)).mono ?_
  rintro e w0 ⟨rfl, hb0⟩
  have hs0 := hb0.size
  rw [boxw_size'] at hs0
  have hblk := newW (by rw [boxw_size']; omega) (boxw_at2' _ _ _ _ _) hb0
  have hr := (boxw_below' w _ _ _ _).trans (hb0.mono (boxw_below' w _ _ _ _).size)
  have hN := who_nil w0
  have F := finw hblk hN hr (by omega)
  have r0 := frozen_of_block (o := 0) hblk
  have r1 := frozen_of_block (o := 1) hblk
  have s0 := cell_of_block (o := 0) hblk rfl
  have s1 := cell_of_block (o := 1) hblk rfl
  have q0 := F.c0
  have q1 := F.c1
  have FN := hid F.num
  have FB := hid F.below
  clear F hN hr hblk
  clear hb0
  go_wp2_with fail
  refine bodyPost_ret (v := .agg #[.bool false, .slice none 0 0]) (by simp [results, Tryz.results137, go_sem, q0, q1]) rfl ⟨_, rfl, FN.out, FB.out⟩
theorem wlen_le {a b : List Int} (ha : Nm.Good 4294967296 a) (hb : Nm.Good 4294967296 b) (h : Nm.val 4294967296 a ≤ Nm.val 4294967296 b) : a.length ≤ b.length := by
  rcases Nat.lt_or_ge b.length a.length with h1 | h1
  · have := Nm.val_longer (by decide) hb.dig ha h1; omega
  · exact h1
theorem opp {x y : Int} (hs : ¬ decide (x < 0) = decide (y < 0)) : (x < 0 ∧ 0 ≤ y) ∨ (0 ≤ x ∧ y < 0) := by
  by_cases hx0 : x < 0
  · refine Or.inl ⟨hx0, ?_⟩
    rcases Int.lt_or_le y 0 with h | h
    · exact absurd (by rw [decide_eq_true hx0, decide_eq_true h]) hs
    · exact h
  · refine Or.inr ⟨by omega, ?_⟩
    rcases Int.lt_or_le y 0 with h | h
    · exact h
    · exact absurd (by rw [decide_eq_false hx0, decide_eq_false (by omega)]) hs
theorem wplus_any (w : World) (x y : Int) (u v : Value) (n : Nat) (hx : WhoAt w x u) (hy : WhoAt w y v) (bx : x.natAbs < 2 ^ n) (bY : y.natAbs < 2 ^ n) (hn : n ≤ 1000000000) : Calls Tryz.prog 137 #[u, v] w (WhoPost w (x + y)) := by
  obtain ⟨a, ao, cap, rfl, hI, hg, hv⟩ := hx.open
  obtain ⟨b, bo, bap, rfl, hJ, hh, hu⟩ := hy.open
  have hl := lims_len hg hv bx
  have hk := lims_len hh hu bY
  by_cases hs : decide (x < 0) = decide (y < 0)
  · refine wplus_same w _ _ _ _ _ _ _ _ (x + y) _ hs (fun W hW => addLimbs_any W a b _ _ (hI.below hW) (hJ.below hW) (by omega) (by omega) hg.dig hh.dig) ?_
    rintro W xs r ⟨h1, h2⟩ hr
    have e : (x < 0) = (y < 0) := by simpa using hs
    by_cases hx0 : x < 0
    · have : y < 0 := by rw [← e]; exact hx0
      exact who_of hr h1 (by rw [h2, hv, hu]; omega) (by simp; omega)
    · have : ¬ y < 0 := by rw [← e]; exact hx0
      exact who_of hr h1 (by rw [h2, hv, hu]; omega) (by simp; omega)
  · have hs' : (decide (x < 0) == decide (y < 0)) = false := by simpa using hs
    have SZ : ∀ W, Below w.heap.size w W → Calls Tryz.prog 154 #[.slice ao a.length cap, .slice bo b.length bap] W fun e w' => e = .returned (.int .i64 (Nm.cmp (Nm.val 4294967296 a) (Nm.val 4294967296 b))) ∧ Below W.heap.size W w' := fun W hW => compareLimbs_any W a b _ _ (hI.below hW) (hJ.below hW) (by omega) hg hh
    have hopp := opp hs
    rcases Int.lt_trichotomy (Nm.val 4294967296 a) (Nm.val 4294967296 b) with h | h | h
    · rw [Nm.cmp_lt h] at SZ
      refine wplus_lt w _ _ _ _ _ _ _ _ (x + y) _ hs' SZ (fun W hW => subtractLimbs_any W b a _ _ (hJ.below hW) (hI.below hW) (by omega) (wlen_le hg hh (by omega)) hh.dig hg.dig (by omega)) ?_
      rintro W xs r ⟨h1, h2⟩ hr
      rw [hv, hu] at h h2
      exact who_of hr h1 (by rw [h2]; omega) (by simp; omega)
    · rw [Nm.cmp_eq h] at SZ
      rw [hv, hu] at h
      rw [show x + y = 0 by omega]
      exact wplus_eq w _ _ _ _ _ _ _ _ hs' SZ
    · rw [Nm.cmp_gt h] at SZ
      refine wplus_gt w _ _ _ _ _ _ _ _ (x + y) _ hs' SZ (fun W hW => subtractLimbs_any W a b _ _ (hI.below hW) (hJ.below hW) (by omega) (wlen_le hh hg (by omega)) hg.dig hh.dig (by omega)) ?_
      rintro W xs r ⟨h1, h2⟩ hr
      rw [hv, hu] at h h2
      exact who_of hr h1 (by rw [h2]; omega) (by simp; omega)
end Go.Proofs.YteghhlfmcjmnoaaGreatDoor
set_option linter.unusedSimpArgs false
namespace Go.Proofs.YteghhlfmcjmnoaaGreatDoor
open Go.RowKit
theorem isOne_any (w : World) (a : List Int) (v : Value) (ha : Lims w a v) : Calls Tryz.prog 167 #[v] w fun e w' => e = .returned (.bool (decide (a = [1]))) ∧ w' = w := by
  obtain ⟨ao, cap, rfl, hcap⟩ := ha.shape
  by_cases h1 : a.length = 1
  · obtain ⟨x, rfl⟩ : ∃ x, a = [x] := by
      match a, h1 with
      | [x], _ => exact ⟨x, rfl⟩
    obtain ⟨g, rfl, hc⟩ := ha.place (by simp)
    have x1 := hc 0 (by simp)
    have e1 : Nm.at' [x] 0 = x := rfl
    rw [e1] at x1
    have e2 : decide ([x] = [(1 : Int)]) = (x == 1) := by
      by_cases h : x = 1
      · subst h; rfl
      · simp [h]
    rw [e2]
    clear ha hc
    simp only [List.length_cons, List.length_nil, Nat.zero_add]
    go_enter Tryz.func167, Tryz.ntmps167
    go_wp2_with fail
    go_ret
    first | exact ⟨rfl, rfl⟩ | trace_state
  · have e2 : decide (a = [(1 : Int)]) = false := decide_eq_false (fun h => h1 (by rw [h]; rfl))
    rw [e2]
    have h2 : ((a.length : Int) == 1) = false := by
      rw [beq_eq_false_iff_ne]
      omega
    clear ha
    go_enter Tryz.func167, Tryz.ntmps167
    go_wp2_with fail
    go_ret
    first | exact ⟨rfl, rfl⟩ | trace_state
set_option maxRecDepth 100000 in
set_option maxHeartbeats 1000000 in
theorem wtimes_core (w : World) (na nb : Bool) (ao bo : Option Addr) (la lb cap bap : Nat) (z : Int) (P : List Int → Prop) (hla : ((la : Int) == 0) = false) (hlb : ((lb : Int) == 0) = false)
    (hA : ∀ W, Below w.heap.size w W → Calls Tryz.prog 167 #[.slice ao la cap] W fun e w' => e = .returned (.bool false) ∧ w' = W)
    (hB : ∀ W, Below w.heap.size w W → Calls Tryz.prog 167 #[.slice bo lb bap] W fun e w' => e = .returned (.bool false) ∧ w' = W)
    (hP : ∀ W, Below w.heap.size w W → Calls Tryz.prog 153 #[.slice ao la cap, .slice bo lb bap] W (LimPost W P))
    (hT : ∀ W xs v, P xs → Lims W xs v → WhoAt W z (.agg #[.bool (!(na == nb)), v])) :
    Calls Tryz.prog 136 #[.agg #[.bool na, .slice ao la cap], .agg #[.bool nb, .slice bo lb bap]] w (WhoPost w z) := by
  have HA := hid (hA _ (boxw_below' w (.bool na) (.slice ao la cap) (.bool nb) (.slice bo lb bap)))
  have HB := hid (hB _ (boxw_below' w (.bool na) (.slice ao la cap) (.bool nb) (.slice bo lb bap)))
  have HP := hid (hP _ (boxw_below' w (.bool na) (.slice ao la cap) (.bool nb) (.slice bo lb bap)))
  have HT := hid hT
  clear hP hT hA hB
  go_enter Tryz.func136, Tryz.ntmps136
  go_wp2_with fail
  refine (HA.out).mono ?_
  rintro e w0 ⟨rfl, h0⟩
  have b0 := boxw_at0' w (.bool na) (.slice ao la cap) (.bool nb) (.slice bo lb bap)
  have b1 := boxw_at1' w (.bool na) (.slice ao la cap) (.bool nb) (.slice bo lb bap)
  have b2 := boxw_at2' w (.bool na) (.slice ao la cap) (.bool nb) (.slice bo lb bap)
  have BS := boxw_size' w (.bool na) (.slice ao la cap) (.bool nb) (.slice bo lb bap)
  have BB := boxw_below' w (.bool na) (.slice ao la cap) (.bool nb) (.slice bo lb bap)
  have B2 := boxw_at2' w (.bool na) (.slice ao la cap) (.bool nb) (.slice bo lb bap)
  rw [← h0] at b0 b1 b2 HB HP BS BB B2
  clear h0 HA
  have x0 := cell_of_block (o := 0) b0 rfl
  have x1 := cell_of_block (o := 1) b0 rfl
  have x2 := cell_of_block (o := 0) b1 rfl
  have x3 := cell_of_block (o := 1) b1 rfl
  have u0 := frozen_of_block (o := 0) b2
  have u1 := frozen_of_block (o := 1) b2
  have v0 := cell_of_block (o := 0) b2 rfl
  have v1' := cell_of_block (o := 1) b2 rfl
  clear b0 b1 b2
  have BB := hid BB
  have B2 := hid B2
  go_wp2_with fail
  refine (HB.out).mono ?_
  rintro e w0' ⟨rfl, rfl⟩
  go_wp2_with fail
  refine (HP.out).mono ?_
  rintro e w1 ⟨v1, xs, rfl, hp, hI1, hb1⟩
  have hs1 := hb1.size
  rw [BS] at hs1
  obtain ⟨o1, c1, rfl, _⟩ := hI1.shape
  have hblk := newW (by rw [BS]; omega) B2.out hb1
  have hN := HT.out _ xs _ hp (hI1.weak (Nat.zero_le _))
  have hr := BB.out.trans (hb1.mono BB.out.size)
  have F := finw hblk hN hr (by omega)
  have r0 := frozen_of_block (o := 0) hblk
  have r1 := frozen_of_block (o := 1) hblk
  clear x0 x1 x2 x3 u0 u1 v0 v1'
  have s0 := cell_of_block (o := 0) hblk rfl
  have s1 := cell_of_block (o := 1) hblk rfl
  have q0 := F.c0
  have q1 := F.c1
  have FN := hid F.num
  have FB := hid F.below
  clear F hN hr hblk
  clear hb1 hI1 hp
  go_wp2_with fail
  refine bodyPost_ret (v := .agg #[.bool (!(na == nb)), .slice o1 xs.length c1]) (by simp [results, Tryz.results136, go_sem, q0, q1]) rfl ⟨_, rfl, FN.out, FB.out⟩
set_option maxRecDepth 100000 in
set_option maxHeartbeats 1000000 in
theorem wtimes_one (w : World) (na nb : Bool) (ao bo : Option Addr) (la lb cap bap : Nat) (z : Int) (hla : ((la : Int) == 0) = false) (hlb : ((lb : Int) == 0) = false)
    (hA : ∀ W, Below w.heap.size w W → Calls Tryz.prog 167 #[.slice ao la cap] W fun e w' => e = .returned (.bool true) ∧ w' = W)
    (hT : ∀ W, Below w.heap.size w W → WhoAt W z (.agg #[.bool (!(na == nb)), .slice bo lb bap])) :
    Calls Tryz.prog 136 #[.agg #[.bool na, .slice ao la cap], .agg #[.bool nb, .slice bo lb bap]] w (WhoPost w z) := by
  have HA := hid (hA _ (boxw_below' w (.bool na) (.slice ao la cap) (.bool nb) (.slice bo lb bap)))
  have HT := hid hT
  have F := finw (boxw_at2' w (.bool na) (.slice ao la cap) (.bool nb) (.slice bo lb bap)) (hT _ (boxw_below' w _ _ _ _)) (boxw_below' w _ _ _ _) (by omega)
  have q0 := F.c0
  have q1 := F.c1
  have FN := hid F.num
  have FB := hid F.below
  clear hT hA F
  go_enter Tryz.func136, Tryz.ntmps136
  go_wp2_with fail
  refine (HA.out).mono ?_
  rintro e w0 ⟨rfl, h0⟩
  have b0 := boxw_at0' w (.bool na) (.slice ao la cap) (.bool nb) (.slice bo lb bap)
  have b1 := boxw_at1' w (.bool na) (.slice ao la cap) (.bool nb) (.slice bo lb bap)
  have b2 := boxw_at2' w (.bool na) (.slice ao la cap) (.bool nb) (.slice bo lb bap)
  rw [← h0] at b0 b1 b2 q0 q1 FN FB
  clear h0 HA
  have x0 := cell_of_block (o := 0) b0 rfl
  have x1 := cell_of_block (o := 1) b0 rfl
  have x2 := cell_of_block (o := 0) b1 rfl
  have x3 := cell_of_block (o := 1) b1 rfl
  have u0 := frozen_of_block (o := 0) b2
  have u1 := frozen_of_block (o := 1) b2
  have v0 := cell_of_block (o := 0) b2 rfl
  have v1' := cell_of_block (o := 1) b2 rfl
  clear b0 b1 b2
  go_wp2_with fail
  refine bodyPost_ret (v := .agg #[.bool (!(na == nb)), .slice bo lb bap]) (by simp [results, Tryz.results136, go_sem, q0, q1]) rfl ⟨_, rfl, FN.out, FB.out⟩
set_option maxRecDepth 100000 in
set_option maxHeartbeats 1000000 in
theorem wtimes_two (w : World) (na nb : Bool) (ao bo : Option Addr) (la lb cap bap : Nat) (z : Int) (hla : ((la : Int) == 0) = false) (hlb : ((lb : Int) == 0) = false)
    (hA : ∀ W, Below w.heap.size w W → Calls Tryz.prog 167 #[.slice ao la cap] W fun e w' => e = .returned (.bool false) ∧ w' = W)
    (hB : ∀ W, Below w.heap.size w W → Calls Tryz.prog 167 #[.slice bo lb bap] W fun e w' => e = .returned (.bool true) ∧ w' = W)
    (hT : ∀ W, Below w.heap.size w W → WhoAt W z (.agg #[.bool (!(na == nb)), .slice ao la cap])) :
    Calls Tryz.prog 136 #[.agg #[.bool na, .slice ao la cap], .agg #[.bool nb, .slice bo lb bap]] w (WhoPost w z) := by
  have HA := hid (hA _ (boxw_below' w (.bool na) (.slice ao la cap) (.bool nb) (.slice bo lb bap)))
  have HB := hid (hB _ (boxw_below' w (.bool na) (.slice ao la cap) (.bool nb) (.slice bo lb bap)))
  have F := finw (boxw_at2' w (.bool na) (.slice ao la cap) (.bool nb) (.slice bo lb bap)) (hT _ (boxw_below' w _ _ _ _)) (boxw_below' w _ _ _ _) (by omega)
  have q0 := F.c0
  have q1 := F.c1
  have FN := hid F.num
  have FB := hid F.below
  clear hT hA hB F
  go_enter Tryz.func136, Tryz.ntmps136
  go_wp2_with fail
  refine (HA.out).mono ?_
  rintro e w0 ⟨rfl, h0⟩
  have b0 := boxw_at0' w (.bool na) (.slice ao la cap) (.bool nb) (.slice bo lb bap)
  have b1 := boxw_at1' w (.bool na) (.slice ao la cap) (.bool nb) (.slice bo lb bap)
  have b2 := boxw_at2' w (.bool na) (.slice ao la cap) (.bool nb) (.slice bo lb bap)
  rw [← h0] at b0 b1 b2 HB q0 q1 FN FB
  clear h0 HA
  have x0 := cell_of_block (o := 0) b0 rfl
  have x1 := cell_of_block (o := 1) b0 rfl
  have x2 := cell_of_block (o := 0) b1 rfl
  have x3 := cell_of_block (o := 1) b1 rfl
  have u0 := frozen_of_block (o := 0) b2
  have u1 := frozen_of_block (o := 1) b2
  have v0 := cell_of_block (o := 0) b2 rfl
  have v1' := cell_of_block (o := 1) b2 rfl
  clear b0 b1 b2
  go_wp2_with fail
  refine (HB.out).mono ?_
  rintro e w0' ⟨rfl, rfl⟩
  go_wp2_with fail
  refine bodyPost_ret (v := .agg #[.bool (!(na == nb)), .slice ao la cap]) (by simp [results, Tryz.results136, go_sem, q0, q1]) rfl ⟨_, rfl, FN.out, FB.out⟩
set_option maxRecDepth 100000 in
set_option maxHeartbeats 1000000 in
theorem wtimes_zero (w : World) (na nb : Bool) (ao bo : Option Addr) (la lb cap bap : Nat) (h : la = 0 ∨ (¬ la = 0 ∧ lb = 0)) :
    Calls Tryz.prog 136 #[.agg #[.bool na, .slice ao la cap], .agg #[.bool nb, .slice bo lb bap]] w (WhoPost w 0) := by
  rcases h with rfl | ⟨h1, rfl⟩
  · go_enter Tryz.func136, Tryz.ntmps136
    go_wp2_with fail
    refine bodyPost_ret (v := .agg #[.bool false, .slice none 0 0]) (by simp [results, Tryz.results136, go_sem]) rfl ⟨_, rfl, who_nil _, boxw_below' w _ _ _ _⟩
  · have h2 : ((la : Int) == 0) = false := by simpa using h1
    go_enter Tryz.func136, Tryz.ntmps136
    go_wp2_with fail
    refine bodyPost_ret (v := .agg #[.bool false, .slice none 0 0]) (by simp [results, Tryz.results136, go_sem]) rfl ⟨_, rfl, who_nil _, boxw_below' w _ _ _ _⟩
theorem wtimes_any (w : World) (x y : Int) (u v : Value) (n : Nat) (hx : WhoAt w x u) (hy : WhoAt w y v) (bx : x.natAbs < 2 ^ n) (bY : y.natAbs < 2 ^ n) (hn : n ≤ 1000000000) : Calls Tryz.prog 136 #[u, v] w (WhoPost w (x * y)) := by
  obtain ⟨a, ao, cap, rfl, hI, hg, hv⟩ := hx.open
  obtain ⟨b, bo, bap, rfl, hJ, hh, hu⟩ := hy.open
  have hl := lims_len hg hv bx
  have hk := lims_len hh hu bY
  have za := who_zero hg hv
  have zb := who_zero hh hu
  by_cases h0 : a.length = 0 ∨ (¬ a.length = 0 ∧ b.length = 0)
  · have e : x * y = 0 := by
      rcases h0 with h | ⟨_, h⟩
      · rw [za.1 (List.eq_nil_of_length_eq_zero h), Int.zero_mul]
      · rw [zb.1 (List.eq_nil_of_length_eq_zero h), Int.mul_zero]
    rw [e]
    exact wtimes_zero w _ _ _ _ _ _ _ _ h0
  · have h1 : ¬ a.length = 0 := fun h => h0 (Or.inl h)
    have h2 : ¬ b.length = 0 := fun h => h0 (Or.inr ⟨h1, h⟩)
    have hx0 : x ≠ 0 := fun h => h1 (by rw [za.2 h]; rfl)
    have hy0 : y ≠ 0 := fun h => h2 (by rw [zb.2 h]; rfl)
    have sg : (!(decide (x < 0) == decide (y < 0))) = decide (x * y < 0) := by
      rcases Int.lt_or_gt_of_ne hx0 with hx1 | hx1
      · rcases Int.lt_or_gt_of_ne hy0 with hy1 | hy1
        · have := Int.mul_pos_of_neg_of_neg hx1 hy1
          simp [hx1, hy1]; omega
        · have := Int.mul_neg_of_neg_of_pos hx1 hy1
          simp [hx1, show ¬ y < 0 by omega]; omega
      · rcases Int.lt_or_gt_of_ne hy0 with hy1 | hy1
        · have := Int.mul_neg_of_pos_of_neg hx1 hy1
          simp [hy1, show ¬ x < 0 by omega]; omega
        · have := Int.mul_pos hx1 hy1
          simp [show ¬ y < 0 by omega, show ¬ x < 0 by omega]; omega
    have key : ∀ W (ds : List Int) r, Nm.Good 4294967296 ds → Nm.val 4294967296 ds = ((x * y).natAbs : Int) → Lims W ds r → WhoAt W (x * y) (.agg #[.bool (!(decide (x < 0) == decide (y < 0))), r]) := fun W ds r g1 g2 hr => who_of hr g1 g2 sg
    by_cases ha1 : a = [1]
    · have hx1 : (x.natAbs : Int) = 1 := by rw [← hv, ha1]; rfl
      exact wtimes_one w _ _ _ _ _ _ _ _ (x * y) (by simpa using h1) (by simpa using h2) (fun W hW => (isOne_any W a _ (hI.below hW)).mono fun e w' ⟨g1, g2⟩ => ⟨by rw [g1, decide_eq_true ha1], g2⟩) fun W hW => key W b _ hh (by rw [hu, Int.natAbs_mul]; simp [show x.natAbs = 1 by omega]) (hJ.below hW)
    · by_cases hb1 : b = [1]
      · have hy1 : (y.natAbs : Int) = 1 := by rw [← hu, hb1]; rfl
        exact wtimes_two w _ _ _ _ _ _ _ _ (x * y) (by simpa using h1) (by simpa using h2) (fun W hW => (isOne_any W a _ (hI.below hW)).mono fun e w' ⟨g1, g2⟩ => ⟨by rw [g1, decide_eq_false ha1], g2⟩) (fun W hW => (isOne_any W b _ (hJ.below hW)).mono fun e w' ⟨g1, g2⟩ => ⟨by rw [g1, decide_eq_true hb1], g2⟩) fun W hW => key W a _ hg (by rw [hv, Int.natAbs_mul]; simp [show y.natAbs = 1 by omega]) (hI.below hW)
      · refine wtimes_core w _ _ _ _ _ _ _ _ (x * y) _ (by simpa using h1) (by simpa using h2) (fun W hW => (isOne_any W a _ (hI.below hW)).mono fun e w' ⟨g1, g2⟩ => ⟨by rw [g1, decide_eq_false ha1], g2⟩) (fun W hW => (isOne_any W b _ (hJ.below hW)).mono fun e w' ⟨g1, g2⟩ => ⟨by rw [g1, decide_eq_false hb1], g2⟩) (fun W hW => multiplyLimbs_any W a b _ _ (hI.below hW) (hJ.below hW) (by omega) (by omega) hg.dig hh.dig) ?_
        rintro W xs r ⟨g1, g2⟩ hr
        exact key W xs r g1 (by rw [g2, hv, hu, Int.natAbs_mul]; simp) hr
set_option maxRecDepth 100000 in
set_option maxHeartbeats 1000000 in
theorem wminus_core (w : World) (na nb : Bool) (ao bo : Option Addr) (la lb cap bap : Nat) (y z : Int)
    (hM : ∀ W, Below w.heap.size w W → Calls Tryz.prog 123 #[.agg #[.bool nb, .slice bo lb bap]] W (WhoPost W y))
    (hT : ∀ W v, Below w.heap.size w W → WhoAt W y v → Calls Tryz.prog 137 #[.agg #[.bool na, .slice ao la cap], v] W (WhoPost W z)) :
    Calls Tryz.prog 146 #[.agg #[.bool na, .slice ao la cap], .agg #[.bool nb, .slice bo lb bap]] w (WhoPost w z) := by
  have HP := hid hM
  have HT := hid hT
  clear hM hT
  have ne1 : ¬ (w.heap.size = w.heap.size + 1 + 1) := by omega
  have ne2 : ¬ (w.heap.size + 1 + 1 = w.heap.size) := by omega
  go_enter Tryz.func146, Tryz.ntmps146
  go_wp2_with fail
  go_region_held3 (fun w' => w'.cell? ⟨w.heap.size, 0, none⟩ = some (.bool na) ∧ w'.cell? ⟨w.heap.size, 1, none⟩ = some (.slice ao la cap) ∧ w'.cell? ⟨w.heap.size + 1, 0, none⟩ = some (.bool nb) ∧ w'.cell? ⟨w.heap.size + 1, 1, none⟩ = some (.slice bo lb bap)) (go_keep) (first
    | (go_at_call 123
       refine (HP.out _ (boxw_below w _ _ _ _)).mono ?_
       rintro e w1 ⟨v1, rfl, hN1, hb1⟩
       have hs1 := hb1.size
       rw [boxw_size] at hs1
       have b2 := newW (by rw [boxw_size]; omega) (boxw_at2 _ _ _ _ _) hb1
       have x0 := cell_of_block (o := 0) (newW (by rw [boxw_size]; omega) (boxw_at0 _ _ _ _ _) hb1) rfl
       have x1 := cell_of_block (o := 1) (newW (by rw [boxw_size]; omega) (boxw_at0 _ _ _ _ _) hb1) rfl
       have x2 := cell_of_block (o := 0) (newW (by rw [boxw_size]; omega) (boxw_at1 _ _ _ _ _) hb1) rfl
       have x3 := cell_of_block (o := 1) (newW (by rw [boxw_size]; omega) (boxw_at1 _ _ _ _ _) hb1) rfl
       have hl1 : w.heap.size + 1 < w1.heap.size := by omega
       have B1 := hid ((boxw_below w _ _ _ _).trans (hb1.mono (boxw_below w _ _ _ _).size))
       clear hb1)
    | (go_at_call 137
       refine (HT.out _ _ B1.out hN1).mono ?_
       rintro e w2 ⟨r, rfl, hN, hb2⟩
       have hr := B1.out.trans (hb2.mono B1.out.size)
       have hblk := newW (by omega) b2 hb2
       have hs2 := hb2.size
       have y0 := (hb2.cell (p := ⟨w.heap.size, 0, none⟩) (by simp only; omega)).trans x0
       have y1 := (hb2.cell (p := ⟨w.heap.size, 1, none⟩) (by simp only; omega)).trans x1
       have y2 := (hb2.cell (p := ⟨w.heap.size + 1, 0, none⟩) (by simp only; omega)).trans x2
       have y3 := (hb2.cell (p := ⟨w.heap.size + 1, 1, none⟩) (by simp only; omega)).trans x3
       obtain ⟨ds', ao', cap', rfl, _⟩ := hN.open
       have F := finw hblk hN hr (by omega)
       have r0 := frozen_of_block (o := 0) hblk
       have r1 := frozen_of_block (o := 1) hblk
       have s0 := cell_of_block (o := 0) hblk rfl
       have s1 := cell_of_block (o := 1) hblk rfl
       have q0 := F.c0
       have q1 := F.c1
       have FN := hid F.num
       have FB := hid F.below
       clear F hN hr hblk
       clear hb2 b2 B1 hN1
       generalize decide (z < 0) = nc at *))
  all_goals
    go_wp2_with fail
    refine bodyPost_ret (v := .agg #[.bool nc, .slice ao' ds'.length cap']) (by simp [results, Tryz.results146, go_sem, q0, q1]) rfl ⟨_, rfl, FN.out, FB.out⟩
theorem wminus_any (w : World) (x y : Int) (u v : Value) (n : Nat) (hx : WhoAt w x u) (hy : WhoAt w y v) (bx : x.natAbs < 2 ^ n) (bY : y.natAbs < 2 ^ n) (hn : n ≤ 1000000000) : Calls Tryz.prog 146 #[u, v] w (WhoPost w (x - y)) := by
  obtain ⟨a, ao, cap, rfl, _⟩ := hx.open
  obtain ⟨b, bo, bap, rfl, _⟩ := hy.open
  exact wminus_core w _ _ _ _ _ _ _ _ (-y) (x - y) (fun W hW => wneg_any W y _ (hy.below hW)) (fun W r hW hr => wplus_any W x (-y) _ _ n (hx.below hW) hr bx (by rwa [Int.natAbs_neg]) hn)
set_option maxRecDepth 100000 in
set_option maxHeartbeats 1000000 in
theorem wcompare_any (w : World) (x y : Int) (u v : Value) (n : Nat) (hx : WhoAt w x u) (hy : WhoAt w y v) (bx : x.natAbs < 2 ^ n) (bY : y.natAbs < 2 ^ n) (hn : n ≤ 1000000000) : Calls Tryz.prog 122 #[u, v] w fun e w' => e = .returned (.int .i64 (Nm.cmp x y)) ∧ Below w.heap.size w w' := by
  obtain ⟨a, ao, cap, rfl, hI, hg, hv⟩ := hx.open
  obtain ⟨b, bo, bap, rfl, hJ, hh, hu⟩ := hy.open
  have hl := lims_len hg hv bx
  have hk := lims_len hh hu bY
  have hb2 : ∀ o o', Below w.heap.size w ((w.alloc o).alloc o') := fun o o' => belowW (belowW (Below.refl _ _) (Nat.le_refl _) _) (by simp) _
  have C1 := hid (fun W hW => compareLimbs_any W a b _ _ (hI.below hW) (hJ.below hW) (by omega) hg hh)
  have C2 := hid (fun W hW => compareLimbs_any W b a _ _ (hJ.below hW) (hI.below hW) (by omega) hh hg)
  rw [hv, hu] at C1 C2
  have HB2 := hid hb2
  clear hI hJ hg hh hv hu hx hy bx bY hb2 hl hk
  by_cases hx0 : x < 0
  · by_cases hy0 : y < 0
    · have e : Nm.cmp ((y.natAbs : Nat) : Int) ((x.natAbs : Nat) : Int) = Nm.cmp x y := by
        rcases Int.lt_trichotomy x y with h | h | h
        · rw [Nm.cmp_lt h, Nm.cmp_lt (by omega)]
        · rw [Nm.cmp_eq h, Nm.cmp_eq (by omega)]
        · rw [Nm.cmp_gt h, Nm.cmp_gt (by omega)]
      rw [e] at C2
      rw [decide_eq_true hx0, decide_eq_true hy0]
      clear e
      generalize Nm.cmp x y = c at *
      go_enter Tryz.func122, Tryz.ntmps122
      go_wp2_with fail
      refine (C2.out _ (HB2.out _ _)).mono ?_
      rintro e w1 ⟨rfl, hb1⟩
      go_wp2_with fail
      go_ret
      exact ⟨rfl, (HB2.out _ _).trans (hb1.mono (HB2.out _ _).size)⟩
    · rw [decide_eq_true hx0, decide_eq_false hy0, Nm.cmp_lt (show x < y by omega)]
      go_enter Tryz.func122, Tryz.ntmps122
      go_wp2_with fail
      go_ret
      exact ⟨rfl, HB2.out _ _⟩
  · by_cases hy0 : y < 0
    · rw [decide_eq_false hx0, decide_eq_true hy0, Nm.cmp_gt (show y < x by omega)]
      go_enter Tryz.func122, Tryz.ntmps122
      go_wp2_with fail
      go_ret
      exact ⟨rfl, HB2.out _ _⟩
    · rw [show ((x.natAbs : Nat) : Int) = x by omega, show ((y.natAbs : Nat) : Int) = y by omega] at C1
      rw [decide_eq_false hx0, decide_eq_false hy0]
      generalize Nm.cmp x y = c at *
      go_enter Tryz.func122, Tryz.ntmps122
      go_wp2_with fail
      refine (C1.out _ (HB2.out _ _)).mono ?_
      rintro e w1 ⟨rfl, hb1⟩
      go_wp2_with fail
      go_ret
      exact ⟨rfl, (HB2.out _ _).trans (hb1.mono (HB2.out _ _).size)⟩
end Go.Proofs.YteghhlfmcjmnoaaGreatDoor
