/-
  THE WALK of (shape).tree: brackets, a number, a function.
-/
import Derived.Test.YtmepffenlgedbaaGreatDoorRTree4
set_option linter.unusedSimpArgs false
set_option linter.unusedVariables false
namespace Go.Proofs.YtmepffenlgedbaaGreatDoor
open Go.RowKit

theorem of_any' (n : Nat) (nn : Int) (hnn : nn = (n : Int)) (w : World) (hn : n < 1000000000) (rb : Nat) (hrb : rb < w.heap.size) :
    Calls Tryz.prog 40 #[.int .i64 nn] w fun e w' => ∃ dv, e = .returned (.agg #[.bool false, dv]) ∧ TermsAt rb w' (Rd.places 5 n) dv ∧ Below w.heap.size w w' := by
  subst hnn
  exact of_any n w hn rb hrb

theorem terms_slice {rb : Nat} {w : World} {ts : List Int} {v : Value} (h : TermsAt rb w ts v) : ∃ ao ln cp, v = .slice ao ln cp := by
  rcases h with ⟨_, h⟩ | ⟨tb, cap, cur, h, _⟩
  · exact ⟨_, _, _, h⟩
  · exact ⟨_, _, _, h⟩

theorem fn_text {t : ByteArray} (h : Rd.isFn t.data.toList = true) : t = Rd.opName (Rd.nameK t.data.toList) ∧ Rd.nameK t.data.toList ≠ 1 := by
  simp only [Rd.isFn, Bool.or_eq_true] at h
  rcases h with ((h | h) | h) | h
  all_goals
    have e := lit_of h
    subst e
    exact ⟨rfl, by decide⟩

/-- A number's node. -/
theorem num_post (sb : Nat) (w w5 : World) (v : Nat) (s2 : Rd.Tally) (pv qv : Value) (hp : TermsAt sb w5 (Rd.places 5 v) pv) (hq : TermsAt sb w5 (Rd.places 5 1) qv) (hS : Shp w5 sb s2) (hK : Keep sb w w5) :
    TPost sb w (Rd.leafT 1 (v : Int) []) s2 (.returned (.pointer (some ⟨w5.heap.size, 0, none⟩))) (w5.alloc (.cells #[.string ⟨#[113]⟩, .bool false, pv, .bool false, qv, .slice none 0 0, .slice none 0 0] 62)) := by
  have hlt : sb < w5.heap.size := heap_lt hS
  have hKK : ∀ o, Keep sb w5 (w5.alloc o) := fun o => (Keep.refl _ _).alloc _
  exact ⟨_, rfl, ⟨w5.heap.size, pv, qv, .slice none 0 0, .slice none 0 0, rfl, by omega, cells_new _ _, Or.inl ⟨rfl, by simpa using hp.keep (hKK _), hq.keep (hKK _)⟩, Or.inl ⟨rfl, rfl⟩, Or.inl ⟨rfl, rfl, rfl⟩⟩, hS.alloc _, hK.trans (hKK _)⟩

set_option maxRecDepth 100000 in
set_option maxHeartbeats 1000000 in
theorem tree_br (sb g cap : Nat) (ws : List Rd.Wd) (hl : ws.length ≤ 121) (hg : g ≠ sb) (f : Nat) (IH : Hid (TSaid sb g cap ws f)) (w : World) (i j d : Nat) (s s2 : Rd.Tally) (x : Rd.Tr) (hS : Shp w sb s) (hRow : RowAt w g ws)
    (hij : i < j) (hj : j ≤ ws.length) (q1 q2 : Int) (NO : Hid (NoOp g cap ws i j q1 q2)) (htx : (Rd.txt ws i == [40]) = true) (hji : i + 1 < j)
    (h1 : Rd.rtree ws f (i + 1) (j - 1) (d + 1) (max s.1 d, s.2) = some (x, s2)) (hn : s2.2 ≤ 1000) (hd : d + (j - i) ≤ 500) :
    Calls Tryz.prog 25 #[.pointer (some ⟨sb, 0, none⟩), .slice (some ⟨g, 0, none⟩) ws.length cap, .int .i64 i, .int .i64 j, .int .i64 d] w (TPost sb w x s2) := by
  have c0 : w.cell? ⟨sb, 0, none⟩ = some (.int .i64 s.1) := cell_of_block hS rfl
  have c1 : w.cell? ⟨sb, 1, none⟩ = some (.int .i64 s.2) := cell_of_block hS rfl
  have f0 : w.frozen? ⟨sb, 0, none⟩ = false := frozen_of_block hS
  have f1 : w.frozen? ⟨sb, 1, none⟩ = false := frozen_of_block hS
  have hlt := heap_lt hS
  obtain ⟨e0, _⟩ := row_cells hRow i (by omega)
  have n1 := NO.out.n1
  have n2 := NO.out.n2
  have m1 := rtree_nodes _ _ _ _ _ _ _ h1
  simp only at m1
  have hlit : (Rd.wordAt ws i).text = ⟨#[40]⟩ := lit_of htx
  rw [hlit] at e0
  have H1 := hide1 h1
  clear h1 htx hlit
  by_cases hdp : (s.1 : Int) < d
  · have hS1 : Shp (w.setCell ⟨sb, 0, none⟩ (.int .i64 d)) sb (max s.1 d, s.2) := by rw [Nat.max_eq_right (by omega)]; exact hS.set0 d rfl
    have hK1 : Keep sb w (w.setCell ⟨sb, 0, none⟩ (.int .i64 d)) := (Keep.refl _ _).setCell 0 _
    have hRow1 := hRow.keep hK1 hg
    go_enter Tryz.func25, Tryz.ntmps25
    go_wp2_with fail
    refine (NO.out.p1 _ hRow).mono ?_
    rintro e w' ⟨rfl, rfl⟩
    go_wp2_with fail
    refine (NO.out.p2 _ hRow).mono ?_
    rintro e w' ⟨rfl, rfl⟩
    go_wp2_with fail
    refine (IH.out _ (i + 1) (j - 1) (d + 1) (max s.1 d, s.2) x s2 _ _ _ (by simp) (by omega) (by simp) hS1 hRow1 H1.out hn (by omega)).mono ?_
    rintro e w3 ⟨v3, rfl, hE3, hS3, hK3⟩
    go_wp2_with fail
    go_ret
    exact ⟨_, rfl, hE3, hS3, hK1.trans hK3⟩
  · have hS1 : Shp w sb (max s.1 d, s.2) := by rw [Nat.max_eq_left (by omega)]; exact hS
    go_enter Tryz.func25, Tryz.ntmps25
    go_wp2_with fail
    refine (NO.out.p1 _ hRow).mono ?_
    rintro e w' ⟨rfl, rfl⟩
    go_wp2_with fail
    refine (NO.out.p2 _ hRow).mono ?_
    rintro e w' ⟨rfl, rfl⟩
    go_wp2_with fail
    refine (IH.out _ (i + 1) (j - 1) (d + 1) (max s.1 d, s.2) x s2 _ _ _ (by simp) (by omega) (by simp) hS1 hRow H1.out hn (by omega)).mono ?_
    rintro e w3 ⟨v3, rfl, hE3, hS3, hK3⟩
    go_wp2_with fail
    go_ret
    exact ⟨_, rfl, hE3, hS3, hK3⟩

set_option maxRecDepth 100000 in
set_option maxHeartbeats 1000000 in
theorem tree_num (sb g cap : Nat) (ws : List Rd.Wd) (hl : ws.length ≤ 121) (hg : g ≠ sb) (w : World) (i j d : Nat) (s s2 : Rd.Tally) (hS : Shp w sb s) (hRow : RowAt w g ws)
    (hij : i < j) (hj : j ≤ ws.length) (q1 q2 : Int) (NO : Hid (NoOp g cap ws i j q1 q2)) (hdo : DigOk ws) (n45 : (Rd.txt ws i == [45]) = false) (n40 : (Rd.txt ws i == [40]) = false) (hkd : (Rd.kd (Rd.txt ws i) == 1) = true) (hs2 : s2 = (max s.1 d, s.2 + 1)) (hn : s2.2 ≤ 1000) (hd : d + (j - i) ≤ 500) :
    Calls Tryz.prog 25 #[.pointer (some ⟨sb, 0, none⟩), .slice (some ⟨g, 0, none⟩) ws.length cap, .int .i64 i, .int .i64 j, .int .i64 d] w (TPost sb w (Rd.leafT 1 (Rd.valAt ws i) []) s2) := by
  have c0 : w.cell? ⟨sb, 0, none⟩ = some (.int .i64 s.1) := cell_of_block hS rfl
  have c1 : w.cell? ⟨sb, 1, none⟩ = some (.int .i64 s.2) := cell_of_block hS rfl
  have f0 : w.frozen? ⟨sb, 0, none⟩ = false := frozen_of_block hS
  have f1 : w.frozen? ⟨sb, 1, none⟩ = false := frozen_of_block hS
  have hlt := heap_lt hS
  obtain ⟨e0, _⟩ := row_cells hRow i (by omega)
  have n1 := NO.out.n1
  have n2 := NO.out.n2
  obtain ⟨u1, u2⟩ := hdo i (by simpa using hkd)
  have hnb : s.2 + 1 ≤ 1000 := by rw [hs2] at hn; exact hn
  have UV : Hid (Rd.valAt ws i = Rd.valTo (Rd.wordAt ws i).text (Rd.wordAt ws i).text.size) := rfl
  have UX : Hid (Rd.txt ws i = (Rd.wordAt ws i).text.data.toList) := rfl
  rw [UX.out] at n45 n40 hkd
  generalize (Rd.wordAt ws i).text = t at *
  have hz : 0 < t.size := by
    rcases Nat.lt_or_ge 0 t.size with h | h
    · exact h
    · rw [empty_of (t := t) (by omega)] at hkd; cases hkd
  have hdg : Rd.isDig (t[0].toNat : Int) = true := by rw [← kd_first hz]; exact hkd
  have y1 := tl n45
  have y2 := tl n40
  obtain ⟨vn, hvn⟩ : ∃ vn : Nat, Rd.valTo t t.size = (vn : Int) := ⟨(Rd.valTo t t.size).toNat, by have := Rd.valTo_lo t t.size; omega⟩
  have hvb : vn < 1000000000 := by have := Rd.valTo_bd t t.size u1; omega
  have NB : Hid (∀ W, Calls Tryz.prog 41 #[.string t] W fun e w' => e = .returned (.int .i64 (vn : Int)) ∧ Below W.heap.size W w') := by
    intro W
    have := number_any t W u1 u2
    rw [hvn] at this
    exact this
  rw [UV.out, hvn]
  have hsz := hz
  clear u2 hkd n45 n40 UV hvn hdo
  by_cases hdp : (s.1 : Int) < d
  · have hS1 : Shp (w.setCell ⟨sb, 0, none⟩ (.int .i64 d)) sb (max s.1 d, s.2) := by rw [Nat.max_eq_right (by omega)]; exact hS.set0 d rfl
    have hK1 : Keep sb w (w.setCell ⟨sb, 0, none⟩ (.int .i64 d)) := (Keep.refl _ _).setCell 0 _
    have hK2 := hK1.setCell 1 (.int .i64 ((s.2 : Int) + 1))
    have hS2 : Shp (World.setCell (w.setCell ⟨sb, 0, none⟩ (.int .i64 d)) ⟨sb, 1, none⟩ (.int .i64 ((s.2 : Int) + 1))) sb s2 := by rw [hs2]; exact hS1.set1 (s.2 + 1) (by simp)
    clear hs2
    go_enter Tryz.func25, Tryz.ntmps25
    go_wp2_with fail
    refine (NO.out.p1 _ hRow).mono ?_
    rintro e w' ⟨rfl, rfl⟩
    go_wp2_with fail
    refine (NO.out.p2 _ hRow).mono ?_
    rintro e w' ⟨rfl, rfl⟩
    go_wp2_with (go_at_call 34; refine (rdigit_any _ _).mono ?_; rintro e w' ⟨rfl, rfl⟩)
    refine (NB.out _).mono ?_
    rintro e w3 ⟨rfl, hb3⟩
    have hS3 := hS2.below hb3
    have hK3 := hK2.trans (Keep.of_below hb3)
    clear hb3 hS2 hK2
    have l3 := heap_lt hS3
    go_wp2_with fail
    refine (of_any' vn _ rfl _ hvb sb l3).mono ?_
    rintro e w4 ⟨pv, rfl, hp, hb4⟩
    have hS4 := hS3.below hb4
    have hK4 := hK3.trans (Keep.of_below hb4)
    have l4 := heap_lt hS4
    obtain ⟨p1, p2, p3, hpv⟩ := terms_slice hp
    rw [hpv]
    rw [hpv] at hp
    clear hpv hb4 hS3 hK3 l3
    go_wp2_with fail
    refine (of_any' 1 _ rfl _ (by omega) sb l4).mono ?_
    rintro e w5 ⟨qv, rfl, hq, hb5⟩
    have hp5 := hp.keep (Keep.of_below hb5)
    have hS5 := hS4.below hb5
    have hK5 := hK4.trans (Keep.of_below hb5)
    obtain ⟨r1, r2, r3, hqv⟩ := terms_slice hq
    rw [hqv]
    rw [hqv] at hq
    clear hqv hp hb5 hS4 hK4 l4
    go_wp2_with fail
    go_ret
    exact num_post sb w w5 vn s2 _ _ hp5 hq hS5 hK5
  · have hS1 : Shp w sb (max s.1 d, s.2) := by rw [Nat.max_eq_left (by omega)]; exact hS
    have hK1 : Keep sb w w := Keep.refl _ _
    have hK2 := hK1.setCell 1 (.int .i64 ((s.2 : Int) + 1))
    have hS2 : Shp (World.setCell w ⟨sb, 1, none⟩ (.int .i64 ((s.2 : Int) + 1))) sb s2 := by rw [hs2]; exact hS1.set1 (s.2 + 1) (by simp)
    clear hs2
    go_enter Tryz.func25, Tryz.ntmps25
    go_wp2_with fail
    refine (NO.out.p1 _ hRow).mono ?_
    rintro e w' ⟨rfl, rfl⟩
    go_wp2_with fail
    refine (NO.out.p2 _ hRow).mono ?_
    rintro e w' ⟨rfl, rfl⟩
    go_wp2_with (go_at_call 34; refine (rdigit_any _ _).mono ?_; rintro e w' ⟨rfl, rfl⟩)
    refine (NB.out _).mono ?_
    rintro e w3 ⟨rfl, hb3⟩
    have hS3 := hS2.below hb3
    have hK3 := hK2.trans (Keep.of_below hb3)
    clear hb3 hS2 hK2
    have l3 := heap_lt hS3
    go_wp2_with fail
    refine (of_any' vn _ rfl _ hvb sb l3).mono ?_
    rintro e w4 ⟨pv, rfl, hp, hb4⟩
    have hS4 := hS3.below hb4
    have hK4 := hK3.trans (Keep.of_below hb4)
    have l4 := heap_lt hS4
    obtain ⟨p1, p2, p3, hpv⟩ := terms_slice hp
    rw [hpv]
    rw [hpv] at hp
    clear hpv hb4 hS3 hK3 l3
    go_wp2_with fail
    refine (of_any' 1 _ rfl _ (by omega) sb l4).mono ?_
    rintro e w5 ⟨qv, rfl, hq, hb5⟩
    have hp5 := hp.keep (Keep.of_below hb5)
    have hS5 := hS4.below hb5
    have hK5 := hK4.trans (Keep.of_below hb5)
    obtain ⟨r1, r2, r3, hqv⟩ := terms_slice hq
    rw [hqv]
    rw [hqv] at hq
    clear hqv hp hb5 hS4 hK4 l4
    go_wp2_with fail
    go_ret
    exact num_post sb w w5 vn s2 _ _ hp5 hq hS5 hK5

set_option maxRecDepth 100000 in
set_option maxHeartbeats 1000000 in
theorem tree_fn (sb g cap : Nat) (ws : List Rd.Wd) (hl : ws.length ≤ 121) (hg : g ≠ sb) (f : Nat) (IH : Hid (TSaid sb g cap ws f)) (w : World) (i j d : Nat) (s s2 : Rd.Tally) (x : Rd.Tr) (hS : Shp w sb s) (hRow : RowAt w g ws)
    (hij : i < j) (hj : j ≤ ws.length) (q1 q2 : Int) (NO : Hid (NoOp g cap ws i j q1 q2)) (n45 : (Rd.txt ws i == [45]) = false) (n40 : (Rd.txt ws i == [40]) = false) (hfn : Rd.isFn (Rd.txt ws i) = true) (hji : i + 2 < j)
    (h1 : Rd.rtree ws f (i + 2) (j - 1) (d + 1) (max s.1 d, s.2 + 1) = some (x, s2)) (hn : s2.2 ≤ 1000) (hd : d + (j - i) ≤ 500) :
    Calls Tryz.prog 25 #[.pointer (some ⟨sb, 0, none⟩), .slice (some ⟨g, 0, none⟩) ws.length cap, .int .i64 i, .int .i64 j, .int .i64 d] w (TPost sb w (Rd.unT (Rd.nameK (Rd.txt ws i)) x) s2) := by
  have c0 : w.cell? ⟨sb, 0, none⟩ = some (.int .i64 s.1) := cell_of_block hS rfl
  have c1 : w.cell? ⟨sb, 1, none⟩ = some (.int .i64 s.2) := cell_of_block hS rfl
  have f0 : w.frozen? ⟨sb, 0, none⟩ = false := frozen_of_block hS
  have f1 : w.frozen? ⟨sb, 1, none⟩ = false := frozen_of_block hS
  have hlt := heap_lt hS
  obtain ⟨e0, _⟩ := row_cells hRow i (by omega)
  have n1 := NO.out.n1
  have n2 := NO.out.n2
  have m1 := rtree_nodes _ _ _ _ _ _ _ h1
  simp only at m1
  have H1 := hide1 h1
  have UX : Hid (Rd.txt ws i = (Rd.wordAt ws i).text.data.toList) := rfl
  rw [UX.out] at n45 n40 hfn
  rw [UX.out]
  generalize (Rd.wordAt ws i).text = t at *
  have hz : 0 < t.size := by
    rcases Nat.lt_or_ge 0 t.size with h | h
    · exact h
    · rw [empty_of (t := t) (by omega)] at hfn; cases hfn
  have hdg : Rd.isDig (t[0].toNat : Int) = false := by
    rw [← kd_first hz]
    simp only [Rd.isFn, Bool.or_eq_true, beq_iff_eq] at hfn
    rcases hfn with ((h | h) | h) | h <;> rw [h] <;> rfl
  have y1 := tl n45
  have y2 := tl n40
  have FT := hide1 (fn_text hfn)
  clear h1 n45 n40
  by_cases hdp : (s.1 : Int) < d
  · have hS1 : Shp (w.setCell ⟨sb, 0, none⟩ (.int .i64 d)) sb (max s.1 d, s.2) := by rw [Nat.max_eq_right (by omega)]; exact hS.set0 d rfl
    have hK1 : Keep sb w (w.setCell ⟨sb, 0, none⟩ (.int .i64 d)) := (Keep.refl _ _).setCell 0 _
    have hK2 := hK1.setCell 1 (.int .i64 ((s.2 : Int) + 1))
    have hS2 : Shp (World.setCell (w.setCell ⟨sb, 0, none⟩ (.int .i64 d)) ⟨sb, 1, none⟩ (.int .i64 ((s.2 : Int) + 1))) sb (max s.1 d, s.2 + 1) := hS1.set1 (s.2 + 1) (by simp)
    have hRow2 := hRow.keep hK2 hg
    go_enter Tryz.func25, Tryz.ntmps25
    go_wp2_with fail
    refine (NO.out.p1 _ hRow).mono ?_
    rintro e w' ⟨rfl, rfl⟩
    go_wp2_with fail
    refine (NO.out.p2 _ hRow).mono ?_
    rintro e w' ⟨rfl, rfl⟩
    go_wp2_with (first | (go_at_call 34; refine (rdigit_any _ _).mono ?_; rintro e w' ⟨rfl, rfl⟩) | (go_at_call 38; refine (function_any _ _).mono ?_; rintro e w' ⟨rfl, rfl⟩))
    refine (IH.out _ (i + 2) (j - 1) (d + 1) (max s.1 d, s.2 + 1) x s2 _ _ _ (by simp) (by omega) (by simp) hS2 hRow2 H1.out hn (by omega)).mono ?_
    rintro e w3 ⟨v3, rfl, hE3, hS3, hK3⟩
    obtain ⟨b3, hb3⟩ := hE3.ptr
    rw [hb3]
    rw [hb3] at hE3
    clear hb3
    go_wp2_with fail
    go_ret
    exact un_post sb w w3 x s2 b3 _ t FT.out.1 FT.out.2 hE3 hS3 (hK2.trans hK3)
  · have hS1 : Shp w sb (max s.1 d, s.2) := by rw [Nat.max_eq_left (by omega)]; exact hS
    have hK1 : Keep sb w w := Keep.refl _ _
    have hK2 := hK1.setCell 1 (.int .i64 ((s.2 : Int) + 1))
    have hS2 : Shp (World.setCell w ⟨sb, 1, none⟩ (.int .i64 ((s.2 : Int) + 1))) sb (max s.1 d, s.2 + 1) := hS1.set1 (s.2 + 1) (by simp)
    have hRow2 := hRow.keep hK2 hg
    go_enter Tryz.func25, Tryz.ntmps25
    go_wp2_with fail
    refine (NO.out.p1 _ hRow).mono ?_
    rintro e w' ⟨rfl, rfl⟩
    go_wp2_with fail
    refine (NO.out.p2 _ hRow).mono ?_
    rintro e w' ⟨rfl, rfl⟩
    go_wp2_with (first | (go_at_call 34; refine (rdigit_any _ _).mono ?_; rintro e w' ⟨rfl, rfl⟩) | (go_at_call 38; refine (function_any _ _).mono ?_; rintro e w' ⟨rfl, rfl⟩))
    refine (IH.out _ (i + 2) (j - 1) (d + 1) (max s.1 d, s.2 + 1) x s2 _ _ _ (by simp) (by omega) (by simp) hS2 hRow2 H1.out hn (by omega)).mono ?_
    rintro e w3 ⟨v3, rfl, hE3, hS3, hK3⟩
    obtain ⟨b3, hb3⟩ := hE3.ptr
    rw [hb3]
    rw [hb3] at hE3
    clear hb3
    go_wp2_with fail
    go_ret
    exact un_post sb w w3 x s2 b3 _ t FT.out.1 FT.out.2 hE3 hS3 (hK2.trans hK3)

end Go.Proofs.YtmepffenlgedbaaGreatDoor
