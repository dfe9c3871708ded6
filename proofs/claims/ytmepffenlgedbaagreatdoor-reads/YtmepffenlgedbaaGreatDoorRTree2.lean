/-
  THE WALK of (shape).tree: an operation is the last one.
-/
import Derived.Test.YtmepffenlgedbaaGreatDoorRTree
import Derived.Deep.DeepMust
set_option linter.unusedSimpArgs false
namespace Go.Proofs.YtmepffenlgedbaaGreatDoor
open Go.RowKit

theorem op_text {t : ByteArray} (h : Rd.isOp t.data.toList = true) : t = Rd.opName (Rd.opK t.data.toList) := by
  simp only [Rd.isOp, Bool.or_eq_true] at h
  rcases h with ((h | h) | h) | h
  all_goals
    have e := lit_of h
    subst e
    rfl

theorem RowAt.lt {g : Nat} {ws : List Rd.Wd} {w : World} (h : RowAt w g ws) : g < w.heap.size := by
  obtain ⟨cur, h1, _⟩ := h
  exact heap_lt h1

theorem rtree_nodes {ws : List Rd.Wd} : ∀ f i j d s t s', Rd.rtree ws f i j d s = some (t, s') → s.2 + 1 ≤ s'.2 := by
  intro f
  induction f with
  | zero => intro i j d s t s' h; cases h
  | succ f ih =>
    intro i j d s t s' h
    rw [Rd.rtree] at h
    cases h0 : (!(decide (i < j) && decide (j ≤ ws.length))) with
    | true => rw [h0] at h; cases h
    | false =>
      rw [h0] at h
      simp only [cond_false] at h
      cases h1 : decide (0 ≤ Rd.lastAt ws i j) with
      | true =>
        rw [h1] at h
        simp only [cond_true] at h
        cases h2 : Rd.rtree ws f i (Rd.lastAt ws i j).toNat d (s.1, s.2 + 1) with
        | none => rw [h2] at h; cases h
        | some y =>
          obtain ⟨l, s1⟩ := y
          rw [h2] at h
          simp only at h
          cases h3 : Rd.rtree ws f ((Rd.lastAt ws i j).toNat + 1) j d s1 with
          | none => rw [h3] at h; cases h
          | some y =>
            obtain ⟨r, s2⟩ := y
            rw [h3] at h
            simp only [Option.some.injEq, Prod.mk.injEq] at h
            have e1 := ih _ _ _ _ _ _ h2
            have e2 := ih _ _ _ _ _ _ h3
            rw [← h.2]
            simp only at e1
            omega
      | false =>
        rw [h1] at h
        simp only [cond_false] at h
        cases h2 : (Rd.txt ws i == [45]) with
        | true =>
          rw [h2] at h
          simp only [cond_true] at h
          cases h3 : Rd.rtree ws f (i + 1) j (d + 1) (s.1, s.2 + 1) with
          | none => rw [h3] at h; cases h
          | some y =>
            obtain ⟨r, s2⟩ := y
            rw [h3] at h
            simp only [Option.some.injEq, Prod.mk.injEq] at h
            have e1 := ih _ _ _ _ _ _ h3
            rw [← h.2]
            simp only at e1
            omega
        | false =>
          rw [h2] at h
          simp only [cond_false] at h
          cases h3 : (Rd.txt ws i == [40]) with
          | true =>
            rw [h3] at h
            have e1 := ih _ _ _ _ _ _ h
            simpa using e1
          | false =>
            rw [h3] at h
            simp only [cond_false] at h
            cases h4 : (Rd.kd (Rd.txt ws i) == 1) with
            | true =>
              rw [h4] at h
              simp only [cond_true, Option.some.injEq, Prod.mk.injEq] at h
              rw [← h.2]
              exact Nat.le_refl _
            | false =>
              rw [h4] at h
              simp only [cond_false] at h
              cases h5 : Rd.isFn (Rd.txt ws i) with
              | true =>
                rw [h5] at h
                simp only [cond_true] at h
                cases h6 : Rd.rtree ws f (i + 2) (j - 1) (d + 1) (max s.1 d, s.2 + 1) with
                | none => rw [h6] at h; cases h
                | some y =>
                  obtain ⟨r, s2⟩ := y
                  rw [h6] at h
                  simp only [Option.some.injEq, Prod.mk.injEq] at h
                  have e1 := ih _ _ _ _ _ _ h6
                  rw [← h.2]
                  simp only at e1
                  omega
              | false =>
                rw [h5] at h
                simp only [cond_false] at h
                cases h6 : (Rd.txt ws i == [] || !Rd.termsOkB ws ((j - i - 1) / 2) (i + 2) || !(Rd.nameK (Rd.txt ws i) == 2 || Rd.nameK (Rd.txt ws i) == 3 || Rd.nameK (Rd.txt ws i) == 4)) with
                | true => rw [h6] at h; cases h
                | false =>
                  rw [h6] at h
                  simp only [cond_false, Option.some.injEq, Prod.mk.injEq] at h
                  rw [← h.2]
                  exact Nat.le_refl _

theorem op_post (sb : Nat) (w w2 w3 : World) (k : Nat) (ws : List Rd.Wd) (l r : Rd.Tr) (s2 : Rd.Tally) (b2 b3 : Nat) (hE2 : REnc sb w2 l (.pointer (some ⟨b2, 0, none⟩))) (hK3 : Keep sb w2 w3) (hE3 : REnc sb w3 r (.pointer (some ⟨b3, 0, none⟩))) (hS3 : Shp w3 sb s2) (hK : Keep sb w w3) (hop : Rd.isOp (Rd.txt ws k) = true) :
    TPost sb w (Rd.opT (Rd.opK (Rd.txt ws k)) l r) s2 (.returned (.pointer (some ⟨w3.heap.size + 1, 0, none⟩)))
      ((w3.alloc (.cells #[.pointer (some ⟨b2, 0, none⟩), .pointer (some ⟨b3, 0, none⟩)] 28)).alloc (.cells #[.string (Rd.wordAt ws k).text, .bool false, .slice none 0 0, .bool false, .slice none 0 0, .slice none 0 0, .slice (some ⟨w3.heap.size, 0, none⟩) 2 2] 62)) := by
  have hlt : sb < w3.heap.size := heap_lt hS3
  have hKK : ∀ o o', Keep sb w3 ((w3.alloc o).alloc o') := fun o o' => ((Keep.refl _ _).alloc _).alloc _
  have htx : (Rd.wordAt ws k).text = Rd.opName (Rd.opK (Rd.txt ws k)) := op_text hop
  have hnq : Rd.opK (Rd.txt ws k) ≠ 1 := by
    simp only [Rd.isOp, Bool.or_eq_true, beq_iff_eq] at hop
    rcases hop with ((h | h) | h) | h <;> rw [h] <;> decide
  refine ⟨_, rfl, ?_, (hS3.alloc _).alloc _, hK.trans (hKK _ _)⟩
  refine ⟨w3.heap.size + 1, .slice none 0 0, .slice none 0 0, .slice none 0 0, .slice (some ⟨w3.heap.size, 0, none⟩) 2 2, rfl, by omega, ?_, Or.inr ⟨hnq, rfl, rfl⟩, Or.inl ⟨rfl, rfl⟩, Or.inr (Or.inr ⟨w3.heap.size, _, _, rfl, by omega, ?_, REnc.keep (hK3.trans (hKK _ _)) hE2, REnc.keep (hKK _ _) hE3⟩)⟩
  · rw [htx]
    exact cells_new2 _ _ _
  · rw [Below.heap_alloc _ _ _ (by simp)]
    exact cells_new _ _

set_option maxRecDepth 100000 in
set_option maxHeartbeats 1000000 in
theorem tree_op (sb g cap : Nat) (ws : List Rd.Wd) (hl : ws.length ≤ 121) (hg : g ≠ sb) (f : Nat) (IH : Hid (TSaid sb g cap ws f)) (w : World) (i j d k : Nat) (s s1 s2 : Rd.Tally) (l r : Rd.Tr) (hS : Shp w sb s) (hRow : RowAt w g ws)
    (hij : i < j) (hj : j ≤ ws.length) (hk1 : i < k) (hk2 : k < j) (hq1 : Rd.lastOf ws [43] [45] i j = (k : Int)) (hop : Rd.isOp (Rd.txt ws k) = true)
    (h1 : Rd.rtree ws f i k d (s.1, s.2 + 1) = some (l, s1)) (h2 : Rd.rtree ws f (k + 1) j d s1 = some (r, s2)) (hn : s2.2 ≤ 1000) (hd : d + (j - i) ≤ 500) :
    Calls Tryz.prog 25 #[.pointer (some ⟨sb, 0, none⟩), .slice (some ⟨g, 0, none⟩) ws.length cap, .int .i64 i, .int .i64 j, .int .i64 d] w (TPost sb w (Rd.opT (Rd.opK (Rd.txt ws k)) l r) s2) := by
  have m1 := rtree_nodes _ _ _ _ _ _ _ h1
  have m2 := rtree_nodes _ _ _ _ _ _ _ h2
  simp only at m1
  have c1 : w.cell? ⟨sb, 1, none⟩ = some (.int .i64 s.2) := cell_of_block hS rfl
  have f1 : w.frozen? ⟨sb, 1, none⟩ = false := frozen_of_block hS
  have hlt := heap_lt hS
  have LP : Hid (∀ W, RowAt W g ws → Calls Tryz.prog 39 #[.slice (some ⟨g, 0, none⟩) ws.length cap, .int .i64 i, .int .i64 j, .string ⟨#[43]⟩, .string ⟨#[45]⟩] W fun e w' => e = .returned (.int .i64 (k : Int)) ∧ W = w') := by
    intro W hW
    have := rlast_any W g cap ws i j ⟨#[43]⟩ ⟨#[45]⟩ hW hl (by omega) hj
    rw [hq1] at this
    exact this
  have H1 := hide1 h1
  have H2 := hide1 h2
  have HOP := hide1 hop
  have hS1 := hS.set1 (s.2 + 1) (m := (s.2 : Int) + 1) (by simp)
  have hK1 : Keep sb w (w.setCell ⟨sb, 1, none⟩ (.int .i64 ((s.2 : Int) + 1))) := (Keep.refl _ _).setCell 1 _
  have hRow1 := hRow.keep hK1 hg
  obtain ⟨e0, _⟩ := row_cells hRow k (by omega)
  clear h1 h2 hop hq1
  go_enter Tryz.func25, Tryz.ntmps25
  go_wp2_with fail
  refine (LP.out _ hRow).mono ?_
  rintro e w' ⟨rfl, rfl⟩
  go_wp2_with fail
  have hkl : k < ws.length := by omega
  go_region_with (first
    | (go_at_call 25; have _t := hE2; refine (IH.out _ (k + 1) j d s1 r s2 _ _ _ (by first | (simp; done) | (rw [IntKind.wrap_i64]; omega)) rfl rfl ?_ ?_ H2.out hn (by omega)).mono ?_; exact hS2; exact hRow2; rintro e w3 ⟨v3, rfl, hE3, hS3, hK3⟩; have hRow3 := hRow2.keep hK3 hg; have e03 := (row_cells hRow3 k hkl).1; have hg3 := RowAt.lt hRow3; obtain ⟨b3, hb3⟩ := hE3.ptr; rw [hb3]; rw [hb3] at hE3; clear hb3)
    | (go_at_call 25; refine (IH.out _ i k d (s.1, s.2 + 1) l s1 _ _ _ rfl rfl rfl ?_ ?_ H1.out (by omega) (by omega)).mono ?_; exact hS1; exact hRow1; rintro e w2 ⟨v2, rfl, hE2, hS2, hK2⟩; have hRow2 : RowAt w2 g ws := RowAt.keep (w := (w.setCell ⟨sb, 1, none⟩ (.int .i64 ((s.2 : Int) + 1))).drew) hRow1 hK2 hg; have e02 := (row_cells hRow2 k hkl).1; have hg2 := RowAt.lt hRow2; obtain ⟨b2, hb2⟩ := hE2.ptr; rw [hb2]; rw [hb2] at hE2; clear hb2))
  all_goals
    go_wp2_with fail
    go_ret
  all_goals exact op_post sb w w2 w3 k ws l r s2 b2 b3 hE2 hK3 hE3 hS3 (((hK1.drewN 1).trans hK2).trans hK3) HOP.out
end Go.Proofs.YtmepffenlgedbaaGreatDoor
