/-
  THE WALK of (shape).tree: an operation of products is the last one.
-/
import Derived.Test.YtmepffenlgedbaaGreatDoorRTree2
set_option linter.unusedSimpArgs false
namespace Go.Proofs.YtmepffenlgedbaaGreatDoor
open Go.RowKit

set_option maxRecDepth 100000 in
set_option maxHeartbeats 1000000 in
theorem tree_op2 (sb g cap : Nat) (ws : List Rd.Wd) (hl : ws.length ≤ 121) (hg : g ≠ sb) (f : Nat) (IH : Hid (TSaid sb g cap ws f)) (w : World) (i j d k : Nat) (s s1 s2 : Rd.Tally) (l r : Rd.Tr) (hS : Shp w sb s) (hRow : RowAt w g ws)
    (hij : i < j) (hj : j ≤ ws.length) (hk1 : i < k) (hk2 : k < j) (q : Int) (hq0 : Rd.lastOf ws [43] [45] i j = q) (hqn : q < 0) (hq1 : Rd.lastOf ws [42] [47] i j = (k : Int)) (hop : Rd.isOp (Rd.txt ws k) = true)
    (h1 : Rd.rtree ws f i k d (s.1, s.2 + 1) = some (l, s1)) (h2 : Rd.rtree ws f (k + 1) j d s1 = some (r, s2)) (hn : s2.2 ≤ 1000) (hd : d + (j - i) ≤ 500) :
    Calls Tryz.prog 25 #[.pointer (some ⟨sb, 0, none⟩), .slice (some ⟨g, 0, none⟩) ws.length cap, .int .i64 i, .int .i64 j, .int .i64 d] w (TPost sb w (Rd.opT (Rd.opK (Rd.txt ws k)) l r) s2) := by
  have m1 := rtree_nodes _ _ _ _ _ _ _ h1
  have m2 := rtree_nodes _ _ _ _ _ _ _ h2
  simp only at m1
  have c1 : w.cell? ⟨sb, 1, none⟩ = some (.int .i64 s.2) := cell_of_block hS rfl
  have f1 : w.frozen? ⟨sb, 1, none⟩ = false := frozen_of_block hS
  have hlt := heap_lt hS
  have LP0 : Hid (∀ W, RowAt W g ws → Calls Tryz.prog 39 #[.slice (some ⟨g, 0, none⟩) ws.length cap, .int .i64 i, .int .i64 j, .string ⟨#[43]⟩, .string ⟨#[45]⟩] W fun e w' => e = .returned (.int .i64 q) ∧ W = w') := by
    intro W hW
    have := rlast_any W g cap ws i j ⟨#[43]⟩ ⟨#[45]⟩ hW hl (by omega) hj
    rw [hq0] at this
    exact this
  have LP : Hid (∀ W, RowAt W g ws → Calls Tryz.prog 39 #[.slice (some ⟨g, 0, none⟩) ws.length cap, .int .i64 i, .int .i64 j, .string ⟨#[42]⟩, .string ⟨#[47]⟩] W fun e w' => e = .returned (.int .i64 (k : Int)) ∧ W = w') := by
    intro W hW
    have := rlast_any W g cap ws i j ⟨#[42]⟩ ⟨#[47]⟩ hW hl (by omega) hj
    rw [hq1] at this
    exact this
  have H1 := hide1 h1
  have H2 := hide1 h2
  have HOP := hide1 hop
  have hS1 := hS.set1 (s.2 + 1) (m := (s.2 : Int) + 1) (by simp)
  have hK1 : Keep sb w (w.setCell ⟨sb, 1, none⟩ (.int .i64 ((s.2 : Int) + 1))) := (Keep.refl _ _).setCell 1 _
  have hRow1 := hRow.keep hK1 hg
  obtain ⟨e0, _⟩ := row_cells hRow k (by omega)
  clear h1 h2 hop hq1 hq0
  go_enter Tryz.func25, Tryz.ntmps25
  go_wp2_with fail
  refine (LP0.out _ hRow).mono ?_
  rintro e w' ⟨rfl, rfl⟩
  go_wp2_with fail
  refine (LP.out _ hRow).mono ?_
  rintro e w' ⟨rfl, rfl⟩
  go_wp2_with fail
  have hkl : k < ws.length := by omega
  go_region_with (first
    | (go_at_call 25; have _t := hE2; refine (IH.out _ (k + 1) j d s1 r s2 _ _ _ (by first | (simp; done) | (rw [IntKind.wrap_i64]; omega)) rfl rfl ?_ ?_ H2.out hn (by omega)).mono ?_; exact hS2; exact hRow2; rintro e w3 ⟨v3, rfl, hE3, hS3, hK3⟩; have hRow3 := hRow2.keep hK3 hg; have e03 := (row_cells hRow3 k hkl).1; have hg3 := RowAt.lt hRow3; obtain ⟨b3, hb3⟩ := hE3.ptr; rw [hb3]; rw [hb3] at hE3; clear hb3)
    | (go_at_call 25; refine (IH.out _ i k d (s.1, s.2 + 1) l s1 _ _ _ rfl rfl rfl ?_ ?_ H1.out (by omega) (by omega)).mono ?_; exact hS1; exact hRow1; rintro e w2 ⟨v2, rfl, hE2, hS2, hK2⟩; have hRow2 : RowAt w2 g ws := RowAt.keep (w := (w.setCell ⟨sb, 1, none⟩ (.int .i64 ((s.2 : Int) + 1))).drew) hRow1 hK2 hg; have e02 := (row_cells hRow2 k hkl).1; have hg2 := RowAt.lt hRow2; obtain ⟨b2, hb2⟩ := hE2.ptr; rw [hb2]; rw [hb2] at hE2; clear hb2))
  all_goals
    go_wp2_with fail
    go_ret
  all_goals exact op_post sb w w2 w3 k ws l r s2 b2 b3 hE2 hK3 hE3 hS3 (((hK1.drewN 1).trans hK2).trans hK3) HOP.out
end Go.Proofs.YtmepffenlgedbaaGreatDoor
