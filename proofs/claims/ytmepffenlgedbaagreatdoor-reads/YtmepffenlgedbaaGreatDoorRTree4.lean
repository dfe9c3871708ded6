/-
  THE WALK of (shape).tree: no operation stands openly: a minus sign.
-/
import Derived.Test.YtmepffenlgedbaaGreatDoorRTree2
set_option linter.unusedSimpArgs false
namespace Go.Proofs.YtmepffenlgedbaaGreatDoor
open Go.RowKit

/-- A node with one kid. -/
theorem un_post (sb : Nat) (w w3 : World) (x : Rd.Tr) (s2 : Rd.Tally) (b3 : Nat) (kk : Int) (nm : ByteArray) (hnm : nm = Rd.opName kk) (hkk : kk ≠ 1) (hE3 : REnc sb w3 x (.pointer (some ⟨b3, 0, none⟩))) (hS3 : Shp w3 sb s2) (hK : Keep sb w w3) :
    TPost sb w (Rd.unT kk x) s2 (.returned (.pointer (some ⟨w3.heap.size + 1, 0, none⟩)))
      ((w3.alloc (.cells #[.pointer (some ⟨b3, 0, none⟩)] 28)).alloc (.cells #[.string nm, .bool false, .slice none 0 0, .bool false, .slice none 0 0, .slice none 0 0, .slice (some ⟨w3.heap.size, 0, none⟩) 1 1] 62)) := by
  have hlt : sb < w3.heap.size := heap_lt hS3
  have hKK : ∀ o o', Keep sb w3 ((w3.alloc o).alloc o') := fun o o' => ((Keep.refl _ _).alloc _).alloc _
  refine ⟨_, rfl, ?_, (hS3.alloc _).alloc _, hK.trans (hKK _ _)⟩
  refine ⟨w3.heap.size + 1, .slice none 0 0, .slice none 0 0, .slice none 0 0, .slice (some ⟨w3.heap.size, 0, none⟩) 1 1, rfl, by omega, ?_, Or.inr ⟨hkk, rfl, rfl⟩, Or.inl ⟨rfl, rfl⟩, Or.inr (Or.inl ⟨rfl, w3.heap.size, _, rfl, by omega, ?_, REnc.keep (hKK _ _) hE3⟩)⟩
  · rw [hnm]
    exact cells_new2 _ _ _
  · rw [Below.heap_alloc _ _ _ (by simp)]
    exact cells_new _ _

/-- Neither of the two looks finds an operation. -/
structure NoOp (g cap : Nat) (ws : List Rd.Wd) (i j : Nat) (q1 q2 : Int) : Prop where
  n1 : q1 < 0
  n2 : q2 < 0
  p1 : ∀ W, RowAt W g ws → Calls Tryz.prog 39 #[.slice (some ⟨g, 0, none⟩) ws.length cap, .int .i64 i, .int .i64 j, .string ⟨#[43]⟩, .string ⟨#[45]⟩] W fun e w' => e = .returned (.int .i64 q1) ∧ W = w'
  p2 : ∀ W, RowAt W g ws → Calls Tryz.prog 39 #[.slice (some ⟨g, 0, none⟩) ws.length cap, .int .i64 i, .int .i64 j, .string ⟨#[42]⟩, .string ⟨#[47]⟩] W fun e w' => e = .returned (.int .i64 q2) ∧ W = w'

set_option maxRecDepth 100000 in
set_option maxHeartbeats 1000000 in
theorem tree_neg (sb g cap : Nat) (ws : List Rd.Wd) (hl : ws.length ≤ 121) (hg : g ≠ sb) (f : Nat) (IH : Hid (TSaid sb g cap ws f)) (w : World) (i j d : Nat) (s s2 : Rd.Tally) (x : Rd.Tr) (hS : Shp w sb s) (hRow : RowAt w g ws)
    (hij : i < j) (hj : j ≤ ws.length) (q1 q2 : Int) (NO : Hid (NoOp g cap ws i j q1 q2)) (htx : (Rd.txt ws i == [45]) = true)
    (h1 : Rd.rtree ws f (i + 1) j (d + 1) (s.1, s.2 + 1) = some (x, s2)) (hn : s2.2 ≤ 1000) (hd : d + (j - i) ≤ 500) :
    Calls Tryz.prog 25 #[.pointer (some ⟨sb, 0, none⟩), .slice (some ⟨g, 0, none⟩) ws.length cap, .int .i64 i, .int .i64 j, .int .i64 d] w (TPost sb w (Rd.unT 5 x) s2) := by
  have m1 := rtree_nodes _ _ _ _ _ _ _ h1
  simp only at m1
  have c1 : w.cell? ⟨sb, 1, none⟩ = some (.int .i64 s.2) := cell_of_block hS rfl
  have f1 : w.frozen? ⟨sb, 1, none⟩ = false := frozen_of_block hS
  have H1 := hide1 h1
  have hS1 := hS.set1 (s.2 + 1) (m := (s.2 : Int) + 1) (by simp)
  have hK1 : Keep sb w (w.setCell ⟨sb, 1, none⟩ (.int .i64 ((s.2 : Int) + 1))) := (Keep.refl _ _).setCell 1 _
  have hRow1 := hRow.keep hK1 hg
  obtain ⟨e0, _⟩ := row_cells hRow i (by omega)
  have hlit : (Rd.wordAt ws i).text = ⟨#[45]⟩ := lit_of htx
  rw [hlit] at e0
  have n1 := NO.out.n1
  have n2 := NO.out.n2
  clear h1 htx hlit
  go_enter Tryz.func25, Tryz.ntmps25
  go_wp2_with fail
  refine (NO.out.p1 _ hRow).mono ?_
  rintro e w' ⟨rfl, rfl⟩
  go_wp2_with fail
  refine (NO.out.p2 _ hRow).mono ?_
  rintro e w' ⟨rfl, rfl⟩
  go_wp2_with fail
  refine (IH.out _ (i + 1) j (d + 1) (s.1, s.2 + 1) x s2 _ _ _ (by simp) rfl (by simp) hS1 hRow1 H1.out hn (by omega)).mono ?_
  rintro e w3 ⟨v3, rfl, hE3, hS3, hK3⟩
  obtain ⟨b3, hb3⟩ := hE3.ptr
  rw [hb3]
  rw [hb3] at hE3
  clear hb3
  go_wp2_with fail
  go_ret
  exact un_post sb w w3 x s2 b3 5 _ rfl (by decide) hE3 hS3 (hK1.trans hK3)

end Go.Proofs.YtmepffenlgedbaaGreatDoor
