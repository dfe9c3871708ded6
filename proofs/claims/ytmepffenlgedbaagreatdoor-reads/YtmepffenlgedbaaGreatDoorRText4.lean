/-
  THE WALKS of realstree's Text: functions.
-/
import Derived.Test.YtmepffenlgedbaaGreatDoorRText3
set_option linter.unusedSimpArgs false
namespace Go.Proofs.YtmepffenlgedbaaGreatDoor
open Go.RowKit
open Go.Deep (BT)

set_option maxRecDepth 100000 in
set_option maxHeartbeats 1000000 in
theorem rt_fn10 (b kb lb : Nat) (w : World) (l : List UInt8) (pv qv tv : Value) (h : w.heap[b]? = some (.cells #[.string (Rd.opName 10), .bool false, pv, .bool false, qv, tv, .slice (some ⟨kb, 0, none⟩) 1 1] 62 (0, 0))) (hkb : w.heap[kb]? = some (.cells #[.pointer (some ⟨lb, 0, none⟩)] 28 (0, 0))) (hlen : l.length ≤ 1000010)
    (hT : ∀ w1, Below w.heap.size w w1 → Calls Tryz.prog 85 #[.pointer (some ⟨lb, 0, none⟩)] w1 (TxtPost w1 l)) :
    Calls Tryz.prog 85 #[.pointer (some ⟨b, 0, none⟩)] w (TxtPost w (Rd.sym 10 ++ 40 :: (l ++ [41]))) := by
  have c0 : w.cell? ⟨b, 0, none⟩ = some (.string (Rd.opName 10)) := cell_of_block h rfl
  have c6 : w.cell? ⟨b, 6, none⟩ = some (.slice (some ⟨kb, 0, none⟩) 1 1) := cell_of_block h rfl
  have k0 : w.cell? ⟨kb, 0, none⟩ = some (.pointer (some ⟨lb, 0, none⟩)) := cell_of_block hkb rfl
  have hbl := heap_lt h
  have hkl := heap_lt hkb
  have HT := hidp hT
  clear h hkb hT
  simp only [Rd.opName] at c0
  go_enter Tryz.func85, Tryz.ntmps85
  go_wp2_with fail
  go_region_with (go_at_call 85; (refine (HT.out w.drew (drew_below w)).mono ?_; rintro e w1 ⟨u, rfl, hu, hb0⟩; have hb1 := undrew hb0; clear hb0; have hsz : u.size ≤ 1000010 := Nat.le_trans (Nat.le_of_eq hu.size) hlen; have d0 := (hb1.cell (p := ⟨b, 0, none⟩) hbl).trans c0))
  all_goals
    go_wp2_with fail
    go_ret
    exact ⟨_, rfl, ((((Str.mk' _).app (Str.mk' [40])).app hu).app (Str.mk' [41])).to (by simp; rfl), hb1⟩

set_option maxRecDepth 100000 in
set_option maxHeartbeats 1000000 in
theorem rt_fn11 (b kb lb : Nat) (w : World) (l : List UInt8) (pv qv tv : Value) (h : w.heap[b]? = some (.cells #[.string (Rd.opName 11), .bool false, pv, .bool false, qv, tv, .slice (some ⟨kb, 0, none⟩) 1 1] 62 (0, 0))) (hkb : w.heap[kb]? = some (.cells #[.pointer (some ⟨lb, 0, none⟩)] 28 (0, 0))) (hlen : l.length ≤ 1000010)
    (hT : ∀ w1, Below w.heap.size w w1 → Calls Tryz.prog 85 #[.pointer (some ⟨lb, 0, none⟩)] w1 (TxtPost w1 l)) :
    Calls Tryz.prog 85 #[.pointer (some ⟨b, 0, none⟩)] w (TxtPost w (Rd.sym 11 ++ 40 :: (l ++ [41]))) := by
  have c0 : w.cell? ⟨b, 0, none⟩ = some (.string (Rd.opName 11)) := cell_of_block h rfl
  have c6 : w.cell? ⟨b, 6, none⟩ = some (.slice (some ⟨kb, 0, none⟩) 1 1) := cell_of_block h rfl
  have k0 : w.cell? ⟨kb, 0, none⟩ = some (.pointer (some ⟨lb, 0, none⟩)) := cell_of_block hkb rfl
  have hbl := heap_lt h
  have hkl := heap_lt hkb
  have HT := hidp hT
  clear h hkb hT
  simp only [Rd.opName] at c0
  go_enter Tryz.func85, Tryz.ntmps85
  go_wp2_with fail
  go_region_with (go_at_call 85; (refine (HT.out w.drew (drew_below w)).mono ?_; rintro e w1 ⟨u, rfl, hu, hb0⟩; have hb1 := undrew hb0; clear hb0; have hsz : u.size ≤ 1000010 := Nat.le_trans (Nat.le_of_eq hu.size) hlen; have d0 := (hb1.cell (p := ⟨b, 0, none⟩) hbl).trans c0))
  all_goals
    go_wp2_with fail
    go_ret
    exact ⟨_, rfl, ((((Str.mk' _).app (Str.mk' [40])).app hu).app (Str.mk' [41])).to (by simp; rfl), hb1⟩

set_option maxRecDepth 100000 in
set_option maxHeartbeats 1000000 in
theorem rt_fn12 (b kb lb : Nat) (w : World) (l : List UInt8) (pv qv tv : Value) (h : w.heap[b]? = some (.cells #[.string (Rd.opName 12), .bool false, pv, .bool false, qv, tv, .slice (some ⟨kb, 0, none⟩) 1 1] 62 (0, 0))) (hkb : w.heap[kb]? = some (.cells #[.pointer (some ⟨lb, 0, none⟩)] 28 (0, 0))) (hlen : l.length ≤ 1000010)
    (hT : ∀ w1, Below w.heap.size w w1 → Calls Tryz.prog 85 #[.pointer (some ⟨lb, 0, none⟩)] w1 (TxtPost w1 l)) :
    Calls Tryz.prog 85 #[.pointer (some ⟨b, 0, none⟩)] w (TxtPost w (Rd.sym 12 ++ 40 :: (l ++ [41]))) := by
  have c0 : w.cell? ⟨b, 0, none⟩ = some (.string (Rd.opName 12)) := cell_of_block h rfl
  have c6 : w.cell? ⟨b, 6, none⟩ = some (.slice (some ⟨kb, 0, none⟩) 1 1) := cell_of_block h rfl
  have k0 : w.cell? ⟨kb, 0, none⟩ = some (.pointer (some ⟨lb, 0, none⟩)) := cell_of_block hkb rfl
  have hbl := heap_lt h
  have hkl := heap_lt hkb
  have HT := hidp hT
  clear h hkb hT
  simp only [Rd.opName] at c0
  go_enter Tryz.func85, Tryz.ntmps85
  go_wp2_with fail
  go_region_with (go_at_call 85; (refine (HT.out w.drew (drew_below w)).mono ?_; rintro e w1 ⟨u, rfl, hu, hb0⟩; have hb1 := undrew hb0; clear hb0; have hsz : u.size ≤ 1000010 := Nat.le_trans (Nat.le_of_eq hu.size) hlen; have d0 := (hb1.cell (p := ⟨b, 0, none⟩) hbl).trans c0))
  all_goals
    go_wp2_with fail
    go_ret
    exact ⟨_, rfl, ((((Str.mk' _).app (Str.mk' [40])).app hu).app (Str.mk' [41])).to (by simp; rfl), hb1⟩

set_option maxRecDepth 100000 in
set_option maxHeartbeats 1000000 in
theorem rt_fn13 (b kb lb : Nat) (w : World) (l : List UInt8) (pv qv tv : Value) (h : w.heap[b]? = some (.cells #[.string (Rd.opName 13), .bool false, pv, .bool false, qv, tv, .slice (some ⟨kb, 0, none⟩) 1 1] 62 (0, 0))) (hkb : w.heap[kb]? = some (.cells #[.pointer (some ⟨lb, 0, none⟩)] 28 (0, 0))) (hlen : l.length ≤ 1000010)
    (hT : ∀ w1, Below w.heap.size w w1 → Calls Tryz.prog 85 #[.pointer (some ⟨lb, 0, none⟩)] w1 (TxtPost w1 l)) :
    Calls Tryz.prog 85 #[.pointer (some ⟨b, 0, none⟩)] w (TxtPost w (Rd.sym 13 ++ 40 :: (l ++ [41]))) := by
  have c0 : w.cell? ⟨b, 0, none⟩ = some (.string (Rd.opName 13)) := cell_of_block h rfl
  have c6 : w.cell? ⟨b, 6, none⟩ = some (.slice (some ⟨kb, 0, none⟩) 1 1) := cell_of_block h rfl
  have k0 : w.cell? ⟨kb, 0, none⟩ = some (.pointer (some ⟨lb, 0, none⟩)) := cell_of_block hkb rfl
  have hbl := heap_lt h
  have hkl := heap_lt hkb
  have HT := hidp hT
  clear h hkb hT
  simp only [Rd.opName] at c0
  go_enter Tryz.func85, Tryz.ntmps85
  go_wp2_with fail
  go_region_with (go_at_call 85; (refine (HT.out w.drew (drew_below w)).mono ?_; rintro e w1 ⟨u, rfl, hu, hb0⟩; have hb1 := undrew hb0; clear hb0; have hsz : u.size ≤ 1000010 := Nat.le_trans (Nat.le_of_eq hu.size) hlen; have d0 := (hb1.cell (p := ⟨b, 0, none⟩) hbl).trans c0))
  all_goals
    go_wp2_with fail
    go_ret
    exact ⟨_, rfl, ((((Str.mk' _).app (Str.mk' [40])).app hu).app (Str.mk' [41])).to (by simp; rfl), hb1⟩

theorem rt_fn (b kb lb : Nat) (w : World) (k : Int) (hk : k = 10 ∨ k = 11 ∨ k = 12 ∨ k = 13) (l : List UInt8) (pv qv tv : Value) (h : w.heap[b]? = some (.cells #[.string (Rd.opName k), .bool false, pv, .bool false, qv, tv, .slice (some ⟨kb, 0, none⟩) 1 1] 62 (0, 0))) (hkb : w.heap[kb]? = some (.cells #[.pointer (some ⟨lb, 0, none⟩)] 28 (0, 0))) (hlen : l.length ≤ 1000010)
    (hT : ∀ w1, Below w.heap.size w w1 → Calls Tryz.prog 85 #[.pointer (some ⟨lb, 0, none⟩)] w1 (TxtPost w1 l)) :
    Calls Tryz.prog 85 #[.pointer (some ⟨b, 0, none⟩)] w (TxtPost w (Rd.sym k ++ 40 :: (l ++ [41]))) := by
  rcases hk with rfl | rfl | rfl | rfl
  · exact rt_fn10 b kb lb w l pv qv tv h hkb hlen hT
  · exact rt_fn11 b kb lb w l pv qv tv h hkb hlen hT
  · exact rt_fn12 b kb lb w l pv qv tv h hkb hlen hT
  · exact rt_fn13 b kb lb w l pv qv tv h hkb hlen hT

end Go.Proofs.YtmepffenlgedbaaGreatDoor
