/-
  THE WALKS of realstree's Text: operations.
-/
import Derived.Test.YtmepffenlgedbaaGreatDoorRText3
import Derived.Deep.RegionHeld3
set_option linter.unusedSimpArgs false
namespace Go.Proofs.YtmepffenlgedbaaGreatDoor
open Go.RowKit
open Go.Deep (BT)

set_option maxRecDepth 100000 in
set_option maxHeartbeats 1000000 in
theorem rt_op6 (b kb lb qb : Nat) (w : World) (r : Int) (hr : Rd.rankK 6 = r) (l m : List UInt8) (pv qv tv : Value) (h : w.heap[b]? = some (.cells #[.string (Rd.opName 6), .bool false, pv, .bool false, qv, tv, .slice (some ⟨kb, 0, none⟩) 2 2] 62 (0, 0))) (hkb : w.heap[kb]? = some (.cells #[.pointer (some ⟨lb, 0, none⟩), .pointer (some ⟨qb, 0, none⟩)] 28 (0, 0))) (hl : l.length ≤ 1000010) (hm : m.length ≤ 1000010)
    (hL : ∀ w1, Below w.heap.size w w1 → Calls Tryz.prog 117 #[.pointer (some ⟨lb, 0, none⟩), .int .i64 r] w1 (TxtPost w1 l))
    (hR : ∀ (q : Int) w1, q = r + 1 → Below w.heap.size w w1 → Calls Tryz.prog 117 #[.pointer (some ⟨qb, 0, none⟩), .int .i64 q] w1 (TxtPost w1 m)) :
    Calls Tryz.prog 85 #[.pointer (some ⟨b, 0, none⟩)] w (TxtPost w (l ++ 32 :: (Rd.sym 6 ++ 32 :: m))) := by
  have c0 : w.cell? ⟨b, 0, none⟩ = some (.string (Rd.opName 6)) := cell_of_block h rfl
  have c6 : w.cell? ⟨b, 6, none⟩ = some (.slice (some ⟨kb, 0, none⟩) 2 2) := cell_of_block h rfl
  have k0 : w.cell? ⟨kb, 0, none⟩ = some (.pointer (some ⟨lb, 0, none⟩)) := cell_of_block hkb rfl
  have k1 : w.cell? ⟨kb, 1, none⟩ = some (.pointer (some ⟨qb, 0, none⟩)) := cell_of_block hkb rfl
  have hbl := heap_lt h
  have hkl := heap_lt hkb
  have HL := hidp hL
  have HR := hidp hR
  have RK := hidp (fun w' hc => rrank_any 6 (by decide) b w' hc)
  rw [hr] at RK
  have hr2 : 1 ≤ r ∧ r ≤ 2 := by rw [← hr]; decide
  obtain ⟨hr3, hr4⟩ := hr2
  clear h hkb hL hR hr
  simp only [Rd.opName] at c0
  go_enter Tryz.func85, Tryz.ntmps85
  go_wp2_with fail
  have hwr : IntKind.i64.wrap (r + 1) = r + 1 := by rw [IntKind.wrap_i64]; omega
  go_region_held3 (fun w' => w'.cell? ⟨b, 0, none⟩ = some (.string ⟨#[43]⟩) ∧ w'.cell? ⟨b, 6, none⟩ = some (.slice (some ⟨kb, 0, none⟩) 2 2) ∧ w'.cell? ⟨kb, 0, none⟩ = some (.pointer (some ⟨lb, 0, none⟩)) ∧ w'.cell? ⟨kb, 1, none⟩ = some (.pointer (some ⟨qb, 0, none⟩))) (go_keep)
    (first | (go_at_call 118; refine (RK.out _ ?_).mono ?_; (first | exact c0 | exact d0); rintro e w2 ⟨rfl, rfl⟩) | (go_at_call 117; have _t := hb1; refine (HR.out _ w1 (by first | rfl | (rw [IntKind.wrap_i64]; omega)) hb1).mono ?_; rintro e w3 ⟨u3, rfl, hu3, hb3⟩; obtain ⟨y4, a4, s4⟩ := add_named s3 hu3 (by simp; omega); have hb4 := hb1.trans (hb3.mono hb1.size); clear hb3; have e0 := (hb4.cell (p := ⟨b, 0, none⟩) hbl).trans c0; have e6 := (hb4.cell (p := ⟨b, 6, none⟩) hbl).trans c6; have i0 := (hb4.cell (p := ⟨kb, 0, none⟩) hkl).trans k0; have i1 := (hb4.cell (p := ⟨kb, 1, none⟩) hkl).trans k1) | (go_at_call 117; refine (HL.out w.drew (drew_below w)).mono ?_; rintro e w1 ⟨u, rfl, hu, hb0⟩; have hb1 := undrew hb0; clear hb0; obtain ⟨y1, a1, s1⟩ := add_named hu (Str.mk' [32]) (by simp; omega); obtain ⟨y2, a2, s2⟩ := add_named s1 (Str.mk' [43]) (by simp; omega); obtain ⟨y3, a3, s3⟩ := add_named s2 (Str.mk' [32]) (by simp; omega); have d0 := (hb1.cell (p := ⟨b, 0, none⟩) hbl).trans c0; have d6 := (hb1.cell (p := ⟨b, 6, none⟩) hbl).trans c6; have j0 := (hb1.cell (p := ⟨kb, 0, none⟩) hkl).trans k0; have j1 := (hb1.cell (p := ⟨kb, 1, none⟩) hkl).trans k1))
  all_goals
    go_wp2_with fail
    go_ret
    exact ⟨_, rfl, s4.to (by simp; rfl), hb4⟩

set_option maxRecDepth 100000 in
set_option maxHeartbeats 1000000 in
theorem rt_op7 (b kb lb qb : Nat) (w : World) (r : Int) (hr : Rd.rankK 7 = r) (l m : List UInt8) (pv qv tv : Value) (h : w.heap[b]? = some (.cells #[.string (Rd.opName 7), .bool false, pv, .bool false, qv, tv, .slice (some ⟨kb, 0, none⟩) 2 2] 62 (0, 0))) (hkb : w.heap[kb]? = some (.cells #[.pointer (some ⟨lb, 0, none⟩), .pointer (some ⟨qb, 0, none⟩)] 28 (0, 0))) (hl : l.length ≤ 1000010) (hm : m.length ≤ 1000010)
    (hL : ∀ w1, Below w.heap.size w w1 → Calls Tryz.prog 117 #[.pointer (some ⟨lb, 0, none⟩), .int .i64 r] w1 (TxtPost w1 l))
    (hR : ∀ (q : Int) w1, q = r + 1 → Below w.heap.size w w1 → Calls Tryz.prog 117 #[.pointer (some ⟨qb, 0, none⟩), .int .i64 q] w1 (TxtPost w1 m)) :
    Calls Tryz.prog 85 #[.pointer (some ⟨b, 0, none⟩)] w (TxtPost w (l ++ 32 :: (Rd.sym 7 ++ 32 :: m))) := by
  have c0 : w.cell? ⟨b, 0, none⟩ = some (.string (Rd.opName 7)) := cell_of_block h rfl
  have c6 : w.cell? ⟨b, 6, none⟩ = some (.slice (some ⟨kb, 0, none⟩) 2 2) := cell_of_block h rfl
  have k0 : w.cell? ⟨kb, 0, none⟩ = some (.pointer (some ⟨lb, 0, none⟩)) := cell_of_block hkb rfl
  have k1 : w.cell? ⟨kb, 1, none⟩ = some (.pointer (some ⟨qb, 0, none⟩)) := cell_of_block hkb rfl
  have hbl := heap_lt h
  have hkl := heap_lt hkb
  have HL := hidp hL
  have HR := hidp hR
  have RK := hidp (fun w' hc => rrank_any 7 (by decide) b w' hc)
  rw [hr] at RK
  have hr2 : 1 ≤ r ∧ r ≤ 2 := by rw [← hr]; decide
  obtain ⟨hr3, hr4⟩ := hr2
  clear h hkb hL hR hr
  simp only [Rd.opName] at c0
  go_enter Tryz.func85, Tryz.ntmps85
  go_wp2_with fail
  have hwr : IntKind.i64.wrap (r + 1) = r + 1 := by rw [IntKind.wrap_i64]; omega
  go_region_held3 (fun w' => w'.cell? ⟨b, 0, none⟩ = some (.string ⟨#[45]⟩) ∧ w'.cell? ⟨b, 6, none⟩ = some (.slice (some ⟨kb, 0, none⟩) 2 2) ∧ w'.cell? ⟨kb, 0, none⟩ = some (.pointer (some ⟨lb, 0, none⟩)) ∧ w'.cell? ⟨kb, 1, none⟩ = some (.pointer (some ⟨qb, 0, none⟩))) (go_keep)
    (first | (go_at_call 118; refine (RK.out _ ?_).mono ?_; (first | exact c0 | exact d0); rintro e w2 ⟨rfl, rfl⟩) | (go_at_call 117; have _t := hb1; refine (HR.out _ w1 (by first | rfl | (rw [IntKind.wrap_i64]; omega)) hb1).mono ?_; rintro e w3 ⟨u3, rfl, hu3, hb3⟩; obtain ⟨y4, a4, s4⟩ := add_named s3 hu3 (by simp; omega); have hb4 := hb1.trans (hb3.mono hb1.size); clear hb3; have e0 := (hb4.cell (p := ⟨b, 0, none⟩) hbl).trans c0; have e6 := (hb4.cell (p := ⟨b, 6, none⟩) hbl).trans c6; have i0 := (hb4.cell (p := ⟨kb, 0, none⟩) hkl).trans k0; have i1 := (hb4.cell (p := ⟨kb, 1, none⟩) hkl).trans k1) | (go_at_call 117; refine (HL.out w.drew (drew_below w)).mono ?_; rintro e w1 ⟨u, rfl, hu, hb0⟩; have hb1 := undrew hb0; clear hb0; obtain ⟨y1, a1, s1⟩ := add_named hu (Str.mk' [32]) (by simp; omega); obtain ⟨y2, a2, s2⟩ := add_named s1 (Str.mk' [45]) (by simp; omega); obtain ⟨y3, a3, s3⟩ := add_named s2 (Str.mk' [32]) (by simp; omega); have d0 := (hb1.cell (p := ⟨b, 0, none⟩) hbl).trans c0; have d6 := (hb1.cell (p := ⟨b, 6, none⟩) hbl).trans c6; have j0 := (hb1.cell (p := ⟨kb, 0, none⟩) hkl).trans k0; have j1 := (hb1.cell (p := ⟨kb, 1, none⟩) hkl).trans k1))
  all_goals
    go_wp2_with fail
    go_ret
    exact ⟨_, rfl, s4.to (by simp; rfl), hb4⟩

set_option maxRecDepth 100000 in
set_option maxHeartbeats 1000000 in
theorem rt_op8 (b kb lb qb : Nat) (w : World) (r : Int) (hr : Rd.rankK 8 = r) (l m : List UInt8) (pv qv tv : Value) (h : w.heap[b]? = some (.cells #[.string (Rd.opName 8), .bool false, pv, .bool false, qv, tv, .slice (some ⟨kb, 0, none⟩) 2 2] 62 (0, 0))) (hkb : w.heap[kb]? = some (.cells #[.pointer (some ⟨lb, 0, none⟩), .pointer (some ⟨qb, 0, none⟩)] 28 (0, 0))) (hl : l.length ≤ 1000010) (hm : m.length ≤ 1000010)
    (hL : ∀ w1, Below w.heap.size w w1 → Calls Tryz.prog 117 #[.pointer (some ⟨lb, 0, none⟩), .int .i64 r] w1 (TxtPost w1 l))
    (hR : ∀ (q : Int) w1, q = r + 1 → Below w.heap.size w w1 → Calls Tryz.prog 117 #[.pointer (some ⟨qb, 0, none⟩), .int .i64 q] w1 (TxtPost w1 m)) :
    Calls Tryz.prog 85 #[.pointer (some ⟨b, 0, none⟩)] w (TxtPost w (l ++ 32 :: (Rd.sym 8 ++ 32 :: m))) := by
  have c0 : w.cell? ⟨b, 0, none⟩ = some (.string (Rd.opName 8)) := cell_of_block h rfl
  have c6 : w.cell? ⟨b, 6, none⟩ = some (.slice (some ⟨kb, 0, none⟩) 2 2) := cell_of_block h rfl
  have k0 : w.cell? ⟨kb, 0, none⟩ = some (.pointer (some ⟨lb, 0, none⟩)) := cell_of_block hkb rfl
  have k1 : w.cell? ⟨kb, 1, none⟩ = some (.pointer (some ⟨qb, 0, none⟩)) := cell_of_block hkb rfl
  have hbl := heap_lt h
  have hkl := heap_lt hkb
  have HL := hidp hL
  have HR := hidp hR
  have RK := hidp (fun w' hc => rrank_any 8 (by decide) b w' hc)
  rw [hr] at RK
  have hr2 : 1 ≤ r ∧ r ≤ 2 := by rw [← hr]; decide
  obtain ⟨hr3, hr4⟩ := hr2
  clear h hkb hL hR hr
  simp only [Rd.opName] at c0
  go_enter Tryz.func85, Tryz.ntmps85
  go_wp2_with fail
  have hwr : IntKind.i64.wrap (r + 1) = r + 1 := by rw [IntKind.wrap_i64]; omega
  go_region_held3 (fun w' => w'.cell? ⟨b, 0, none⟩ = some (.string ⟨#[42]⟩) ∧ w'.cell? ⟨b, 6, none⟩ = some (.slice (some ⟨kb, 0, none⟩) 2 2) ∧ w'.cell? ⟨kb, 0, none⟩ = some (.pointer (some ⟨lb, 0, none⟩)) ∧ w'.cell? ⟨kb, 1, none⟩ = some (.pointer (some ⟨qb, 0, none⟩))) (go_keep)
    (first | (go_at_call 118; refine (RK.out _ ?_).mono ?_; (first | exact c0 | exact d0); rintro e w2 ⟨rfl, rfl⟩) | (go_at_call 117; have _t := hb1; refine (HR.out _ w1 (by first | rfl | (rw [IntKind.wrap_i64]; omega)) hb1).mono ?_; rintro e w3 ⟨u3, rfl, hu3, hb3⟩; obtain ⟨y4, a4, s4⟩ := add_named s3 hu3 (by simp; omega); have hb4 := hb1.trans (hb3.mono hb1.size); clear hb3; have e0 := (hb4.cell (p := ⟨b, 0, none⟩) hbl).trans c0; have e6 := (hb4.cell (p := ⟨b, 6, none⟩) hbl).trans c6; have i0 := (hb4.cell (p := ⟨kb, 0, none⟩) hkl).trans k0; have i1 := (hb4.cell (p := ⟨kb, 1, none⟩) hkl).trans k1) | (go_at_call 117; refine (HL.out w.drew (drew_below w)).mono ?_; rintro e w1 ⟨u, rfl, hu, hb0⟩; have hb1 := undrew hb0; clear hb0; obtain ⟨y1, a1, s1⟩ := add_named hu (Str.mk' [32]) (by simp; omega); obtain ⟨y2, a2, s2⟩ := add_named s1 (Str.mk' [42]) (by simp; omega); obtain ⟨y3, a3, s3⟩ := add_named s2 (Str.mk' [32]) (by simp; omega); have d0 := (hb1.cell (p := ⟨b, 0, none⟩) hbl).trans c0; have d6 := (hb1.cell (p := ⟨b, 6, none⟩) hbl).trans c6; have j0 := (hb1.cell (p := ⟨kb, 0, none⟩) hkl).trans k0; have j1 := (hb1.cell (p := ⟨kb, 1, none⟩) hkl).trans k1))
  all_goals
    go_wp2_with fail
    go_ret
    exact ⟨_, rfl, s4.to (by simp; rfl), hb4⟩

set_option maxRecDepth 100000 in
set_option maxHeartbeats 1000000 in
theorem rt_op9 (b kb lb qb : Nat) (w : World) (r : Int) (hr : Rd.rankK 9 = r) (l m : List UInt8) (pv qv tv : Value) (h : w.heap[b]? = some (.cells #[.string (Rd.opName 9), .bool false, pv, .bool false, qv, tv, .slice (some ⟨kb, 0, none⟩) 2 2] 62 (0, 0))) (hkb : w.heap[kb]? = some (.cells #[.pointer (some ⟨lb, 0, none⟩), .pointer (some ⟨qb, 0, none⟩)] 28 (0, 0))) (hl : l.length ≤ 1000010) (hm : m.length ≤ 1000010)
    (hL : ∀ w1, Below w.heap.size w w1 → Calls Tryz.prog 117 #[.pointer (some ⟨lb, 0, none⟩), .int .i64 r] w1 (TxtPost w1 l))
    (hR : ∀ (q : Int) w1, q = r + 1 → Below w.heap.size w w1 → Calls Tryz.prog 117 #[.pointer (some ⟨qb, 0, none⟩), .int .i64 q] w1 (TxtPost w1 m)) :
    Calls Tryz.prog 85 #[.pointer (some ⟨b, 0, none⟩)] w (TxtPost w (l ++ 32 :: (Rd.sym 9 ++ 32 :: m))) := by
  have c0 : w.cell? ⟨b, 0, none⟩ = some (.string (Rd.opName 9)) := cell_of_block h rfl
  have c6 : w.cell? ⟨b, 6, none⟩ = some (.slice (some ⟨kb, 0, none⟩) 2 2) := cell_of_block h rfl
  have k0 : w.cell? ⟨kb, 0, none⟩ = some (.pointer (some ⟨lb, 0, none⟩)) := cell_of_block hkb rfl
  have k1 : w.cell? ⟨kb, 1, none⟩ = some (.pointer (some ⟨qb, 0, none⟩)) := cell_of_block hkb rfl
  have hbl := heap_lt h
  have hkl := heap_lt hkb
  have HL := hidp hL
  have HR := hidp hR
  have RK := hidp (fun w' hc => rrank_any 9 (by decide) b w' hc)
  rw [hr] at RK
  have hr2 : 1 ≤ r ∧ r ≤ 2 := by rw [← hr]; decide
  obtain ⟨hr3, hr4⟩ := hr2
  clear h hkb hL hR hr
  simp only [Rd.opName] at c0
  go_enter Tryz.func85, Tryz.ntmps85
  go_wp2_with fail
  have hwr : IntKind.i64.wrap (r + 1) = r + 1 := by rw [IntKind.wrap_i64]; omega
  go_region_held3 (fun w' => w'.cell? ⟨b, 0, none⟩ = some (.string ⟨#[47]⟩) ∧ w'.cell? ⟨b, 6, none⟩ = some (.slice (some ⟨kb, 0, none⟩) 2 2) ∧ w'.cell? ⟨kb, 0, none⟩ = some (.pointer (some ⟨lb, 0, none⟩)) ∧ w'.cell? ⟨kb, 1, none⟩ = some (.pointer (some ⟨qb, 0, none⟩))) (go_keep)
    (first | (go_at_call 118; refine (RK.out _ ?_).mono ?_; (first | exact c0 | exact d0); rintro e w2 ⟨rfl, rfl⟩) | (go_at_call 117; have _t := hb1; refine (HR.out _ w1 (by first | rfl | (rw [IntKind.wrap_i64]; omega)) hb1).mono ?_; rintro e w3 ⟨u3, rfl, hu3, hb3⟩; obtain ⟨y4, a4, s4⟩ := add_named s3 hu3 (by simp; omega); have hb4 := hb1.trans (hb3.mono hb1.size); clear hb3; have e0 := (hb4.cell (p := ⟨b, 0, none⟩) hbl).trans c0; have e6 := (hb4.cell (p := ⟨b, 6, none⟩) hbl).trans c6; have i0 := (hb4.cell (p := ⟨kb, 0, none⟩) hkl).trans k0; have i1 := (hb4.cell (p := ⟨kb, 1, none⟩) hkl).trans k1) | (go_at_call 117; refine (HL.out w.drew (drew_below w)).mono ?_; rintro e w1 ⟨u, rfl, hu, hb0⟩; have hb1 := undrew hb0; clear hb0; obtain ⟨y1, a1, s1⟩ := add_named hu (Str.mk' [32]) (by simp; omega); obtain ⟨y2, a2, s2⟩ := add_named s1 (Str.mk' [47]) (by simp; omega); obtain ⟨y3, a3, s3⟩ := add_named s2 (Str.mk' [32]) (by simp; omega); have d0 := (hb1.cell (p := ⟨b, 0, none⟩) hbl).trans c0; have d6 := (hb1.cell (p := ⟨b, 6, none⟩) hbl).trans c6; have j0 := (hb1.cell (p := ⟨kb, 0, none⟩) hkl).trans k0; have j1 := (hb1.cell (p := ⟨kb, 1, none⟩) hkl).trans k1))
  all_goals
    go_wp2_with fail
    go_ret
    exact ⟨_, rfl, s4.to (by simp; rfl), hb4⟩

theorem rt_op (b kb lb qb : Nat) (w : World) (k r : Int) (hr : Rd.rankK k = r) (hk : k = 6 ∨ k = 7 ∨ k = 8 ∨ k = 9) (l m : List UInt8) (pv qv tv : Value) (h : w.heap[b]? = some (.cells #[.string (Rd.opName k), .bool false, pv, .bool false, qv, tv, .slice (some ⟨kb, 0, none⟩) 2 2] 62 (0, 0))) (hkb : w.heap[kb]? = some (.cells #[.pointer (some ⟨lb, 0, none⟩), .pointer (some ⟨qb, 0, none⟩)] 28 (0, 0))) (hl : l.length ≤ 1000010) (hm : m.length ≤ 1000010)
    (hL : ∀ w1, Below w.heap.size w w1 → Calls Tryz.prog 117 #[.pointer (some ⟨lb, 0, none⟩), .int .i64 r] w1 (TxtPost w1 l))
    (hR : ∀ (q : Int) w1, q = r + 1 → Below w.heap.size w w1 → Calls Tryz.prog 117 #[.pointer (some ⟨qb, 0, none⟩), .int .i64 q] w1 (TxtPost w1 m)) :
    Calls Tryz.prog 85 #[.pointer (some ⟨b, 0, none⟩)] w (TxtPost w (l ++ 32 :: (Rd.sym k ++ 32 :: m))) := by
  rcases hk with rfl | rfl | rfl | rfl
  · exact rt_op6 b kb lb qb w r hr l m pv qv tv h hkb hl hm hL hR
  · exact rt_op7 b kb lb qb w r hr l m pv qv tv h hkb hl hm hL hR
  · exact rt_op8 b kb lb qb w r hr l m pv qv tv h hkb hl hm hL hR
  · exact rt_op9 b kb lb qb w r hr l m pv qv tv h hkb hl hm hL hR

end Go.Proofs.YtmepffenlgedbaaGreatDoor
