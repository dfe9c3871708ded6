/-
  THE WALKS of realskeep's plain intervals: the small ones.
-/
import Derived.Test.YtmepffenlgedbaaDoorExpr
import Derived.LoopN
set_option linter.unusedSimpArgs false
namespace Go.Proofs.YtmepffenlgedbaaDoor
open Go.RowKit

abbrev sv (a b : Int) (k : Bool) : Value := .agg #[.int .i64 a, .int .i64 b, .bool k]
structure SpOk (a b : Int) : Prop where
  lo : -1073741824 ≤ a
  le : a ≤ b
  hi : b ≤ 1073741824
theorem SpOk.zero : SpOk 0 0 := ⟨by decide, by decide, by decide⟩
theorem SpOk.neg {a b : Int} (h : SpOk a b) : SpOk (-b) (-a) := ⟨by have := h.hi; omega, by have := h.le; omega, by have := h.lo; omega⟩

abbrev spCells (a b : Int) (k : Bool) : Obj := .cells #[.int .i64 a, .int .i64 b, .bool k] 37 (0, 0)

/-- An interval comes out, and nothing old has turned. -/
def SpPost (w : World) (e : Ending) (w' : World) : Prop := ∃ a b k, e = .returned (sv a b k) ∧ SpOk a b ∧ Below w.heap.size w w'

theorem calls_in {P : Program} {f : FuncId} {args : Array Value} {R : Ending → World → Prop} {w : World} (I : World → Prop) (hI : I w) (h : ∀ W, I W → Calls P f args W R) : Calls P f args w R := h _ hI

theorem alloc_at {W : World} {n : Nat} {xs : Array Value} {t : TypeId} (h : W.heap.size = n) : (W.alloc (.cells xs t)).heap[n]? = some (.cells xs t (0, 0)) := by
  subst h
  exact cells_new _ _

theorem alloc_old {W : World} {n : Nat} {o o' : Obj} (h : W.heap[n]? = some o) : (W.alloc o').heap[n]? = some o := by
  rw [Below.heap_alloc _ _ _ (heap_lt h)]
  exact h

theorem set3 {w : World} {b : Nat} {x y z : Value} (h : w.heap[b]? = some (.cells #[x, y, z] 37 (0, 0))) (p q : Int) (k : Bool) :
    (((w.setCell ⟨b, 0, none⟩ (.int .i64 p)).setCell ⟨b, 1, none⟩ (.int .i64 q)).setCell ⟨b, 2, none⟩ (.bool k)).cell? ⟨b, 0, none⟩ = some (.int .i64 p) ∧
    (((w.setCell ⟨b, 0, none⟩ (.int .i64 p)).setCell ⟨b, 1, none⟩ (.int .i64 q)).setCell ⟨b, 2, none⟩ (.bool k)).cell? ⟨b, 1, none⟩ = some (.int .i64 q) ∧
    (((w.setCell ⟨b, 0, none⟩ (.int .i64 p)).setCell ⟨b, 1, none⟩ (.int .i64 q)).setCell ⟨b, 2, none⟩ (.bool k)).cell? ⟨b, 2, none⟩ = some (.bool k) := by
  have e := heap_set (heap_set (heap_set h (o := 0) (.int .i64 p)) (o := 1) (.int .i64 q)) (o := 2) (.bool k)
  exact ⟨cell_of_block e rfl, cell_of_block e rfl, cell_of_block e rfl⟩

theorem set3_below {w w2 : World} {b : Nat} (h : Below w.heap.size w w2) (hb : w.heap.size ≤ b) (p q : Int) (k : Bool) :
    Below w.heap.size w (((w2.setCell ⟨b, 0, none⟩ (.int .i64 p)).setCell ⟨b, 1, none⟩ (.int .i64 q)).setCell ⟨b, 2, none⟩ (.bool k)) :=
  ((h.setCell hb _).setCell hb _).setCell hb _

set_option maxHeartbeats 400000 in
theorem nothing_any (w : World) : Calls Tryd.prog 29 #[] w fun e w' => e = .returned (sv 0 0 false) ∧ Below w.heap.size w w' := by
  go_enter Tryd.func29, Tryd.ntmps29
  go_wp2_with fail
  refine bodyPost_ret (v := sv 0 0 false) (by simp [results, Tryd.results29, go_sem]) rfl ⟨rfl, ?_⟩
  exact (Below.refl _ _).alloc (Nat.le_refl _) _

def ofS (a b : Int) : Int × Int × Bool := bif decide (a < -1073741824) || decide (1073741824 < b) then (0, 0, false) else (a, b, true)

theorem ofS_no1 {a b : Int} (h : a < -1073741824) : ofS a b = (0, 0, false) := by unfold ofS; rw [decide_eq_true h]; rfl
theorem ofS_no2 {a b : Int} (h : 1073741824 < b) : ofS a b = (0, 0, false) := by unfold ofS; rw [decide_eq_true h, Bool.or_true]; rfl
theorem ofS_yes {a b : Int} (h1 : ¬ a < -1073741824) (h2 : ¬ 1073741824 < b) : ofS a b = (a, b, true) := by unfold ofS; rw [decide_eq_false h1, decide_eq_false h2]; rfl

theorem ofS_ok {a b : Int} (h : a ≤ b) : SpOk (ofS a b).1 (ofS a b).2.1 := by
  by_cases h1 : a < -1073741824
  · rw [ofS_no1 h1]; exact SpOk.zero
  · by_cases h2 : 1073741824 < b
    · rw [ofS_no2 h2]; exact SpOk.zero
    · rw [ofS_yes h1 h2]; exact ⟨by show _ ≤ a; omega, h, by show b ≤ _; omega⟩

def OfPost (a b : Int) (w : World) (e : Ending) (w' : World) : Prop := e = .returned (sv (ofS a b).1 (ofS a b).2.1 (ofS a b).2.2) ∧ Below w.heap.size w w'

set_option maxHeartbeats 400000 in
theorem of_any (a b : Int) (w : World) : Calls Tryd.prog 16 #[.int .i64 a, .int .i64 b] w (OfPost a b w) := by
  have N := hideq (fun w => nothing_any w)
  by_cases h1 : a < -1073741824
  · skip
    have E := hideq (ofS_no1 (b := b) h1)
    go_enter Tryd.func16, Tryd.ntmps16
    go_wp2_with fail
    refine calls_in (fun W => Below w.heap.size w W ∧ W.heap[w.heap.size]? = some (spCells 0 0 false)) ⟨(Below.refl _ _).alloc (Nat.le_refl _) _, cells_new _ _⟩ ?_
    rintro W ⟨hbW, hRW⟩
    refine (N.out _).mono ?_
    rintro e w2 ⟨rfl, hb⟩
    have hR := (hb.block _ (heap_lt hRW)).trans hRW
    have r0 := cell_of_block (o := 0) hR rfl
    have r1 := cell_of_block (o := 1) hR rfl
    have r2 := cell_of_block (o := 2) hR rfl
    have g0 := frozen_of_block (o := 0) hR
    have g1 := frozen_of_block (o := 1) hR
    have g2 := frozen_of_block (o := 2) hR
    have Q := hideq (set3 hR 0 0 false)
    have HBt := hideq (set3_below (hbW.trans (hb.mono hbW.size)) (show w.heap.size ≤ w.heap.size + 0 by omega) 0 0 false)
    clear hR hb hbW hRW
    go_wp2_with fail
    obtain ⟨q0, q1, q2⟩ := Q.out
    refine bodyPost_ret (v := sv 0 0 false) (by simp [results, Tryd.results16, go_sem, q0, q1, q2]) rfl ?_
    exact ⟨by rw [E.out], HBt.out⟩
  by_cases h2 : 1073741824 < b
  · skip
    have E := hideq (ofS_no2 (a := a) h2)
    go_enter Tryd.func16, Tryd.ntmps16
    go_wp2_with fail
    refine calls_in (fun W => Below w.heap.size w W ∧ W.heap[w.heap.size]? = some (spCells 0 0 false)) ⟨(Below.refl _ _).alloc (Nat.le_refl _) _, cells_new _ _⟩ ?_
    rintro W ⟨hbW, hRW⟩
    refine (N.out _).mono ?_
    rintro e w2 ⟨rfl, hb⟩
    have hR := (hb.block _ (heap_lt hRW)).trans hRW
    have r0 := cell_of_block (o := 0) hR rfl
    have r1 := cell_of_block (o := 1) hR rfl
    have r2 := cell_of_block (o := 2) hR rfl
    have g0 := frozen_of_block (o := 0) hR
    have g1 := frozen_of_block (o := 1) hR
    have g2 := frozen_of_block (o := 2) hR
    have Q := hideq (set3 hR 0 0 false)
    have HBt := hideq (set3_below (hbW.trans (hb.mono hbW.size)) (show w.heap.size ≤ w.heap.size + 0 by omega) 0 0 false)
    clear hR hb hbW hRW
    go_wp2_with fail
    obtain ⟨q0, q1, q2⟩ := Q.out
    refine bodyPost_ret (v := sv 0 0 false) (by simp [results, Tryd.results16, go_sem, q0, q1, q2]) rfl ?_
    exact ⟨by rw [E.out], HBt.out⟩
  have E := hideq (ofS_yes h1 h2)
  go_enter Tryd.func16, Tryd.ntmps16
  go_wp2_with fail
  refine bodyPost_ret (v := sv a b true) (by simp [results, Tryd.results16, go_sem]) rfl ?_
  exact ⟨by rw [E.out], (Below.refl _ _).alloc (Nat.le_refl _) _⟩

theorem tdiv_floor {a b : Int} (hb : 0 < b) : (a.tmod b < 0 → a.tdiv b - 1 = a / b) ∧ (0 ≤ a.tmod b → a.tdiv b = a / b) := by
  have e1 := Int.tdiv_mul_add_tmod a b
  have e2 := Int.ediv_mul_add_emod a b
  have h1 := Int.emod_nonneg a (show b ≠ 0 by omega)
  have h2 := Int.emod_lt_of_pos a hb
  have h3 := Int.tmod_lt_of_pos a hb
  have h4 : -b < a.tmod b := by
    have := Int.tmod_lt_of_pos (-a) hb
    rw [Int.neg_tmod] at this
    omega
  generalize hq : a.tdiv b = q at *
  generalize hp : a / b = p at *
  generalize a.tmod b = r at *
  generalize a % b = s at *
  have key : (q - p) * b = s - r := by rw [Int.sub_mul]; omega
  constructor
  · intro hr
    have : q - p = 1 := by
      have c1 : 0 * b < (q - p) * b := by omega
      have c2 : (q - p) * b < 2 * b := by omega
      have d1 : 0 < q - p := Int.lt_of_mul_lt_mul_right c1 (by omega)
      have d2 : q - p < 2 := Int.lt_of_mul_lt_mul_right c2 (by omega)
      omega
    omega
  · intro hr
    have : q - p = 0 := by
      have c1 : -1 * b < (q - p) * b := by omega
      have c2 : (q - p) * b < 1 * b := by omega
      have d1 : -1 < q - p := Int.lt_of_mul_lt_mul_right c1 (by omega)
      have d2 : q - p < 1 := Int.lt_of_mul_lt_mul_right c2 (by omega)
      omega
    omega

theorem ediv_bounds {a b M : Int} (hb : 0 < b) (h0 : -M ≤ a) (h1 : a ≤ M) (hM : 0 ≤ M) : -M - 1 ≤ a / b ∧ a / b ≤ M := by
  constructor
  · have : -M ≤ a / b := by
      rw [Int.le_ediv_iff_mul_le hb]
      have : -M * b ≤ -M * 1 := Int.mul_le_mul_of_nonpos_left (by omega) (by omega)
      omega
    omega
  · rcases Int.lt_or_le a 0 with h | h
    · have := Int.ediv_neg_of_neg_of_pos h hb
      omega
    · have := Int.ediv_le_self b h
      omega

set_option maxHeartbeats 400000 in
theorem floor_any (a b : Int) (w : World) (h0 : -4611686018427387904 ≤ a) (h1 : a ≤ 4611686018427387904) (hb : 0 < b) (hb2 : b ≤ 4611686018427387904) :
    Calls Tryd.prog 17 #[.int .i64 a, .int .i64 b] w fun e w' => e = .returned (.int .i64 (a / b)) ∧ w = w' := by
  obtain ⟨t1, t2⟩ := tdiv_floor (a := a) hb
  obtain ⟨u1, u2⟩ := ediv_bounds (a := a) hb (M := 4611686018427387904) h0 h1 (by omega)
  have T1 := hideq t1
  have T2 := hideq t2
  by_cases hr : a.tmod b < 0
  · have hw : wrap64 (a.tdiv b - 1) = a.tdiv b - 1 := by
      have := T1.out hr
      unfold wrap64
      omega
    have HW := hideq hw
    clear hw t1 t2
    go_enter Tryd.func17, Tryd.ntmps17
    go_wp2_with fail
    go_ret
    rw [HW.out]
    exact ⟨ret_int (T1.out hr), rfl⟩
  · have hr' : 0 ≤ a.tmod b := by omega
    clear t1 t2
    go_enter Tryd.func17, Tryd.ntmps17
    go_wp2_with fail
    go_ret
    exact ⟨ret_int (T2.out hr'), rfl⟩

set_option maxHeartbeats 400000 in
theorem ceil_any (a b : Int) (w : World) (h0 : -4611686018427387904 ≤ a) (h1 : a ≤ 4611686018427387904) (hb : 0 < b) (hb2 : b ≤ 4611686018427387904) :
    Calls Tryd.prog 18 #[.int .i64 a, .int .i64 b] w fun e w' => e = .returned (.int .i64 (-((-a) / b))) ∧ w = w' := by
  have F := hideq (fun w => floor_any (-a) b w (by omega) (by omega) hb hb2)
  obtain ⟨u1, u2⟩ := ediv_bounds (a := -a) hb (M := 4611686018427387904) (by omega) (by omega) (by omega)
  go_enter Tryd.func18, Tryd.ntmps18
  go_wp2_with fail
  refine (F.out _).mono ?_
  rintro e w2 ⟨rfl, rfl⟩
  go_wp2_with fail
  go_ret
  exact ⟨rfl, rfl⟩

theorem floor_ceil {a b c : Int} (hc : 0 < c) (h : a ≤ b) : a / c ≤ -((-b) / c) := by
  have h1 : a / c * c ≤ a := Int.ediv_mul_le a (by omega)
  have h2 : (-b) / c * c ≤ -b := Int.ediv_mul_le (-b) (by omega)
  have h3 : (a / c + (-b) / c) * c ≤ 0 := by rw [Int.add_mul]; omega
  have h4 : a / c + (-b) / c < 1 := Int.lt_of_mul_lt_mul_right (a := c) (by omega) (by omega)
  omega

set_option maxHeartbeats 400000 in
theorem neg_any (a b : Int) (k : Bool) (w : World) (h : SpOk a b) :
    Calls Tryd.prog 21 #[sv a b k] w fun e w' => e = .returned (sv (-b) (-a) k) ∧ Below w.heap.size w w' := by
  have h1 := h.lo
  have h2 := h.le
  have h3 := h.hi
  go_enter Tryd.func21, Tryd.ntmps21
  go_wp2_with fail
  refine bodyPost_ret (v := sv (-b) (-a) k) (by simp [results, Tryd.results21, go_sem]) rfl ⟨rfl, ?_⟩
  exact ((Below.refl _ _).alloc (Nat.le_refl _) _).alloc (by simp) _

end Go.Proofs.YtmepffenlgedbaaDoor
