/-
  THE WALKS of realskeep's plain intervals: roots and series.
-/
import Derived.Test.YtmepffenlgedbaaDoorSpan4
import Derived.Deep.RegionHeld3
set_option linter.unusedSimpArgs false
namespace Go.Proofs.YtmepffenlgedbaaDoor
open Go.RowKit

/-- The bit that is tried when j are left. -/
def bitOf (j : Nat) : Int := if j = 0 then 0 else 2 ^ (j - 1)

def rootRel (n : Int) (r b : Value) : Prop := ∃ (j : Nat) (x c m : Int), j ≤ 31 ∧ c = bitOf j ∧ m = 2 ^ j ∧ r = .int .i64 x ∧ b = .int .i64 c ∧ 0 ≤ x ∧ x + m ≤ 2147483648 ∧ x * x ≤ n ∧ n < (x + m) * (x + m)

def RootPost (n : Int) (w : World) (e : Ending) (w' : World) : Prop := ∃ r : Int, e = .returned (.int .i64 r) ∧ 0 ≤ r ∧ r ≤ 2147483647 ∧ r * r ≤ n ∧ n < (r + 1) * (r + 1) ∧ w = w'

theorem sq_bd {x : Int} (h0 : 0 ≤ x) (h1 : x ≤ 2147483648) : 0 ≤ x * x ∧ x * x ≤ 4611686018427387904 := by
  refine ⟨Int.mul_nonneg h0 h0, ?_⟩
  have := Int.mul_le_mul h1 h1 h0 (by omega)
  omega

theorem half_bit {c : Int} {i : Nat} (h : c = 2 ^ i) : c / 2 = bitOf i := by
  subst h
  cases i with
  | zero => rfl
  | succ i =>
    show (2 : Int) ^ (i + 1) / 2 = 2 ^ i
    rw [Int.pow_succ]
    omega

set_option maxHeartbeats 1000000 in
theorem root_any (n : Int) (w : World) (h0 : 0 ≤ n) (h1 : n ≤ 1125899906842624) : Calls Tryd.prog 30 #[.int .i64 n] w (RootPost n w) := by
  go_enter Tryd.func30, Tryd.ntmps30
  go_wp2_with fail
  go_loop [3, 4] (fun r b => rootRel n r b) (fun _ b => (intOf b).toNat)
  case atStart => exact ⟨31, 0, 1073741824, 2147483648, by omega, by decide, by decide, rfl, rfl, by decide, by decide, by omega, by omega⟩
  case round =>
    obtain ⟨j, x, c, m, hj, hc, hm, rfl, rfl, hx0, hxm, hx1, hx2⟩ := hrel
    cases j with
    | zero =>
      have c0 : c = 0 := hc
      have m1 : m = 1 := hm
      subst c0
      subst m1
      have H1 := hideq hx1
      have H2 := hideq hx2
      clear hx1 hx2 hc hm
      go_wp2_with fail
      go_ret
      exact ⟨x, rfl, hx0, by omega, H1.out, H2.out, rfl⟩
    | succ i =>
      have hc' : c = 2 ^ i := hc
      have hm' : m = 2 * c := by rw [hm, hc', Int.pow_succ]; omega
      have hcp : 1 ≤ c := by rw [hc']; exact Int.pow_pos (by decide)
      have hxc : x + c ≤ 2147483648 := by omega
      obtain ⟨s1, s2⟩ := sq_bd (x := x + c) (by omega) hxc
      have H1 := hideq hx1
      have H2 := hideq hx2
      have HC := hideq hc'
      have HM := hideq hm'
      clear hx1 hx2 hc hm hc' hm'
      by_cases ht : (x + c) * (x + c) ≤ n
      · go_wp2_with fail
        have e := HC.out
        have e2 := HM.out
        refine ⟨⟨i, x + c, c / 2, c, by omega, half_bit e, e, rfl, rfl, by omega, by omega, ht, ?_⟩, by simp [intOf]; omega⟩
        have := H2.out
        rw [e2, show x + 2 * c = x + c + c by omega] at this
        exact this
      · go_wp2_with fail
        have e := HC.out
        refine ⟨⟨i, x, c / 2, c, by omega, half_bit e, e, rfl, rfl, by omega, by omega, H1.out, by omega⟩, by simp [intOf]; omega⟩

theorem root_mono {a b r s : Int} (hab : a ≤ b) (hr : 0 ≤ r) (hs : 0 ≤ s) (h1 : r * r ≤ a) (h2 : b < (s + 1) * (s + 1)) : r ≤ s + 1 := by
  rcases Int.lt_or_le (s + 1) r with h | h
  · exfalso
    have := Int.mul_le_mul (Int.le_of_lt h) (Int.le_of_lt h) (by omega) hr
    omega
  · exact h

set_option maxHeartbeats 1000000 in
theorem sqrt_any (a b : Int) (k : Bool) (w : World) (h : SpOk a b) : Calls Tryd.prog 23 #[sv a b k] w (SpPost w) := by
  have h1 := h.lo
  have h2 := h.le
  have h3 := h.hi
  have N := hideq (fun w => nothing_any w)
  clear h
  cases k
  · skip
    go_enter Tryd.func23, Tryd.ntmps23
    go_wp2_with fail
    refine calls_in (fun W => Below w.heap.size w W ∧ W.heap[w.heap.size + 1]? = some (spCells 0 0 false)) ⟨((Below.refl _ _).alloc (Nat.le_refl _) _).alloc (by simp) _, alloc_at (by simp)⟩ ?_
    rintro W ⟨hbW, hRW⟩
    refine (N.out _).mono ?_
    rintro e w2 ⟨rfl, hb⟩
    have hR := (hb.block _ (heap_lt hRW)).trans hRW
    have r0 := cell_of_block (o := 0) hR rfl
    have r1 := cell_of_block (o := 1) hR rfl
    have r2 := cell_of_block (o := 2) hR rfl
    have g0 := frozen_of_block (o := 0) hR
    have g1 := frozen_of_block (o := 1) hR
    have g2 := frozen_of_block (o := 2) hR
    have Q := hideq (set3 hR 0 0 false)
    have HBt := hideq (set3_below (hbW.trans (hb.mono hbW.size)) (show w.heap.size ≤ w.heap.size + 1 by omega) 0 0 false)
    clear hR hb hbW hRW
    go_wp2_with fail
    obtain ⟨q0, q1, q2⟩ := Q.out
    refine bodyPost_ret (v := sv 0 0 false) (by simp [results, Tryd.results23, go_sem, q0, q1, q2]) rfl ?_
    exact ⟨0, 0, false, rfl, SpOk.zero, HBt.out⟩
  by_cases p1 : a < 0
  · skip
    go_enter Tryd.func23, Tryd.ntmps23
    go_wp2_with fail
    refine calls_in (fun W => Below w.heap.size w W ∧ W.heap[w.heap.size + 1]? = some (spCells 0 0 false)) ⟨((Below.refl _ _).alloc (Nat.le_refl _) _).alloc (by simp) _, alloc_at (by simp)⟩ ?_
    rintro W ⟨hbW, hRW⟩
    refine (N.out _).mono ?_
    rintro e w2 ⟨rfl, hb⟩
    have hR := (hb.block _ (heap_lt hRW)).trans hRW
    have r0 := cell_of_block (o := 0) hR rfl
    have r1 := cell_of_block (o := 1) hR rfl
    have r2 := cell_of_block (o := 2) hR rfl
    have g0 := frozen_of_block (o := 0) hR
    have g1 := frozen_of_block (o := 1) hR
    have g2 := frozen_of_block (o := 2) hR
    have Q := hideq (set3 hR 0 0 false)
    have HBt := hideq (set3_below (hbW.trans (hb.mono hbW.size)) (show w.heap.size ≤ w.heap.size + 1 by omega) 0 0 false)
    clear hR hb hbW hRW
    go_wp2_with fail
    obtain ⟨q0, q1, q2⟩ := Q.out
    refine bodyPost_ret (v := sv 0 0 false) (by simp [results, Tryd.results23, go_sem, q0, q1, q2]) rfl ?_
    exact ⟨0, 0, false, rfl, SpOk.zero, HBt.out⟩
  have F : Hid (∀ (x : Int) (w : World), x = a * 1048576 → Calls Tryd.prog 30 #[.int .i64 x] w (RootPost (a * 1048576) w)) := by
    rintro x w rfl
    exact root_any (a * 1048576) w (by omega) (by omega)
  have G : Hid (∀ (x : Int) (w : World), x = b * 1048576 → Calls Tryd.prog 30 #[.int .i64 x] w (RootPost (b * 1048576) w)) := by
    rintro x w rfl
    exact root_any (b * 1048576) w (by omega) (by omega)
  have O := hideq (fun x y w => of_any x y w)
  go_enter Tryd.func23, Tryd.ntmps23
  go_wp2_with fail
  go_region_held3 (fun w' => w'.cell? ⟨w.heap.size, 0, none⟩ = some (.int .i64 a) ∧ w'.cell? ⟨w.heap.size, 1, none⟩ = some (.int .i64 b)) (go_keep)
    (first | (go_at_call 30; have _t := HM1; refine (G.out _ _ (by first | rfl | (rw [IntKind.wrap_i64]; omega))).mono ?_; rintro e w1 ⟨r2, rfl, u1, u2, u3, u4, rfl⟩; have HMO := hideq (root_mono (show a * 1048576 ≤ b * 1048576 by omega) t1 u1 HM1.out u4); clear u3 u4) | (go_at_call 30; refine (F.out _ _ (by first | rfl | (rw [IntKind.wrap_i64]; omega))).mono ?_; rintro e w1 ⟨r1, rfl, t1, t2, t3, t4, rfl⟩; have HM1 := hideq t3; clear t3 t4) | (go_at_call 16; refine ((O.out _ _ _).mono (fun _ _ h => OfPost.sp (by have := HMO.out; first | omega | (rw [IntKind.wrap_i64]; omega)) h)).mono ?_; rintro e w2 ⟨p, q, r, rfl, hok, hb⟩; have hbd := undrewS hb; have s0 := (hbd.cell (p := ⟨w.heap.size, 0, none⟩) (by simp <;> omega)).trans (cell_of_block (alloc_old (cells_new _ _)) rfl); have s1 := (hbd.cell (p := ⟨w.heap.size, 1, none⟩) (by simp <;> omega)).trans (cell_of_block (alloc_old (cells_new _ _)) rfl); have hR := (hbd.block _ (by simp <;> omega)).trans (alloc_at (n := w.heap.size + 1) (by simp)); have r0 := cell_of_block (o := 0) hR rfl; have r1 := cell_of_block (o := 1) hR rfl; have r2 := cell_of_block (o := 2) hR rfl; have g0 := frozen_of_block (o := 0) hR; have g1 := frozen_of_block (o := 1) hR; have g2 := frozen_of_block (o := 2) hR; have Q := hideq (set3 hR p q r); have HOK := hideq hok; have HBt := hideq (set3_below (Below.trans (((Below.refl _ _).alloc (Nat.le_refl _) _).alloc (by simp) _) (hbd.mono (by simp <;> omega))) (show w.heap.size ≤ w.heap.size + 1 by omega) p q r); clear hR hb hbd hok))
  all_goals
    go_wp2_with fail
    obtain ⟨q0, q1, q2⟩ := Q.out
    refine bodyPost_ret (v := sv p q r) (by simp [results, Tryd.results23, go_sem, q0, q1, q2]) rfl ?_
    exact ⟨p, q, r, rfl, HOK.out, HBt.out⟩
end Go.Proofs.YtmepffenlgedbaaDoor
