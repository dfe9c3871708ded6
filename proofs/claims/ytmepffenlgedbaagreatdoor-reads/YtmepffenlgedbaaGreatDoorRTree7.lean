/-
  THE CONTRACT of (shape).tree, by induction on the fuel of its plain twin.
-/
import Derived.Test.YtmepffenlgedbaaGreatDoorRTree3
import Derived.Test.YtmepffenlgedbaaGreatDoorRTree6
set_option linter.unusedSimpArgs false
namespace Go.Proofs.YtmepffenlgedbaaGreatDoor
open Go.RowKit

theorem no_op {g cap : Nat} {ws : List Rd.Wd} {i j : Nat} (hl : ws.length ≤ 121) (hij : i < j) (hj : j ≤ ws.length) (h1 : Rd.lastOf ws [43] [45] i j < 0) (h2 : Rd.lastOf ws [42] [47] i j < 0) : NoOp g cap ws i j (Rd.lastOf ws [43] [45] i j) (Rd.lastOf ws [42] [47] i j) :=
  ⟨h1, h2, fun W hW => rlast_any W g cap ws i j ⟨#[43]⟩ ⟨#[45]⟩ hW hl (by omega) hj, fun W hW => rlast_any W g cap ws i j ⟨#[42]⟩ ⟨#[47]⟩ hW hl (by omega) hj⟩

theorem pair_isOp1 {t : List UInt8} (h : (t == [43] || t == [45]) = true) : Rd.isOp t = true := by
  simp only [Rd.isOp, Bool.or_eq_true] at h ⊢; rcases h with h | h <;> simp [h]
theorem pair_isOp2 {t : List UInt8} (h : (t == [42] || t == [47]) = true) : Rd.isOp t = true := by
  simp only [Rd.isOp, Bool.or_eq_true] at h ⊢; rcases h with h | h <;> simp [h]

theorem not_f {b : Bool} (h : (!b) = false) : b = true := by cases b <;> simp_all

theorem rtree_lt {ws : List Rd.Wd} {f i j d : Nat} {s : Rd.Tally} {x : Rd.Tr × Rd.Tally} (h : Rd.rtree ws f i j d s = some x) : i < j ∧ j ≤ ws.length := by
  cases f with
  | zero => cases h
  | succ f =>
    rw [Rd.rtree] at h
    cases h0 : (!(decide (i < j) && decide (j ≤ ws.length))) with
    | true => rw [h0] at h; cases h
    | false =>
      simp only [Bool.not_eq_false', Bool.and_eq_true, decide_eq_true_eq] at h0
      exact h0

theorem tree_said (sb g cap : Nat) (ws : List Rd.Wd) (hl : ws.length ≤ 121) (hg : g ≠ sb) (hdo : DigOk ws) : ∀ f, TSaid sb g cap ws f := by
  intro f
  induction f with
  | zero => intro w i j d s t s' ii jj dd _ _ _ _ _ h; cases h
  | succ f ih =>
    intro w i j d s t s' ii jj dd hii hjj hdd hS hRow h hn hd
    subst hii hjj hdd
    obtain ⟨hij, hj⟩ := rtree_lt h
    rw [Rd.rtree, Rd.guard_ok hij hj] at h
    simp only [cond_false] at h
    cases h1 : decide (0 ≤ Rd.lastAt ws i j) with
    | true =>
      rw [h1] at h
      simp only [cond_true] at h
      simp only [decide_eq_true_eq] at h1
      cases h2 : Rd.rtree ws f i (Rd.lastAt ws i j).toNat d (s.1, s.2 + 1) with
      | none => rw [h2] at h; cases h
      | some y =>
        obtain ⟨l, s1⟩ := y
        rw [h2] at h
        simp only at h
        cases h3 : Rd.rtree ws f ((Rd.lastAt ws i j).toNat + 1) j d s1 with
        | none => rw [h3] at h; cases h
        | some y =>
          obtain ⟨r, s2⟩ := y
          rw [h3] at h
          simp only [Option.some.injEq, Prod.mk.injEq] at h
          obtain ⟨rfl, rfl⟩ := h
          by_cases hq : Rd.lastOf ws [43] [45] i j < 0
          · have e : Rd.lastAt ws i j = Rd.lastOf ws [42] [47] i j := by unfold Rd.lastAt; rw [decide_eq_true hq]; rfl
            rw [e] at h1 h2 h3 ⊢
            obtain ⟨k, e1, e2, e3, e4⟩ := Rd.last_sel [42] [47] i j h1
            rw [e1] at h2 h3 ⊢
            rw [Int.toNat_natCast] at h2 h3 ⊢
            exact tree_op2 sb g cap ws hl hg f ih w i j d k s s1 s2 l r hS hRow hij hj e2 e3 _ rfl hq e1 (pair_isOp2 e4) h2 h3 hn hd
          · have e : Rd.lastAt ws i j = Rd.lastOf ws [43] [45] i j := by unfold Rd.lastAt; rw [decide_eq_false hq]; rfl
            rw [e] at h1 h2 h3 ⊢
            obtain ⟨k, e1, e2, e3, e4⟩ := Rd.last_sel [43] [45] i j h1
            rw [e1] at h2 h3 ⊢
            rw [Int.toNat_natCast] at h2 h3 ⊢
            exact tree_op sb g cap ws hl hg f ih w i j d k s s1 s2 l r hS hRow hij hj e2 e3 e1 (pair_isOp1 e4) h2 h3 hn hd
    | false =>
      rw [h1] at h
      simp only [cond_false] at h
      simp only [decide_eq_false_iff_not] at h1
      have hq1 : Rd.lastOf ws [43] [45] i j < 0 := by
        rcases Int.lt_or_le (Rd.lastOf ws [43] [45] i j) 0 with hq | hq
        · exact hq
        · exfalso; apply h1; unfold Rd.lastAt; rw [decide_eq_false (by omega)]; exact hq
      have hq2 : Rd.lastOf ws [42] [47] i j < 0 := by
        rcases Int.lt_or_le (Rd.lastOf ws [42] [47] i j) 0 with hq | hq
        · exact hq
        · exfalso; apply h1; unfold Rd.lastAt; rw [decide_eq_true hq1]; exact hq
      have NO := hide1 (no_op (g := g) (cap := cap) hl hij hj hq1 hq2)
      cases h2 : (Rd.txt ws i == [45]) with
      | true =>
        rw [h2] at h
        simp only [cond_true] at h
        cases h3 : Rd.rtree ws f (i + 1) j (d + 1) (s.1, s.2 + 1) with
        | none => rw [h3] at h; cases h
        | some y =>
          obtain ⟨x, s2⟩ := y
          rw [h3] at h
          simp only [Option.some.injEq, Prod.mk.injEq] at h
          obtain ⟨rfl, rfl⟩ := h
          exact tree_neg sb g cap ws hl hg f ih w i j d s s2 x hS hRow hij hj _ _ NO h2 h3 hn hd
      | false =>
        rw [h2] at h
        simp only [cond_false] at h
        cases h3 : (Rd.txt ws i == [40]) with
        | true =>
          rw [h3] at h
          simp only [cond_true] at h
          have := rtree_lt h
          exact tree_br sb g cap ws hl hg f ih w i j d s s' t hS hRow hij hj _ _ NO h3 (by omega) h hn hd
        | false =>
          rw [h3] at h
          simp only [cond_false] at h
          cases h4 : (Rd.kd (Rd.txt ws i) == 1) with
          | true =>
            rw [h4] at h
            simp only [cond_true, Option.some.injEq, Prod.mk.injEq] at h
            obtain ⟨rfl, e⟩ := h
            exact tree_num sb g cap ws hl hg w i j d s s' hS hRow hij hj _ _ NO hdo h2 h3 h4 e.symm hn hd
          | false =>
            rw [h4] at h
            simp only [cond_false] at h
            cases h5 : Rd.isFn (Rd.txt ws i) with
            | true =>
              rw [h5] at h
              simp only [cond_true] at h
              cases h6 : Rd.rtree ws f (i + 2) (j - 1) (d + 1) (max s.1 d, s.2 + 1) with
              | none => rw [h6] at h; cases h
              | some y =>
                obtain ⟨x, s2⟩ := y
                rw [h6] at h
                simp only [Option.some.injEq, Prod.mk.injEq] at h
                obtain ⟨rfl, rfl⟩ := h
                have := rtree_lt h6
                exact tree_fn sb g cap ws hl hg f ih w i j d s s2 x hS hRow hij hj _ _ NO h2 h3 h5 (by omega) h6 hn hd
            | false =>
              rw [h5] at h
              simp only [cond_false] at h
              cases h6 : (Rd.txt ws i == [] || !Rd.termsOkB ws ((j - i - 1) / 2) (i + 2) || !(Rd.nameK (Rd.txt ws i) == 2 || Rd.nameK (Rd.txt ws i) == 3 || Rd.nameK (Rd.txt ws i) == 4)) with
              | true => rw [h6] at h; cases h
              | false =>
                rw [h6] at h
                simp only [cond_false, Option.some.injEq, Prod.mk.injEq] at h
                obtain ⟨rfl, e⟩ := h
                rw [Bool.or_eq_false_iff, Bool.or_eq_false_iff] at h6
                exact tree_leaf sb g cap ws hl hg w i j d s s' hS hRow hij hj _ _ NO hdo h2 h3 h4 h5 h6.1.1 (not_f h6.1.2) (not_f h6.2) e.symm hn hd

end Go.Proofs.YtmepffenlgedbaaGreatDoor
