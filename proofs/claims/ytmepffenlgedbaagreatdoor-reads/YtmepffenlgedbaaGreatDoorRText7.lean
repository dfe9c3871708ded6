/-
  THE DOCUMENT's TEXT of a tree: by induction over the tree.
-/
import Derived.Test.YtmepffenlgedbaaGreatDoorRText4
import Derived.Test.YtmepffenlgedbaaGreatDoorRText5
import Derived.Test.YtmepffenlgedbaaGreatDoorRText6
set_option linter.unusedSimpArgs false
namespace Go.Proofs.YtmepffenlgedbaaGreatDoor
open Go.RowKit
open Go.Deep (BT)

theorem renc_head {sb : Nat} {w : World} {t : Rd.Tr} {v : Value} (h : REnc sb w t v) : ∃ b, v = .pointer (some ⟨b, 0, none⟩) ∧ w.cell? ⟨b, 0, none⟩ = some (.string (Rd.opName (Rd.kindT t))) := by
  cases t with
  | nil => exact h.elim
  | node p q a l r =>
    obtain ⟨b, pv, qv, tv, lv, h1, h2, h3, _⟩ := h
    exact ⟨b, h1, cell_of_block h3 rfl⟩

theorem rinside_of (sb : Nat) (t : Rd.Tr) (v : Value) (least : Int) (w : World) (hE : REnc sb w t v) (hw : Rd.Wf t) (hlen : (Rd.text t).length ≤ 1000000) (hT : Calls Tryz.prog 85 #[v] w (TxtPost w (Rd.text t))) :
    Calls Tryz.prog 117 #[v, .int .i64 least] w (TxtPost w (Rd.brk (decide (Rd.rankK (Rd.kindT t) < least)) (Rd.text t))) := by
  obtain ⟨b, rfl, hc⟩ := renc_head hE
  exact inside_of b _ least _ w (wf_kind hw) hc hlen hT

theorem rtext_said (sb : Nat) : ∀ (t : Rd.Tr) (w : World) (v : Value), Rd.Wf t → (Rd.text t).length ≤ 1000000 → REnc sb w t v → Calls Tryz.prog 85 #[v] w (TxtPost w (Rd.text t)) := by
  intro t
  induction t with
  | nil => intro w v h; exact h.elim
  | node p q a l r ihl ihr =>
    intro w v hw hlen hE
    obtain ⟨k, x, ts⟩ := a
    obtain ⟨b, pv, qv, tv, lv, rfl, hb, h3, hn, hts, hch⟩ := hE
    simp only at h3 hts hn
    rcases hw with ⟨h1, h2, _⟩ | ⟨h1, _⟩ | ⟨h1, h2, h4, h5, _⟩ | ⟨h1, h2, _, hrn⟩ | ⟨h1, h2, h4, _⟩
    · simp only at h1 h2
      subst h1
      rcases hn with ⟨_, hp, _⟩ | ⟨hn, _⟩
      · have e : Rd.text (.node p q (1, x, ts) l r) = Rd.dec (x.toNat : Int) := by
          show Rd.dec x = _
          rw [Int.toNat_of_nonneg h2.1]
        rw [e]
        exact rt_num sb b x.toNat w (by have := h2.2; omega) pv qv tv lv h3 hp
      · exact absurd rfl hn
    · simp only at h1
      have e : Rd.text (.node p q (k, x, ts) l r) = Rd.sym k := by
        rcases h1 with rfl | rfl <;> rfl
      rw [e]
      exact rt_const b w k h1 (cell_of_block h3 rfl)
    · simp only at h1 h2 h4 h5
      subst h1
      exact rt_cf sb b w ts pv qv tv lv h3 hts h4 h5 h2
    · simp only at h1
      subst hrn
      rcases hch with ⟨hl, _⟩ | ⟨_, kb, xv, rfl, _, hkb, hl⟩ | ⟨kb, xv, yv, _, _, _, _, hr⟩
      · subst hl; exact h2.elim
      · obtain ⟨lb, rfl⟩ := hl.ptr
        have keep : ∀ w1, Below w.heap.size w w1 → REnc sb w1 l (.pointer (some ⟨lb, 0, none⟩)) := fun w1 h => REnc.keep (Keep.of_below h) hl
        by_cases hk : k = 5
        · subst hk
          have e : Rd.text (.node p q (5, x, ts) l .nil) = 45 :: Rd.brk (decide (Rd.rankK (Rd.kindT l) < 3)) (Rd.text l) := rfl
          rw [e] at hlen ⊢
          have hb1 := Rd.brk_len (decide (Rd.rankK (Rd.kindT l) < 3)) (Rd.text l)
          have hll : (Rd.text l).length ≤ 1000000 := by
            revert hlen
            cases decide (Rd.rankK (Rd.kindT l) < 3) <;> simp [Rd.brk] <;> omega
          exact rt_neg b kb lb w _ pv qv tv h3 hkb (by omega) (fun w1 h => rinside_of sb l _ 3 w1 (keep w1 h) h2 hll (ihl w1 _ h2 hll (keep w1 h)))
        · have hk' : k = 10 ∨ k = 11 ∨ k = 12 ∨ k = 13 := by omega
          have e : Rd.text (.node p q (k, x, ts) l .nil) = Rd.sym k ++ 40 :: (Rd.text l ++ [41]) := by
            rcases hk' with rfl | rfl | rfl | rfl <;> rfl
          rw [e] at hlen ⊢
          have hll : (Rd.text l).length ≤ 1000000 := by simp at hlen; omega
          exact rt_fn b kb lb w k hk' _ pv qv tv h3 hkb (by omega) (fun w1 h => ihl w1 _ h2 hll (keep w1 h))
      · exact hr.elim
    · simp only at h1
      rcases hch with ⟨hl, _⟩ | ⟨hr, _⟩ | ⟨kb, xv, yv, rfl, _, hkb, hl, hr⟩
      · subst hl; exact h2.elim
      · subst hr; exact h4.elim
      · obtain ⟨lb, rfl⟩ := hl.ptr
        obtain ⟨qb, rfl⟩ := hr.ptr
        have e : Rd.text (.node p q (k, x, ts) l r) = Rd.brk (decide (Rd.rankK (Rd.kindT l) < Rd.rankK k)) (Rd.text l) ++ 32 :: (Rd.sym k ++ 32 :: Rd.brk (decide (Rd.rankK (Rd.kindT r) < Rd.rankK k + 1)) (Rd.text r)) := by
          rcases h1 with rfl | rfl | rfl | rfl <;> rfl
        rw [e] at hlen ⊢
        have hb1 := Rd.brk_len (decide (Rd.rankK (Rd.kindT l) < Rd.rankK k)) (Rd.text l)
        have hb2 := Rd.brk_len (decide (Rd.rankK (Rd.kindT r) < Rd.rankK k + 1)) (Rd.text r)
        have g1 : (Rd.text l).length ≤ (Rd.brk (decide (Rd.rankK (Rd.kindT l) < Rd.rankK k)) (Rd.text l)).length := by
          cases decide (Rd.rankK (Rd.kindT l) < Rd.rankK k) <;> simp [Rd.brk] <;> omega
        have g2 : (Rd.text r).length ≤ (Rd.brk (decide (Rd.rankK (Rd.kindT r) < Rd.rankK k + 1)) (Rd.text r)).length := by
          cases decide (Rd.rankK (Rd.kindT r) < Rd.rankK k + 1) <;> simp [Rd.brk] <;> omega
        have hln : (Rd.brk (decide (Rd.rankK (Rd.kindT l) < Rd.rankK k)) (Rd.text l)).length + (Rd.brk (decide (Rd.rankK (Rd.kindT r) < Rd.rankK k + 1)) (Rd.text r)).length ≤ 1000000 := by
          simp only [List.length_append, List.length_cons] at hlen; omega
        refine rt_op b kb lb qb w k _ rfl h1 _ _ pv qv tv h3 hkb (by omega) (by omega) ?_ ?_
        · intro w1 h
          have hl1 := REnc.keep (Keep.of_below h) hl
          exact rinside_of sb l _ _ w1 hl1 h2 (by omega) (ihl w1 _ h2 (by omega) hl1)
        · intro q w1 hq h
          subst hq
          have hr1 := REnc.keep (Keep.of_below h) hr
          exact rinside_of sb r _ _ w1 hr1 h4 (by omega) (ihr w1 _ h4 (by omega) hr1)

end Go.Proofs.YtmepffenlgedbaaGreatDoor
