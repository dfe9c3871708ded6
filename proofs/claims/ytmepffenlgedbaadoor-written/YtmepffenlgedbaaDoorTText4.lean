/-
  THE PROGRAM's TEXT of a tree: by induction over the tree; (Expr).Text.
-/
import Derived.Test.YtmepffenlgedbaaDoorTText3
set_option linter.unusedSimpArgs false
namespace Go.Proofs.YtmepffenlgedbaaDoor
open Go.RowKit
open Go.Deep (BT)

theorem enc_ptr {rb : Nat} {w : World} {t : Rd.Tr} {v : Value} (h : Enc rb w t v) (hw : Rd.Wf t) : ∃ b, v = .pointer (some ⟨b, 0, none⟩) := by
  obtain ⟨b, h1, _⟩ := enc_head h hw
  exact ⟨b, h1⟩

theorem text_said (rb : Nat) : ∀ (t : Rd.Tr) (w : World) (v : Value), Rd.Wf t → (Rd.text t).length ≤ 1000000 → Enc rb w t v → Tab w → Calls Tryd.prog 28 #[v] w (TxtPost w (Rd.text t)) := by
  intro t
  induction t with
  | nil => intro w v h; exact h.elim
  | node p q a l r ihl ihr =>
    intro w v hw hlen hE ht
    obtain ⟨k, x, ts⟩ := a
    obtain ⟨b, tv, lv, rv, rfl, hb, h3, hts, hl, hr⟩ := hE
    simp only at h3 hts
    rcases hw with ⟨h1, h2, _⟩ | ⟨h1, _⟩ | ⟨h1, h2, h4, h5, _⟩ | ⟨h1, h2, _⟩ | ⟨h1, h2, h4, _⟩
    · simp only at h1 h2
      subst h1
      exact text_num b w x h2 tv lv rv h3 ht
    · simp only at h1
      have e : Rd.text (.node p q (k, x, ts) l r) = Rd.sym k := by
        rcases h1 with rfl | rfl <;> rfl
      rw [e]
      exact text_const b w k h1 _ tv lv rv h3
    · simp only at h1 h2 h4 h5
      subst h1
      exact text_cf rb b w ts _ tv lv rv h3 hts h4 h5 h2 ht
    · simp only at h1
      obtain ⟨lb, rfl⟩ := enc_ptr hl h2
      by_cases hk : k = 5
      · subst hk
        have e : Rd.text (.node p q (5, x, ts) l r) = 45 :: Rd.brk (decide (Rd.rankK (Rd.kindT l) < 3)) (Rd.text l) := rfl
        rw [e] at hlen ⊢
        have hb1 := Rd.brk_len (decide (Rd.rankK (Rd.kindT l) < 3)) (Rd.text l)
        have hll : (Rd.text l).length ≤ 1000000 := by
          revert hlen
          cases decide (Rd.rankK (Rd.kindT l) < 3) <;> simp [Rd.brk] <;> omega
        exact text_minus b lb w _ _ tv rv h3 (by omega) (ofRank_of rb l _ 3 w hl h2 hll (ihl w _ h2 hll hl ht))
      · have hk' : k = 10 ∨ k = 11 ∨ k = 12 ∨ k = 13 := by omega
        have e : Rd.text (.node p q (k, x, ts) l r) = Rd.sym k ++ 40 :: (Rd.text l ++ [41]) := by
          rcases hk' with rfl | rfl | rfl | rfl <;> rfl
        rw [e] at hlen ⊢
        have hll : (Rd.text l).length ≤ 1000000 := by simp at hlen; omega
        exact text_fn b lb w k hk' _ _ tv rv h3 (by omega) (ihl w _ h2 hll hl ht)
    · simp only at h1
      obtain ⟨lb, rfl⟩ := enc_ptr hl h2
      obtain ⟨qb, rfl⟩ := enc_ptr hr h4
      have e : Rd.text (.node p q (k, x, ts) l r) = Rd.brk (decide (Rd.rankK (Rd.kindT l) < Rd.rankK k)) (Rd.text l) ++ 32 :: (Rd.sym k ++ 32 :: Rd.brk (decide (Rd.rankK (Rd.kindT r) < Rd.rankK k + 1)) (Rd.text r)) := by
        rcases h1 with rfl | rfl | rfl | rfl <;> rfl
      rw [e] at hlen ⊢
      have hb1 := Rd.brk_len (decide (Rd.rankK (Rd.kindT l) < Rd.rankK k)) (Rd.text l)
      have hb2 := Rd.brk_len (decide (Rd.rankK (Rd.kindT r) < Rd.rankK k + 1)) (Rd.text r)
      have g1 : (Rd.text l).length ≤ (Rd.brk (decide (Rd.rankK (Rd.kindT l) < Rd.rankK k)) (Rd.text l)).length := by
        cases decide (Rd.rankK (Rd.kindT l) < Rd.rankK k) <;> simp [Rd.brk] <;> omega
      have g2 : (Rd.text r).length ≤ (Rd.brk (decide (Rd.rankK (Rd.kindT r) < Rd.rankK k + 1)) (Rd.text r)).length := by
        cases decide (Rd.rankK (Rd.kindT r) < Rd.rankK k + 1) <;> simp [Rd.brk] <;> omega
      have hln : (Rd.brk (decide (Rd.rankK (Rd.kindT l) < Rd.rankK k)) (Rd.text l)).length + (Rd.brk (decide (Rd.rankK (Rd.kindT r) < Rd.rankK k + 1)) (Rd.text r)).length ≤ 1000000 := by
        simp only [List.length_append, List.length_cons] at hlen; omega
      refine text_op b lb qb w k _ rfl h1 _ _ _ tv h3 (by omega) (by omega) (ofRank_of rb l _ _ w hl h2 (by omega) (ihl w _ h2 (by omega) hl ht)) ?_
      intro w1 hb1
      have hr1 : Enc rb w1 r (.pointer (some ⟨qb, 0, none⟩)) := Enc.keep (Keep.of_below hb1) hr
      exact ofRank_of rb r _ _ w1 hr1 h4 (by omega) (ihr w1 _ h4 (by omega) hr1 (ht.below hb1))

set_option maxRecDepth 100000 in
theorem exprText_any (B : Nat) (w : World) (t : Rd.Tr) (v : Value) (h : ExprAt B w (some t) v) (hw : Rd.Wf t) (hlen : (Rd.text t).length ≤ 1000000) (ht : Tab w) : Calls Tryd.prog 15 #[v] w (TxtPost w (Rd.text t)) := by
  obtain ⟨rb, xb, rv, rfl, hrb, hxb, hblk, ⟨b, rfl⟩, hE⟩ := h
  have c0 : w.cell? ⟨xb, 0, none⟩ = some (.pointer (some ⟨b, 0, none⟩)) := cell_of_block hblk rfl
  have TS := hidp (text_said rb t w _ hw hlen hE ht)
  clear hE hw hlen ht hblk
  go_enter Tryd.func15, Tryd.ntmps15
  go_wp2_with (go_at_call 28; refine (TS.out).mono ?_; rintro e w1 ⟨u, rfl, hu, hb1⟩)
  go_ret
  exact ⟨_, rfl, hu, hb1⟩

end Go.Proofs.YtmepffenlgedbaaDoor
