/-
  THE WALK of (shape).tree: a constant or a cf.
-/
import Derived.Test.YtmepffenlgedbaaGreatDoorRTree5
import Derived.Deep.RegionLaw
import Derived.Deep.AppendLies
import Derived.Deep.DeepMust
set_option linter.unusedSimpArgs false
set_option linter.unusedVariables false
namespace Go.Proofs.YtmepffenlgedbaaGreatDoor
open Go.RowKit

theorem terms_snoc {ws : List Rd.Wd} : ∀ m k, Rd.termsFrom ws (m + 1) k = Rd.termsFrom ws m k ++ [Rd.valAt ws (k + 2 * m)] := by
  intro m
  induction m with
  | zero => intro k; simp [Rd.termsFrom]
  | succ m ih =>
    intro k
    rw [Rd.termsFrom, ih (k + 2), Rd.termsFrom]
    simp only [List.cons_append, List.cons.injEq, true_and]
    rw [show k + 2 + 2 * m = k + 2 * (m + 1) by omega]

theorem terms_len {ws : List Rd.Wd} : ∀ m k, (Rd.termsFrom ws m k).length = m := by
  intro m
  induction m with
  | zero => intro k; rfl
  | succ m ih => intro k; simp [Rd.termsFrom, ih]

theorem termsOk_at {ws : List Rd.Wd} : ∀ c k m, Rd.termsOkB ws c k = true → m < c → (Rd.kd (Rd.txt ws (k + 2 * m)) == 1) = true := by
  intro c
  induction c with
  | zero => intro k m _ h; omega
  | succ c ih =>
    intro k m h hm
    rw [Rd.termsOkB, Bool.and_eq_true] at h
    cases m with
    | zero => exact h.1
    | succ m =>
      have := ih (k + 2) m h.2 (by omega)
      rw [show k + 2 * (m + 1) = k + 2 + 2 * m by omega]
      exact this

/-- The loop's relation: m terms are there. -/
def leafRel (sb g b : Nat) (ws : List Rd.Wd) (i c : Nat) (t : ByteArray) (w : World) (s2 : Rd.Tally) (kv : Value) (wr : World) : Prop :=
  ∃ (m kk : Nat) (tv : Value), m ≤ c ∧ kk = i + 2 + 2 * m ∧ kv = .int .i64 kk ∧ wr.heap[b]? = some (.cells #[.string t, .bool false, .slice none 0 0, .bool false, .slice none 0 0, tv, .slice none 0 0] 62 (0, 0)) ∧
    wr.ownsRow (b + 1) 3 1 tv m ((Rd.termsFrom ws m (i + 2)).map (Value.int .i64)) ∧ Shp wr sb s2 ∧ RowAt wr g ws ∧ Keep sb w wr ∧ w.heap.size ≤ b ∧ b < wr.heap.size

theorem own_below {wr w' : World} {B e size n : Nat} {v : Value} {xs : List Value} (hown : wr.ownsRow B e size v n xs) (hb : Below wr.heap.size wr w') : w'.ownsRow B e size v n xs := by
  obtain ⟨h1, h2⟩ := hown
  refine ⟨h1, ?_⟩
  rcases h2 with h2 | ⟨g, cap, cur, hv, hg, hh, r⟩
  · exact Or.inl h2
  · exact Or.inr ⟨g, cap, cur, hv, hg, by rw [hb.block g (heap_lt hh)]; exact hh, r⟩

/-- Behind an append onto a row from b + 1 on: a block up to b is as it was. -/
theorem grown_old {w w3 : World} {B e size n k : Nat} {l : Value} {xs : List Value} {o : Obj} (hown : w.ownsRow B e size l n xs) (hg : w.grownBy w3 l.ownBlock) (hk : k < B) (h : w.heap[k]? = some o) : w3.heap[k]? = some o := by
  rw [hg.block k (heap_lt h) ?_]
  · exact h
  · intro e
    rcases hown.2 with ⟨h, _⟩ | ⟨g, cap, cur, h, hg', _⟩
    · rw [h] at e; cases e
    · rw [h] at e
      simp only [Value.ownBlock, Option.some.injEq] at e
      omega

theorem leaf_step {sb g : Nat} {ws : List Rd.Wd} {i c m kk g6 cap6 : Nat} {t : ByteArray} {w w2 w6 : World} {s2 : Rd.Tally} {tv : Value} {v : Int} {o : Obj} (hm : m < c) (hkk : kk = i + 2 + 2 * m) (hv : v = Rd.valAt ws kk)
    (hblk6 : w6.heap[w.heap.size]? = some (.cells #[.string t, .bool false, .slice none 0 0, .bool false, .slice none 0 0, tv, .slice none 0 0] 62 (0, 0)))
    (hown2 : w2.ownsRow (w.heap.size + 1) 3 1 tv m ((Rd.termsFrom ws m (i + 2)).map (Value.int .i64))) (hgrow6 : (w2.alloc o).grownBy w6 tv.ownBlock)
    (hown6 : w6.ownsRow (w.heap.size + 1) 3 1 (.slice (some ⟨g6, 0, none⟩) (m + 1) cap6) (m + 1) ((Rd.termsFrom ws m (i + 2)).map (Value.int .i64) ++ [.int .i64 v]))
    (hS : Shp w2 sb s2) (hR : RowAt w2 g ws) (hK : Keep sb w w2) (hsb : sb < w.heap.size) (hgb : g < w.heap.size) :
    leafRel sb g w.heap.size ws i c t w s2 (.int .i64 ((kk : Int) + 2)) (w6.setCell ⟨w.heap.size, 5, none⟩ (.slice (some ⟨g6, 0, none⟩) (m + 1) cap6)) := by
  have hold := fun k ob (hk : k < w.heap.size + 1) (h : (w2.alloc o).heap[k]? = some ob) => grown_old (hown2.alloc o) hgrow6 hk h
  refine ⟨m + 1, kk + 2, .slice (some ⟨g6, 0, none⟩) (m + 1) cap6, by omega, by omega, by go_num, ?_, ?_, ?_, ?_, ?_, Nat.le_refl _, ?_⟩
  · rw [heap_set hblk6]; rfl
  · have := own_keep hown6 ((Keep.refl w.heap.size w6).setCell 5 (.slice (some ⟨g6, 0, none⟩) (m + 1) cap6)) (Nat.lt_succ_self _)
    rw [terms_snoc, List.map_append, ← hkk, ← hv]
    exact this
  · unfold Shp
    rw [Below.heap_setCell _ _ _ _ (by show sb ≠ w.heap.size; omega)]
    exact hold sb _ (by omega) (hS.alloc o)
  · obtain ⟨cur, h1, h2⟩ := hR
    refine ⟨cur, ?_, h2⟩
    rw [Below.heap_setCell _ _ _ _ (by show g ≠ w.heap.size; omega)]
    exact hold g _ (by omega) ((Below.heap_alloc _ _ _ (heap_lt h1)).trans h1)
  · exact (keep_own hown2 hK (by omega) o hgrow6).setNew (Nat.le_refl _) _
  · rw [size_set]; exact heap_lt hblk6

theorem leaf_done {sb : Nat} {ws : List Rd.Wd} {i c : Nat} {t : ByteArray} {w wr : World} {s2 : Rd.Tally} {tv : Value} (hnk : (Rd.nameK t.data.toList == 2 || Rd.nameK t.data.toList == 3 || Rd.nameK t.data.toList == 4) = true)
    (hblk : wr.heap[w.heap.size]? = some (.cells #[.string t, .bool false, .slice none 0 0, .bool false, .slice none 0 0, tv, .slice none 0 0] 62 (0, 0)))
    (hown : wr.ownsRow (w.heap.size + 1) 3 1 tv c ((Rd.termsFrom ws c (i + 2)).map (Value.int .i64))) (hS : Shp wr sb s2) (hK : Keep sb w wr) (hsb : sb < w.heap.size) :
    TPost sb w (Rd.leafT (Rd.nameK t.data.toList) 0 (Rd.termsFrom ws c (i + 2))) s2 (.returned (.pointer (some ⟨w.heap.size, 0, none⟩))) wr := by
  have ht : t = Rd.opName (Rd.nameK t.data.toList) ∧ Rd.nameK t.data.toList ≠ 1 := by
    unfold Rd.nameK at hnk ⊢
    cases h1 : (t.data.toList == [112, 105]) with
    | true => have e := lit_of h1; subst e; exact ⟨rfl, by decide⟩
    | false =>
      cases h2 : (t.data.toList == [101]) with
      | true => have e := lit_of h2; subst e; exact ⟨rfl, by decide⟩
      | false =>
        cases h3 : (t.data.toList == [99, 102]) with
        | true => have e := lit_of h3; subst e; exact ⟨rfl, by decide⟩
        | false =>
          exfalso
          rw [h1, h2, h3] at hnk
          simp only [cond_false] at hnk
          cases h4 : (t.data.toList == [115, 113, 114, 116]) <;> cases h5 : (t.data.toList == [101, 120, 112]) <;> cases h6 : (t.data.toList == [108, 110, 49, 112]) <;> cases h7 : (t.data.toList == [97, 116, 97, 110]) <;> simp [h4, h5, h6, h7] at hnk
  refine ⟨_, rfl, ⟨w.heap.size, .slice none 0 0, .slice none 0 0, tv, .slice none 0 0, rfl, by omega, ?_, Or.inr ⟨ht.2, rfl, rfl⟩, terms_own' hown (by omega) (terms_len c (i + 2)).symm, Or.inl ⟨rfl, rfl, rfl⟩⟩, hS, hK⟩
  rw [← ht.1]
  exact hblk

set_option maxRecDepth 100000 in
set_option maxHeartbeats 2000000 in
theorem tree_leaf (sb g cap : Nat) (ws : List Rd.Wd) (hl : ws.length ≤ 121) (hg : g ≠ sb) (w : World) (i j d : Nat) (s s2 : Rd.Tally) (hS : Shp w sb s) (hRow : RowAt w g ws)
    (hij : i < j) (hj : j ≤ ws.length) (q1 q2 : Int) (NO : Hid (NoOp g cap ws i j q1 q2)) (hdo : DigOk ws) (n45 : (Rd.txt ws i == [45]) = false) (n40 : (Rd.txt ws i == [40]) = false) (hkd : (Rd.kd (Rd.txt ws i) == 1) = false) (hfn : Rd.isFn (Rd.txt ws i) = false) (hne : (Rd.txt ws i == []) = false)
    (hok : Rd.termsOkB ws ((j - i - 1) / 2) (i + 2) = true) (hnk : (Rd.nameK (Rd.txt ws i) == 2 || Rd.nameK (Rd.txt ws i) == 3 || Rd.nameK (Rd.txt ws i) == 4) = true) (hs2 : s2 = (max s.1 d, s.2 + 1)) (hn : s2.2 ≤ 1000) (hd : d + (j - i) ≤ 500) :
    Calls Tryz.prog 25 #[.pointer (some ⟨sb, 0, none⟩), .slice (some ⟨g, 0, none⟩) ws.length cap, .int .i64 i, .int .i64 j, .int .i64 d] w (TPost sb w (Rd.leafT (Rd.nameK (Rd.txt ws i)) 0 (Rd.termsFrom ws ((j - i - 1) / 2) (i + 2))) s2) := by
  have c0 : w.cell? ⟨sb, 0, none⟩ = some (.int .i64 s.1) := cell_of_block hS rfl
  have c1 : w.cell? ⟨sb, 1, none⟩ = some (.int .i64 s.2) := cell_of_block hS rfl
  have f0 : w.frozen? ⟨sb, 0, none⟩ = false := frozen_of_block hS
  have f1 : w.frozen? ⟨sb, 1, none⟩ = false := frozen_of_block hS
  have hlt := heap_lt hS
  have hgw := RowAt.lt hRow
  obtain ⟨e0, _⟩ := row_cells hRow i (by omega)
  have n1 := NO.out.n1
  have n2 := NO.out.n2
  obtain ⟨ii, hii, hiz, hisize, hiby⟩ := info_parts infoInt
  have hnb : s.2 + 1 ≤ 1000 := by rw [hs2] at hn; exact hn
  have HDO := hide1 hdo
  have HOK := hide1 hok
  have UX : Hid (Rd.txt ws i = (Rd.wordAt ws i).text.data.toList) := rfl
  rw [UX.out] at n45 n40 hkd hfn hne hnk
  rw [UX.out]
  generalize (Rd.wordAt ws i).text = t at *
  have hz : 0 < t.size := by
    rcases Nat.lt_or_ge 0 t.size with h | h
    · exact h
    · rw [empty_of (t := t) (by omega)] at hne; cases hne
  have hdg : Rd.isDig (t[0].toNat : Int) = false := by rw [← kd_first hz]; exact hkd
  have y1 := tl n45
  have y2 := tl n40
  have HNK := hide1 hnk
  obtain ⟨c, hc⟩ : ∃ c, c = (j - i - 1) / 2 := ⟨_, rfl⟩
  rw [← hc]
  rw [← hc] at HOK
  have hcj : i + 2 * c < j := by omega
  have hcj2 : j ≤ i + 2 * c + 2 := by omega
  clear hkd n45 n40 hdo hok hne hnk hc
  by_cases hdp : (s.1 : Int) < d
  · have hS1 : Shp (w.setCell ⟨sb, 0, none⟩ (.int .i64 d)) sb (max s.1 d, s.2) := by rw [Nat.max_eq_right (by omega)]; exact hS.set0 d rfl
    have hK1 : Keep sb w (w.setCell ⟨sb, 0, none⟩ (.int .i64 d)) := (Keep.refl _ _).setCell 0 _
    have hK2 := hK1.setCell 1 (.int .i64 ((s.2 : Int) + 1))
    have hS2 : Shp (World.setCell (w.setCell ⟨sb, 0, none⟩ (.int .i64 d)) ⟨sb, 1, none⟩ (.int .i64 ((s.2 : Int) + 1))) sb s2 := by rw [hs2]; exact hS1.set1 (s.2 + 1) (by simp)
    have hRow2 := hRow.keep hK2 hg
    clear hs2
    go_enter Tryz.func25, Tryz.ntmps25
    go_wp2_with fail
    refine (NO.out.p1 _ hRow).mono ?_
    rintro e w' ⟨rfl, rfl⟩
    go_wp2_with fail
    refine (NO.out.p2 _ hRow).mono ?_
    rintro e w' ⟨rfl, rfl⟩
    go_wp2_with (first | (go_at_call 34; refine (rdigit_any _ _).mono ?_; rintro e w' ⟨rfl, rfl⟩) | (go_at_call 38; refine (function_any _ _).mono ?_; rintro e w' ⟨rfl, rfl⟩))
    go_loopw [14] (fun kv wr => leafRel sb g w.heap.size ws i c t w s2 kv wr) (fun kv _ => j - (intOf kv).toNat)
    case atStart =>
      refine ⟨0, i + 2, .slice none 0 0, Nat.zero_le _, by omega, by go_num, ?_, ⟨rfl, Or.inl ⟨rfl, rfl⟩⟩, hS2.alloc _, hRow2.keep ((Keep.refl sb _).alloc _) hg, hK2.alloc _, Nat.le_refl _, by simp [size_set]⟩
      have := cells_new (World.setCell (w.setCell ⟨sb, 0, none⟩ (.int .i64 d)) ⟨sb, 1, none⟩ (.int .i64 ((s.2 : Int) + 1))) (.cells #[.string t, .bool false, .slice none 0 0, .bool false, .slice none 0 0, .slice none 0 0, .slice none 0 0] 62)
      rw [size_set, size_set] at this
      exact this
    case round =>
      obtain ⟨m, kk, tv, hmc, hkk, rfl, hblk, hown, hSr, hRr, hKr, hb0, hb1⟩ := hrel
      have HKK := hide1 hkk
      clear hK1 hK2 hS1 hS2 hRow2 c0 c1 f0 f1 e0
      by_cases hlt2 : m < c
      · have hkd := termsOk_at c (i + 2) m HOK.out hlt2
        rw [← hkk] at hkd
        obtain ⟨u1, u2⟩ := HDO.out kk (by simpa using hkd)
        have hkl : kk < ws.length := by omega
        have hkj : kk < j := by omega
        obtain ⟨e0, _⟩ := row_cells hRr kk hkl
        have x5 : wr.cell? ⟨w.heap.size, 5, none⟩ = some tv := cell_of_block hblk rfl
        have UV : Hid (Rd.valAt ws kk = Rd.valTo (Rd.wordAt ws kk).text (Rd.wordAt ws kk).text.size) := rfl
        have HROW : Hid (∀ W, RowAt W g ws → W.cell? ⟨g, kk * 2, none⟩ = some (.string (Rd.wordAt ws kk).text)) := fun W hW => (row_cells hW kk hkl).1
        generalize (Rd.wordAt ws kk).text = tt at *
        have U2 := hide1 u2
        have hgl := RowAt.lt hRr
        have hm8 : m ≤ 121 := by omega
        clear u2 hkd hkk
        go_wp2_with fail
        go_region_law (first
          | (refine step_append_lies _ rfl _ _ 24 rfl (w.heap.size + 1) 3 ii (.int .i64 0) 1 8 Tryz.underlying24 hii hiz hisize hiby rfl (by decide) tv m _ rfl (hown2.alloc _) ⟨w2.heap.size, 0, none⟩ 1 1 [.int .i64 (Rd.valTo tt tt.size)] rfl rfl (cell_one_new _ _ _) (fun u hu => by simp at hu; subst hu; rfl) (by decide) (by unfold maxLen; omega) (by omega) (by simp; omega) _ rfl ?_; intro g6 cap6 w6 hown6 hgrow6 hat6 hlt6; have hblk6 := grown_old (hown2.alloc _) hgrow6 (Nat.lt_succ_self w.heap.size) ((Below.heap_alloc _ _ _ hb12).trans hblk2); have x56 : w6.cell? ⟨w.heap.size, 5, none⟩ = some tv := cell_of_block hblk6 rfl; have f56 : w6.frozen? ⟨w.heap.size, 5, none⟩ = false := frozen_of_block hblk6)
          | (go_simp; go_wp2_with (go_at_call 41; refine (number_any _ _ u1 U2.out).mono ?_; rintro e w2 ⟨rfl, hb2'⟩; have hb2 : Below wr.heap.size wr w2 := ⟨hb2'.os, hb2'.tape, hb2'.output, hb2'.size, hb2'.block⟩; clear hb2'; have hblk2 := (hb2.block _ hb1).trans hblk; have x52 : w2.cell? ⟨w.heap.size, 5, none⟩ = some tv := cell_of_block hblk2 rfl; have hown2 := own_below hown hb2; have hRr2 : RowAt w2 g ws := RowAt.keep (sb := sb) (w := wr) hRr (Keep.of_below hb2) hg; have e02 := HROW.out w2 hRr2; have hb12 := heap_lt hblk2; have hgl2 := RowAt.lt hRr2; have hSr2 := Shp.below (w := wr) hSr hb2; have hKr2 := hKr.trans (Keep.of_below (w := wr) hb2))))
        all_goals
          have rel := leaf_step hlt2 HKK.out UV.out.symm hblk6 hown2 hgrow6 hown6 hSr2 hRr2 hKr2 hlt hgw
          go_wp2_with fail
          go_roundw
          case rel => first | exact rel | ((repeat apply Exists.intro); exact ⟨rel, rfl⟩)
          case measure => simp [intOf]; omega
      · obtain rfl : m = c := by omega
        have hkj : ¬ (kk : Int) < j := by omega
        clear hkk
        go_wp2_with fail
        go_ret
        exact leaf_done HNK.out hblk hown hSr hKr hlt
  · have hS1 : Shp w sb (max s.1 d, s.2) := by rw [Nat.max_eq_left (by omega)]; exact hS
    have hK1 : Keep sb w w := Keep.refl _ _
    have hK2 := hK1.setCell 1 (.int .i64 ((s.2 : Int) + 1))
    have hS2 : Shp (World.setCell w ⟨sb, 1, none⟩ (.int .i64 ((s.2 : Int) + 1))) sb s2 := by rw [hs2]; exact hS1.set1 (s.2 + 1) (by simp)
    have hRow2 := hRow.keep hK2 hg
    clear hs2
    go_enter Tryz.func25, Tryz.ntmps25
    go_wp2_with fail
    refine (NO.out.p1 _ hRow).mono ?_
    rintro e w' ⟨rfl, rfl⟩
    go_wp2_with fail
    refine (NO.out.p2 _ hRow).mono ?_
    rintro e w' ⟨rfl, rfl⟩
    go_wp2_with (first | (go_at_call 34; refine (rdigit_any _ _).mono ?_; rintro e w' ⟨rfl, rfl⟩) | (go_at_call 38; refine (function_any _ _).mono ?_; rintro e w' ⟨rfl, rfl⟩))
    go_loopw [14] (fun kv wr => leafRel sb g w.heap.size ws i c t w s2 kv wr) (fun kv _ => j - (intOf kv).toNat)
    case atStart =>
      refine ⟨0, i + 2, .slice none 0 0, Nat.zero_le _, by omega, by go_num, ?_, ⟨rfl, Or.inl ⟨rfl, rfl⟩⟩, hS2.alloc _, hRow2.keep ((Keep.refl sb _).alloc _) hg, hK2.alloc _, Nat.le_refl _, by simp [size_set]⟩
      have := cells_new (World.setCell w ⟨sb, 1, none⟩ (.int .i64 ((s.2 : Int) + 1))) (.cells #[.string t, .bool false, .slice none 0 0, .bool false, .slice none 0 0, .slice none 0 0, .slice none 0 0] 62)
      rw [size_set] at this
      exact this
    case round =>
      obtain ⟨m, kk, tv, hmc, hkk, rfl, hblk, hown, hSr, hRr, hKr, hb0, hb1⟩ := hrel
      have HKK := hide1 hkk
      clear hK1 hK2 hS1 hS2 hRow2 c0 c1 f0 f1 e0
      by_cases hlt2 : m < c
      · have hkd := termsOk_at c (i + 2) m HOK.out hlt2
        rw [← hkk] at hkd
        obtain ⟨u1, u2⟩ := HDO.out kk (by simpa using hkd)
        have hkl : kk < ws.length := by omega
        have hkj : kk < j := by omega
        obtain ⟨e0, _⟩ := row_cells hRr kk hkl
        have x5 : wr.cell? ⟨w.heap.size, 5, none⟩ = some tv := cell_of_block hblk rfl
        have UV : Hid (Rd.valAt ws kk = Rd.valTo (Rd.wordAt ws kk).text (Rd.wordAt ws kk).text.size) := rfl
        have HROW : Hid (∀ W, RowAt W g ws → W.cell? ⟨g, kk * 2, none⟩ = some (.string (Rd.wordAt ws kk).text)) := fun W hW => (row_cells hW kk hkl).1
        generalize (Rd.wordAt ws kk).text = tt at *
        have U2 := hide1 u2
        have hgl := RowAt.lt hRr
        have hm8 : m ≤ 121 := by omega
        clear u2 hkd hkk
        go_wp2_with fail
        go_region_law (first
          | (refine step_append_lies _ rfl _ _ 24 rfl (w.heap.size + 1) 3 ii (.int .i64 0) 1 8 Tryz.underlying24 hii hiz hisize hiby rfl (by decide) tv m _ rfl (hown2.alloc _) ⟨w2.heap.size, 0, none⟩ 1 1 [.int .i64 (Rd.valTo tt tt.size)] rfl rfl (cell_one_new _ _ _) (fun u hu => by simp at hu; subst hu; rfl) (by decide) (by unfold maxLen; omega) (by omega) (by simp; omega) _ rfl ?_; intro g6 cap6 w6 hown6 hgrow6 hat6 hlt6; have hblk6 := grown_old (hown2.alloc _) hgrow6 (Nat.lt_succ_self w.heap.size) ((Below.heap_alloc _ _ _ hb12).trans hblk2); have x56 : w6.cell? ⟨w.heap.size, 5, none⟩ = some tv := cell_of_block hblk6 rfl; have f56 : w6.frozen? ⟨w.heap.size, 5, none⟩ = false := frozen_of_block hblk6)
          | (go_simp; go_wp2_with (go_at_call 41; refine (number_any _ _ u1 U2.out).mono ?_; rintro e w2 ⟨rfl, hb2'⟩; have hb2 : Below wr.heap.size wr w2 := ⟨hb2'.os, hb2'.tape, hb2'.output, hb2'.size, hb2'.block⟩; clear hb2'; have hblk2 := (hb2.block _ hb1).trans hblk; have x52 : w2.cell? ⟨w.heap.size, 5, none⟩ = some tv := cell_of_block hblk2 rfl; have hown2 := own_below hown hb2; have hRr2 : RowAt w2 g ws := RowAt.keep (sb := sb) (w := wr) hRr (Keep.of_below hb2) hg; have e02 := HROW.out w2 hRr2; have hb12 := heap_lt hblk2; have hgl2 := RowAt.lt hRr2; have hSr2 := Shp.below (w := wr) hSr hb2; have hKr2 := hKr.trans (Keep.of_below (w := wr) hb2))))
        all_goals
          have rel := leaf_step hlt2 HKK.out UV.out.symm hblk6 hown2 hgrow6 hown6 hSr2 hRr2 hKr2 hlt hgw
          go_wp2_with fail
          go_roundw
          case rel => first | exact rel | ((repeat apply Exists.intro); exact ⟨rel, rfl⟩)
          case measure => simp [intOf]; omega
      · obtain rfl : m = c := by omega
        have hkj : ¬ (kk : Int) < j := by omega
        clear hkk
        go_wp2_with fail
        go_ret
        exact leaf_done HNK.out hblk hown hSr hKr hlt

end Go.Proofs.YtmepffenlgedbaaGreatDoor
