import Derived.Test.YteghhlfmcjmnoaaGreatDoorAb9
set_option linter.unusedSimpArgs false
set_option linter.unusedVariables false
namespace Go.Proofs.YteghhlfmcjmnoaaGreatDoor
open Go.RowKit
namespace Ab
def boxesOf : AT → List Nat
  | .val (.one (.ptr b _)) => [b]
  | .val (.one (.slc b _ _ _)) => [b]
  | _ => []
def accOf (ev : Operand → AT) : Op → List Nat
  | .load _ a => boxesOf (ev a)
  | .store _ a _ => boxesOf (ev a)
  | .call { callee := .builtin .append, args := args, .. } => args.toList.flatMap fun x => boxesOf (ev x)
  | _ => []
def reads (all : Array Oper) (o : Oper) : List Tmp :=
  (o.op.operands.toList.filterMap fun | .tmp t => some t | _ => none) ++ (match o.guard with | some (g, _) => ((all[g]?).bind (·.dst)).toList | none => [])
abbrev Tb := List (Oper × Ent × List Nat)
def tmL (L : Nat → Bool) : Nat → Tb → List AT → List AT
  | _, [], tm => tm
  | k, (o, e, _) :: r, tm => tmL L (k + 1) r (bif L k then putT tm o.dst e.res else tm)
def bxL (L : Nat → Bool) (n0 : Nat) : Nat → Tb → (Nat → Option Box) → (Nat → Option Box)
  | _, [], bx => bx
  | k, (_, e, _) :: r, bx => bxL L n0 (k + 1) r (bif L k then effB (n0 + k) e bx else bx)
def boxesL (n0 : Nat) : Nat → Tb → List (Nat × Box) → List (Nat × Box)
  | _, [], l => l
  | k, (_, e, _) :: r, l => boxesL n0 (k + 1) r (effL (n0 + k) e l)
def tabA (C : Cfg) (sp : Spec) (xb : Nat → Option Box) (all : Array Oper) (n0 : Nat) : Nat → List Oper → List AT → List (Nat × Box) → List (Int × Nat) → Option (Tb × List (Int × Nat) × List Prop)
  | _, [], _, _, ν => some ([], ν, [])
  | k, o :: r, tm, l, ν => (entA C sp xb all tm (look l) ν (n0 + k) o).bind fun (e, ν', p) =>
    (tabA C sp xb all n0 (k + 1) r (putT tm o.dst e.res) (effL (n0 + k) e l) (ν ++ ν')).map fun (T, νf, q) => ((o, e, accOf (evO tm) o.op) :: T, νf, p ++ q)
def touch (id : Nat) (e : Ent) : List Nat :=
  match e.new with
  | some _ => id :: e.app.toList
  | none => (e.sto.map (·.1)).toList
theorem look_effL (id : Nat) (e : Ent) (l : List (Nat × Box)) (hid : look l id = none) : look (effL id e l) = effB id e (look l) := by
  unfold effL effB
  cases e.new with
  | some B =>
    simp only
    cases e.app with
    | none => exact look_cons _ _ _
    | some b =>
      simp only [appB]
      cases hb : look l b with
      | none => simp only; exact look_cons _ _ _
      | some O =>
        simp only
        have hne : b ≠ id := by rintro rfl; rw [hid] at hb; cases hb
        rw [look_tip (B := O) (by rw [look_cons, setB_ne hne]; exact hb), look_cons]
  | none =>
    simp only
    cases e.sto with
    | none => rfl
    | some p =>
      obtain ⟨b, cs⟩ := p
      simp only
      cases h : look l b with
      | some B => exact look_putBox h cs
      | none =>
        funext x
        rw [look_put]
        by_cases ex : x = b
        · subst ex; rw [if_pos rfl, h]; simp only; exact h.symm
        · rw [if_neg ex]
theorem appB_other {bx : Nat → Option Box} {n : Nat} {D : Box} {old : Option Nat} {b : Nat} (h1 : b ≠ n) (h2 : old ≠ some b) : appB bx n D old b = bx b := by
  unfold appB
  cases old with
  | none => exact setB_ne h1
  | some o =>
    have ho : b ≠ o := fun e => h2 (by rw [e])
    simp only
    cases bx o with
    | none => exact setB_ne h1
    | some O => simp only; rw [setB_ne ho]; exact setB_ne h1
theorem appB_same {bx bx' : Nat → Option Box} {n : Nat} {D : Box} {old : Option Nat} {b : Nat} (h : b = n ∨ old = some b) (hb : bx b = bx' b) : appB bx n D old b = appB bx' n D old b := by
  unfold appB
  cases old with
  | none =>
    rcases h with rfl | h
    · simp only [setB_same]
    · cases h
  | some o =>
    simp only
    by_cases ho : b = o
    · subst ho
      rw [hb]
      cases bx' b with
      | none => simp only [setB]; split; rfl; exact hb
      | some O => simp only; rw [setB_same, setB_same]
    · have hn : b = n := by
        rcases h with h | h
        · exact h
        · exact absurd (Option.some.inj h).symm ho
      subst hn
      have e : ∀ bx : Nat → Option Box, (match bx o with | some B => setB (setB bx b D) o { B with tip := false } | none => setB bx b D) b = some D := by
        intro bx
        cases bx o with
        | none => exact setB_same _ _ _
        | some O => simp only; rw [setB_ne ho]; exact setB_same _ _ _
      exact (e bx).trans (e bx').symm
theorem effB_other {id : Nat} {e : Ent} {bx : Nat → Option Box} {b : Nat} (h : b ∉ touch id e) : effB id e bx b = bx b := by
  unfold touch at h
  unfold effB
  cases hn : e.new with
  | some B =>
    simp only [hn, List.mem_cons, not_or] at h ⊢
    exact appB_other h.1 (fun e2 => h.2 (by rw [e2]; simp))
  | none =>
    simp only [hn] at h ⊢
    cases hs : e.sto with
    | none => rfl
    | some p =>
      obtain ⟨c, cs⟩ := p
      simp only [hs, Option.map_some, Option.toList_some, List.mem_singleton] at h ⊢
      cases bx c with
      | none => rfl
      | some B => simp only; exact setB_ne h
theorem effB_same {id : Nat} {e : Ent} {bx bx' : Nat → Option Box} {b : Nat} (h : b ∈ touch id e) (hb : bx b = bx' b) : effB id e bx b = effB id e bx' b := by
  unfold touch at h
  unfold effB
  cases hn : e.new with
  | some B =>
    simp only [hn, List.mem_cons] at h ⊢
    refine appB_same ?_ hb
    rcases h with h | h
    · exact Or.inl h
    · exact Or.inr (by simpa using h)
  | none =>
    simp only [hn] at h ⊢
    cases hs : e.sto with
    | none => simp [hs] at h
    | some p =>
      obtain ⟨c, cs⟩ := p
      simp only [hs, Option.map_some, Option.toList_some, List.mem_singleton] at h ⊢
      subst h
      rw [hb]
      cases bx' b with
      | none => simp only; exact hb
      | some B => simp only; rw [setB_same, setB_same]
theorem putT_len (tm : List AT) (d : Option Tmp) (v : AT) : (putT tm d v).length = tm.length := by cases d <;> simp [putT]
theorem putT_other {tm : List AT} {d : Option Tmp} {v : AT} {t : Nat} (h : d ≠ some t) : (putT tm d v)[t]? = tm[t]? := by
  cases d with
  | none => rfl
  | some d => simp only [putT]; rw [List.getElem?_set_ne (fun e => h (by rw [e]))]
theorem putT_same {tm tm' : List AT} {v : AT} {t : Nat} (h : tm.length = tm'.length) : (putT tm (some t) v)[t]? = (putT tm' (some t) v)[t]? := by
  simp [putT, List.getElem?_set, h]
theorem tmL_len {L : Nat → Bool} : ∀ (T : Tb) (k : Nat) (tm : List AT), (tmL L k T tm).length = tm.length
  | [], _, _ => rfl
  | (o, e, _) :: r, k, tm => by
    unfold tmL
    rw [tmL_len r]
    cases L k
    · rfl
    · exact putT_len _ _ _
theorem tm_agree {L L' : Nat → Bool} {t : Nat} : ∀ (T : Tb) (k : Nat) (tm tm' : List AT), tm.length = tm'.length → tm[t]? = tm'[t]? → (∀ (i : Nat) x, T[i]? = some x → x.1.dst = some t → L (k + i) = L' (k + i)) → (tmL L k T tm)[t]? = (tmL L' k T tm')[t]?
  | [], _, _, _, _, h, _ => h
  | (o, e, c) :: r, k, tm, tm', hl, h, hL => by
    unfold tmL
    refine tm_agree r (k + 1) _ _ ?_ ?_ (fun i x hx hd => by have := hL (i + 1) x (by simpa using hx) hd; rw [show k + 1 + i = k + (i + 1) by omega]; exact this)
    · cases L k <;> cases L' k <;> simp [putT_len, hl]
    · by_cases hd : o.dst = some t
      · have := hL 0 (o, e, c) rfl hd
        rw [Nat.add_zero] at this
        rw [this, hd]
        cases L' k
        · exact h
        · exact putT_same hl
      · have h1 : (bif L k then putT tm o.dst e.res else tm)[t]? = tm[t]? := by cases L k; rfl; exact putT_other hd
        have h2 : (bif L' k then putT tm' o.dst e.res else tm')[t]? = tm'[t]? := by cases L' k; rfl; exact putT_other hd
        rw [h1, h2, h]
theorem tm_miss {L : Nat → Bool} {t : Nat} : ∀ (T : Tb) (k : Nat) (tm : List AT), (∀ (i : Nat) x, T[i]? = some x → x.1.dst = some t → L (k + i) = false) → (tmL L k T tm)[t]? = tm[t]? := by
  intro T k tm h
  have := tm_agree (L := L) (L' := fun _ => false) (t := t) T k tm tm rfl rfl h
  rw [this]
  clear this h
  induction T generalizing k with
  | nil => rfl
  | cons x r ih => obtain ⟨o, e, c⟩ := x; unfold tmL; exact ih (k + 1)
theorem tm_none {L : Nat → Bool} : ∀ (T : Tb) (k : Nat) (tm : List AT), (∀ i, k ≤ i → L i = false) → tmL L k T tm = tm
  | [], _, _, _ => rfl
  | (o, e, c) :: r, k, tm, h => by
    unfold tmL
    rw [h k (Nat.le_refl _)]
    exact tm_none r (k + 1) tm fun i hi => h i (by omega)
theorem tm_hit {L : Nat → Bool} {t : Nat} : ∀ (T : Tb) (j k : Nat) (tm : List AT) (x : Oper × Ent × List Nat), T[j]? = some x → x.1.dst = some t → L (k + j) = true → (∀ (i : Nat) y, i ≠ j → T[i]? = some y → y.1.dst ≠ some t) → (tmL L k T tm)[t]? = (putT tm (some t) x.2.1.res)[t]?
  | (o, e, c) :: r, 0, k, tm, x, hx, hd, hL, hn => by
    simp at hx
    subst hx
    unfold tmL
    rw [Nat.add_zero] at hL
    rw [hL]
    simp only [cond_true]
    rw [tm_miss r (k + 1) _ (fun i y hy hyd => absurd hyd (hn (i + 1) y (by omega) (by simpa using hy)))]
    simp only at hd
    rw [hd]
  | (o, e, c) :: r, j + 1, k, tm, x, hx, hd, hL, hn => by
    unfold tmL
    have h0 : o.dst ≠ some t := hn 0 (o, e, c) (by omega) rfl
    rw [tm_hit r j (k + 1) _ x (by simpa using hx) hd (by rw [show k + 1 + j = k + (j + 1) by omega]; exact hL) (fun i y hi hy => hn (i + 1) y (by omega) (by simpa using hy))]
    refine putT_same ?_
    cases L k
    · rfl
    · exact putT_len _ _ _
  | [], j, k, tm, x, hx, _, _, _ => by simp at hx
theorem tm_add {L : Nat → Bool} {T : Tb} {j : Nat} {tm : List AT} {x : Oper × Ent × List Nat} (hx : T[j]? = some x) (hj : L j = false) (hn : ∀ (i : Nat) y t, i ≠ j → T[i]? = some y → x.1.dst = some t → y.1.dst ≠ some t) : tmL (fun i => L i || i == j) 0 T tm = putT (tmL L 0 T tm) x.1.dst x.2.1.res := by
  apply List.ext_getElem?
  intro t
  by_cases hd : x.1.dst = some t
  · rw [tm_hit T j 0 tm x hx hd (by simp) (fun i y hi hy => hn i y t hi hy hd), hd]
    exact putT_same (tmL_len _ _ _).symm
  · rw [putT_other hd]
    refine tm_agree T 0 tm tm rfl rfl fun i y hy hyd => ?_
    have : i ≠ j := by rintro rfl; rw [hx] at hy; cases hy; exact hd hyd
    simp [this]
theorem bx_agree {L L' : Nat → Bool} {n0 b : Nat} : ∀ (T : Tb) (k : Nat) (bx bx' : Nat → Option Box), bx b = bx' b → (∀ (i : Nat) x, T[i]? = some x → b ∈ touch (n0 + (k + i)) x.2.1 → L (k + i) = L' (k + i)) → bxL L n0 k T bx b = bxL L' n0 k T bx' b
  | [], _, _, _, h, _ => h
  | (o, e, c) :: r, k, bx, bx', h, hL => by
    unfold bxL
    refine bx_agree r (k + 1) _ _ ?_ (fun i x hx hd => by have := hL (i + 1) x (by simpa using hx) (by rw [show k + (i + 1) = k + 1 + i by omega]; exact hd); rw [show k + 1 + i = k + (i + 1) by omega]; exact this)
    by_cases hd : b ∈ touch (n0 + k) e
    · have := hL 0 (o, e, c) rfl hd
      rw [Nat.add_zero] at this
      rw [this]
      cases L' k
      · exact h
      · exact effB_same hd h
    · have h1 : (bif L k then effB (n0 + k) e bx else bx) b = bx b := by cases L k; rfl; exact effB_other hd
      have h2 : (bif L' k then effB (n0 + k) e bx' else bx') b = bx' b := by cases L' k; rfl; exact effB_other hd
      rw [h1, h2, h]
theorem bx_none {L : Nat → Bool} {n0 : Nat} : ∀ (T : Tb) (k : Nat) (bx : Nat → Option Box), (∀ i, k ≤ i → L i = false) → bxL L n0 k T bx = bx
  | [], _, _, _ => rfl
  | (o, e, c) :: r, k, bx, h => by
    unfold bxL
    rw [h k (Nat.le_refl _)]
    exact bx_none r (k + 1) bx fun i hi => h i (by omega)
theorem bx_miss {L : Nat → Bool} {n0 b : Nat} (T : Tb) (k : Nat) (bx : Nat → Option Box) (h : ∀ (i : Nat) x, T[i]? = some x → b ∈ touch (n0 + (k + i)) x.2.1 → L (k + i) = false) : bxL L n0 k T bx b = bx b := by
  rw [bx_agree (L' := fun _ => false) T k bx bx rfl h, bx_none T k bx fun _ _ => rfl]
theorem bx_add {L : Nat → Bool} {n0 j : Nat} : ∀ (T : Tb) (k : Nat) (bx : Nat → Option Box) (i : Nat) (x : Oper × Ent × List Nat), T[i]? = some x → j = k + i → L j = false → (∀ (m : Nat) y b, i < m → T[m]? = some y → b ∈ touch (n0 + j) x.2.1 → b ∈ touch (n0 + (k + m)) y.2.1 → L (k + m) = false) → bxL (fun i => L i || i == j) n0 k T bx = effB (n0 + j) x.2.1 (bxL L n0 k T bx)
  | (o, e, c) :: r, k, bx, 0, x, hx, hj, hL, hn => by
    simp at hx
    subst hx
    simp only [Nat.add_zero] at hj
    subst hj
    unfold bxL
    simp only [hL, Bool.false_or, beq_self_eq_true, cond_true, cond_false]
    have hrest : bxL (fun i => L i || i == j) n0 (j + 1) r (effB (n0 + j) e bx) = bxL L n0 (j + 1) r (effB (n0 + j) e bx) := by
      funext b
      refine bx_agree r (j + 1) _ _ rfl fun m y _ _ => ?_
      have : ¬ j + 1 + m = j := by omega
      simp [this]
    rw [hrest]
    funext b
    by_cases hd : b ∈ touch (n0 + j) e
    · have hm : ∀ bx, bxL L n0 (j + 1) r bx b = bx b := fun bx => bx_miss r (j + 1) bx fun m y hy ht => by
        have := hn (m + 1) y b (by omega) (by simpa using hy) hd (by rw [show j + (m + 1) = j + 1 + m by omega]; exact ht)
        rw [show j + 1 + m = j + (m + 1) by omega]
        exact this
      rw [hm]
      exact effB_same hd (hm bx).symm
    · rw [effB_other hd]
      exact bx_agree r (j + 1) _ _ (effB_other hd) fun _ _ _ _ => rfl
  | (o, e, c) :: r, k, bx, i + 1, x, hx, hj, hL, hn => by
    unfold bxL
    have hk : ¬ k = j := by omega
    have : (L k || k == j) = L k := by simp [hk]
    rw [this]
    exact bx_add r (k + 1) _ i x (by simpa using hx) (by omega) hL fun m y b hm hy h1 h2 => by
      have := hn (m + 1) y b (by omega) (by simpa using hy) h1 (by rw [show k + (m + 1) = k + 1 + m by omega]; exact h2)
      rw [show k + 1 + m = k + (m + 1) by omega]
      exact this
  | [], k, bx, i, x, hx, _, _, _ => by simp at hx
theorem tm_all {L : Nat → Bool} : ∀ (T : Tb) (k : Nat) (tm : List AT), (∀ i, i < T.length → L (k + i) = true) → tmL L k T tm = tmL (fun _ => true) k T tm
  | [], _, _, _ => rfl
  | (o, e, c) :: r, k, tm, h => by
    unfold tmL
    rw [show L k = true from h 0 (by simp)]
    exact tm_all r (k + 1) _ fun i hi => by have := h (i + 1) (by simpa using hi); rw [show k + 1 + i = k + (i + 1) by omega]; exact this
def Over (l : List (Nat × Box)) (n : Nat) : Prop := ∀ b, n ≤ b → look l b = none
theorem over_eff {l : List (Nat × Box)} {n0 k : Nat} {e : Ent} (h : Over l (n0 + k)) : Over (effL (n0 + k) e l) (n0 + (k + 1)) := by
  intro b hb
  rw [look_effL _ _ _ (h _ (Nat.le_refl _))]
  by_cases ht : b ∈ touch (n0 + k) e
  · -- an old box: there is none
    unfold touch at ht
    unfold effB
    cases hn : e.new with
    | some B =>
      rw [hn] at ht
      simp only [List.mem_cons] at ht
      rcases ht with ht | ht
      · omega
      · have ho : e.app = some b := by simpa using ht
        simp only [ho, appB, h b (by omega)]
        rw [setB_ne (by omega)]
        exact h b (by omega)
    | none =>
      rw [hn] at ht
      simp only at ht ⊢
      cases hs : e.sto with
      | none => rw [hs] at ht; simp at ht
      | some p =>
        obtain ⟨c, cs⟩ := p
        rw [hs] at ht
        simp at ht
        subst ht
        simp only [h b (by omega)]
  · rw [effB_other ht]
    exact h b (by omega)
theorem bx_all {L : Nat → Bool} {n0 : Nat} : ∀ (T : Tb) (k : Nat) (l : List (Nat × Box)), Over l (n0 + k) → (∀ i, i < T.length → L (k + i) = true) → bxL L n0 k T (look l) = look (boxesL n0 k T l)
  | [], _, _, _, _ => rfl
  | (o, e, c) :: r, k, l, ho, h => by
    unfold bxL boxesL
    rw [show L k = true from h 0 (by simp)]
    simp only [cond_true]
    rw [← look_effL _ _ _ (ho _ (Nat.le_refl _))]
    exact bx_all r (k + 1) _ (over_eff ho) fun i hi => by have := h (i + 1) (by simpa using hi); rw [show k + 1 + i = k + (i + 1) by omega]; exact this
theorem tab_at {C : Cfg} {sp : Spec} {xb : Nat → Option Box} {all : Array Oper} {n0 : Nat} {νf : List (Int × Nat)} : ∀ (os : List Oper) (k : Nat) (tm : List AT) (l : List (Nat × Box)) (ν : List (Int × Nat)) (T : Tb) (p : List Prop), tabA C sp xb all n0 k os tm l ν = some (T, νf, p) → Over l (n0 + k) → Holds p →
    T.length = os.length ∧ (∀ (i : Nat) (x : Int × Nat), ν[i]? = some x → νf[i]? = some x) ∧ ∀ (j : Nat) (x : Oper × Ent × List Nat), T[j]? = some x → os[j]? = some x.1 ∧ ∃ ν1 ν2 q, Holds q ∧ (∀ (i : Nat) (y : Int × Nat), (ν1 ++ ν2)[i]? = some y → νf[i]? = some y) ∧
      entA C sp xb all (tmL (fun i => decide (i < k + j)) k T tm) (bxL (fun i => decide (i < k + j)) n0 k T (look l)) ν1 (n0 + (k + j)) x.1 = some (x.2.1, ν2, q) ∧ x.2.2 = accOf (evO (tmL (fun i => decide (i < k + j)) k T tm)) x.1.op
  | [], k, tm, l, ν, T, p, h, hov, hp => by
    simp only [tabA, Option.some.injEq, Prod.mk.injEq] at h
    obtain ⟨rfl, rfl, rfl⟩ := h
    exact ⟨rfl, fun _ _ h => h, fun j x hx => by simp at hx⟩
  | o :: os, k, tm, l, ν, T, p, h, hov, hp => by
    unfold tabA at h
    obtain ⟨⟨e, ν', q⟩, h1, h2⟩ := bnd h
    obtain ⟨⟨T', νf', q'⟩, h3, h4⟩ := mpd h2
    simp only [Prod.mk.injEq] at h4
    obtain ⟨rfl, rfl, rfl⟩ := h4
    obtain ⟨g1, g2, g3⟩ := tab_at os (k + 1) _ _ _ T' q' h3 (over_eff hov) (fun x hx => hp x (by simp [hx]))
    refine ⟨by simp [g1], fun i x hx => g2 i x (app_ext _ _ i x hx), fun j x hx => ?_⟩
    cases j with
    | zero =>
      simp at hx
      subst hx
      have e1 : tmL (fun i => decide (i < k + 0)) k ((o, e, accOf (evO tm) o.op) :: T') tm = tm := tm_none _ _ _ fun i hi => by simp; omega
      have e2 : bxL (fun i => decide (i < k + 0)) n0 k ((o, e, accOf (evO tm) o.op) :: T') (look l) = look l := bx_none _ _ _ fun i hi => by simp; omega
      rw [e1, e2]
      exact ⟨rfl, ν, ν', q, (fun x hx => hp x (by simp [hx])), g2, h1, rfl⟩
    | succ j =>
      obtain ⟨k1, ν1, ν2, q2, k2, k3, k4, k5⟩ := g3 j x (by simpa using hx)
      have e1 : tmL (fun i => decide (i < k + (j + 1))) k ((o, e, accOf (evO tm) o.op) :: T') tm = tmL (fun i => decide (i < k + 1 + j)) (k + 1) T' (putT tm o.dst e.res) := by
        conv => lhs; unfold tmL
        rw [show decide (k < k + (j + 1)) = true by simp]
        rw [show k + (j + 1) = k + 1 + j by omega]
        rfl
      have e2 : bxL (fun i => decide (i < k + (j + 1))) n0 k ((o, e, accOf (evO tm) o.op) :: T') (look l) = bxL (fun i => decide (i < k + 1 + j)) n0 (k + 1) T' (look (effL (n0 + k) e l)) := by
        rw [look_effL _ _ _ (hov _ (Nat.le_refl _))]
        conv => lhs; unfold bxL
        rw [show decide (k < k + (j + 1)) = true by simp]
        rw [show k + (j + 1) = k + 1 + j by omega]
        rfl
      rw [e1, e2, show n0 + (k + (j + 1)) = n0 + (k + 1 + j) by omega]
      exact ⟨by simpa using k1, ν1, ν2, q2, k2, k3, k4, k5⟩
end Ab
end Go.Proofs.YteghhlfmcjmnoaaGreatDoor
set_option linter.unusedSimpArgs false
set_option linter.unusedVariables false
namespace Go.Proofs.YteghhlfmcjmnoaaGreatDoor
open Go.RowKit
namespace Ab
theorem rowOf_congr {bx bx' : Nat → Option Box} {e : TypeId} {size : Nat} {t : AT} (h : ∀ b ∈ boxesOf t, bx b = bx' b) : rowOf bx e size t = rowOf bx' e size t := by
  unfold rowOf
  split
  · rfl
  · rename_i b off len sz
    rw [h b (by simp [boxesOf])]
  · rfl
theorem rowOf_box {bx : Nat → Option Box} {e : TypeId} {size : Nat} {t : AT} {b : Nat} {cs : List AC} {len : Nat} (h : rowOf bx e size t = some (some b, cs, len)) : b ∈ boxesOf t := by
  unfold rowOf at h
  split at h
  · cases h
  · rename_i b' off len' sz
    obtain ⟨B, h1, h2⟩ := bnd h
    cases hb : (off == 0 && sz == size && B.ty == e && B.cs.length == len' * size) with
    | false => rw [hb] at h2; cases h2
    | true => rw [hb] at h2; cases h2; simp [boxesOf]
  · cases h
theorem evalOp_congr {P : Program} {ev ev' : Operand → AT} {bx bx' : Nat → Option Box} {op : Op} (h : ∀ x ∈ op.operands.toList, ev x = ev' x) (hb : ∀ b ∈ accOf ev op, bx b = bx' b) : evalOp P ev bx op = evalOp P ev' bx' op := by
  cases op with
  | load t a =>
    have ha := h a (by simp [Op.operands])
    simp only [evalOp, ← ha]
    cases hc : asOne (ev a) with
    | none => rfl
    | some c =>
      cases c <;> try rfl
      case ptr b off =>
        simp only [Option.bind_some]
        rw [hb b (by simp [accOf, one_of hc, boxesOf])]
  | store t a x =>
    have ha := h a (by simp [Op.operands])
    have hx := h x (by simp [Op.operands])
    simp only [evalOp, ← ha, ← hx]
    cases hc : asOne (ev a) with
    | none => rfl
    | some c =>
      cases c <;> try rfl
      case ptr b off =>
        simp only [Option.bind_some]
        rw [hb b (by simp [accOf, one_of hc, boxesOf])]
  | build t parts =>
    have : (parts.toList.map fun (i, x) => (i, ev x)) = (parts.toList.map fun (i, x) => (i, ev' x)) := List.map_congr_left fun p hp => by
      obtain ⟨i, x⟩ := p
      simp only
      rw [h x (by simp only [Op.operands, List.mem_map]; exact ⟨(i, x), hp, rfl⟩)]
    simp only [evalOp, this]
  | buildSlice t len parts =>
    have : (parts.toList.map fun (i, x) => (i, ev x)) = (parts.toList.map fun (i, x) => (i, ev' x)) := List.map_congr_left fun p hp => by
      obtain ⟨i, x⟩ := p
      simp only
      rw [h x (by simp only [Op.operands, List.mem_map]; exact ⟨(i, x), hp, rfl⟩)]
    simp only [evalOp, this]
  | convert s d x => simp only [evalOp, h x (by simp [Op.operands])]
  | call c =>
    obtain ⟨callee, args, argTypes⟩ := c
    cases callee with
    | builtin b =>
      cases b <;> try rfl
      case append =>
        simp only [evalOp]
        split
        · rename_i t t' s x e1 e2
          have hs : ev s = ev' s := h s (by simp [Op.operands, Call.operands, e2])
          have hx : ev x = ev' x := h x (by simp [Op.operands, Call.operands, e2])
          have r1 : ∀ e size, rowOf bx e size (ev s) = rowOf bx' e size (ev s) := fun e size => rowOf_congr fun b hb' => hb b (by simp only [accOf, List.mem_flatMap]; exact ⟨s, by simp [e2], hb'⟩)
          have r2 : ∀ e size, rowOf bx e size (ev x) = rowOf bx' e size (ev x) := fun e size => rowOf_congr fun b hb' => hb b (by simp only [accOf, List.mem_flatMap]; exact ⟨x, by simp [e2], hb'⟩)
          simp only [← hs, ← hx, ← r1, ← r2]
          congr
          funext e
          congr
          funext _
          congr
          funext size
          congr
          funext i
          congr
          funext zero
          cases hr : rowOf bx e size (ev s) with
          | none => rfl
          | some p =>
            obtain ⟨old, cs, len⟩ := p
            simp only [Option.bind_some]
            have : okTip bx old = okTip bx' old := by
              cases old with
              | none => rfl
              | some b =>
                unfold okTip
                simp only
                rw [hb b (by simp only [accOf, List.mem_flatMap]; exact ⟨s, by simp [e2], rowOf_box hr⟩)]
            rw [this]
        · rfl
      case len =>
        simp only [evalOp]
        cases e1 : argTypes.toList with
        | nil => rfl
        | cons t r =>
          cases r with
          | cons _ _ => rfl
          | nil =>
            cases e2 : args.toList with
            | nil => rfl
            | cons x r =>
              cases r with
              | cons _ _ => rfl
              | nil =>
                simp only
                rw [h x (by simp [Op.operands, Call.operands, e2])]
    | value f =>
      cases f with
      | func f =>
        have : args.toList.map ev = args.toList.map ev' := List.map_congr_left fun x hx => h x (by simp [Op.operands, Call.operands]; right; simpa using hx)
        simp only [evalOp, this]
      | _ => rfl
    | _ => rfl
  | move x => simp only [evalOp, h x (by simp [Op.operands])]
  | assign x => simp only [evalOp, h x (by simp [Op.operands])]
  | pick c a b => simp only [evalOp, h c (by simp [Op.operands]), h a (by simp [Op.operands]), h b (by simp [Op.operands])]
  | box t x => simp only [evalOp, h x (by simp [Op.operands])]
  | nilCheck x => simp only [evalOp, h x (by simp [Op.operands])]
  | binOp o t x y u => simp only [evalOp, h x (by simp [Op.operands]), h y (by simp [Op.operands])]
  | unOp o t x => cases o <;> simp only [evalOp, h x (by simp [Op.operands])]
  | fieldAddr t x f => simp only [evalOp, h x (by simp [Op.operands])]
  | field t x f => simp only [evalOp, h x (by simp [Op.operands])]
  | indexAddr t x i => simp only [evalOp, h x (by simp [Op.operands]), h i (by simp [Op.operands])]
  | index t x i => simp only [evalOp, h x (by simp [Op.operands]), h i (by simp [Op.operands])]
  | extract x i => simp only [evalOp, h x (by simp [Op.operands])]
  | _ => rfl
def Eff.old : Eff → Option Nat
  | .sto b _ => some b
  | .app old _ _ _ _ => old
  | _ => none
def NoSto (e : Option Eff) : Prop := ∀ f b, e = some f → f.old ≠ some b
theorem noSto_bind {α : Type} {x : Option α} {f : α → Option Eff} (h : ∀ a, NoSto (f a)) : NoSto (x.bind f) := by
  intro f' b e
  obtain ⟨a, _, h2⟩ := bnd e
  exact h a f' b h2
theorem noSto_map {α : Type} {x : Option α} {f : α → Eff} (h : ∀ a, NoSto (some (f a))) : NoSto (x.map f) := by
  intro f' b e
  obtain ⟨a, _, h2⟩ := mpd e
  exact h a f' b (by rw [h2])
theorem noSto_val (r : AT) (p : List Prop) : NoSto (some (.val r p)) := fun _ _ e => by cases e; intro h; cases h
theorem noSto_cond (c : Bool) {x y : Option Eff} (hx : NoSto x) (hy : NoSto y) : NoSto (bif c then x else y) := by cases c; exact hy; exact hx
theorem noSto_new (cs : List AC) (ty : TypeId) (sl : Option (Nat × Nat)) : NoSto (some (.new cs ty sl)) := fun _ _ e => by cases e; intro h; cases h
theorem noSto_call (f : FuncId) (vs : List AV) : NoSto (some (.call f vs)) := fun _ _ e => by cases e; intro h; cases h
theorem noSto_none : NoSto none := fun _ _ e => by cases e
theorem evalOp_old {P : Program} {ev : Operand → AT} {bx : Nat → Option Box} {op : Op} {f : Eff} {b : Nat} (h : evalOp P ev bx op = some f) (hf : f.old = some b) : b ∈ accOf ev op := by
  have no : NoSto (evalOp P ev bx op) → b ∈ accOf ev op := fun hn => absurd hf (hn f b h)
  cases op with
  | store t a x =>
    simp only [evalOp] at h
    obtain ⟨c, h1, h2⟩ := bnd h
    cases c <;> simp only at h2 <;> try cases h2
    case ptr b' off =>
      obtain ⟨v, h3, h4⟩ := bnd h2
      obtain ⟨B, h5, h6⟩ := bnd h4
      cases hr : B.ro with
      | true => rw [hr] at h6; cases h6
      | false =>
        rw [hr] at h6
        simp only [cond_false] at h6
        obtain ⟨cs', h7, h8⟩ := mpd h6
        subst h8
        cases hf
        simp [accOf, one_of h1, boxesOf]
  | call c =>
    obtain ⟨callee, args, argTypes⟩ := c
    cases callee with
    | builtin bb =>
      cases bb <;> try (cases h; done)
      case len =>
        refine no ?_
        simp only [evalOp]
        split
        · refine noSto_bind (fun c => ?_)
          cases c <;> first | exact noSto_none | exact noSto_map fun _ => noSto_val _ _ | exact noSto_cond _ (noSto_map fun _ => noSto_val _ _) noSto_none
        · exact noSto_none
      case append =>
        simp only [evalOp] at h
        split at h
        · rename_i t t' s x e1 e2
          obtain ⟨el, h1, h⟩ := bnd h
          obtain ⟨el', h2, h⟩ := bnd h
          obtain ⟨size, h3, h⟩ := bnd h
          obtain ⟨i, h4, h⟩ := bnd h
          obtain ⟨zero, h5, h⟩ := bnd h
          obtain ⟨⟨old, cs, len⟩, h6, h⟩ := bnd h
          obtain ⟨⟨old2, ds, n⟩, h7, h⟩ := bnd h
          simp only at h
          generalize (Nat.ble (len + n) 100 && Nat.ble i.bytes 1000000 && !(n == 0) && !(size == 0) && zero.length == size && okTip bx old) = q at h
          cases q with
          | false => cases h
          | true =>
            cases h
            simp only [Eff.old] at hf
            subst hf
            simp only [accOf, List.mem_flatMap]
            exact ⟨s, by simp [e2], rowOf_box h6⟩
        · cases h
    | value f =>
      cases f with
      | func f => exact no (noSto_map fun _ => noSto_call _ _)
      | _ => cases h
    | _ => cases h
  | unOp o t x =>
    refine no ?_
    cases o <;> simp only [evalOp] <;> first
      | exact noSto_none
      | exact noSto_bind fun c => noSto_map fun _ => noSto_val _ _
      | exact noSto_bind fun c => by cases c <;> first | exact noSto_none | exact noSto_val _ _
  | move x => exact no (noSto_val _ _)
  | assign x => exact no (noSto_val _ _)
  | pick c x y =>
    refine no (noSto_bind fun c => ?_)
    cases c <;> (try exact noSto_none) <;> (try exact noSto_val _ _)
    simp only
    split <;> first | exact noSto_none | exact noSto_val _ _
  | alloc t => exact no (noSto_map fun _ => noSto_new _ _ _)
  | box t x => exact no (noSto_map fun _ => noSto_new _ _ _)
  | build t ps => exact no (noSto_bind fun _ => noSto_bind fun _ => noSto_map fun _ => noSto_val _ _)
  | buildSlice t len ps => exact no (noSto_bind fun _ => noSto_bind fun _ => noSto_bind fun _ => noSto_cond _ (noSto_bind fun _ => noSto_map fun _ => noSto_new _ _ _) noSto_none)
  | convert s d x =>
    refine no (noSto_bind fun _ => noSto_bind fun _ => noSto_bind fun _ => ?_)
    split <;> first | exact noSto_none | exact noSto_val _ _
  | load t a =>
    refine no (noSto_bind fun c => ?_)
    cases c <;> (try exact noSto_none)
    exact noSto_bind fun _ => noSto_map fun _ => noSto_val _ _
  | nilCheck x =>
    refine no (noSto_bind fun c => ?_)
    cases c <;> first | exact noSto_none | exact noSto_val _ _
  | binOp o t x y u => exact no (noSto_bind fun _ => noSto_bind fun _ => noSto_map fun _ => noSto_val _ _)
  | fieldAddr t x f =>
    refine no (noSto_bind fun c => ?_)
    cases c <;> (try exact noSto_none)
    exact noSto_bind fun _ => noSto_bind fun _ => noSto_bind fun n => noSto_cond _ noSto_none (noSto_val _ _)
  | field t x f =>
    refine no (noSto_bind fun c => ?_)
    cases c <;> (try exact noSto_none)
    exact noSto_bind fun _ => noSto_bind fun _ => noSto_map fun _ => noSto_val _ _
  | indexAddr t x i =>
    refine no (noSto_bind fun c => ?_)
    cases c <;> (try exact noSto_none)
    all_goals
      refine noSto_bind fun c => ?_
      cases c <;> (try exact noSto_none)
      all_goals exact noSto_bind fun _ => noSto_bind fun _ => noSto_cond _ (noSto_val _ _) noSto_none
  | index t x i =>
    refine no (noSto_bind fun c => ?_)
    cases c <;> (try exact noSto_none)
    refine noSto_bind fun c => ?_
    cases c <;> (try exact noSto_none)
    exact noSto_bind fun _ => noSto_bind fun _ => noSto_cond _ (noSto_map fun _ => noSto_val _ _) noSto_none
  | extract x i =>
    refine no ?_
    simp only [evalOp]
    cases ev x <;> first | exact noSto_none | exact noSto_map fun _ => noSto_val _ _
  | _ => cases h
theorem entTouch {C : Cfg} {sp : Spec} {xb : Nat → Option Box} {all : Array Oper} {tm : List AT} {bx : Nat → Option Box} {ν ν' : List (Int × Nat)} {id : Nat} {o : Oper} {e : Ent} {p : List Prop} {b : Nat} (h : entA C sp xb all tm bx ν id o = some (e, ν', p)) (hs : b ∈ touch id e) : (b = id ∧ e.new ≠ none) ∨ b ∈ accOf (evO tm) o.op := by
  have plain : ∀ r, e = ⟨r, none, none, none⟩ → (b = id ∧ e.new ≠ none) ∨ b ∈ accOf (evO tm) o.op := by
    rintro r rfl
    simp [touch] at hs
  unfold entA at h
  cases hg : gd all tm o <;> rw [hg] at h <;> simp only at h
  · obtain ⟨f, h1, h2⟩ := bnd h
    cases f with
    | val r q => simp only [entEff, Option.some.injEq, Prod.mk.injEq] at h2; exact plain r h2.1.symm
    | new cs ty sl =>
      simp only [entEff, Option.some.injEq, Prod.mk.injEq] at h2
      obtain ⟨rfl, _⟩ := h2
      simp [touch] at hs
      exact Or.inl ⟨hs, by simp⟩
    | app old cs ty len size =>
      simp only [entEff] at h2
      cases hb : C.bt.contains ty <;> rw [hb] at h2
      · cases h2
      · simp only [cond_true, Option.some.injEq, Prod.mk.injEq] at h2
        obtain ⟨rfl, _⟩ := h2
        simp only [touch, List.mem_cons] at hs
        rcases hs with hs | hs
        · exact Or.inl ⟨hs, by simp⟩
        · exact Or.inr (evalOp_old h1 (by simpa [Eff.old] using hs))
    | sto b' cs' =>
      simp only [entEff] at h2
      obtain ⟨B, g1, g2⟩ := bnd h2
      cases hb : C.bt.contains B.ty <;> rw [hb] at g2
      · cases g2
      · simp only [cond_true, Option.some.injEq, Prod.mk.injEq] at g2
        obtain ⟨rfl, _⟩ := g2
        simp [touch] at hs
        exact Or.inr (evalOp_old h1 (by simp [Eff.old, hs]))
    | call f vs =>
      simp only [entEff] at h2
      obtain ⟨⟨ν1, r, q, nbx⟩, _, h4⟩ := bnd h2
      cases nbx with
      | some B =>
        simp only [Option.some.injEq, Prod.mk.injEq] at h4
        obtain ⟨rfl, _⟩ := h4
        simp [touch] at hs
        exact Or.inl ⟨hs, by simp⟩
      | none =>
        simp only [Option.some.injEq, Prod.mk.injEq] at h4
        exact plain _ h4.1.symm
  · simp only [Option.some.injEq, Prod.mk.injEq] at h; exact plain _ h.1.symm
  · cases h
  · rename_i c
    cases hx : (evalOp C.P (evO tm) bx o.op).bind (entCond c sp xb ν id) with
    | none =>
      rw [hx] at h
      simp only [orElse] at h
      obtain ⟨f, args, ts, vs, cs, ν1, v, q, _, _, _, e1, _, _⟩ := entCall_open h
      exact plain _ e1
    | some y =>
    rw [hx] at h
    simp only [orElse, Option.some.injEq] at h
    subst h
    obtain ⟨f, h1, h2⟩ := bnd hx
    cases f with
    | val r q =>
      cases r <;> simp only [entCond] at h2 <;> try cases h2
      exact plain _ rfl
    | call f vs =>
      simp only [entCond] at h2
      obtain ⟨⟨ν1, r, q, nbx⟩, g1, g2⟩ := bnd h2
      cases r <;> cases nbx <;> simp only at g2 <;> try cases g2
      exact plain _ rfl
    | _ => simp [entCond] at h2
theorem evO_congr {tm tm' : List AT} {x : Operand} (h : ∀ t, x = .tmp t → tm[t]? = tm'[t]?) : evO tm x = evO tm' x := by
  cases x with
  | tmp t => simp only [evO, List.getD]; rw [h t rfl]
  | _ => rfl
theorem entCall_congr {id : Nat} {c : Bool} {sp : Spec} {xb : Nat → Option Box} {ν : List (Int × Nat)} {ev ev' : Operand → AT} {op : Op} (h : ∀ x ∈ op.operands.toList, ev x = ev' x) : entCall c sp xb ν id ev op = entCall c sp xb ν id ev' op := by
  unfold entCall
  split
  · rename_i f args ts
    have : args.toList.map ev = args.toList.map ev' := List.map_congr_left fun x hx => h x (by simp [Op.operands, Call.operands]; exact Or.inr (by simpa using hx))
    rw [this]
  · rfl
theorem entA_congr {C : Cfg} {sp : Spec} {xb : Nat → Option Box} {all : Array Oper} {tm tm' : List AT} {bx bx' : Nat → Option Box} {ν : List (Int × Nat)} {id : Nat} {o : Oper} (ht : ∀ t ∈ reads all o, tm[t]? = tm'[t]?) (hb : ∀ b ∈ accOf (evO tm) o.op, bx b = bx' b) : entA C sp xb all tm bx ν id o = entA C sp xb all tm' bx' ν id o := by
  have h1 : gd all tm o = gd all tm' o := by
    unfold gd
    cases hg : o.guard with
    | none => rfl
    | some p =>
      obtain ⟨g, want⟩ := p
      simp only
      cases hd : (all[g]?).bind (·.dst) with
      | none => rfl
      | some d =>
        simp only
        rw [ht d (by simp [reads, hg, hd])]
  have hop : ∀ x ∈ o.op.operands.toList, evO tm x = evO tm' x := fun x hx => evO_congr fun t e => ht t (by
    subst e
    simp only [reads, List.mem_append, List.mem_filterMap]
    exact Or.inl ⟨.tmp t, hx, rfl⟩)
  have h2 : evalOp C.P (evO tm) bx o.op = evalOp C.P (evO tm') bx' o.op := evalOp_congr hop hb
  unfold entA
  rw [h1, ← h2]
  cases gd all tm' o with
  | yes =>
    simp only
    cases he : evalOp C.P (evO tm) bx o.op with
    | none => rfl
    | some f =>
      simp only [Option.bind_some]
      cases f with
      | sto b cs => simp only [entEff]; rw [hb b (evalOp_old he rfl)]
      | _ => rfl
  | cond c =>
    simp only
    rw [entCall_congr hop]
  | _ => rfl
end Ab
end Go.Proofs.YteghhlfmcjmnoaaGreatDoor
