/-
  PLAIN MATHEMATICS: the trees that the parser makes: their shape and how many nodes they have.
-/
import Derived.Test.YtmepffenlgedbaaDoorCont
import Derived.Test.YtmepffenlgedbaaDoorTxt
set_option linter.unusedSimpArgs false
namespace Go.Proofs.YtmepffenlgedbaaDoor
namespace Rd
variable {ws : List Wd}

def Made (t : Tr) (st st' : St) : Prop := Wf t ∧ cnt t + st.nodes ≤ st'.nodes
def MadeL (l t : Tr) (st st' : St) : Prop := Wf t ∧ cnt t + st.nodes ≤ st'.nodes + cnt l

theorem val_ok {x : Wd} (h : x.text.size ≤ 9) : numOk (valTo x.text x.text.size) := ⟨valTo_lo _ _, valTo_bd _ _ h⟩

theorem zero_ok : numOk 0 := ⟨by decide, by decide⟩

theorem term_wf (hws : WsOk ws) (st : St) : numOk (term ws st).1 ∧ (term ws st).2.nodes = st.nodes := by
  unfold term
  cases h1 : ((wordAt ws st.next).kind == 1) with
  | false => exact ⟨zero_ok, rfl⟩
  | true =>
    have := val_ok (hws st.next (beq_iff_eq.1 h1))
    cases valTo (wordAt ws st.next).text (wordAt ws st.next).text.size == 0 with
    | true => exact ⟨zero_ok, rfl⟩
    | false => exact ⟨this, rfl⟩

theorem terms_wf (hws : WsOk ws) : ∀ f c ts st ts' st', terms ws f c ts st = some (some ts', st') → (∀ x ∈ ts, numOk x) → ts.length = c → c + f = 9 → (∀ x ∈ ts', numOk x) ∧ c + 1 ≤ ts'.length ∧ ts'.length ≤ 9 ∧ st'.nodes = st.nodes := by
  intro f
  induction f with
  | zero => intro c ts st ts' st' h; cases h
  | succ f ih =>
    intro c ts st ts' st' h hts hc hf
    obtain ⟨n1, n2⟩ := term_wf hws st
    rw [terms] at h
    have happ : ∀ x ∈ ts ++ [(term ws st).1], numOk x := by
      intro x hx
      rcases List.mem_append.1 hx with hx | hx
      · exact hts x hx
      · rw [List.mem_singleton.1 hx]; exact n1
    cases h0 : (st.okB && (term ws st).2.okB) with
    | false => rw [h0] at h; cases h
    | true =>
      rw [h0] at h
      simp only [cond_true] at h
      cases h1 : ((term ws st).1 == 0) with
      | true => rw [h1] at h; simp at h
      | false =>
        rw [h1] at h
        simp only [cond_false] at h
        cases h2 : tk ws (term ws st).2 ⟨#[93]⟩ with
        | true =>
          rw [h2] at h
          simp only [cond_true, Option.some.injEq, Prod.mk.injEq] at h
          obtain ⟨rfl, rfl⟩ := h
          exact ⟨happ, by simp; omega, by simp; omega, n2⟩
        | false =>
          rw [h2] at h
          simp only [cond_false] at h
          cases h3 : (c == 8) with
          | true => rw [h3] at h; simp at h
          | false =>
            rw [h3] at h
            simp only [cond_false] at h
            cases h4 : tk ws (term ws st).2 ⟨#[44]⟩ with
            | false => rw [h4] at h; simp at h
            | true =>
              rw [h4] at h
              simp only [cond_true] at h
              obtain ⟨a1, a2, a3, a4⟩ := ih _ _ _ _ _ h happ (by simp; omega) (by omega)
              exact ⟨a1, by omega, a3, a4.trans n2⟩

theorem continued_wf (hws : WsOk ws) {st st' : St} {t : Tr} (h : continued ws st = some (some t, st')) : Made t st st' := by
  unfold continued at h
  cases h0 : (decide (st.next < 900) && st.okB) with
  | false => rw [h0] at h; cases h
  | true =>
    rw [h0] at h
    simp only [cond_true] at h
    cases h1 : tk ws st ⟨#[91]⟩ with
    | false => rw [h1] at h; simp at h
    | true =>
      rw [h1] at h
      simp only [cond_true] at h
      cases h2 : ((wordAt ws st.adv.next).kind == 1) with
      | false => rw [h2] at h; simp at h
      | true =>
        rw [h2] at h
        simp only [cond_true] at h
        cases h3 : tk ws st.adv.adv ⟨#[59]⟩ with
        | false => rw [h3] at h; simp at h
        | true =>
          rw [h3] at h
          simp only [cond_true] at h
          cases h4 : terms ws 8 1 [valTo (wordAt ws st.adv.next).text (wordAt ws st.adv.next).text.size] st.adv.adv.adv with
          | none => rw [h4] at h; cases h
          | some y =>
            obtain ⟨r, s1⟩ := y
            rw [h4] at h
            cases r with
            | none => simp [cfOf] at h
            | some ts =>
              simp only [cfOf] at h
              cases h5 : s1.okB with
              | false => rw [h5] at h; cases h
              | true =>
                rw [h5] at h
                simp only [cond_true, Option.some.injEq, Prod.mk.injEq] at h
                obtain ⟨rfl, rfl⟩ := h
                obtain ⟨a1, a2, a3, a4⟩ := terms_wf hws _ _ _ _ _ _ h4 (by intro x hx; rw [List.mem_singleton.1 hx]; exact val_ok (hws _ (beq_iff_eq.1 h2))) rfl rfl
                have e : st.adv.adv.adv.nodes = st.nodes := rfl
                refine ⟨Or.inr (Or.inr (Or.inl ⟨rfl, a1, by simp only; omega, a3, rfl, rfl, rfl⟩)), ?_⟩
                show 0 + 0 + 1 + st.nodes ≤ s1.nodes + 1
                omega

theorem unary_wf {k : Int} (hk : k = 5 ∨ k = 10 ∨ k = 11 ∨ k = 12 ∨ k = 13) {x : Option Tr} {st0 st st' : St} {t : Tr} (h : unaryOf k x st = some (some t, st')) (hx : ∀ y, x = some y → Made y st0 st) : Made t st0 st' := by
  cases x with
  | none => simp [unaryOf] at h
  | some y =>
    obtain ⟨a, b⟩ := hx y rfl
    simp only [unaryOf] at h
    cases h5 : st.okB with
    | false => rw [h5] at h; cases h
    | true =>
      rw [h5] at h
      simp only [cond_true, Option.some.injEq, Prod.mk.injEq] at h
      obtain ⟨rfl, rfl⟩ := h
      refine ⟨Or.inr (Or.inr (Or.inr (Or.inl ⟨hk, a, rfl, rfl⟩))), ?_⟩
      show cnt y + 0 + 1 + st0.nodes ≤ st.nodes + 1
      omega

theorem oper_wf {k : Int} (hk : k = 6 ∨ k = 7 ∨ k = 8 ∨ k = 9) {l : Tr} (hl : Wf l) {x : Option Tr} {st0 st st' : St} {t : Tr} (h : operOf k l x st = some (some t, st')) (hx : ∀ y, x = some y → Made y st0 st) : MadeL l t st0 st' := by
  cases x with
  | none => simp [operOf] at h
  | some y =>
    obtain ⟨a, b⟩ := hx y rfl
    simp only [operOf] at h
    cases h5 : st.okB with
    | false => rw [h5] at h; cases h
    | true =>
      rw [h5] at h
      simp only [cond_true, Option.some.injEq, Prod.mk.injEq] at h
      obtain ⟨rfl, rfl⟩ := h
      refine ⟨Or.inr (Or.inr (Or.inr (Or.inr ⟨hk, hl, a, rfl⟩))), ?_⟩
      show cnt l + cnt y + 1 + st0.nodes ≤ st.nodes + 1 + cnt l
      omega

structure W1 (ws : List Wd) (f : Nat) : Prop where
  sum : ∀ l st t st', parse ws f 0 l st = some (some t, st') → Made t st st'
  sumL : ∀ l st t st', Wf l → parse ws f 1 (some l) st = some (some t, st') → MadeL l t st st'
  prod : ∀ l st t st', parse ws f 2 l st = some (some t, st') → Made t st st'
  prodL : ∀ l st t st', Wf l → parse ws f 3 (some l) st = some (some t, st') → MadeL l t st st'
  signed : ∀ l st t st', parse ws f 4 l st = some (some t, st') → Made t st st'
  atom : ∀ l st t st', parse ws f 5 l st = some (some t, st') → Made t st st'
  br : ∀ l st t st', parse ws f 6 l st = some (some t, st') → Made t st st'

/-- One round of a sum or a product. -/
theorem round_wf {f tag b : Nat} {k : Int} (hk : k = 6 ∨ k = 7 ∨ k = 8 ∨ k = 9) {l t : Tr} {st st' : St} (hl : Wf l) (hin : ∀ t st1 st', parse ws f b none st1 = some (some t, st') → Made t st1 st') (hL : ∀ l st t st', Wf l → parse ws f tag (some l) st = some (some t, st') → MadeL l t st st')
    (hN : ∀ st t st', parse ws f tag none st ≠ some (some t, st'))
    (h : ((parse ws f b none st.adv).next fun r st2 => (operOf k l r st2).next fun l' st3 => parse ws f tag l' st3) = some (some t, st')) : MadeL l t st st' := by
  obtain ⟨r, st2, e1, h⟩ := next_some h
  obtain ⟨l', st3, e2, h⟩ := next_some h
  cases l' with
  | none => exact absurd h (hN _ _ _)
  | some l' =>
    obtain ⟨a1, a2⟩ := oper_wf hk hl (st0 := st.adv) e2 (fun y hy => hin y _ _ (by rw [← hy]; exact e1))
    obtain ⟨b1, b2⟩ := hL _ _ _ _ a1 h
    have e : st.adv.nodes = st.nodes := rfl
    exact ⟨b1, by omega⟩

theorem none1 (f : Nat) (st : St) (t : Tr) (st' : St) : parse ws f 1 none st ≠ some (some t, st') := by
  cases f <;> simp [parse]
theorem none3 (f : Nat) (st : St) (t : Tr) (st' : St) : parse ws f 3 none st ≠ some (some t, st') := by
  cases f <;> simp [parse]

theorem W1_step (hws : WsOk ws) (f : Nat) (ih : W1 ws f) : W1 ws (f + 1) := by
  constructor
  case sum =>
    intro l st t st' h
    rw [parse] at h
    obtain ⟨r, st2, e1, h⟩ := next_some h
    cases r with
    | none => exact absurd h (none1 _ _ _ _)
    | some r =>
      obtain ⟨a1, a2⟩ := ih.prod _ _ _ _ e1
      obtain ⟨b1, b2⟩ := ih.sumL _ _ _ _ a1 h
      exact ⟨b1, by omega⟩
  case sumL =>
    intro l st t st' hl h
    rw [parse] at h
    cases h0 : st.okB with
    | false => rw [h0] at h; cases h
    | true =>
      rw [h0] at h
      simp only [cond_true] at h
      cases h1 : tk ws st ⟨#[43]⟩ with
      | true =>
        rw [h1] at h
        exact round_wf (Or.inl rfl) hl (fun t st1 st' => ih.prod none st1 t st') ih.sumL (none1 f) h
      | false =>
        rw [h1] at h
        simp only [cond_false] at h
        cases h2 : tk ws st ⟨#[45]⟩ with
        | true =>
          rw [h2] at h
          exact round_wf (Or.inr (Or.inl rfl)) hl (fun t st1 st' => ih.prod none st1 t st') ih.sumL (none1 f) h
        | false =>
          rw [h2] at h
          simp only [cond_false, Option.some.injEq, Prod.mk.injEq] at h
          obtain ⟨rfl, rfl⟩ := h
          exact ⟨hl, by omega⟩
  case prod =>
    intro l st t st' h
    rw [parse] at h
    obtain ⟨r, st2, e1, h⟩ := next_some h
    cases r with
    | none => exact absurd h (none3 _ _ _ _)
    | some r =>
      obtain ⟨a1, a2⟩ := ih.signed _ _ _ _ e1
      obtain ⟨b1, b2⟩ := ih.prodL _ _ _ _ a1 h
      exact ⟨b1, by omega⟩
  case prodL =>
    intro l st t st' hl h
    rw [parse] at h
    cases h0 : st.okB with
    | false => rw [h0] at h; cases h
    | true =>
      rw [h0] at h
      simp only [cond_true] at h
      cases h1 : tk ws st ⟨#[42]⟩ with
      | true =>
        rw [h1] at h
        exact round_wf (Or.inr (Or.inr (Or.inl rfl))) hl (fun t st1 st' => ih.signed none st1 t st') ih.prodL (none3 f) h
      | false =>
        rw [h1] at h
        simp only [cond_false] at h
        cases h2 : tk ws st ⟨#[47]⟩ with
        | true =>
          rw [h2] at h
          exact round_wf (Or.inr (Or.inr (Or.inr rfl))) hl (fun t st1 st' => ih.signed none st1 t st') ih.prodL (none3 f) h
        | false =>
          rw [h2] at h
          simp only [cond_false, Option.some.injEq, Prod.mk.injEq] at h
          obtain ⟨rfl, rfl⟩ := h
          exact ⟨hl, by omega⟩
  case signed =>
    intro l st t st' h
    rw [parse] at h
    cases h0 : st.okB with
    | false => rw [h0] at h; cases h
    | true =>
      rw [h0] at h
      simp only [cond_true] at h
      cases h1 : tk ws st ⟨#[45]⟩ with
      | false =>
        rw [h1] at h
        exact ih.atom _ _ _ _ h
      | true =>
        rw [h1] at h
        simp only [cond_true] at h
        obtain ⟨x, st2, e1, h⟩ := next_some h
        cases h2 : st2.okOut with
        | false => rw [h2] at h; cases h
        | true =>
          rw [h2] at h
          simp only [cond_true] at h
          exact unary_wf (Or.inl rfl) (st0 := st) h (fun y hy => by
            obtain ⟨a, b⟩ := ih.signed _ _ _ _ (by rw [← hy]; exact e1)
            exact ⟨a, b⟩)
  case atom =>
    intro l st t st' h
    rw [parse] at h
    cases h0 : st.okB with
    | false => rw [h0] at h; cases h
    | true =>
      rw [h0] at h
      simp only [cond_true] at h
      cases h1 : ((wordAt ws st.next).kind == 1) with
      | true =>
        rw [h1] at h
        simp only [cond_true] at h
        cases h2 : st.adv.okB with
        | false => rw [h2] at h; cases h
        | true =>
          rw [h2] at h
          simp only [cond_true, Option.some.injEq, Prod.mk.injEq] at h
          obtain ⟨rfl, rfl⟩ := h
          refine ⟨Or.inl ⟨rfl, val_ok (hws _ (beq_iff_eq.1 h1)), rfl, rfl, rfl⟩, ?_⟩
          show 0 + 0 + 1 + st.nodes ≤ st.nodes + 1
          omega
      | false =>
        rw [h1] at h
        simp only [cond_false] at h
        cases h2 : ((wordAt ws st.next).kind == 2) with
        | false => rw [h2] at h; exact ih.br _ _ _ _ h
        | true =>
          rw [h2] at h
          simp only [cond_true, nameOf] at h
          have hnm : named (wordAt ws st.next).text = 0 ∨ named (wordAt ws st.next).text = 2 ∨ named (wordAt ws st.next).text = 3 ∨ named (wordAt ws st.next).text = 4 ∨ named (wordAt ws st.next).text = 10 ∨ named (wordAt ws st.next).text = 11 ∨ named (wordAt ws st.next).text = 12 ∨ named (wordAt ws st.next).text = 13 := by
            unfold named
            generalize (wordAt ws st.next).text = x
            cases isT x [112, 105] <;> cases isT x [101] <;> cases isT x [99, 102] <;> cases isT x [115, 113, 114, 116] <;> cases isT x [101, 120, 112] <;> cases isT x [108, 110, 49, 112] <;> cases isT x [97, 116, 97, 110] <;> simp
          generalize named (wordAt ws st.next).text = k at h hnm
          cases k0 : (k == 0) with
          | true => rw [k0] at h; simp at h
          | false =>
            rw [k0] at h
            simp only [cond_false] at h
            cases k2 : (k == 2 || k == 3) with
            | true =>
              rw [k2] at h
              simp only [cond_true] at h
              cases h2 : st.adv.okB with
              | false => rw [h2] at h; cases h
              | true =>
                rw [h2] at h
                simp only [cond_true, Option.some.injEq, Prod.mk.injEq] at h
                obtain ⟨rfl, rfl⟩ := h
                refine ⟨Or.inr (Or.inl ⟨by simpa using k2, rfl, rfl, rfl, rfl⟩), ?_⟩
                show 0 + 0 + 1 + st.nodes ≤ st.nodes + 1
                omega
            | false =>
              rw [k2] at h
              simp only [cond_false] at h
              cases k4 : (k == 4) with
              | true =>
                rw [k4] at h
                have := continued_wf hws h
                exact this
              | false =>
                rw [k4] at h
                simp only [cond_false] at h
                obtain ⟨x, st2, e1, h⟩ := next_some h
                simp at k0 k2 k4
                exact unary_wf (by omega) (st0 := st) h (fun y hy => by
                  obtain ⟨a, b⟩ := ih.br _ _ _ _ (by rw [← hy]; exact e1)
                  exact ⟨a, b⟩)
  case br =>
    intro l st t st' h
    rw [parse] at h
    · cases h0 : st.okB with
      | false => rw [h0] at h; cases h
      | true =>
        rw [h0] at h
        simp only [cond_true] at h
        cases h1 : tk ws st ⟨#[40]⟩ with
        | false => rw [h1] at h; simp at h
        | true =>
          rw [h1] at h
          simp only [cond_true] at h
          obtain ⟨x, st2, e1, h⟩ := next_some h
          unfold closeOf at h
          cases h2 : st2.okOut with
          | false => rw [h2] at h; cases h
          | true =>
            rw [h2] at h
            simp only [cond_true] at h
            cases x with
            | none => simp at h
            | some x =>
              simp only at h
              cases h3 : tk ws st2.out ⟨#[41]⟩ with
              | false => rw [h3] at h; simp at h
              | true =>
                rw [h3] at h
                simp only [cond_true, Option.some.injEq, Prod.mk.injEq] at h
                obtain ⟨rfl, rfl⟩ := h
                obtain ⟨a, b⟩ := ih.sum _ _ _ _ e1
                exact ⟨a, b⟩
    all_goals omega

theorem W1_all (hws : WsOk ws) : ∀ f, W1 ws f := by
  intro f
  induction f with
  | zero => constructor <;> (intros; rename_i h; cases h)
  | succ f ih => exact W1_step hws f ih

/-- What is read is a tree that the parser makes; its text is not long. -/
theorem read_wf {f : Nat} {s : ByteArray} {t : Tr} {e p : Int} (hws : WsOk (split s (s.size + 1) 0)) (h : read f s = some (some t, e, p)) : Wf t ∧ (text t).length ≤ 1000000 := by
  unfold read at h
  cases h1 : decide (120 < s.size) with
  | true => rw [h1] at h; simp at h
  | false =>
    rw [h1] at h
    simp only [cond_false] at h
    split at h
    · cases h
    · simp at h
    · rename_i t' st hp
      obtain ⟨a, b⟩ := (W1_all hws f).sum _ _ _ _ hp
      cases c1 : ((wordAt (split s (s.size + 1) 0) st.next).kind == 0) with
      | false => rw [c1] at h; simp at h
      | true =>
        rw [c1] at h
        simp only [cond_true] at h
        cases c2 : (decide (12 < st.deepest) || decide (40 < st.nodes)) with
        | true => rw [c2] at h; simp at h
        | false =>
          rw [c2] at h
          simp only [cond_false, Option.some.injEq, Prod.mk.injEq] at h
          obtain ⟨rfl, _⟩ := h
          simp only [Bool.or_eq_false_iff, decide_eq_false_iff_not] at c2
          have := text_len _ a
          simp only at b
          exact ⟨a, by omega⟩

end Rd
end Go.Proofs.YtmepffenlgedbaaDoor
