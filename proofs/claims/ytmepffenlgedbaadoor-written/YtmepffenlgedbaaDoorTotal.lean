/-
  PLAIN MATHEMATICS: with enough fuel the parser has an answer.
-/
import Derived.Test.YtmepffenlgedbaaDoorParse
set_option linter.unusedSimpArgs false
namespace Go.Proofs.YtmepffenlgedbaaDoor
namespace Rd
variable {ws : List Wd}

/-- Behind a word that is none there is no word. -/
def EndK (ws : List Wd) : Prop := ∀ n, (wordAt ws n).kind ≠ 0 → n + 1 < ws.length

structure Inv (ws : List Wd) (st : St) : Prop where
  next : st.next < ws.length
  around : st.around ≤ st.next
  nodes : st.nodes ≤ st.next
  deepest : st.deepest ≤ st.next

structure Rel (ws : List Wd) (st st' : St) : Prop where
  inv : Inv ws st'
  next : st.next ≤ st'.next
  around : st'.around = st.around
  nodes : st'.nodes + st.next ≤ st.nodes + st'.next

theorem Rel.refl {st : St} (h : Inv ws st) : Rel ws st st := ⟨h, Nat.le_refl _, rfl, Nat.le_refl _⟩
theorem Rel.trans {a b c : St} (h : Rel ws a b) (k : Rel ws b c) : Rel ws a c := ⟨k.inv, Nat.le_trans h.next k.next, k.around.trans h.around, by have := h.nodes; have := k.nodes; omega⟩

theorem Inv.okB {st : St} (h : Inv ws st) (hl : ws.length ≤ 121) : st.okB = true := by
  have := h.next; have := h.around; have := h.nodes; have := h.deepest
  simp only [St.okB, decide_eq_true_eq]; omega

theorem tk_lt (he : EndK ws) {st : St} {c : ByteArray} (h : tk ws st c = true) : st.next + 1 < ws.length := by
  refine he _ ?_
  simp only [tk, Bool.and_eq_true, Bool.not_eq_true', beq_eq_false_iff_ne, ne_eq] at h
  exact h.1

theorem adv_rel {st : St} (h : Inv ws st) (hlt : st.next + 1 < ws.length) : Rel ws st st.adv :=
  ⟨⟨hlt, by have := h.around; show st.around ≤ st.next + 1; omega, by have := h.nodes; show st.nodes ≤ st.next + 1; omega, by have := h.deepest; show st.deepest ≤ st.next + 1; omega⟩, by show st.next ≤ st.next + 1; omega, rfl, by show st.nodes + st.next ≤ st.nodes + (st.next + 1); omega⟩

theorem leaf_rel {st : St} (h : Inv ws st) (hlt : st.next + 1 < ws.length) : Rel ws st st.adv.leaf := by
  have a := h.around; have b := h.nodes; have c := h.deepest
  refine ⟨⟨hlt, by show st.around ≤ st.next + 1; omega, by show st.nodes + 1 ≤ st.next + 1; omega, ?_⟩, by show st.next ≤ st.next + 1; omega, rfl, by show st.nodes + 1 + st.next ≤ st.nodes + (st.next + 1); omega⟩
  show (bif decide (st.deepest < st.around) then st.around else st.deepest) ≤ st.next + 1
  cases decide (st.deepest < st.around) <;> simp <;> omega

theorem term_rel (he : EndK ws) {st : St} (h : Inv ws st) : Rel ws st (term ws st).2 := by
  unfold term
  cases h1 : ((wordAt ws st.next).kind == 1) with
  | false => exact Rel.refl h
  | true =>
    have hlt : st.next + 1 < ws.length := he _ (by have := beq_iff_eq.1 h1; omega)
    cases valTo (wordAt ws st.next).text (wordAt ws st.next).text.size == 0 with
    | true => exact Rel.refl h
    | false => exact adv_rel h hlt

theorem terms_total (he : EndK ws) (hl : ws.length ≤ 121) : ∀ f c ts st, c + f = 9 → 1 ≤ c → c ≤ 8 → Inv ws st → ∃ r st', terms ws f c ts st = some (r, st') ∧ Rel ws st st' ∧ (r.isSome = true → st.next < st'.next) := by
  intro f
  induction f with
  | zero => intro c ts st h1 h2 h3; omega
  | succ f ih =>
    intro c ts st h1 h2 h3 hi
    have tr := term_rel he hi
    have o1 := hi.okB hl
    have o2 := tr.inv.okB hl
    rw [terms, o1, o2]
    simp only [Bool.and_self, cond_true]
    cases a1 : ((term ws st).1 == 0) with
    | true => exact ⟨_, _, rfl, tr, fun h => by cases h⟩
    | false =>
      cases a2 : tk ws (term ws st).2 ⟨#[93]⟩ with
      | true =>
        have := adv_rel tr.inv (tk_lt he a2)
        refine ⟨_, _, rfl, tr.trans this, fun _ => ?_⟩
        have := tr.next
        show st.next < (term ws st).2.next + 1
        omega
      | false =>
        cases a3 : (c == 8) with
        | true => exact ⟨_, _, rfl, tr, fun h => by cases h⟩
        | false =>
          cases a4 : tk ws (term ws st).2 ⟨#[44]⟩ with
          | false => exact ⟨_, _, rfl, tr, fun h => by cases h⟩
          | true =>
            have ar := adv_rel tr.inv (tk_lt he a4)
            obtain ⟨r, st', e1, e2, e3⟩ := ih (c + 1) (ts ++ [(term ws st).1]) _ (by omega) (by omega) (by simp at a3; omega) ar.inv
            refine ⟨r, st', e1, (tr.trans ar).trans e2, fun h => ?_⟩
            have := (tr.trans ar).next
            have := e3 h
            omega

theorem continued_total (he : EndK ws) (hl : ws.length ≤ 121) (st : St) (hi : Inv ws st) : ∃ r st', continued ws st = some (r, st') ∧ Rel ws st st' := by
  have h0 := hi.next
  unfold continued
  rw [hi.okB hl, decide_eq_true (show st.next < 900 by omega)]
  simp only [Bool.and_self, cond_true]
  cases a1 : tk ws st ⟨#[91]⟩ with
  | false => exact ⟨none, st, rfl, Rel.refl hi⟩
  | true =>
    have r1 := adv_rel hi (tk_lt he a1)
    cases a2 : ((wordAt ws st.adv.next).kind == 1) with
    | false => exact ⟨none, st.adv, rfl, r1⟩
    | true =>
      have r2 := r1.trans (adv_rel r1.inv (he _ (by have := beq_iff_eq.1 a2; omega)))
      cases a3 : tk ws st.adv.adv ⟨#[59]⟩ with
      | false => exact ⟨none, st.adv.adv, rfl, r2⟩
      | true =>
        have r3 := r2.trans (adv_rel r2.inv (tk_lt he a3))
        obtain ⟨r, st', e1, e2, e3⟩ := terms_total he hl 8 1 [valTo (wordAt ws st.adv.next).text (wordAt ws st.adv.next).text.size] st.adv.adv.adv (by omega) (by omega) (by omega) r3.inv
        simp only [cond_true]
        rw [e1]
        cases r with
        | none => exact ⟨none, st', rfl, r3.trans e2⟩
        | some ts =>
          have r4 := r3.trans e2
          have e5 := e3 rfl
          have en : st.adv.adv.adv.next = st.next + 3 := rfl
          simp only [cfOf, e2.inv.okB hl, cond_true]
          refine ⟨_, _, rfl, ?_⟩
          have i1 := r4.inv.around; have i2 := r4.inv.nodes; have i3 := r4.inv.deepest; have i4 := r4.nodes
          have i5 := r4.next
          have i6 := e2.nodes
          have i7 : st.adv.adv.adv.nodes = st.nodes := rfl
          have i8 := hi.nodes
          refine ⟨⟨r4.inv.next, i1, by show st'.nodes + 1 ≤ st'.next; omega, ?_⟩, i5, r4.around, by show st'.nodes + 1 + st.next ≤ st.nodes + st'.next; omega⟩
          show (bif decide (st'.deepest < st'.around) then st'.around else st'.deepest) ≤ st'.next
          cases decide (st'.deepest < st'.around) <;> simp <;> omega

/-- A part is read, and it is not nothing. -/
def Tot (ws : List Wd) (a : Ans) (st : St) : Prop := ∃ r st', a = some (r, st') ∧ Rel ws st st' ∧ (r.isSome = true → st.next < st'.next)

theorem Tot.next {a : Ans} {st : St} {F : Option Tr → St → Ans} (h : Tot ws a st) (hF : ∀ r st', a = some (r, st') → Rel ws st st' → (r.isSome = true → st.next < st'.next) → Tot ws (F r st') st) : Tot ws (a.next F) st := by
  obtain ⟨r, st', e, h1, h2⟩ := h
  have := hF r st' e h1 h2
  rw [e]
  exact this

theorem Tot.back {a : Ans} {st st1 : St} (h : Tot ws a st1) (hr : Rel ws st st1) : Tot ws a st := by
  obtain ⟨r, st', e, h1, h2⟩ := h
  exact ⟨r, st', e, hr.trans h1, fun h => by have := h2 h; have := hr.next; omega⟩

theorem oper_tot (hl : ws.length ≤ 121) {k : Int} {l : Tr} {r : Option Tr} {st st1 : St} (hi : Inv ws st) (hr : Rel ws st st1) (hn : st1.nodes + st.next + 1 ≤ st.nodes + st1.next) :
    ∃ x st2, operOf k l r st1 = some (x, st2) ∧ Rel ws st st2 ∧ st2.next = st1.next := by
  cases r with
  | none => exact ⟨none, st1, rfl, hr, rfl⟩
  | some r =>
    have := hi.nodes
    exact ⟨some (opT k l r), st1.node, by simp only [operOf, hr.inv.okB hl, cond_true], ⟨⟨hr.inv.next, hr.inv.around, by show st1.nodes + 1 ≤ st1.next; omega, hr.inv.deepest⟩, hr.next, hr.around, by show st1.nodes + 1 + st.next ≤ st.nodes + st1.next; omega⟩, rfl⟩

theorem unary_tot (hl : ws.length ≤ 121) {k : Int} {x : Option Tr} {st st1 : St} (hi : Inv ws st) (hr : Rel ws st st1) (hn : st1.nodes + st.next + 1 ≤ st.nodes + st1.next) (hx : x.isSome = true → st.next < st1.next) : Tot ws (unaryOf k x st1) st := by
  cases x with
  | none => exact ⟨none, st1, rfl, hr, fun h => by cases h⟩
  | some x =>
    have := hi.nodes
    exact ⟨some (unT k x), st1.node, by simp only [unaryOf, hr.inv.okB hl, cond_true], ⟨⟨hr.inv.next, hr.inv.around, by show st1.nodes + 1 ≤ st1.next; omega, hr.inv.deepest⟩, hr.next, hr.around, by show st1.nodes + 1 + st.next ≤ st.nodes + st1.next; omega⟩, fun _ => hx rfl⟩

/-- Into a bracket or behind a minus sign. -/
theorem inn_rel {st : St} (hi : Inv ws st) (hlt : st.next + 1 < ws.length) : Inv ws st.adv.inn := by
  have a := hi.around; have b := hi.nodes; have c := hi.deepest
  exact ⟨hlt, by show st.around + 1 ≤ st.next + 1; omega, by show st.nodes ≤ st.next + 1; omega, by show st.deepest ≤ st.next + 1; omega⟩

theorem out_rel' {st st2 : St} (hi : Inv ws st) (h : Rel ws st.adv.inn st2) : Rel ws st st2.out ∧ 1 ≤ st2.around ∧ st.next + 1 ≤ st2.next ∧ st2.nodes + st.next + 1 ≤ st.nodes + st2.next := by
  have a := h.around
  have b := h.nodes
  have c := h.next
  have e1 : st.adv.inn.next = st.next + 1 := rfl
  have e2 : st.adv.inn.nodes = st.nodes := rfl
  have e3 : st.adv.inn.around = st.around + 1 := rfl
  rw [e1] at c b
  rw [e2] at b
  rw [e3] at a
  have d := hi.around
  refine ⟨⟨⟨h.inv.next, by show st2.around - 1 ≤ st2.next; omega, h.inv.nodes, h.inv.deepest⟩, by show st.next ≤ st2.next; omega, by show st2.around - 1 = st.around; omega, by show st2.nodes + st.next ≤ st.nodes + st2.next; omega⟩, by omega, c, by omega⟩

structure T1 (ws : List Wd) (f : Nat) : Prop where
  sum : ∀ l st, Inv ws st → 10 * (ws.length - st.next) + 9 ≤ f → Tot ws (parse ws f 0 l st) st
  sumL : ∀ l st, Inv ws st → 10 * (ws.length - st.next) + 8 ≤ f → ∃ r st', parse ws f 1 l st = some (r, st') ∧ Rel ws st st'
  prod : ∀ l st, Inv ws st → 10 * (ws.length - st.next) + 8 ≤ f → Tot ws (parse ws f 2 l st) st
  prodL : ∀ l st, Inv ws st → 10 * (ws.length - st.next) + 7 ≤ f → ∃ r st', parse ws f 3 l st = some (r, st') ∧ Rel ws st st'
  signed : ∀ l st, Inv ws st → 10 * (ws.length - st.next) + 7 ≤ f → Tot ws (parse ws f 4 l st) st
  atom : ∀ l st, Inv ws st → 10 * (ws.length - st.next) + 6 ≤ f → Tot ws (parse ws f 5 l st) st
  br : ∀ l st, Inv ws st → 10 * (ws.length - st.next) + 5 ≤ f → Tot ws (parse ws f 6 l st) st

theorem round_tot (he : EndK ws) (hl : ws.length ≤ 121) {f tag b : Nat} {k : Int} {l : Tr} {st : St} {c : ByteArray} (hi : Inv ws st) (ht : tk ws st c = true)
    (hin : ∀ st1, Inv ws st1 → st1.next = st.next + 1 → Tot ws (parse ws f b none st1) st1) (hl2 : ∀ l st1, Inv ws st1 → st.next + 1 ≤ st1.next → ∃ r st', parse ws f tag l st1 = some (r, st') ∧ Rel ws st1 st') :
    ∃ r st', ((parse ws f b none st.adv).next fun r st2 => (operOf k l r st2).next fun l' st3 => parse ws f tag l' st3) = some (r, st') ∧ Rel ws st st' := by
  have ar := adv_rel hi (tk_lt he ht)
  obtain ⟨r, st2, e1, r1, _⟩ := hin st.adv ar.inv rfl
  have hn := r1.nodes
  have en : st.adv.next = st.next + 1 := rfl
  have em : st.adv.nodes = st.nodes := rfl
  rw [en, em] at hn
  have hx := r1.next
  rw [en] at hx
  obtain ⟨x, st3, e2, r2, e3⟩ := oper_tot (k := k) (l := l) (r := r) hl hi (ar.trans r1) (by omega)
  obtain ⟨y, st4, e4, r4⟩ := hl2 x st3 r2.inv (by omega)
  refine ⟨y, st4, ?_, r2.trans r4⟩
  rw [e1]
  show (operOf k l r st2).next (fun l' st3 => parse ws f tag l' st3) = _
  rw [e2]
  exact e4

theorem T1_step (he : EndK ws) (hl : ws.length ≤ 121) (f : Nat) (ih : T1 ws f) : T1 ws (f + 1) := by
  constructor
  case sum =>
    intro l st hi hf
    obtain ⟨r, st1, e1, r1, s1⟩ := ih.prod none st hi (by omega)
    have hx := r1.next
    obtain ⟨y, st2, e2, r2⟩ := ih.sumL r st1 r1.inv (by omega)
    refine ⟨y, st2, ?_, r1.trans r2, fun h => ?_⟩
    · rw [parse, e1]; exact e2
    · cases r with
      | none =>
        cases f with
        | zero => cases e1
        | succ f =>
          simp only [parse, Option.some.injEq, Prod.mk.injEq] at e2
          rw [← e2.1] at h; cases h
      | some r => have := s1 rfl; have := r2.next; omega
  case sumL =>
    intro l st hi hf
    cases l with
    | none => exact ⟨none, st, rfl, Rel.refl hi⟩
    | some l =>
      rw [parse, hi.okB hl]
      simp only [cond_true]
      cases h1 : tk ws st ⟨#[43]⟩ with
      | true =>
        have := tk_lt he h1
        exact round_tot he hl hi h1 (fun st1 i1 n1 => ih.prod none st1 i1 (by omega)) (fun l st1 i1 n1 => ih.sumL l st1 i1 (by omega))
      | false =>
        cases h2 : tk ws st ⟨#[45]⟩ with
        | true =>
          have := tk_lt he h2
          exact round_tot he hl hi h2 (fun st1 i1 n1 => ih.prod none st1 i1 (by omega)) (fun l st1 i1 n1 => ih.sumL l st1 i1 (by omega))
        | false => exact ⟨some l, st, rfl, Rel.refl hi⟩
  case prod =>
    intro l st hi hf
    obtain ⟨r, st1, e1, r1, s1⟩ := ih.signed none st hi (by omega)
    have hx := r1.next
    obtain ⟨y, st2, e2, r2⟩ := ih.prodL r st1 r1.inv (by omega)
    refine ⟨y, st2, ?_, r1.trans r2, fun h => ?_⟩
    · rw [parse, e1]; exact e2
    · cases r with
      | none =>
        cases f with
        | zero => cases e1
        | succ f =>
          simp only [parse, Option.some.injEq, Prod.mk.injEq] at e2
          rw [← e2.1] at h; cases h
      | some r => have := s1 rfl; have := r2.next; omega
  case prodL =>
    intro l st hi hf
    cases l with
    | none => exact ⟨none, st, rfl, Rel.refl hi⟩
    | some l =>
      rw [parse, hi.okB hl]
      simp only [cond_true]
      cases h1 : tk ws st ⟨#[42]⟩ with
      | true =>
        have := tk_lt he h1
        exact round_tot he hl hi h1 (fun st1 i1 n1 => ih.signed none st1 i1 (by omega)) (fun l st1 i1 n1 => ih.prodL l st1 i1 (by omega))
      | false =>
        cases h2 : tk ws st ⟨#[47]⟩ with
        | true =>
          have := tk_lt he h2
          exact round_tot he hl hi h2 (fun st1 i1 n1 => ih.signed none st1 i1 (by omega)) (fun l st1 i1 n1 => ih.prodL l st1 i1 (by omega))
        | false => exact ⟨some l, st, rfl, Rel.refl hi⟩
  case signed =>
    intro l st hi hf
    rw [parse, hi.okB hl]
    simp only [cond_true]
    cases h1 : tk ws st ⟨#[45]⟩ with
    | false => exact ih.atom none st hi (by omega)
    | true =>
      have hlt := tk_lt he h1
      have ii := inn_rel hi hlt
      have en : st.adv.inn.next = st.next + 1 := rfl
      obtain ⟨x, st2, e1, r1, s1⟩ := ih.signed none st.adv.inn ii (by omega)
      obtain ⟨o1, o2, o3, o4⟩ := out_rel' hi r1
      simp only [cond_true]
      rw [e1]
      show Tot ws (bif st2.okOut then unaryOf 5 x st2.out else none) st
      rw [show st2.okOut = true by simp only [St.okOut, r1.inv.okB hl, decide_eq_true o2]; rfl]
      exact unary_tot hl hi o1 (by show st2.nodes + st.next + 1 ≤ st.nodes + st2.next; exact o4) (fun _ => by show st.next < st2.next; omega)
  case atom =>
    intro l st hi hf
    rw [parse, hi.okB hl]
    simp only [cond_true]
    cases h1 : ((wordAt ws st.next).kind == 1) with
    | true =>
      have hlt : st.next + 1 < ws.length := he _ (by have := beq_iff_eq.1 h1; omega)
      simp only [cond_true]
      rw [(adv_rel hi hlt).inv.okB hl]
      exact ⟨_, _, rfl, leaf_rel hi hlt, fun _ => by show st.next < st.next + 1; omega⟩
    | false =>
      cases h2 : ((wordAt ws st.next).kind == 2) with
      | false => exact ih.br none st hi (by omega)
      | true =>
        have hlt : st.next + 1 < ws.length := he _ (by have := beq_iff_eq.1 h2; omega)
        have ar := adv_rel hi hlt
        have en : st.adv.next = st.next + 1 := rfl
        simp only [cond_true, cond_false]
        unfold nameOf
        cases k0 : (named (wordAt ws st.next).text == 0) with
        | true => exact ⟨none, st, rfl, Rel.refl hi, fun h => by cases h⟩
        | false =>
          cases k2 : (named (wordAt ws st.next).text == 2 || named (wordAt ws st.next).text == 3) with
          | true =>
            simp only [cond_true, cond_false]
            rw [ar.inv.okB hl]
            exact ⟨_, _, rfl, leaf_rel hi hlt, fun _ => by show st.next < st.next + 1; omega⟩
          | false =>
            cases k4 : (named (wordAt ws st.next).text == 4) with
            | true =>
              obtain ⟨r, st', e, h⟩ := continued_total he hl st.adv ar.inv
              exact ⟨r, st', e, ar.trans h, fun _ => by have := h.next; omega⟩
            | false =>
              obtain ⟨x, st2, e1, r1, s1⟩ := ih.br none st.adv ar.inv (by omega)
              simp only [cond_false]
              rw [e1]
              have a := r1.nodes
              have b := r1.next
              have em : st.adv.nodes = st.nodes := rfl
              exact unary_tot hl hi (ar.trans r1) (by omega) (fun _ => by omega)
  case br =>
    intro l st hi hf
    rw [parse]
    · rw [hi.okB hl]
      simp only [cond_true]
      cases h1 : tk ws st ⟨#[40]⟩ with
      | false => exact ⟨none, st, rfl, Rel.refl hi, fun h => by cases h⟩
      | true =>
        have hlt := tk_lt he h1
        have ii := inn_rel hi hlt
        have en : st.adv.inn.next = st.next + 1 := rfl
        obtain ⟨x, st2, e1, r1, s1⟩ := ih.sum none st.adv.inn ii (by omega)
        obtain ⟨o1, o2, o3, o4⟩ := out_rel' hi r1
        simp only [cond_true]
        rw [e1]
        show Tot ws (closeOf ws x st2) st
        unfold closeOf
        rw [show st2.okOut = true by simp only [St.okOut, r1.inv.okB hl, decide_eq_true o2]; rfl]
        simp only [cond_true]
        cases x with
        | none => exact ⟨none, st2.out, rfl, o1, fun h => by cases h⟩
        | some x =>
          simp only
          cases h2 : tk ws st2.out ⟨#[41]⟩ with
          | false => exact ⟨none, st2.out, rfl, o1, fun h => by cases h⟩
          | true => exact ⟨some x, st2.out.adv, rfl, o1.trans (adv_rel o1.inv (tk_lt he h2)), fun _ => by show st.next < st2.next + 1; omega⟩
    all_goals omega

theorem T1_all (he : EndK ws) (hl : ws.length ≤ 121) : ∀ f, T1 ws f := by
  intro f
  induction f with
  | zero => constructor <;> (intro l st _ h; omega)
  | succ f ih => exact T1_step he hl f ih

/-- With 1300 steps the parser has an answer. -/
theorem parse_total (he : EndK ws) (hl : ws.length ≤ 121) (h0 : 0 < ws.length) : ∃ r st', parse ws 1300 0 none ⟨0, 0, 0, 0⟩ = some (r, st') ∧ Rel ws ⟨0, 0, 0, 0⟩ st' := by
  obtain ⟨r, st', e, h, _⟩ := (T1_all he hl 1300).sum none ⟨0, 0, 0, 0⟩ ⟨h0, Nat.le_refl _, Nat.le_refl _, Nat.le_refl _⟩ (by simp only; omega)
  exact ⟨r, st', e, h⟩

end Rd
end Go.Proofs.YtmepffenlgedbaaDoor
