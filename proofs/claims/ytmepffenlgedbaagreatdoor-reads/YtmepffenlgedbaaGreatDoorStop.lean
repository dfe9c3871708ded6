/-
  PLAIN MATHEMATICS: which word may follow which: the parser stops where the plain list of states stops.
-/
import Derived.Test.YtmepffenlgedbaaGreatDoorParse
set_option linter.unusedSimpArgs false
namespace Go.Proofs.YtmepffenlgedbaaGreatDoor
namespace Rd

/-- The sort of a word by its text alone. -/
def kd : List UInt8 → Int
  | [] => 0
  | b :: _ => kindOf (b.toNat : Int)

def txt (ws : List Wd) (n : Nat) : List UInt8 := (wordAt ws n).text.data.toList

/-- The sorts are those of the texts. -/
def KindOk (ws : List Wd) : Prop := ∀ n, (wordAt ws n).kind = kd (txt ws n)

def isOp (t : List UInt8) : Bool := t == [43] || t == [45] || t == [42] || t == [47]
def isFn (t : List UInt8) : Bool := t == [115, 113, 114, 116] || t == [101, 120, 112] || t == [108, 110, 49, 112] || t == [97, 116, 97, 110]
def valAt (ws : List Wd) (n : Nat) : Int := valTo (wordAt ws n).text (wordAt ws n).text.size

/-- The terms of a cf, the last word that was read at a: f may still come. -/
def listEnd (ws : List Wd) : Nat → Nat → Bool × Nat
  | 0, a => (false, a)
  | f + 1, a =>
    bif kd (txt ws (a + 1)) == 1 && !(valAt ws (a + 1) == 0) then
      bif txt ws (a + 2) == [93] then (true, a + 2)
      else bif f == 0 then (false, a + 2)
      else bif txt ws (a + 2) == [44] then listEnd ws f (a + 2)
      else (false, a + 2)
    else (false, a + 1)

/-- What stands behind 'cf' at a. -/
def listM (ws : List Wd) (a : Nat) : Bool × Nat :=
  bif txt ws (a + 1) == [91] then
    bif kd (txt ws (a + 2)) == 1 then
      bif txt ws (a + 3) == [59] then listEnd ws 8 (a + 3) else (false, a + 3)
    else (false, a + 2)
  else (false, a + 1)

/-- The states: at: the word; op: how many brackets are open; b: an operand may come. -/
def follows (ws : List Wd) : Nat → Nat → Nat → Bool → Option (Bool × Nat)
  | 0, _, _, _ => none
  | k + 1, a, o, true =>
    bif txt ws a == [45] then follows ws k (a + 1) o true
    else bif txt ws a == [40] then follows ws k (a + 1) (o + 1) true
    else bif kd (txt ws a) == 1 || txt ws a == [112, 105] || txt ws a == [101] then follows ws k (a + 1) o false
    else bif txt ws a == [99, 102] then
      (bif (listM ws a).1 then follows ws k ((listM ws a).2 + 1) o false else some (false, (listM ws a).2))
    else bif isFn (txt ws a) then (bif txt ws (a + 1) == [40] then follows ws k (a + 2) (o + 1) true else some (false, a + 1))
    else some (false, a)
  | k + 1, a, o, false =>
    bif isOp (txt ws a) then follows ws k (a + 1) o true
    else bif txt ws a == [41] && decide (0 < o) then follows ws k (a + 1) (o - 1) false
    else bif txt ws a == [] then some (decide (o = 0), a)
    else some (false, a)

def Stops (ws : List Wd) (a o : Nat) (b : Bool) (R : Bool × Nat) : Prop := ∃ k, follows ws k a o b = some R

theorem stops_of {ws : List Wd} {a o : Nat} {b : Bool} {R : Bool × Nat} (k : Nat) (h : follows ws (k + 1) a o b = some R) : Stops ws a o b R := ⟨k + 1, h⟩

theorem tk_txt {ws : List Wd} (hk : KindOk ws) (st : St) (b : UInt8) (r : List UInt8) : tk ws st ⟨(b :: r).toArray⟩ = (txt ws st.next == b :: r) := by
  unfold tk isT
  rw [hk]
  show (!(kd (txt ws st.next) == 0) && txt ws st.next == b :: r) = _
  cases h : (txt ws st.next == b :: r) with
  | false => simp
  | true =>
    have e : txt ws st.next = b :: r := by simpa using h
    rw [e]
    simp only [kd, kindOf]
    cases isDig (b.toNat : Int) <;> cases isLet (b.toNat : Int) <;> rfl

theorem term_txt {ws : List Wd} (hk : KindOk ws) (st : St) : term ws st = bif kd (txt ws st.next) == 1 && !(valAt ws st.next == 0) then (valAt ws st.next, st.adv) else (0, st) := by
  unfold term
  rw [hk]
  show (bif kd (txt ws st.next) == 1 then bif valAt ws st.next == 0 then (0, st) else (valAt ws st.next, st.adv) else (0, st)) = _
  cases kd (txt ws st.next) == 1 <;> cases valAt ws st.next == 0 <;> rfl

/-- The terms stop where the plain list stops. -/
theorem terms_list {ws : List Wd} (hk : KindOk ws) : ∀ f c ts st res st', c + f = 9 → terms ws f c ts st = some (res, st') →
    (match res with
      | none => listEnd ws f (st.next - 1) = (false, st'.next)
      | some _ => listEnd ws f (st.next - 1) = (true, st'.next - 1) ∧ 0 < st'.next) ∨ st.next = 0 := by
  intro f
  induction f with
  | zero => intro c ts st res st' _ h; cases h
  | succ f ih =>
    intro c ts st res st' hc h
    by_cases h0 : st.next = 0
    · exact Or.inr h0
    left
    have e1 : st.next - 1 + 1 = st.next := by omega
    have e2 : st.next - 1 + 2 = st.next + 1 := by omega
    rw [terms] at h
    rw [listEnd, e1, e2]
    cases ho : (st.okB && (term ws st).2.okB) with
    | false => rw [ho] at h; cases h
    | true =>
      rw [ho] at h
      clear ho
      rw [term_txt hk] at h
      cases hv : (kd (txt ws st.next) == 1 && !(valAt ws st.next == 0)) with
      | false =>
        simp only [hv, cond_true, cond_false, beq_self_eq_true, Option.some.injEq, Prod.mk.injEq] at h
        obtain ⟨rfl, rfl⟩ := h
        rfl
      | true =>
        have hv2 : (valAt ws st.next == 0) = false := by
          simp only [Bool.and_eq_true, Bool.not_eq_true'] at hv
          exact hv.2
        rw [hv] at h
        simp only [cond_true] at h ⊢
        rw [hv2] at h
        simp only [cond_false] at h
        rw [tk_txt hk, tk_txt hk] at h
        have en : st.adv.next = st.next + 1 := rfl
        rw [en] at h
        cases h1 : (txt ws (st.next + 1) == [93]) with
        | true =>
          simp only [h1, cond_true, Option.some.injEq, Prod.mk.injEq] at h
          obtain ⟨rfl, rfl⟩ := h
          exact ⟨by simp [St.adv], by simp [St.adv]⟩
        | false =>
          simp only [h1, cond_false] at h ⊢
          cases h2 : (c == 8) with
          | true =>
            have hf : (f == 0) = true := by simp at h2 ⊢; omega
            simp only [h2, cond_true, Option.some.injEq, Prod.mk.injEq] at h
            obtain ⟨rfl, rfl⟩ := h
            simp only [hf, cond_true]
            rfl
          | false =>
            have hf : (f == 0) = false := by simp at h2 ⊢; omega
            simp only [h2, cond_false] at h
            simp only [hf, cond_false]
            cases h3 : (txt ws (st.next + 1) == [44]) with
            | false =>
              simp only [h3, cond_false, Option.some.injEq, Prod.mk.injEq] at h
              obtain ⟨rfl, rfl⟩ := h
              rfl
            | true =>
              simp only [h3, cond_true] at h ⊢
              have := ih (c + 1) _ _ res st' (by omega) h
              rcases this with h4 | h4
              · exact h4
              · simp [St.adv] at h4

/-- What stands behind cf stops where the plain list stops. -/
theorem continued_list {ws : List Wd} (hk : KindOk ws) (a : Nat) (st : St) (res : Option Tr) (st' : St) (ha : st.next = a + 1) (h : continued ws st = some (res, st')) :
    match res with
    | none => listM ws a = (false, st'.next)
    | some _ => listM ws a = (true, st'.next - 1) ∧ 0 < st'.next := by
  unfold continued at h
  unfold listM
  rw [← ha]
  cases ho : (decide (st.next < 900) && st.okB) with
  | false => rw [ho] at h; cases h
  | true =>
    rw [ho] at h
    simp only [cond_true] at h
    rw [tk_txt hk, tk_txt hk, hk] at h
    have e1 : st.adv.next = a + 2 := by simp [St.adv, ha]
    have e2 : st.adv.adv.next = a + 3 := by simp [St.adv, ha]
    rw [e1, e2] at h
    cases h1 : (txt ws st.next == [91]) with
    | false =>
      simp only [h1, cond_false, Option.some.injEq, Prod.mk.injEq] at h
      obtain ⟨rfl, rfl⟩ := h
      simp only [cond_false]
    | true =>
      simp only [h1, cond_true] at h ⊢
      cases h2 : (kd (txt ws (a + 2)) == 1) with
      | false =>
        simp only [h2, cond_false, Option.some.injEq, Prod.mk.injEq] at h
        obtain ⟨rfl, rfl⟩ := h
        simp only [cond_false]
        rw [e1]
      | true =>
        simp only [h2, cond_true] at h ⊢
        cases h3 : (txt ws (a + 3) == [59]) with
        | false =>
          simp only [h3, cond_false, Option.some.injEq, Prod.mk.injEq] at h
          obtain ⟨rfl, rfl⟩ := h
          simp only [cond_false]
          rw [e2]
        | true =>
          simp only [h3, cond_true] at h ⊢
          generalize hT : terms ws 8 1 [valTo (wordAt ws (a + 2)).text (wordAt ws (a + 2)).text.size] st.adv.adv.adv = R at h
          have e3 : st.adv.adv.adv.next - 1 = a + 3 := by simp [St.adv, ha]
          cases R with
          | none => cases h
          | some y =>
            obtain ⟨r, s2⟩ := y
            have := terms_list hk 8 1 _ _ r s2 (by omega) hT
            rw [e3] at this
            rcases this with h4 | h4
            · cases r with
              | none =>
                simp only [cfOf, Option.some.injEq, Prod.mk.injEq] at h
                obtain ⟨rfl, rfl⟩ := h
                exact h4
              | some ts =>
                simp only [cfOf] at h
                cases ho2 : s2.okB with
                | false => rw [ho2] at h; cases h
                | true =>
                  simp only [ho2, cond_true, Option.some.injEq, Prod.mk.injEq] at h
                  obtain ⟨rfl, rfl⟩ := h
                  exact h4
            · simp [St.adv] at h4

end Rd
end Go.Proofs.YtmepffenlgedbaaGreatDoor

/-
  PLAIN MATHEMATICS: the parser stops where the plain list of states stops.
-/
set_option linter.unusedSimpArgs false
namespace Go.Proofs.YtmepffenlgedbaaGreatDoor
namespace Rd
variable {ws : List Wd} {a o : Nat} {R : Bool × Nat}

theorem stops_minus (e : txt ws a = [45]) (h : Stops ws (a + 1) o true R) : Stops ws a o true R := by
  obtain ⟨k, hk⟩ := h
  refine ⟨k + 1, ?_⟩
  rw [follows, e]
  exact hk
theorem stops_open (e : txt ws a = [40]) (h : Stops ws (a + 1) (o + 1) true R) : Stops ws a o true R := by
  obtain ⟨k, hk⟩ := h
  refine ⟨k + 1, ?_⟩
  rw [follows, e]
  exact hk
theorem stops_leaf (e1 : (txt ws a == [45]) = false) (e2 : (txt ws a == [40]) = false) (e : (kd (txt ws a) == 1 || txt ws a == [112, 105] || txt ws a == [101]) = true) (h : Stops ws (a + 1) o false R) : Stops ws a o true R := by
  obtain ⟨k, hk⟩ := h
  refine ⟨k + 1, ?_⟩
  rw [follows, e1, e2, e]
  exact hk
theorem stops_cf (e : txt ws a = [99, 102]) (b : Nat) (el : listM ws a = (true, b)) (h : Stops ws (b + 1) o false R) : Stops ws a o true R := by
  obtain ⟨k, hk⟩ := h
  refine ⟨k + 1, ?_⟩
  rw [follows, e, el]
  exact hk
theorem stops_cf_no (e : txt ws a = [99, 102]) (b : Nat) (el : listM ws a = (false, b)) : Stops ws a o true (false, b) := by
  refine ⟨1, ?_⟩
  rw [follows, e, el]
  rfl
theorem fn_not {t : List UInt8} (e : isFn t = true) : (t == [45]) = false ∧ (t == [40]) = false ∧ (kd t == 1 || t == [112, 105] || t == [101]) = false ∧ (t == [99, 102]) = false := by
  simp only [isFn, Bool.or_eq_true, beq_iff_eq] at e
  rcases e with ((rfl | rfl) | rfl) | rfl <;> exact ⟨rfl, rfl, rfl, rfl⟩
theorem stops_fn (e : isFn (txt ws a) = true) (e1 : txt ws (a + 1) = [40]) (h : Stops ws (a + 2) (o + 1) true R) : Stops ws a o true R := by
  obtain ⟨k, hk⟩ := h
  obtain ⟨f1, f2, f3, f4⟩ := fn_not e
  refine ⟨k + 1, ?_⟩
  rw [follows, f1, f2, f3, f4, e, e1]
  exact hk
theorem stops_fn_no (e : isFn (txt ws a) = true) (e1 : (txt ws (a + 1) == [40]) = false) : Stops ws a o true (false, a + 1) := by
  obtain ⟨f1, f2, f3, f4⟩ := fn_not e
  refine ⟨1, ?_⟩
  rw [follows, f1, f2, f3, f4, e, e1]
  rfl
theorem stops_bad (e1 : (txt ws a == [45]) = false) (e2 : (txt ws a == [40]) = false) (e3 : (kd (txt ws a) == 1 || txt ws a == [112, 105] || txt ws a == [101]) = false) (e4 : (txt ws a == [99, 102]) = false) (e5 : isFn (txt ws a) = false) : Stops ws a o true (false, a) := by
  refine ⟨1, ?_⟩
  rw [follows, e1, e2, e3, e4, e5]
  rfl
theorem stops_op (e : isOp (txt ws a) = true) (h : Stops ws (a + 1) o true R) : Stops ws a o false R := by
  obtain ⟨k, hk⟩ := h
  refine ⟨k + 1, ?_⟩
  rw [follows, e]
  exact hk
theorem stops_close (e : txt ws a = [41]) (h : Stops ws (a + 1) o false R) : Stops ws a (o + 1) false R := by
  obtain ⟨k, hk⟩ := h
  refine ⟨k + 1, ?_⟩
  rw [follows, e, decide_eq_true (Nat.succ_pos o)]
  exact hk
theorem stops_end (e : txt ws a = []) : Stops ws a o false (decide (o = 0), a) := by
  refine ⟨1, ?_⟩
  rw [follows, e]
  rfl
theorem stops_bad2 (e1 : isOp (txt ws a) = false) (e2 : (txt ws a == [41] && decide (0 < o)) = false) (e3 : 0 < o ∨ (txt ws a == []) = false) : Stops ws a o false (false, a) := by
  refine ⟨1, ?_⟩
  rw [follows, e1, e2]
  cases h : (txt ws a == []) with
  | false => rfl
  | true =>
    have ho : 0 < o := by
      rcases e3 with h3 | h3
      · exact h3
      · rw [h] at h3; cases h3
    show some (decide (o = 0), a) = _
    rw [decide_eq_false (by omega)]

/-- What the parser says, and where the states stop. -/
def Goes (ws : List Wd) (n o : Nat) (b : Bool) (res : Option Tr) (st' : St) : Prop :=
  match res with
  | none => Stops ws n o b (false, st'.next)
  | some _ => ∀ R, Stops ws st'.next o false R → Stops ws n o b R

theorem Goes.back {n n' o o' : Nat} {b b' : Bool} {res : Option Tr} {st' : St} (h : Goes ws n o b res st') (s : ∀ R, Stops ws n o b R → Stops ws n' o b' R) (_ : o' = o) : Goes ws n' o b' res st' := by
  cases res with
  | none => exact s _ h
  | some t => exact fun R hR => s R (h R hR)

def notMul (t : List UInt8) : Prop := (t == [42]) = false ∧ (t == [47]) = false

theorem named_txt (t : ByteArray) : named t = bif t.data.toList == [112, 105] then 2 else bif t.data.toList == [101] then 3 else bif t.data.toList == [99, 102] then 4 else bif t.data.toList == [115, 113, 114, 116] then 10
  else bif t.data.toList == [101, 120, 112] then 11 else bif t.data.toList == [108, 110, 49, 112] then 12 else bif t.data.toList == [97, 116, 97, 110] then 13 else 0 := rfl

structure E1 (ws : List Wd) (f : Nat) : Prop where
  sum : ∀ l st res st', parse ws f 0 l st = some (res, st') → ∀ o, Goes ws st.next o true res st' ∧ (res.isSome = true → isOp (txt ws st'.next) = false)
  sumL : ∀ l st res st', parse ws f 1 (some l) st = some (res, st') → notMul (txt ws st.next) → ∀ o, Goes ws st.next o false res st' ∧ (res.isSome = true → isOp (txt ws st'.next) = false)
  prod : ∀ l st res st', parse ws f 2 l st = some (res, st') → ∀ o, Goes ws st.next o true res st' ∧ (res.isSome = true → notMul (txt ws st'.next))
  prodL : ∀ l st res st', parse ws f 3 (some l) st = some (res, st') → ∀ o, Goes ws st.next o false res st' ∧ (res.isSome = true → notMul (txt ws st'.next))
  signed : ∀ l st res st', parse ws f 4 l st = some (res, st') → ∀ o, Goes ws st.next o true res st'
  atom : ∀ l st res st', parse ws f 5 l st = some (res, st') → (txt ws st.next == [45]) = false → ∀ o, Goes ws st.next o true res st'
  brNo : ∀ l st res st', parse ws f 6 l st = some (res, st') → (txt ws st.next == [40]) = false → res = none ∧ st' = st
  br : ∀ l st res st', parse ws f 6 l st = some (res, st') → txt ws st.next = [40] → ∀ o, match res with
    | none => Stops ws (st.next + 1) (o + 1) true (false, st'.next)
    | some _ => ∀ R, Stops ws st'.next o false R → Stops ws (st.next + 1) (o + 1) true R

theorem beq_of {t c : List UInt8} (h : (t == c) = true) : t = c := by simpa using h

/-- One round of the loop over operations: the operand behind the sign. -/
theorem loop_round {f tag k : Nat} {kd : Int} {l : Tr} {st st' : St} {res : Option Tr} (b : Nat)
    (hop : isOp (txt ws st.next) = true)
    (hp : ((parse ws f b none st.adv).next fun r st2 => (operOf kd l r st2).next fun l' st3 => parse ws k tag l' st3) = some (res, st'))
    (hn : ∀ st, parse ws k tag none st = some (none, st) ∨ parse ws k tag none st = none)
    (hin : ∀ r st2, parse ws f b none st.adv = some (r, st2) → ∀ o, Goes ws st.adv.next o true r st2)
    (hl : ∀ r st2, parse ws f b none st.adv = some (some r, st2) → parse ws k tag (some (opT kd l r)) st2.node = some (res, st') → ∀ o, Goes ws st2.next o false res st') (o : Nat) : Goes ws st.next o false res st' := by
  cases hr : parse ws f b none st.adv with
  | none => rw [hr] at hp; cases hp
  | some y =>
    obtain ⟨r, st2⟩ := y
    rw [hr] at hp
    have hi := hin r st2 hr o
    cases r with
    | none =>
      have hp' : parse ws k tag none st2 = some (res, st') := hp
      rcases hn st2 with h | h
      · rw [h] at hp'
        simp only [Option.some.injEq, Prod.mk.injEq] at hp'
        obtain ⟨rfl, rfl⟩ := hp'
        exact stops_op hop hi
      · rw [h] at hp'; cases hp'
    | some r =>
      have hp' : (operOf kd l (some r) st2).next (fun l' st3 => parse ws k tag l' st3) = some (res, st') := hp
      simp only [operOf] at hp'
      cases ho : st2.okB with
      | false => rw [ho] at hp'; cases hp'
      | true =>
        rw [ho] at hp'
        have h2 := hl r st2 hr hp' o
        refine Goes.back h2 (fun R hR => stops_op hop ?_) rfl
        exact hi R hR

end Rd
end Go.Proofs.YtmepffenlgedbaaGreatDoor

/-
  PLAIN MATHEMATICS: the parser stops where the plain list of states stops: the induction.
-/
set_option linter.unusedSimpArgs false
namespace Go.Proofs.YtmepffenlgedbaaGreatDoor
namespace Rd
variable {ws : List Wd}

theorem loop_none1 (k : Nat) (st : St) : parse ws k 1 none st = some (none, st) ∨ parse ws k 1 none st = none := by
  cases k with
  | zero => exact Or.inr rfl
  | succ k => exact Or.inl rfl
theorem loop_none3 (k : Nat) (st : St) : parse ws k 3 none st = some (none, st) ∨ parse ws k 3 none st = none := by
  cases k with
  | zero => exact Or.inr rfl
  | succ k => exact Or.inl rfl

theorem next_eq {x : Ans} {F : Option Tr → St → Ans} {y : Option Tr × St} (h : x.next F = some y) : ∃ l st, x = some (l, st) ∧ F l st = some y := by
  cases x with
  | none => cases h
  | some z => exact ⟨z.1, z.2, rfl, h⟩

theorem op_false {t : List UInt8} (h1 : (t == [43]) = false) (h2 : (t == [45]) = false) (h : notMul t) : isOp t = false := by
  simp [isOp, h1, h2, h.1, h.2]

theorem kd_not {t c : List UInt8} {n : Int} (h : (kd t == n) = true) (hc : (kd c == n) = false) : (t == c) = false := by
  cases e : (t == c) with
  | false => rfl
  | true => rw [beq_of e] at h; rw [h] at hc; cases hc

/-- A name, its sort known. -/
theorem name_goes (hk : KindOk ws) {f : Nat} (ih : E1 ws f) {st st' : St} {res : Option Tr} (k : Int) (o : Nat) (hp : nameOf ws k st (fun st' => parse ws f 6 none st') = some (res, st'))
    (h : (k = 0 ∧ (txt ws st.next == [45]) = false ∧ (txt ws st.next == [40]) = false ∧ (kd (txt ws st.next) == 1 || txt ws st.next == [112, 105] || txt ws st.next == [101]) = false ∧ (txt ws st.next == [99, 102]) = false ∧ isFn (txt ws st.next) = false)
      ∨ ((k = 2 ∨ k = 3) ∧ (txt ws st.next == [45]) = false ∧ (txt ws st.next == [40]) = false ∧ (kd (txt ws st.next) == 1 || txt ws st.next == [112, 105] || txt ws st.next == [101]) = true)
      ∨ (k = 4 ∧ txt ws st.next = [99, 102]) ∨ ((k = 10 ∨ k = 11 ∨ k = 12 ∨ k = 13) ∧ isFn (txt ws st.next) = true)) : Goes ws st.next o true res st' := by
  unfold nameOf at hp
  rcases h with ⟨rfl, h1, h2, h3, h4, h5⟩ | ⟨hkk, h1, h2, h3⟩ | ⟨rfl, h1⟩ | ⟨hkk, h1⟩
  · simp only [beq_self_eq_true, cond_true, Option.some.injEq, Prod.mk.injEq] at hp
    obtain ⟨rfl, rfl⟩ := hp
    exact stops_bad h1 h2 h3 h4 h5
  · have e0 : (k == 0) = false := by rcases hkk with rfl | rfl <;> rfl
    have e2 : (k == 2 || k == 3) = true := by rcases hkk with rfl | rfl <;> rfl
    rw [e0, e2] at hp
    cases ho : st.adv.okB with
    | false => rw [ho] at hp; cases hp
    | true =>
      rw [ho] at hp
      simp only [cond_true, cond_false, Option.some.injEq, Prod.mk.injEq] at hp
      obtain ⟨rfl, rfl⟩ := hp
      exact fun R hR => stops_leaf h1 h2 h3 hR
  · have hp' : continued ws st.adv = some (res, st') := hp
    have hc := continued_list hk st.next st.adv res st' rfl hp'
    cases res with
    | none => exact stops_cf_no h1 _ hc
    | some t =>
      refine fun R hR => stops_cf h1 _ hc.1 ?_
      rw [show st'.next - 1 + 1 = st'.next by have := hc.2; omega]
      exact hR
  · have e0 : (k == 0) = false := by rcases hkk with rfl | rfl | rfl | rfl <;> rfl
    have e2 : (k == 2 || k == 3) = false := by rcases hkk with rfl | rfl | rfl | rfl <;> rfl
    have e4 : (k == 4) = false := by rcases hkk with rfl | rfl | rfl | rfl <;> rfl
    rw [e0, e2, e4] at hp
    simp only [cond_false] at hp
    obtain ⟨x, st2, p1, p2⟩ := next_eq hp
    cases h40 : (txt ws (st.next + 1) == [40]) with
    | false =>
      obtain ⟨rfl, rfl⟩ := ih.brNo none _ x st2 p1 h40
      simp only [unaryOf, Option.some.injEq, Prod.mk.injEq] at p2
      obtain ⟨rfl, rfl⟩ := p2
      exact stops_fn_no h1 h40
    | true =>
      have g := ih.br none _ x st2 p1 (beq_of h40) o
      cases x with
      | none =>
        simp only [unaryOf, Option.some.injEq, Prod.mk.injEq] at p2
        obtain ⟨rfl, rfl⟩ := p2
        exact stops_fn h1 (beq_of h40) g
      | some x =>
        simp only [unaryOf] at p2
        cases ho : st2.okB with
        | false => rw [ho] at p2; cases p2
        | true =>
          rw [ho] at p2
          simp only [cond_true, Option.some.injEq, Prod.mk.injEq] at p2
          obtain ⟨rfl, rfl⟩ := p2
          exact fun R hR => stops_fn h1 (beq_of h40) (g R hR)

theorem E1_step (hk : KindOk ws) (f : Nat) (ih : E1 ws f) : E1 ws (f + 1) := by
  constructor
  case sum =>
    intro l st res st' hp o
    obtain ⟨l0, st1, h1, h2⟩ := next_eq (show (parse ws f 2 none st).next (fun l st1 => parse ws f 1 l st1) = some (res, st') from hp)
    obtain ⟨g1, n1⟩ := ih.prod none st l0 st1 h1 o
    cases l0 with
    | none =>
      rcases loop_none1 (ws := ws) f st1 with h | h
      · rw [h] at h2
        simp only [Option.some.injEq, Prod.mk.injEq] at h2
        obtain ⟨rfl, rfl⟩ := h2
        exact ⟨g1, fun h => by cases h⟩
      · rw [h] at h2; cases h2
    | some l0 =>
      obtain ⟨g2, n2⟩ := ih.sumL l0 st1 res st' h2 (n1 rfl) o
      exact ⟨Goes.back g2 (fun R hR => g1 R hR) rfl, n2⟩
  case sumL =>
    intro l st res st' hp hn o
    rw [parse] at hp
    cases ho : st.okB with
    | false => rw [ho] at hp; cases hp
    | true =>
      rw [ho] at hp
      simp only [cond_true] at hp
      rw [tk_txt hk, tk_txt hk] at hp
      cases h1 : (txt ws st.next == [43]) with
      | true =>
        rw [h1] at hp
        simp only [cond_true] at hp
        have hop : isOp (txt ws st.next) = true := by simp [isOp, h1]
        refine ⟨loop_round 2 hop hp (loop_none1 f) (fun r st2 h o => (ih.prod none _ r st2 h o).1) (fun r st2 h1 h2 o => (ih.sumL _ _ res st' h2 ((ih.prod none _ _ st2 h1 0).2 rfl) o).1) o, ?_⟩
        intro hs
        obtain ⟨r, st2, e1, e2⟩ := next_eq hp
        cases r with
        | none =>
          rcases loop_none1 (ws := ws) f st2 with h | h
          · have e2' : parse ws f 1 none st2 = some (res, st') := e2
            rw [h] at e2'
            simp only [Option.some.injEq, Prod.mk.injEq] at e2'
            obtain ⟨rfl, rfl⟩ := e2'
            cases hs
          · have e2' : parse ws f 1 none st2 = some (res, st') := e2
            rw [h] at e2'; cases e2'
        | some r =>
          have e2' : (operOf 6 l (some r) st2).next (fun l' st3 => parse ws f 1 l' st3) = some (res, st') := e2
          simp only [operOf] at e2'
          cases ho : st2.okB with
          | false => rw [ho] at e2'; cases e2'
          | true =>
            rw [ho] at e2'
            exact (ih.sumL _ _ res st' e2' ((ih.prod none _ _ st2 e1 0).2 rfl) 0).2 hs
      | false =>
        cases h2 : (txt ws st.next == [45]) with
        | true =>
          rw [h1, h2] at hp
          simp only [cond_true, cond_false] at hp
          have hop : isOp (txt ws st.next) = true := by simp [isOp, h2]
          refine ⟨loop_round 2 hop hp (loop_none1 f) (fun r st2 h o => (ih.prod none _ r st2 h o).1) (fun r st2 h1 h2 o => (ih.sumL _ _ res st' h2 ((ih.prod none _ _ st2 h1 0).2 rfl) o).1) o, ?_⟩
          intro hs
          obtain ⟨r, st2, e1, e2⟩ := next_eq hp
          cases r with
          | none =>
            rcases loop_none1 (ws := ws) f st2 with h | h
            · have e2' : parse ws f 1 none st2 = some (res, st') := e2
              rw [h] at e2'
              simp only [Option.some.injEq, Prod.mk.injEq] at e2'
              obtain ⟨rfl, rfl⟩ := e2'
              cases hs
            · have e2' : parse ws f 1 none st2 = some (res, st') := e2
              rw [h] at e2'; cases e2'
          | some r =>
            have e2' : (operOf 7 l (some r) st2).next (fun l' st3 => parse ws f 1 l' st3) = some (res, st') := e2
            simp only [operOf] at e2'
            cases ho : st2.okB with
            | false => rw [ho] at e2'; cases e2'
            | true =>
              rw [ho] at e2'
              exact (ih.sumL _ _ res st' e2' ((ih.prod none _ _ st2 e1 0).2 rfl) 0).2 hs
        | false =>
          rw [h1, h2] at hp
          simp only [cond_false, Option.some.injEq, Prod.mk.injEq] at hp
          obtain ⟨rfl, rfl⟩ := hp
          exact ⟨fun R hR => hR, fun _ => op_false h1 h2 hn⟩
  case prod =>
    intro l st res st' hp o
    obtain ⟨l0, st1, h1, h2⟩ := next_eq (show (parse ws f 4 none st).next (fun l st1 => parse ws f 3 l st1) = some (res, st') from hp)
    have g1 := ih.signed none st l0 st1 h1 o
    cases l0 with
    | none =>
      rcases loop_none3 (ws := ws) f st1 with h | h
      · rw [h] at h2
        simp only [Option.some.injEq, Prod.mk.injEq] at h2
        obtain ⟨rfl, rfl⟩ := h2
        exact ⟨g1, fun h => by cases h⟩
      · rw [h] at h2; cases h2
    | some l0 =>
      obtain ⟨g2, n2⟩ := ih.prodL l0 st1 res st' h2 o
      exact ⟨Goes.back g2 (fun R hR => g1 R hR) rfl, n2⟩
  case prodL =>
    intro l st res st' hp o
    rw [parse] at hp
    cases ho : st.okB with
    | false => rw [ho] at hp; cases hp
    | true =>
      rw [ho] at hp
      simp only [cond_true] at hp
      rw [tk_txt hk, tk_txt hk] at hp
      cases h1 : (txt ws st.next == [42]) with
      | true =>
        rw [h1] at hp
        simp only [cond_true] at hp
        have hop : isOp (txt ws st.next) = true := by simp [isOp, h1]
        refine ⟨loop_round 4 hop hp (loop_none3 f) (fun r st2 h o => ih.signed none _ r st2 h o) (fun r st2 h1 h2 o => (ih.prodL _ _ res st' h2 o).1) o, ?_⟩
        intro hs
        obtain ⟨r, st2, e1, e2⟩ := next_eq hp
        cases r with
        | none =>
          rcases loop_none3 (ws := ws) f st2 with h | h
          · have e2' : parse ws f 3 none st2 = some (res, st') := e2
            rw [h] at e2'
            simp only [Option.some.injEq, Prod.mk.injEq] at e2'
            obtain ⟨rfl, rfl⟩ := e2'
            cases hs
          · have e2' : parse ws f 3 none st2 = some (res, st') := e2
            rw [h] at e2'; cases e2'
        | some r =>
          have e2' : (operOf 8 l (some r) st2).next (fun l' st3 => parse ws f 3 l' st3) = some (res, st') := e2
          simp only [operOf] at e2'
          cases ho : st2.okB with
          | false => rw [ho] at e2'; cases e2'
          | true =>
            rw [ho] at e2'
            exact (ih.prodL _ _ res st' e2' 0).2 hs
      | false =>
        cases h2 : (txt ws st.next == [47]) with
        | true =>
          rw [h1, h2] at hp
          simp only [cond_true, cond_false] at hp
          have hop : isOp (txt ws st.next) = true := by simp [isOp, h2]
          refine ⟨loop_round 4 hop hp (loop_none3 f) (fun r st2 h o => ih.signed none _ r st2 h o) (fun r st2 h1 h2 o => (ih.prodL _ _ res st' h2 o).1) o, ?_⟩
          intro hs
          obtain ⟨r, st2, e1, e2⟩ := next_eq hp
          cases r with
          | none =>
            rcases loop_none3 (ws := ws) f st2 with h | h
            · have e2' : parse ws f 3 none st2 = some (res, st') := e2
              rw [h] at e2'
              simp only [Option.some.injEq, Prod.mk.injEq] at e2'
              obtain ⟨rfl, rfl⟩ := e2'
              cases hs
            · have e2' : parse ws f 3 none st2 = some (res, st') := e2
              rw [h] at e2'; cases e2'
          | some r =>
            have e2' : (operOf 9 l (some r) st2).next (fun l' st3 => parse ws f 3 l' st3) = some (res, st') := e2
            simp only [operOf] at e2'
            cases ho : st2.okB with
            | false => rw [ho] at e2'; cases e2'
            | true =>
              rw [ho] at e2'
              exact (ih.prodL _ _ res st' e2' 0).2 hs
        | false =>
          rw [h1, h2] at hp
          simp only [cond_false, Option.some.injEq, Prod.mk.injEq] at hp
          obtain ⟨rfl, rfl⟩ := hp
          exact ⟨fun R hR => hR, fun _ => ⟨h1, h2⟩⟩
  case signed =>
    intro l st res st' hp o
    rw [parse] at hp
    cases ho : st.okB with
    | false => rw [ho] at hp; cases hp
    | true =>
      rw [ho] at hp
      simp only [cond_true] at hp
      rw [tk_txt hk] at hp
      cases h1 : (txt ws st.next == [45]) with
      | false =>
        rw [h1] at hp
        exact ih.atom none st res st' hp h1 o
      | true =>
        rw [h1] at hp
        simp only [cond_true] at hp
        obtain ⟨x, st2, e1, e2⟩ := next_eq hp
        have g := ih.signed none _ x st2 e1 o
        cases ho2 : st2.okOut with
        | false => rw [ho2] at e2; cases e2
        | true =>
          rw [ho2] at e2
          simp only [cond_true] at e2
          cases x with
          | none =>
            simp only [unaryOf, Option.some.injEq, Prod.mk.injEq] at e2
            obtain ⟨rfl, rfl⟩ := e2
            exact stops_minus (beq_of h1) g
          | some x =>
            simp only [unaryOf] at e2
            cases ho3 : st2.out.okB with
            | false => rw [ho3] at e2; cases e2
            | true =>
              rw [ho3] at e2
              simp only [cond_true, Option.some.injEq, Prod.mk.injEq] at e2
              obtain ⟨rfl, rfl⟩ := e2
              exact fun R hR => stops_minus (beq_of h1) (g R hR)
  case atom =>
    intro l st res st' hp h45 o
    rw [parse] at hp
    cases ho : st.okB with
    | false => rw [ho] at hp; cases hp
    | true =>
      rw [ho] at hp
      simp only [cond_true] at hp
      rw [hk, named_txt] at hp
      change (bif kd (txt ws st.next) == 1 then _ else bif kd (txt ws st.next) == 2 then nameOf ws (bif txt ws st.next == [112, 105] then 2 else bif txt ws st.next == [101] then 3 else bif txt ws st.next == [99, 102] then 4 else bif txt ws st.next == [115, 113, 114, 116] then 10 else bif txt ws st.next == [101, 120, 112] then 11 else bif txt ws st.next == [108, 110, 49, 112] then 12 else bif txt ws st.next == [97, 116, 97, 110] then 13 else 0) st (fun st' => parse ws f 6 none st') else parse ws f 6 none st) = _ at hp
      cases k1 : (kd (txt ws st.next) == 1) with
      | true =>
        rw [k1] at hp
        cases ho : st.adv.okB with
        | false => rw [ho] at hp; cases hp
        | true =>
          rw [ho] at hp
          simp only [cond_true, Option.some.injEq, Prod.mk.injEq] at hp
          obtain ⟨rfl, rfl⟩ := hp
          exact fun R hR => stops_leaf h45 (kd_not k1 rfl) (by rw [k1]; rfl) hR
      | false =>
        cases k2 : (kd (txt ws st.next) == 2) with
        | false =>
          rw [k1, k2] at hp
          simp only [cond_false] at hp
          cases h40 : (txt ws st.next == [40]) with
          | true =>
            have g := ih.br none st res st' hp (beq_of h40) o
            cases res with
            | none => exact stops_open (beq_of h40) g
            | some t => exact fun R hR => stops_open (beq_of h40) (g R hR)
          | false =>
            obtain ⟨rfl, rfl⟩ := ih.brNo none st res st' hp h40
            have nk : ∀ c, kd c = 2 → (txt ws st'.next == c) = false := by
              intro c hc
              cases e : (txt ws st'.next == c) with
              | false => rfl
              | true => rw [beq_of e, hc] at k2; cases k2
            exact stops_bad h45 h40 (by rw [k1, nk _ rfl, nk _ rfl]; rfl) (nk _ rfl) (by simp only [isFn, nk _ (show kd [115, 113, 114, 116] = 2 from rfl), nk _ (show kd [101, 120, 112] = 2 from rfl), nk _ (show kd [108, 110, 49, 112] = 2 from rfl), nk _ (show kd [97, 116, 97, 110] = 2 from rfl)]; rfl)
        | true =>
          rw [k1, k2] at hp
          simp only [cond_true, cond_false] at hp
          have h40 : (txt ws st.next == [40]) = false := kd_not k2 rfl
          refine name_goes hk ih _ o hp ?_
          clear hp
          cases t1 : (txt ws st.next == [112, 105]) with
          | true => exact Or.inr (Or.inl ⟨Or.inl rfl, h45, h40, by simp⟩)
          | false =>
            cases t2 : (txt ws st.next == [101]) with
            | true => exact Or.inr (Or.inl ⟨Or.inr rfl, h45, h40, by simp⟩)
            | false =>
              cases t3 : (txt ws st.next == [99, 102]) with
              | true => exact Or.inr (Or.inr (Or.inl ⟨rfl, beq_of t3⟩))
              | false =>
                cases t4 : (txt ws st.next == [115, 113, 114, 116]) with
                | true => exact Or.inr (Or.inr (Or.inr ⟨Or.inl rfl, by simp [isFn, t4]⟩))
                | false =>
                  cases t5 : (txt ws st.next == [101, 120, 112]) with
                  | true => exact Or.inr (Or.inr (Or.inr ⟨Or.inr (Or.inl rfl), by simp [isFn, t5]⟩))
                  | false =>
                    cases t6 : (txt ws st.next == [108, 110, 49, 112]) with
                    | true => exact Or.inr (Or.inr (Or.inr ⟨Or.inr (Or.inr (Or.inl rfl)), by simp [isFn, t6]⟩))
                    | false =>
                      cases t7 : (txt ws st.next == [97, 116, 97, 110]) with
                      | true => exact Or.inr (Or.inr (Or.inr ⟨Or.inr (Or.inr (Or.inr rfl)), by simp [isFn, t7]⟩))
                      | false => exact Or.inl ⟨rfl, h45, h40, by rw [k1]; rfl, rfl, by simp [isFn, t4, t5, t6, t7]⟩
  case brNo =>
    intro l st res st' hp h40
    rw [parse] at hp
    · cases ho : st.okB with
      | false => rw [ho] at hp; cases hp
      | true =>
        rw [ho] at hp
        simp only [cond_true] at hp
        rw [tk_txt hk, h40] at hp
        simp only [cond_false, Option.some.injEq, Prod.mk.injEq] at hp
        exact ⟨hp.1.symm, hp.2.symm⟩
    all_goals omega
  case br =>
    intro l st res st' hp h40 o
    rw [parse] at hp
    · cases ho : st.okB with
      | false => rw [ho] at hp; cases hp
      | true =>
        rw [ho] at hp
        simp only [cond_true] at hp
        rw [tk_txt hk, h40] at hp
        simp only [beq_self_eq_true, cond_true] at hp
        obtain ⟨x, st2, e1, e2⟩ := next_eq hp
        obtain ⟨g, n⟩ := ih.sum none _ x st2 e1 (o + 1)
        unfold closeOf at e2
        cases ho2 : st2.okOut with
        | false => rw [ho2] at e2; cases e2
        | true =>
          rw [ho2] at e2
          simp only [cond_true] at e2
          cases x with
          | none =>
            simp only [Option.some.injEq, Prod.mk.injEq] at e2
            obtain ⟨rfl, rfl⟩ := e2
            exact g
          | some x =>
            simp only at e2
            rw [tk_txt hk] at e2
            have en : st2.out.next = st2.next := rfl
            rw [en] at e2
            cases h41 : (txt ws st2.next == [41]) with
            | true =>
              rw [h41] at e2
              simp only [cond_true, Option.some.injEq, Prod.mk.injEq] at e2
              obtain ⟨rfl, rfl⟩ := e2
              exact fun R hR => g R (stops_close (beq_of h41) hR)
            | false =>
              rw [h41] at e2
              simp only [cond_false, Option.some.injEq, Prod.mk.injEq] at e2
              obtain ⟨rfl, rfl⟩ := e2
              exact g _ (stops_bad2 (n rfl) (by rw [h41]; rfl) (Or.inl (Nat.succ_pos o)))
    all_goals omega

theorem E1_all (hk : KindOk ws) : ∀ f, E1 ws f := by
  intro f
  induction f with
  | zero => constructor <;> (intro l st res st' hp; cases hp)
  | succ f ih => exact E1_step hk f ih

end Rd
end Go.Proofs.YtmepffenlgedbaaGreatDoor
