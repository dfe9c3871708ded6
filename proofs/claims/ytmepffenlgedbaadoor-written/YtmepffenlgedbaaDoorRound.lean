/-
  PLAIN MATHEMATICS: the words of a text, off its bytes as a list; texts put together.
-/
import Derived.Test.YtmepffenlgedbaaDoorTxt
import Derived.Test.YtmepffenlgedbaaDoorTotal
set_option linter.unusedSimpArgs false
namespace Go.Proofs.YtmepffenlgedbaaDoor
namespace Rd

abbrev Tok := Int × List UInt8
def dg (c : UInt8) : Bool := isDig (c.toNat : Int)
def lt (c : UInt8) : Bool := isLet (c.toNat : Int)
def an (c : UInt8) : Bool := lt c || dg c

/-- How many digits more belong to a number; how many signs more belong to a name. -/
def numL (r : List UInt8) : Nat := ((r.take 8).takeWhile dg).length
def nameL (r : List UInt8) : Nat := (r.takeWhile an).length

def toksF : Nat → List UInt8 → List Tok
  | 0, _ => []
  | _ + 1, [] => []
  | f + 1, c :: r =>
    bif c == 32 then toksF f r
    else bif dg c then (1, c :: r.take (numL r)) :: toksF f (r.drop (numL r))
    else bif lt c then (2, c :: r.take (nameL r)) :: toksF f (r.drop (nameL r))
    else (3, [c]) :: toksF f r

def toks (l : List UInt8) : List Tok := toksF (l.length + 1) l

theorem toksF_eq : ∀ (f g : Nat) (l : List UInt8), l.length < f → l.length < g → toksF f l = toksF g l := by
  intro f
  induction f with
  | zero => intro g l h; omega
  | succ f ih =>
    intro g l h1 h2
    cases g with
    | zero => omega
    | succ g =>
      cases l with
      | nil => rfl
      | cons c r =>
        simp only [List.length_cons] at h1 h2
        have key : ∀ n, toksF f (r.drop n) = toksF g (r.drop n) := fun n => ih g _ (by simp; omega) (by simp; omega)
        have k0 := key 0
        simp only [List.drop_zero] at k0
        simp only [toksF, k0, key]

theorem toksF_toks {f : Nat} {l : List UInt8} (h : l.length < f) : toksF f l = toks l := toksF_eq _ _ _ h (by omega)

theorem toks_nil : toks [] = [] := rfl

theorem toks_cons (c : UInt8) (r : List UInt8) : toks (c :: r) =
    bif c == 32 then toks r
    else bif dg c then (1, c :: r.take (numL r)) :: toks (r.drop (numL r))
    else bif lt c then (2, c :: r.take (nameL r)) :: toks (r.drop (nameL r))
    else (3, [c]) :: toks r := by
  have key : ∀ n, toksF (r.length + 1) (r.drop n) = toks (r.drop n) := fun n => toksF_toks (by simp; omega)
  have k0 := key 0
  simp only [List.drop_zero] at k0
  simp only [toks, List.length_cons]
  show toksF (r.length + 1 + 1) (c :: r) = _
  simp only [toksF]
  rw [key, key]
  simp only [k0]
  rfl

/-- A sign that is no letter and no digit is a word of its own (a blank is none). -/
theorem toks_sign {c : UInt8} (h : an c = false) (hb : (c == 32) = false) (r : List UInt8) : toks (c :: r) = (3, [c]) :: toks r := by
  rw [toks_cons]
  simp only [an, Bool.or_eq_false_iff] at h
  simp [hb, h.1, h.2]

theorem toks_blank (r : List UInt8) : toks (32 :: r) = toks r := by rw [toks_cons]; simp

theorem takeWhile_app {p : UInt8 → Bool} {a b : List UInt8} (hb : ∀ c, b.head? = some c → p c = false) : (a ++ b).takeWhile p = a.takeWhile p := by
  induction a with
  | nil =>
    cases b with
    | nil => rfl
    | cons x r => simp [List.takeWhile, hb x rfl]
  | cons x r ih =>
    simp only [List.cons_append, List.takeWhile]
    cases p x with
    | true => simp [ih]
    | false => rfl

theorem numL_app {a b : List UInt8} (hb : ∀ c, b.head? = some c → dg c = false) : numL (a ++ b) = numL a := by
  unfold numL
  rw [List.take_append]
  rw [takeWhile_app]
  intro c hc
  cases b with
  | nil => simp at hc
  | cons x r =>
    cases h : 8 - a.length with
    | zero => rw [h] at hc; simp at hc
    | succ n => rw [h] at hc; simp at hc; exact hb c (by simp [hc])

theorem numL_le (a : List UInt8) : numL a ≤ a.length := by
  unfold numL
  exact Nat.le_trans ((List.takeWhile_sublist _).length_le) (by simp; omega)

theorem nameL_le (a : List UInt8) : nameL a ≤ a.length := (List.takeWhile_sublist _).length_le

/-- Where a sign stands behind that is no letter and no digit, words part there. -/
theorem toks_app : ∀ (n : Nat) (a b : List UInt8), a.length ≤ n → (∀ c, b.head? = some c → an c = false) → toks (a ++ b) = toks a ++ toks b := by
  intro n
  induction n with
  | zero => intro a b h _; cases a with
    | nil => simp [toks_nil]
    | cons x r => simp at h
  | succ n ih =>
    intro a b h hb
    cases a with
    | nil => simp [toks_nil]
    | cons c r =>
      simp only [List.length_cons] at h
      have hd : ∀ c, b.head? = some c → dg c = false := fun c hc => by have := hb c hc; simp [an] at this; exact this.2
      have e1 := numL_app (a := r) hd
      have e2 : nameL (r ++ b) = nameL r := by unfold nameL; rw [takeWhile_app hb]
      have l1 := numL_le r
      have l2 := nameL_le r
      rw [List.cons_append, toks_cons, toks_cons c r, e1, e2]
      rw [List.take_append_of_le_length l1, List.take_append_of_le_length l2, List.drop_append_of_le_length l1, List.drop_append_of_le_length l2]
      rw [ih r b (by omega) hb, ih (r.drop (numL r)) b (by simp; omega) hb, ih (r.drop (nameL r)) b (by simp; omega) hb]
      cases c == 32 <;> cases dg c <;> cases lt c <;> simp

theorem toks_then {a : List UInt8} {c : UInt8} (h : an c = false) (b : List UInt8) : toks (a ++ c :: b) = toks a ++ toks (c :: b) :=
  toks_app _ a (c :: b) (Nat.le_refl _) (fun d hd => by simp at hd; subst hd; exact h)

/-! ### The words that 'split' gives -/

def tokOf (w : Wd) : Tok := (w.kind, w.text.data.toList)

theorem byteAt_get (s : ByteArray) (e : Nat) (hl : e < s.data.toList.length) : byteAt s e = ((s.data.toList[e]).toNat : Int) := by
  unfold byteAt
  rw [List.getD_eq_getElem?_getD, List.getElem?_eq_getElem hl]
  rfl

theorem list_size (s : ByteArray) : s.data.toList.length = s.size := Array.length_toList

theorem byteAt_drop (s : ByteArray) (a k : Nat) : byteAt s (a + k) = (((s.data.toList.drop a).getD k 0).toNat : Int) := by
  unfold byteAt
  simp [List.getD]

theorem numEnd_take (s : ByteArray) (a : Nat) : ∀ f e, a < e → e ≤ a + 9 → a + 9 - e ≤ f → numEnd s a f e = e + (((s.data.toList.drop e).take (a + 9 - e)).takeWhile dg).length := by
  intro f
  induction f with
  | zero =>
    intro e h1 h2 h3
    have h0 : a + 9 - e = 0 := by omega
    simp [numEnd, h0]
  | succ f ih =>
    intro e h1 h2 h3
    unfold numEnd
    by_cases hs : e < s.size
    · by_cases h9 : e - a < 9
      · have hl : e < s.data.toList.length := by simpa using hs
        rw [List.drop_eq_getElem_cons hl, show a + 9 - e = (a + 9 - (e + 1)) + 1 by omega, List.take_succ_cons, List.takeWhile]
        have hb : byteAt s e = ((s.data.toList[e]).toNat : Int) := byteAt_get s _ hl
        rw [show dg s.data.toList[e] = isDig (byteAt s e) by rw [hb]; rfl]
        cases hd : isDig (byteAt s e) with
        | false => simp
        | true =>
          simp only [hs, h9, and_self, decide_true, Bool.and_self, cond_true]
          rw [ih (e + 1) (by omega) (by omega) (by omega)]
          simp
          omega
      · have : a + 9 - e = 0 := by omega
        simp [h9, this]
    · have : s.data.toList.drop e = [] := by rw [List.drop_eq_nil_iff]; simpa using hs
      simp [hs, this]

theorem nameEnd_take (s : ByteArray) : ∀ f e, s.size - e ≤ f → nameEnd s f e = e + ((s.data.toList.drop e).takeWhile an).length := by
  intro f
  induction f with
  | zero =>
    intro e h
    have hls := list_size s
    have : s.data.toList.drop e = [] := by rw [List.drop_eq_nil_iff]; omega
    simp [nameEnd, this]
  | succ f ih =>
    intro e h
    unfold nameEnd
    by_cases hs : e < s.size
    · have hl : e < s.data.toList.length := by simpa using hs
      rw [List.drop_eq_getElem_cons hl, List.takeWhile]
      have hb : byteAt s e = ((s.data.toList[e]).toNat : Int) := byteAt_get s _ hl
      rw [show an s.data.toList[e] = (isLet (byteAt s e) || isDig (byteAt s e)) by rw [hb]; rfl]
      cases hd : (isLet (byteAt s e) || isDig (byteAt s e)) with
      | false => simp
      | true =>
        simp only [hs, decide_true, Bool.and_self, cond_true]
        rw [ih (e + 1) (by omega)]
        simp
        omega
    · have : s.data.toList.drop e = [] := by rw [List.drop_eq_nil_iff]; simpa using hs
      simp [hs, this]

theorem ext_toks (s : ByteArray) (a e : Nat) : (s.extract a e).data.toList = (s.data.toList.drop a).take (e - a) := by
  rw [ByteArray.data_extract, Array.toList_extract]

theorem split_toks (s : ByteArray) : ∀ f a, s.size - a < f → (split s f a).map tokOf = toksF f (s.data.toList.drop a) ++ [(0, [])] := by
  intro f
  induction f with
  | zero => intro a h; omega
  | succ f ih =>
    intro a h
    have hlen := list_size s
    by_cases hs : a < s.size
    · have hl : a < s.data.toList.length := by omega
      have hlo := wordEnd_lo s a
      have IH := ih (wordEnd s a) (by omega)
      have hb : byteAt s a = ((s.data.toList[a]).toNat : Int) := byteAt_get s _ hl
      have hd : isDig (byteAt s a) = dg s.data.toList[a] := by rw [hb]; rfl
      have ht : isLet (byteAt s a) = lt s.data.toList[a] := by rw [hb]; rfl
      have e1 := numEnd_take s a 9 (a + 1) (by omega) (by omega) (by omega)
      have e2 := nameEnd_take s s.size (a + 1) (by omega)
      rw [show a + 9 - (a + 1) = 8 by omega] at e1
      have h32 : (byteAt s a != 32) = !(s.data.toList[a] == 32) := by
        rw [hb]
        by_cases h3 : s.data.toList[a] = 32
        · rw [h3]; rfl
        · have : ((s.data.toList[a]).toNat : Int) ≠ 32 := by
            intro hh
            apply h3
            apply UInt8.toNat_inj.1
            show (s.data.toList[a]).toNat = 32
            omega
          simp only [bne, beq_eq_false_iff_ne.2 this, beq_eq_false_iff_ne.2 h3]
      unfold split toksF
      rw [List.drop_eq_getElem_cons hl]
      simp only [hs, decide_true, cond_true, h32]
      generalize hc : s.data.toList[a] = c at *
      have hw : wordEnd s a = bif dg c then a + 1 + numL (s.data.toList.drop (a + 1)) else bif lt c then a + 1 + nameL (s.data.toList.drop (a + 1)) else a + 1 := by
        unfold wordEnd
        rw [hd, ht, e1, e2]
        rfl
      have hx : ∀ n, wordEnd s a = a + 1 + n → (s.extract a (wordEnd s a)).data.toList = c :: (s.data.toList.drop (a + 1)).take n := by
        intro n hn
        rw [ext_toks, hn, List.drop_eq_getElem_cons hl, hc, show a + 1 + n - a = n + 1 by omega, List.take_succ_cons]
      have hy : ∀ n, wordEnd s a = a + 1 + n → s.data.toList.drop (wordEnd s a) = (s.data.toList.drop (a + 1)).drop n := by
        intro n hn
        rw [hn, List.drop_drop]
      cases h3 : c == 32 with
      | true =>
        have : c = 32 := by simpa using h3
        subst this
        have hn : wordEnd s a = a + 1 + 0 := by rw [hw]; rfl
        simp only [Bool.not_true, cond_false, cond_true]
        rw [IH, hy 0 hn]
        rfl
      | false =>
        simp only [Bool.not_false, cond_true, cond_false, List.map_cons, IH]
        cases hdc : dg c with
        | true =>
          rw [hdc] at hw
          simp only [cond_true] at hw ⊢
          rw [hy _ hw]
          simp only [tokOf, hx _ hw, kindOf, hd, hdc, cond_true, List.cons_append]
        | false =>
          cases hlc : lt c with
          | true =>
            rw [hdc, hlc] at hw
            simp only [cond_true, cond_false] at hw ⊢
            rw [hy _ hw]
            simp only [tokOf, hx _ hw, kindOf, hd, hdc, ht, hlc, cond_true, cond_false, List.cons_append]
          | false =>
            rw [hdc, hlc] at hw
            simp only [cond_false] at hw ⊢
            rw [hy 0 hw]
            simp only [tokOf, hx 0 hw, kindOf, hd, hdc, ht, hlc, cond_false, List.cons_append, List.take_zero, List.drop_zero]
    · have : s.data.toList.drop a = [] := by rw [List.drop_eq_nil_iff]; omega
      unfold split
      simp [hs, this, toksF, tokOf]

/-- The words of a text: those of its bytes, and the end. -/
theorem words_toks (s : ByteArray) : (split s (s.size + 1) 0).map tokOf = toks s.data.toList ++ [(0, [])] := by
  have := split_toks s (s.size + 1) 0 (by omega)
  rw [List.drop_zero] at this
  have hls := list_size s
  rw [this, toksF_toks (by omega)]

end Rd
end Go.Proofs.YtmepffenlgedbaaDoor

/-
  PLAIN MATHEMATICS: what is written as the grammar has it is read. Written trees: sort 14 stands for brackets.
-/
set_option linter.unusedSimpArgs false
namespace Go.Proofs.YtmepffenlgedbaaDoor
namespace Rd
open Go.Deep (BT)

/-! ### Numbers -/

def valStep (n : Int) (c : UInt8) : Int := bif dg c then n * 10 + ((c.toNat : Int) - 48) else n
def valL (l : List UInt8) : Int := l.foldl valStep 0

theorem valTo_take (t : ByteArray) : ∀ k, k ≤ t.size → valTo t k = valL (t.data.toList.take k) := by
  intro k
  induction k with
  | zero => intro _; rfl
  | succ k ih =>
    intro h
    have hl : k < t.data.toList.length := by rw [list_size]; omega
    rw [List.take_succ_eq_append_getElem hl, valL, List.foldl_append]
    unfold valTo
    rw [ih (by omega), byteAt_get t k hl]
    rfl

theorem valTo_list {t : ByteArray} {l : List UInt8} (h : t.data.toList = l) : valTo t t.size = valL l := by
  rw [valTo_take t t.size (Nat.le_refl _), h, List.take_of_length_le]
  rw [← h, list_size]; exact Nat.le_refl _

theorem dg_digit (u : Nat) (h : u < 10) : dg (UInt8.ofNat (48 + u)) = true ∧ ((UInt8.ofNat (48 + u)).toNat : Int) - 48 = u := by
  have h1 : (UInt8.ofNat (48 + u)).toNat = 48 + u := by
    rw [UInt8.toNat_ofNat']
    omega
  refine ⟨?_, by rw [h1]; omega⟩
  unfold dg isDig
  rw [h1]
  simp
  omega

theorem valL_dec (u : Nat) : valL (Lib.decDigits u) = u := by
  induction u using Nat.strongRecOn with
  | _ u ih =>
    by_cases h : u < 10
    · obtain ⟨h1, h2⟩ := dg_digit u h
      rw [Lib.decDigits_one h]
      simp only [valL, List.foldl_cons, List.foldl_nil, valStep, h1, cond_true, h2]
      omega
    · obtain ⟨h1, h2⟩ := dg_digit (u % 10) (by omega)
      rw [Lib.decDigits, dif_neg h, valL, List.foldl_append]
      have := ih (u / 10) (by omega)
      unfold valL at this
      rw [this]
      simp only [List.foldl_cons, List.foldl_nil, valStep, h1, cond_true, h2]
      omega

theorem val_dec {t : ByteArray} {v : Int} (h : t.data.toList = dec v) (hv : 0 ≤ v) : valTo t t.size = v := by
  rw [valTo_list h, dec, valL_dec]
  omega

theorem decDigits_dg (u : Nat) : ∀ c ∈ Lib.decDigits u, dg c = true := by
  induction u using Nat.strongRecOn with
  | _ u ih =>
    intro c hc
    by_cases h : u < 10
    · rw [Lib.decDigits_one h] at hc
      rw [List.mem_singleton.1 hc]
      exact (dg_digit u h).1
    · rw [Lib.decDigits, dif_neg h] at hc
      rcases List.mem_append.1 hc with hc | hc
      · exact ih (u / 10) (by omega) c hc
      · rw [List.mem_singleton.1 hc]
        exact (dg_digit (u % 10) (by omega)).1

theorem takeWhile_all {p : UInt8 → Bool} {l : List UInt8} (h : ∀ c ∈ l, p c = true) : l.takeWhile p = l := by
  induction l with
  | nil => rfl
  | cons x r ih =>
    rw [List.takeWhile, h x (by simp)]
    rw [ih (fun c hc => h c (by simp [hc]))]

/-- A number is one word. -/
theorem toks_dec {v : Int} (hv : numOk v) : toks (dec v) = [(1, dec v)] := by
  have hl := dec_len hv
  have hd := decDigits_dg v.toNat
  have hp : 1 ≤ (dec v).length := by rw [dec, Lib.decDigits_length]; exact Lib.nDigits_pos _
  cases e : dec v with
  | nil => rw [e] at hp; simp at hp
  | cons c r =>
    have hd' : ∀ x ∈ c :: r, dg x = true := by rw [← e]; exact hd
    have hlr : r.length ≤ 8 := by rw [e] at hl; simpa using hl
    have hc := hd' c (by simp)
    have hn : numL r = r.length := by
      unfold numL
      rw [List.take_of_length_le hlr, takeWhile_all (fun x hx => hd' x (by simp [hx]))]
    have h32 : (c == 32) = false := by
      cases h : c == 32 with
      | false => rfl
      | true =>
        have : c = 32 := by simpa using h
        subst this
        exact absurd hc (by decide)
    rw [toks_cons, h32, hc, hn]
    simp [toks_nil]

/-! ### Written trees -/

/-- The words of a cf's numbers behind the first. -/
def restToks : List Int → List Tok
  | [] => [(3, [93])]
  | [x] => [(1, dec x), (3, [93])]
  | x :: r => (1, dec x) :: (3, [44]) :: restToks r

def cfToks : List Int → List Tok
  | [] => []
  | x :: r => (2, [99, 102]) :: (3, [91]) :: (1, dec x) :: (3, [59]) :: restToks r

def twOf (a : Int × Int × List Int) (x y : List Tok) : List Tok :=
  bif a.1 == 1 then [(1, dec a.2.1)]
  else bif a.1 == 4 then cfToks a.2.2
  else bif a.1 == 5 then (3, [45]) :: x
  else bif a.1 == 14 then (3, [40]) :: (x ++ [(3, [41])])
  else bif decide (10 ≤ a.1 ∧ a.1 ≤ 13) then (2, sym a.1) :: x
  else bif decide (6 ≤ a.1 ∧ a.1 ≤ 9) then x ++ (3, sym a.1) :: y
  else [(2, sym a.1)]

/-- The words of a written tree. -/
def tw : Tr → List Tok
  | .nil => []
  | .node _ _ a l r => twOf a (tw l) (tw r)

/-- How deep it is written. -/
def dep : Tr → Nat
  | .nil => 0
  | .node _ _ a l r => bif a.1 == 5 || a.1 == 14 then dep l + 1 else max (dep l) (dep r)

/-- How many nodes: brackets are none. -/
def ndc : Tr → Nat
  | .nil => 0
  | .node _ _ a l r => bif a.1 == 14 then ndc l else ndc l + ndc r + 1

/-- The tree without its brackets. -/
def strip : Tr → Tr
  | .nil => .nil
  | .node p q a l r => bif a.1 == 14 then strip l else .node p q a (strip l) (strip r)

def CfOk (ts : List Int) : Prop := ∃ x r, ts = x :: r ∧ numOk x ∧ (∀ y ∈ r, numOk y ∧ y ≠ 0) ∧ 1 ≤ r.length ∧ r.length ≤ 8

/-- Written as the grammar has it. -/
def Good : Tr → Prop
  | .nil => False
  | .node p q a l r => p = 0 ∧ q = 0 ∧ (
    (a.1 = 1 ∧ numOk a.2.1 ∧ a.2.2 = [] ∧ l = .nil ∧ r = .nil) ∨
    ((a.1 = 2 ∨ a.1 = 3) ∧ a.2 = (0, []) ∧ l = .nil ∧ r = .nil) ∨
    (a.1 = 4 ∧ a.2.1 = 0 ∧ CfOk a.2.2 ∧ l = .nil ∧ r = .nil) ∨
    (a.1 = 5 ∧ a.2 = (0, []) ∧ Good l ∧ 3 ≤ rankK (kindT l) ∧ r = .nil) ∨
    ((a.1 = 10 ∨ a.1 = 11 ∨ a.1 = 12 ∨ a.1 = 13) ∧ a.2 = (0, []) ∧ Good l ∧ kindT l = 14 ∧ r = .nil) ∨
    (a.1 = 14 ∧ a.2 = (0, []) ∧ Good l ∧ r = .nil) ∨
    ((a.1 = 6 ∨ a.1 = 7 ∨ a.1 = 8 ∨ a.1 = 9) ∧ a.2 = (0, []) ∧ Good l ∧ Good r ∧ rankK a.1 ≤ rankK (kindT l) ∧ rankK a.1 + 1 ≤ rankK (kindT r)))

/-! ### Words at a place -/

def Seg (ws : List Wd) : Nat → List Tok → Prop
  | _, [] => True
  | i, t :: r => tokOf (wordAt ws i) = t ∧ Seg ws (i + 1) r

theorem Seg_app {ws : List Wd} : ∀ (a b : List Tok) (i : Nat), Seg ws i (a ++ b) ↔ Seg ws i a ∧ Seg ws (i + a.length) b := by
  intro a
  induction a with
  | nil => intro b i; simp [Seg]
  | cons t r ih =>
    intro b i
    simp only [List.cons_append, Seg, ih, List.length_cons, and_assoc]
    rw [show i + 1 + r.length = i + (r.length + 1) by omega]

theorem tk_of {ws : List Wd} {st : St} {k : Int} {b : List UInt8} (h : tokOf (wordAt ws st.next) = (k, b)) (c : ByteArray) : tk ws st c = (!(k == 0) && b == c.data.toList) := by
  simp only [tokOf, Prod.mk.injEq] at h
  unfold tk isT
  rw [h.1, h.2]

theorem kind_of {ws : List Wd} {n : Nat} {k : Int} {b : List UInt8} (h : tokOf (wordAt ws n) = (k, b)) : (wordAt ws n).kind = k := by
  simp only [tokOf, Prod.mk.injEq] at h
  exact h.1

theorem text_of {ws : List Wd} {n : Nat} {k : Int} {b : List UInt8} (h : tokOf (wordAt ws n) = (k, b)) : (wordAt ws n).text.data.toList = b := by
  simp only [tokOf, Prod.mk.injEq] at h
  exact h.2

/-- Nothing, or this. -/
def NO {α : Type} (a b : Option α) : Prop := a = none ∨ a = b
theorem NO.refl {α : Type} (a : Option α) : NO a a := Or.inr rfl
theorem NO.no {α : Type} (b : Option α) : NO none b := Or.inl rfl
theorem NO.trans {α : Type} {a b c : Option α} (h : NO a b) (k : NO b c) : NO a c := by
  rcases h with h | h
  · exact Or.inl h
  · rw [h]; exact k
theorem NO.next {a b : Ans} (h : NO a b) (F : Option Tr → St → Ans) : NO (a.next F) (b.next F) := by
  rcases h with h | h
  · rw [h]; exact Or.inl rfl
  · rw [h]; exact Or.inr rfl

/-- Behind a written tree. -/
def advS (c : Tr) (st : St) : St := ⟨st.next + (tw c).length, st.around, max st.deepest (st.around + dep c), st.nodes + ndc c⟩

/-- The word there is no sign of a product. -/
def noMul (ws : List Wd) (n : Nat) : Prop := ∀ st : St, st.next = n → tk ws st ⟨#[42]⟩ = false ∧ tk ws st ⟨#[47]⟩ = false

theorem noMul_of {ws : List Wd} {n : Nat} {k : Int} {b : List UInt8} (h : tokOf (wordAt ws n) = (k, b)) (h1 : b ≠ [42]) (h2 : b ≠ [47]) : noMul ws n := by
  intro st hst
  subst hst
  rw [tk_of h, tk_of h]
  simp [h1, h2]

theorem p1 (ws : List Wd) (f : Nat) (l : Tr) (st : St) : parse ws (f + 1) 1 (some l) st =
    bif st.okB then
      bif tk ws st ⟨#[43]⟩ then (parse ws f 2 none st.adv).next fun r st2 => (operOf 6 l r st2).next fun l' st3 => parse ws f 1 l' st3
      else bif tk ws st ⟨#[45]⟩ then (parse ws f 2 none st.adv).next fun r st2 => (operOf 7 l r st2).next fun l' st3 => parse ws f 1 l' st3
      else some (some l, st)
    else none := rfl
theorem p3 (ws : List Wd) (f : Nat) (l : Tr) (st : St) : parse ws (f + 1) 3 (some l) st =
    bif st.okB then
      bif tk ws st ⟨#[42]⟩ then (parse ws f 4 none st.adv).next fun r st2 => (operOf 8 l r st2).next fun l' st3 => parse ws f 3 l' st3
      else bif tk ws st ⟨#[47]⟩ then (parse ws f 4 none st.adv).next fun r st2 => (operOf 9 l r st2).next fun l' st3 => parse ws f 3 l' st3
      else some (some l, st)
    else none := rfl
theorem p4 (ws : List Wd) (f : Nat) (st : St) : parse ws (f + 1) 4 none st =
    bif st.okB then
      bif tk ws st ⟨#[45]⟩ then (parse ws f 4 none st.adv.inn).next fun x st2 => bif st2.okOut then unaryOf 5 x st2.out else none
      else parse ws f 5 none st
    else none := rfl
theorem p5 (ws : List Wd) (f : Nat) (st : St) : parse ws (f + 1) 5 none st =
    bif st.okB then
      bif (wordAt ws st.next).kind == 1 then
        (bif st.adv.okB then some (some (leafT 1 (valTo (wordAt ws st.next).text (wordAt ws st.next).text.size) []), st.adv.leaf) else none)
      else bif (wordAt ws st.next).kind == 2 then nameOf ws (named (wordAt ws st.next).text) st (fun st' => parse ws f 6 none st')
      else parse ws f 6 none st
    else none := rfl
theorem p6 (ws : List Wd) (f : Nat) (st : St) : parse ws (f + 1) 6 none st =
    bif st.okB then
      bif tk ws st ⟨#[40]⟩ then (parse ws f 0 none st.adv.inn).next fun x st2 => closeOf ws x st2
      else some (none, st)
    else none := rfl

structure BB (ws : List Wd) (c : Tr) : Prop where
  b6 : kindT c = 14 → ∀ f st, Seg ws st.next (tw c) → NO (parse ws f 6 none st) (some (some (strip c), advS c st))
  b5 : rankK (kindT c) = 4 → ∀ f st, Seg ws st.next (tw c) → NO (parse ws f 5 none st) (some (some (strip c), advS c st))
  b4 : 3 ≤ rankK (kindT c) → ∀ f st, Seg ws st.next (tw c) → NO (parse ws f 4 none st) (some (some (strip c), advS c st))
  b2 : 2 ≤ rankK (kindT c) → ∀ f st, Seg ws st.next (tw c) → ∃ f', NO (parse ws f 2 none st) (parse ws f' 3 (some (strip c)) (advS c st))
  b0 : ∀ f st, Seg ws st.next (tw c) → noMul ws (advS c st).next → ∃ f', NO (parse ws f 0 none st) (parse ws f' 1 (some (strip c)) (advS c st))

theorem b2_of {ws : List Wd} {c : Tr} (h : ∀ f st, Seg ws st.next (tw c) → NO (parse ws f 4 none st) (some (some (strip c), advS c st))) :
    ∀ f st, Seg ws st.next (tw c) → ∃ f', NO (parse ws f 2 none st) (parse ws f' 3 (some (strip c)) (advS c st)) := by
  intro f st hs
  cases f with
  | zero => exact ⟨0, NO.no _⟩
  | succ f => exact ⟨f, (h f st hs).next _⟩

theorem stop3 {ws : List Wd} {t : Tr} {st : St} (h : noMul ws st.next) (f : Nat) : NO (parse ws f 3 (some t) st) (some (some t, st)) := by
  cases f with
  | zero => exact NO.no _
  | succ f =>
    obtain ⟨h1, h2⟩ := h st rfl
    rw [p3]
    cases st.okB with
    | false => exact NO.no _
    | true => simp only [h1, h2, cond_true, cond_false]; exact NO.refl _

theorem b0_of {ws : List Wd} {c : Tr} (h : ∀ f st, Seg ws st.next (tw c) → ∃ f', NO (parse ws f 2 none st) (parse ws f' 3 (some (strip c)) (advS c st))) :
    ∀ f st, Seg ws st.next (tw c) → noMul ws (advS c st).next → ∃ f', NO (parse ws f 0 none st) (parse ws f' 1 (some (strip c)) (advS c st)) := by
  intro f st hs hm
  cases f with
  | zero => exact ⟨0, NO.no _⟩
  | succ f =>
    obtain ⟨f', h'⟩ := h f st hs
    exact ⟨f, (h'.trans (stop3 hm f')).next _⟩

/-- What begins otherwise than by a minus sign is an atom. -/
theorem b4_of {ws : List Wd} {c : Tr} {k : Int} {b : List UInt8} {r : List Tok} (hb : tw c = (k, b) :: r) (hm : b ≠ [45]) (h : ∀ f st, Seg ws st.next (tw c) → NO (parse ws f 5 none st) (some (some (strip c), advS c st))) :
    ∀ f st, Seg ws st.next (tw c) → NO (parse ws f 4 none st) (some (some (strip c), advS c st)) := by
  intro f st hs
  cases f with
  | zero => exact NO.no _
  | succ f =>
    have h5 := h f st hs
    rw [hb] at hs
    have ht : tk ws st ⟨#[45]⟩ = false := by rw [tk_of hs.1]; simp [hm]
    rw [p4]
    cases st.okB with
    | false => exact NO.no _
    | true => simp only [ht, cond_true, cond_false]; exact h5

theorem BB_atom {ws : List Wd} {c : Tr} {k : Int} {b : List UInt8} {r : List Tok} (h6 : kindT c = 14 → ∀ f st, Seg ws st.next (tw c) → NO (parse ws f 6 none st) (some (some (strip c), advS c st))) (hb : tw c = (k, b) :: r) (hm : b ≠ [45]) (h : ∀ f st, Seg ws st.next (tw c) → NO (parse ws f 5 none st) (some (some (strip c), advS c st))) : BB ws c :=
  ⟨h6, fun _ => h, fun _ => b4_of hb hm h, fun _ => b2_of (b4_of hb hm h), b0_of (b2_of (b4_of hb hm h))⟩

theorem leaf_max (a b : Nat) : (bif decide (a < b) then b else a) = max a b := by
  by_cases h : a < b
  · simp [h]; omega
  · simp [h]; omega

theorem adv_leaf (st : St) : st.adv.leaf = ⟨st.next + 1, st.around, max st.deepest st.around, st.nodes + 1⟩ := by
  unfold St.leaf St.adv
  simp only [leaf_max]

theorem leaf_eq (st : St) : st.leaf = ⟨st.next, st.around, max st.deepest st.around, st.nodes + 1⟩ := by
  unfold St.leaf
  simp only [leaf_max]

/-- A number. -/
theorem BB_num (ws : List Wd) {v : Int} (hv : numOk v) : BB ws (leafT 1 v []) := by
  refine BB_atom (k := 1) (b := dec v) (r := []) (fun e => absurd (show (1 : Int) = 14 from e) (by decide)) rfl ?_ ?_
  · intro e
    have := decDigits_dg v.toNat 45 (by rw [show Lib.decDigits v.toNat = dec v from rfl, e]; simp)
    exact absurd this (by decide)
  · intro f st hs
    have h1 : tokOf (wordAt ws st.next) = (1, dec v) := hs.1
    cases f with
    | zero => exact NO.no _
    | succ f =>
      rw [p5, kind_of h1, val_dec (text_of h1) hv.1]
      cases st.okB with
      | false => exact NO.no _
      | true =>
        cases st.adv.okB with
        | false => exact NO.no _
        | true =>
          right
          simp only [cond_true, beq_self_eq_true, adv_leaf]
          rfl

/-- pi, e. -/
theorem BB_const (ws : List Wd) {k : Int} (hk : k = 2 ∨ k = 3) : BB ws (leafT k 0 []) := by
  refine BB_atom (k := 2) (b := sym k) (r := []) (fun e => absurd (show k = 14 from e) (by omega)) (by rcases hk with rfl | rfl <;> rfl) (by rcases hk with rfl | rfl <;> decide) ?_
  intro f st hs
  have h1 : tokOf (wordAt ws st.next) = (2, sym k) := by rcases hk with rfl | rfl <;> exact hs.1
  have hn : named (wordAt ws st.next).text = k := by
    unfold named isT
    rw [text_of h1]
    rcases hk with rfl | rfl <;> rfl
  cases f with
  | zero => exact NO.no _
  | succ f =>
    rw [p5, kind_of h1, hn]
    unfold nameOf
    cases st.okB with
    | false => exact NO.no _
    | true =>
      cases st.adv.okB with
      | false => rcases hk with rfl | rfl <;> exact NO.no _
      | true =>
        right
        rw [adv_leaf]
        rcases hk with rfl | rfl <;> rfl

end Rd
end Go.Proofs.YtmepffenlgedbaaDoor

/-
  PLAIN MATHEMATICS: cf, brackets, signs, functions, operations: what is written is read.
-/
set_option linter.unusedSimpArgs false
namespace Go.Proofs.YtmepffenlgedbaaDoor
namespace Rd
open Go.Deep (BT)
variable {ws : List Wd}

theorem term_ok {st : St} {x : Int} (h : tokOf (wordAt ws st.next) = (1, dec x)) (hx : numOk x) (h0 : x ≠ 0) : term ws st = (x, st.adv) := by
  unfold term
  have e : (x == 0) = false := by simpa using h0
  rw [kind_of h, val_dec (text_of h) hx.1, e]
  rfl

theorem restToks_cons (x y : Int) (r : List Int) : restToks (x :: y :: r) = (1, dec x) :: (3, [44]) :: restToks (y :: r) := rfl

theorem restToks_len : ∀ (r : List Int), r ≠ [] → (restToks r).length = 2 * r.length := by
  intro r
  induction r with
  | nil => intro h; exact absurd rfl h
  | cons x r ih =>
    intro _
    cases r with
    | nil => rfl
    | cons y r =>
      rw [restToks_cons, List.length_cons, List.length_cons, ih (by simp)]
      simp
      omega

theorem terms_read : ∀ (r : List Int) (f c : Nat) (acc : List Int) (st : St), r ≠ [] → (∀ y ∈ r, numOk y ∧ y ≠ 0) → c + r.length ≤ 9 → Seg ws st.next (restToks r) →
    NO (terms ws f c acc st) (some (some (acc ++ r), { st with next := st.next + (restToks r).length })) := by
  intro r
  induction r with
  | nil => intro f c acc st h; exact absurd rfl h
  | cons x r ih =>
    intro f c acc st _ hok hc hs
    cases f with
    | zero => exact NO.no _
    | succ f =>
      obtain ⟨hx, hx0⟩ := hok x (by simp)
      have ht : tokOf (wordAt ws st.next) = (1, dec x) := by
        cases r with
        | nil => exact hs.1
        | cons y r => exact hs.1
      have hterm := term_ok ht hx hx0
      unfold terms
      rw [hterm]
      cases st.okB with
      | false => exact NO.no _
      | true =>
        cases st.adv.okB with
        | false => exact NO.no _
        | true =>
          have hx0' : (x == 0) = false := by simpa using hx0
          cases r with
          | nil =>
            have h2 : tokOf (wordAt ws st.adv.next) = (3, [93]) := hs.2.1
            have hk : tk ws st.adv ⟨#[93]⟩ = true := by rw [tk_of h2]; rfl
            right
            simp only [Bool.and_self, cond_true, hx0', cond_false, hk]
            rfl
          | cons y r =>
            have h2 : tokOf (wordAt ws st.adv.next) = (3, [44]) := hs.2.1
            have hk : tk ws st.adv ⟨#[93]⟩ = false := by rw [tk_of h2]; rfl
            have hk2 : tk ws st.adv ⟨#[44]⟩ = true := by rw [tk_of h2]; rfl
            have hc8 : (c == 8) = false := by
              simp only [List.length_cons] at hc
              exact beq_eq_false_iff_ne.2 (by omega)
            simp only [Bool.and_self, cond_true, hx0', cond_false, hk, hk2, hc8]
            have := ih f (c + 1) (acc ++ [x]) st.adv.adv (by simp) (fun z hz => hok z (by simp [hz])) (by simp only [List.length_cons] at hc ⊢; omega) hs.2.2
            refine this.trans (Or.inr ?_)
            rw [restToks_cons]
            simp only [List.append_assoc, List.cons_append, List.nil_append, List.length_cons, St.adv]
            rw [show st.next + 1 + 1 + (restToks (y :: r)).length = st.next + ((restToks (y :: r)).length + 1 + 1) by omega]

theorem cfOf_no {a b : Option (Option (List Int) × St)} (h : NO a b) : NO (cfOf a) (cfOf b) := by
  rcases h with h | h
  · rw [h]; exact NO.no _
  · rw [h]; exact NO.refl _

/-- A continued fraction. -/
theorem BB_cf (ws : List Wd) {ts : List Int} (h : CfOk ts) : BB ws (leafT 4 0 ts) := by
  obtain ⟨x, r, rfl, hx, hr, h1, h8⟩ := h
  refine BB_atom (k := 2) (fun e => absurd (show (4 : Int) = 14 from e) (by decide)) (b := [99, 102]) (r := (3, [91]) :: (1, dec x) :: (3, [59]) :: restToks r) rfl (by decide) ?_
  intro f st hs
  have hs' : Seg ws st.next ((2, [99, 102]) :: (3, [91]) :: (1, dec x) :: (3, [59]) :: restToks r) := hs
  obtain ⟨t0, t1, t2, t3, hs4⟩ := hs'
  have hn : named (wordAt ws st.next).text = 4 := by
    unfold named isT
    rw [text_of t0]
    rfl
  have k1 : tk ws st.adv ⟨#[91]⟩ = true := by rw [tk_of (st := st.adv) t1]; rfl
  have k3 : tk ws st.adv.adv.adv ⟨#[59]⟩ = true := by rw [tk_of (st := st.adv.adv.adv) t3]; rfl
  have k2 : (wordAt ws st.adv.adv.next).kind = 1 := kind_of t2
  have v2 : valTo (wordAt ws st.adv.adv.next).text (wordAt ws st.adv.adv.next).text.size = x := val_dec (text_of t2) hx.1
  have key := terms_read (ws := ws) r 8 1 [x] st.adv.adv.adv.adv (by intro e; rw [e] at h1; simp at h1) hr (by omega) hs4
  cases f with
  | zero => exact NO.no _
  | succ f =>
    rw [p5, kind_of t0, hn]
    unfold nameOf continued
    cases st.okB with
    | false => exact NO.no _
    | true =>
      cases decide (st.adv.next < 900) && st.adv.okB with
      | false => exact NO.no _
      | true =>
        rw [k1, k2, k3, v2]
        refine (cfOf_no key).trans ?_
        simp only [cfOf]
        cases St.okB { st.adv.adv.adv.adv with next := st.adv.adv.adv.adv.next + (restToks r).length } with
        | false => exact NO.no _
        | true =>
          right
          rw [leaf_eq]
          simp only [cond_true, St.adv, advS]
          have e : st.next + 1 + 1 + 1 + 1 + (restToks r).length = st.next + (tw (leafT 4 0 (x :: r))).length := by
            show _ = st.next + ((restToks r).length + 1 + 1 + 1 + 1)
            omega
          rw [e]
          rfl

/-! ### Brackets -/

theorem stop1 {t : Tr} {st : St} {k : Int} {b : List UInt8} (h : tokOf (wordAt ws st.next) = (k, b)) (h1 : b ≠ [43]) (h2 : b ≠ [45]) (f : Nat) : NO (parse ws f 1 (some t) st) (some (some t, st)) := by
  cases f with
  | zero => exact NO.no _
  | succ f =>
    have e1 : tk ws st ⟨#[43]⟩ = false := by rw [tk_of h]; simp [h1]
    have e2 : tk ws st ⟨#[45]⟩ = false := by rw [tk_of h]; simp [h2]
    rw [p1]
    cases st.okB with
    | false => exact NO.no _
    | true => simp only [e1, e2, cond_true, cond_false]; exact NO.refl _

theorem tw_par (x : Tr) : tw (unT 14 x) = (3, [40]) :: (tw x ++ [(3, [41])]) := rfl

/-- In brackets. -/
theorem b6_par {x : Tr} (h : BB ws x) : ∀ f st, Seg ws st.next (tw (unT 14 x)) → NO (parse ws f 6 none st) (some (some (strip (unT 14 x)), advS (unT 14 x) st)) := by
  intro f st hs
  rw [tw_par] at hs
  obtain ⟨t0, hs1⟩ := hs
  rw [Seg_app] at hs1
  obtain ⟨hs1, t2, _⟩ := hs1
  have k0 : tk ws st ⟨#[40]⟩ = true := by rw [tk_of t0]; rfl
  cases f with
  | zero => exact NO.no _
  | succ f =>
    rw [p6, k0]
    cases st.okB with
    | false => exact NO.no _
    | true =>
      obtain ⟨f', hb⟩ := h.b0 f st.adv.inn hs1 (noMul_of t2 (by decide) (by decide))
      have hst := stop1 (st := advS x st.adv.inn) (t := strip x) t2 (by decide) (by decide) f'
      refine ((hb.trans hst).next _).trans ?_
      show NO (closeOf ws (some (strip x)) (advS x st.adv.inn)) _
      unfold closeOf
      cases (advS x st.adv.inn).okOut with
      | false => exact NO.no _
      | true =>
        have k2 : tk ws (advS x st.adv.inn).out ⟨#[41]⟩ = true := by rw [tk_of (st := (advS x st.adv.inn).out) t2]; rfl
        right
        simp only [k2, cond_true]
        simp only [advS, St.out, St.adv, St.inn, tw_par, dep, ndc, unT, Option.some.injEq, Prod.mk.injEq, St.mk.injEq, true_and]
        refine ⟨rfl, ?_, by omega, ?_, rfl⟩
        · show st.next + 1 + (tw x).length + 1 = st.next + ((3, [40]) :: (tw x ++ [(3, [41])]) : List Tok).length
          rw [List.length_cons, List.length_append, List.length_cons, List.length_nil]; omega
        · show max st.deepest (st.around + 1 + dep x) = max st.deepest (st.around + (dep x + 1))
          rw [show st.around + 1 + dep x = st.around + (dep x + 1) by omega]

theorem BB_par {x : Tr} (h : BB ws x) : BB ws (unT 14 x) := by
  refine BB_atom (fun _ => b6_par h) (k := 3) (b := [40]) (r := tw x ++ [(3, [41])]) rfl (by decide) ?_
  intro f st hs
  have t0 : tokOf (wordAt ws st.next) = (3, [40]) := hs.1
  have h6 := b6_par h
  cases f with
  | zero => exact NO.no _
  | succ f =>
    rw [p5, kind_of t0]
    cases st.okB with
    | false => exact NO.no _
    | true => exact h6 f st hs

theorem tw_fn {k : Int} (hk : k = 10 ∨ k = 11 ∨ k = 12 ∨ k = 13) (x : Tr) : tw (unT k x) = (2, sym k) :: tw x := by
  rcases hk with rfl | rfl | rfl | rfl <;> rfl

/-- A function. -/
theorem BB_fn {k : Int} (hk : k = 10 ∨ k = 11 ∨ k = 12 ∨ k = 13) {x : Tr} (h : BB ws x) (hx : kindT x = 14) : BB ws (unT k x) := by
  refine BB_atom (fun e => absurd (show k = 14 from e) (by omega)) (k := 2) (b := sym k) (r := tw x) (tw_fn hk _) (by rcases hk with rfl | rfl | rfl | rfl <;> decide) ?_
  intro f st hs
  rw [tw_fn hk] at hs
  obtain ⟨t0, hs1⟩ := hs
  have hn : named (wordAt ws st.next).text = k := by
    unfold named isT
    rw [text_of t0]
    rcases hk with rfl | rfl | rfl | rfl <;> rfl
  have h6 := h.b6 hx
  cases f with
  | zero => exact NO.no _
  | succ f =>
    have e0 : (k == 0) = false := by rcases hk with rfl | rfl | rfl | rfl <;> rfl
    have e1 : (k == 2 || k == 3) = false := by rcases hk with rfl | rfl | rfl | rfl <;> rfl
    have e2 : (k == 4) = false := by rcases hk with rfl | rfl | rfl | rfl <;> rfl
    have e3 : (k == 5 || k == 14) = false := by rcases hk with rfl | rfl | rfl | rfl <;> rfl
    have e4 : (k == 14) = false := by rcases hk with rfl | rfl | rfl | rfl <;> rfl
    rw [p5, kind_of t0, hn]
    unfold nameOf
    rw [e0, e1, e2]
    cases st.okB with
    | false => exact NO.no _
    | true =>
      refine ((h6 f st.adv hs1).next _).trans ?_
      show NO (unaryOf k (some (strip x)) (advS x st.adv)) _
      show NO (bif (advS x st.adv).okB then some (some (unT k (strip x)), (advS x st.adv).node) else none) _
      cases (advS x st.adv).okB with
      | false => exact NO.no _
      | true =>
        right
        have s1 : strip (unT k x) = unT k (strip x) := by
          unfold unT
          simp only [strip, e4, cond_false]
        have d1 : dep (unT k x) = dep x := by
          show (bif k == 5 || k == 14 then dep x + 1 else max (dep x) (dep .nil)) = _
          rw [e3]
          simp [dep]
        have n1 : ndc (unT k x) = ndc x + 1 := by
          show (bif k == 14 then ndc x else ndc x + ndc .nil + 1) = _
          rw [e4]
          simp [ndc]
        simp only [cond_true, s1, advS, d1, n1, tw_fn hk, St.node, St.adv, Option.some.injEq, Prod.mk.injEq, St.mk.injEq, true_and]
        refine ⟨?_, by omega⟩
        rw [List.length_cons]
        omega

theorem tw_neg (x : Tr) : tw (unT 5 x) = (3, [45]) :: tw x := rfl

/-- A minus sign. -/
theorem BB_neg {x : Tr} (h : BB ws x) (hr : 3 ≤ rankK (kindT x)) : BB ws (unT 5 x) := by
  have b4 : ∀ f st, Seg ws st.next (tw (unT 5 x)) → NO (parse ws f 4 none st) (some (some (strip (unT 5 x)), advS (unT 5 x) st)) := by
    intro f st hs
    rw [tw_neg] at hs
    obtain ⟨t0, hs1⟩ := hs
    have k0 : tk ws st ⟨#[45]⟩ = true := by rw [tk_of t0]; rfl
    cases f with
    | zero => exact NO.no _
    | succ f =>
      rw [p4, k0]
      cases st.okB with
      | false => exact NO.no _
      | true =>
        refine ((h.b4 hr f st.adv.inn hs1).next _).trans ?_
        show NO (bif (advS x st.adv.inn).okOut then unaryOf 5 (some (strip x)) (advS x st.adv.inn).out else none) _
        cases (advS x st.adv.inn).okOut with
        | false => exact NO.no _
        | true =>
          show NO (bif (advS x st.adv.inn).out.okB then some (some (unT 5 (strip x)), (advS x st.adv.inn).out.node) else none) _
          cases (advS x st.adv.inn).out.okB with
          | false => exact NO.no _
          | true =>
            right
            have n1 : ndc (unT 5 x) = ndc x + 1 := by
              show ndc x + ndc .nil + 1 = _
              simp [ndc]
            have d1 : dep (unT 5 x) = dep x + 1 := rfl
            have s1 : strip (unT 5 x) = unT 5 (strip x) := rfl
            simp only [cond_true, s1, advS, d1, n1, tw_neg, St.node, St.adv, St.inn, St.out, Option.some.injEq, Prod.mk.injEq, St.mk.injEq, true_and]
            refine ⟨?_, by omega, ?_, by omega⟩
            · simp; omega
            · rw [show st.around + 1 + dep x = st.around + (dep x + 1) by omega]
  exact ⟨fun e => absurd (show (5 : Int) = 14 from e) (by decide), fun e => absurd (show (3 : Int) = 4 from e) (by decide), fun _ => b4, fun _ => b2_of b4, b0_of (b2_of b4)⟩

theorem tw_op {k : Int} (hk : k = 6 ∨ k = 7 ∨ k = 8 ∨ k = 9) (l r : Tr) : tw (opT k l r) = tw l ++ (3, sym k) :: tw r := by
  rcases hk with rfl | rfl | rfl | rfl <;> rfl

theorem strip_op {k : Int} (hk : k = 6 ∨ k = 7 ∨ k = 8 ∨ k = 9) (l r : Tr) : strip (opT k l r) = opT k (strip l) (strip r) := by
  rcases hk with rfl | rfl | rfl | rfl <;> rfl

theorem adv_op {k : Int} (hk : k = 6 ∨ k = 7 ∨ k = 8 ∨ k = 9) (l r : Tr) (st : St) : (advS r (advS l st).adv).node = advS (opT k l r) st := by
  have d1 : dep (opT k l r) = max (dep l) (dep r) := by rcases hk with rfl | rfl | rfl | rfl <;> rfl
  have n1 : ndc (opT k l r) = ndc l + ndc r + 1 := by rcases hk with rfl | rfl | rfl | rfl <;> rfl
  simp only [advS, d1, n1, tw_op hk, St.node, St.adv, St.mk.injEq, true_and]
  refine ⟨?_, ?_, by omega⟩
  · simp; omega
  · omega

theorem oper_some {k : Int} {l r : Tr} {st : St} : NO (operOf k l (some r) st) (some (some (opT k l r), st.node)) := by
  show NO (bif st.okB then some (some (opT k l r), st.node) else none) _
  cases st.okB with
  | false => exact NO.no _
  | true => exact NO.refl _

/-- A product, a quotient. -/
theorem BB_mul {k : Int} (hk : k = 8 ∨ k = 9) {l r : Tr} (hl : BB ws l) (hr : BB ws r) (h1 : 2 ≤ rankK (kindT l)) (h2 : 3 ≤ rankK (kindT r)) : BB ws (opT k l r) := by
  have hk' : k = 6 ∨ k = 7 ∨ k = 8 ∨ k = 9 := by omega
  have b2 : ∀ f st, Seg ws st.next (tw (opT k l r)) → ∃ f', NO (parse ws f 2 none st) (parse ws f' 3 (some (strip (opT k l r))) (advS (opT k l r) st)) := by
    intro f st hs
    rw [tw_op hk', Seg_app] at hs
    obtain ⟨hs1, t0, hs2⟩ := hs
    obtain ⟨f', hb⟩ := hl.b2 h1 f st hs1
    cases f' with
    | zero => exact ⟨0, hb.trans (NO.no _)⟩
    | succ f' =>
      refine ⟨f', hb.trans ?_⟩
      rw [p3]
      cases (advS l st).okB with
      | false => exact NO.no _
      | true =>
        have hb4 := hr.b4 h2 f' (advS l st).adv hs2
        have key : NO ((parse ws f' 4 none (advS l st).adv).next fun r' st2 => (operOf k (strip l) r' st2).next fun l' st3 => parse ws f' 3 l' st3) (parse ws f' 3 (some (strip (opT k l r))) (advS (opT k l r) st)) := by
          refine (hb4.next _).trans ?_
          show NO ((operOf k (strip l) (some (strip r)) (advS r (advS l st).adv)).next fun l' st3 => parse ws f' 3 l' st3) _
          refine (oper_some.next _).trans (Or.inr ?_)
          rw [strip_op hk', ← adv_op hk']
          rfl
        rcases hk with rfl | rfl
        · have k0 : tk ws (advS l st) ⟨#[42]⟩ = true := by rw [tk_of (st := advS l st) t0]; rfl
          rw [k0]
          exact key
        · have k0 : tk ws (advS l st) ⟨#[42]⟩ = false := by rw [tk_of (st := advS l st) t0]; rfl
          have k1 : tk ws (advS l st) ⟨#[47]⟩ = true := by rw [tk_of (st := advS l st) t0]; rfl
          rw [k0, k1]
          exact key
  refine ⟨fun e => absurd (show k = 14 from e) (by omega), ?_, ?_, fun _ => b2, b0_of b2⟩
  · intro e; rcases hk with rfl | rfl <;> exact absurd (show (2 : Int) = 4 from e) (by decide)
  · intro e; rcases hk with rfl | rfl <;> exact absurd (show (3 : Int) ≤ 2 from e) (by decide)

/-- A sum, a difference. -/
theorem BB_add {k : Int} (hk : k = 6 ∨ k = 7) {l r : Tr} (hl : BB ws l) (hr : BB ws r) (h2 : 2 ≤ rankK (kindT r)) : BB ws (opT k l r) := by
  have hk' : k = 6 ∨ k = 7 ∨ k = 8 ∨ k = 9 := by omega
  have b0 : ∀ f st, Seg ws st.next (tw (opT k l r)) → noMul ws (advS (opT k l r) st).next → ∃ f', NO (parse ws f 0 none st) (parse ws f' 1 (some (strip (opT k l r))) (advS (opT k l r) st)) := by
    intro f st hs hm
    rw [tw_op hk', Seg_app] at hs
    obtain ⟨hs1, t0, hs2⟩ := hs
    obtain ⟨f', hb⟩ := hl.b0 f st hs1 (noMul_of t0 (by rcases hk with rfl | rfl <;> decide) (by rcases hk with rfl | rfl <;> decide))
    cases f' with
    | zero => exact ⟨0, hb.trans (NO.no _)⟩
    | succ f' =>
      refine ⟨f', hb.trans ?_⟩
      rw [p1]
      cases (advS l st).okB with
      | false => exact NO.no _
      | true =>
        obtain ⟨f3, hb2⟩ := hr.b2 h2 f' (advS l st).adv hs2
        have hm' : noMul ws (advS r (advS l st).adv).next := by
          rw [← adv_op hk'] at hm
          exact hm
        have hb3 := hb2.trans (stop3 hm' f3)
        have key : NO ((parse ws f' 2 none (advS l st).adv).next fun r' st2 => (operOf k (strip l) r' st2).next fun l' st3 => parse ws f' 1 l' st3) (parse ws f' 1 (some (strip (opT k l r))) (advS (opT k l r) st)) := by
          refine (hb3.next _).trans ?_
          show NO ((operOf k (strip l) (some (strip r)) (advS r (advS l st).adv)).next fun l' st3 => parse ws f' 1 l' st3) _
          refine (oper_some.next _).trans (Or.inr ?_)
          rw [strip_op hk', ← adv_op hk']
          rfl
        rcases hk with rfl | rfl
        · have k0 : tk ws (advS l st) ⟨#[43]⟩ = true := by rw [tk_of (st := advS l st) t0]; rfl
          rw [k0]
          exact key
        · have k0 : tk ws (advS l st) ⟨#[43]⟩ = false := by rw [tk_of (st := advS l st) t0]; rfl
          have k1 : tk ws (advS l st) ⟨#[45]⟩ = true := by rw [tk_of (st := advS l st) t0]; rfl
          rw [k0, k1]
          exact key
  refine ⟨fun e => absurd (show k = 14 from e) (by omega), ?_, ?_, ?_, b0⟩
  · intro e; rcases hk with rfl | rfl <;> exact absurd (show (1 : Int) = 4 from e) (by decide)
  · intro e; rcases hk with rfl | rfl <;> exact absurd (show (3 : Int) ≤ 1 from e) (by decide)
  · intro e; rcases hk with rfl | rfl <;> exact absurd (show (2 : Int) ≤ 1 from e) (by decide)

theorem BB_all : ∀ c, Good c → BB ws c := by
  intro c
  induction c with
  | nil => intro h; exact h.elim
  | node p q a l r ihl ihr =>
    intro h
    obtain ⟨k, v, ts⟩ := a
    obtain ⟨rfl, rfl, h⟩ := h
    simp only at h
    rcases h with ⟨rfl, h1, rfl, rfl, rfl⟩ | ⟨h1, h2, rfl, rfl⟩ | ⟨rfl, rfl, h1, rfl, rfl⟩ | ⟨rfl, h2, h3, h4, rfl⟩ | ⟨h1, h2, h3, h4, rfl⟩ | ⟨rfl, h2, h3, rfl⟩ | ⟨h1, h2, h3, h4, h5, h6⟩
    · exact BB_num ws h1
    · obtain ⟨rfl, rfl⟩ := Prod.mk.inj h2
      exact BB_const ws h1
    · exact BB_cf ws h1
    · obtain ⟨rfl, rfl⟩ := Prod.mk.inj h2
      exact BB_neg (ihl h3) h4
    · obtain ⟨rfl, rfl⟩ := Prod.mk.inj h2
      exact BB_fn h1 (ihl h3) h4
    · obtain ⟨rfl, rfl⟩ := Prod.mk.inj h2
      exact BB_par (ihl h3)
    · obtain ⟨rfl, rfl⟩ := Prod.mk.inj h2
      rcases h1 with rfl | rfl | rfl | rfl
      · exact BB_add (Or.inl rfl) (ihl h3) (ihr h4) h6
      · exact BB_add (Or.inr rfl) (ihl h3) (ihr h4) h6
      · exact BB_mul (Or.inl rfl) (ihl h3) (ihr h4) h5 h6
      · exact BB_mul (Or.inr rfl) (ihl h3) (ihr h4) h5 h6

end Rd
end Go.Proofs.YtmepffenlgedbaaDoor

/-
  PLAIN MATHEMATICS: reading what is written; a tree's own text is what is written with few brackets, and it is no deeper.
-/
set_option linter.unusedSimpArgs false
namespace Go.Proofs.YtmepffenlgedbaaDoor
namespace Rd
open Go.Deep (BT)

theorem toksF_len : ∀ (f : Nat) (l : List UInt8), (toksF f l).length ≤ l.length := by
  intro f
  induction f with
  | zero => intro l; simp [toksF]
  | succ f ih =>
    intro l
    cases l with
    | nil => simp [toksF]
    | cons c r =>
      have h1 := ih r
      have h2 := ih (r.drop (numL r))
      have h3 := ih (r.drop (nameL r))
      simp only [List.length_drop] at h2 h3
      simp only [toksF]
      cases c == 32 <;> cases dg c <;> cases lt c <;> simp <;> omega

theorem split_at (s : ByteArray) : EndK (split s (s.size + 1) 0) ∧ (split s (s.size + 1) 0).length ≤ s.size + 1 ∧ 0 < (split s (s.size + 1) 0).length ∧ tokOf (wordAt (split s (s.size + 1) 0) (toks s.data.toList).length) = (0, []) ∧ Seg (split s (s.size + 1) 0) 0 (toks s.data.toList) := by
  have hw := words_toks s
  have hl : (split s (s.size + 1) 0).length = (toks s.data.toList).length + 1 := by
    have := congrArg List.length hw
    simpa using this
  have hle : (toks s.data.toList).length ≤ s.size := by rw [← list_size]; exact toksF_len _ _
  have hat : ∀ i, i < (split s (s.size + 1) 0).length → tokOf (wordAt (split s (s.size + 1) 0) i) = (toks s.data.toList ++ [(0, [])]).getD i (0, []) := by
    intro i hi
    rw [← hw]
    unfold wordAt
    simp [List.getD, List.getElem?_eq_getElem hi]
  refine ⟨?_, by omega, by omega, ?_, ?_⟩
  · intro n hn
    rcases Nat.lt_or_ge n (split s (s.size + 1) 0).length with h | h
    · rcases Nat.lt_or_ge (n + 1) (split s (s.size + 1) 0).length with h' | h'
      · exact h'
      · exfalso
        have hn' : n = (toks s.data.toList).length := by omega
        have := hat n h
        rw [hn'] at this
        simp [List.getD] at this
        apply hn
        rw [hn']
        exact kind_of this
    · exfalso
      apply hn
      unfold wordAt
      simp [List.getD, List.getElem?_eq_none h]
  · rw [hat _ (by omega)]
    simp [List.getD]
  · have key : ∀ (a b : List Tok) (i : Nat), (∀ j, j < a.length → tokOf (wordAt (split s (s.size + 1) 0) (i + j)) = a.getD j (0, [])) → Seg (split s (s.size + 1) 0) i a := by
      intro a
      induction a with
      | nil => intro _ _ _; trivial
      | cons x r ih =>
        intro b i h
        refine ⟨by simpa using h 0 (by simp), ih b (i + 1) (fun j hj => ?_)⟩
        have := h (j + 1) (by simpa using hj)
        rw [show i + 1 + j = i + (j + 1) by omega, this]
        simp
    refine key _ [] 0 (fun j hj => ?_)
    rw [Nat.zero_add, hat j (by omega)]
    simp [List.getD, List.getElem?_append_left hj]

/-- Reading what is written: too long, too deep, or the tree. -/
theorem read_good {s : ByteArray} {c : Tr} (hc : Good c) (ht : toks s.data.toList = tw c) :
    read 1300 s = bif decide (120 < s.size) then some (none, 1, 0) else bif decide (12 < dep c) || decide (40 < ndc c) then some (none, 3, 0) else some (some (strip c), 0, 0) := by
  unfold read
  by_cases hs : 120 < s.size
  · simp [hs]
  · obtain ⟨he, hl, hp, hend, hseg⟩ := split_at s
    obtain ⟨res, st', hres, _⟩ := parse_total he (by omega) hp
    rw [ht] at hend hseg
    have hB := BB_all (ws := split s (s.size + 1) 0) c hc
    have hend' : tokOf (wordAt (split s (s.size + 1) 0) (advS c ⟨0, 0, 0, 0⟩).next) = (0, []) := by
      simp only [advS, Nat.zero_add]
      exact hend
    obtain ⟨f', h0⟩ := hB.b0 1300 ⟨0, 0, 0, 0⟩ hseg (noMul_of hend' (by decide) (by decide))
    have h1 := h0.trans (stop1 (st := advS c ⟨0, 0, 0, 0⟩) (t := strip c) hend' (by decide) (by decide) f')
    rcases h1 with h1 | h1
    · rw [h1] at hres; cases hres
    · rw [h1]
      simp only [decide_eq_false hs, cond_false, kind_of hend']
      simp only [advS, Nat.zero_add, Nat.zero_max]
      rfl

/-! ### Few brackets -/

def brkT (b : Bool) (x : Tr) : Tr := bif b then unT 14 x else x

/-- A tree as its text is written. -/
def cano : Tr → Tr
  | .nil => .nil
  | .node p q a l r =>
    bif a.1 == 5 then .node p q a (brkT (decide (rankK (kindT l) < 3)) (cano l)) (cano r)
    else bif decide (10 ≤ a.1 ∧ a.1 ≤ 13) then .node p q a (unT 14 (cano l)) (cano r)
    else bif decide (6 ≤ a.1 ∧ a.1 ≤ 9) then .node p q a (brkT (decide (rankK (kindT l) < rankK a.1)) (cano l)) (brkT (decide (rankK (kindT r) < rankK a.1 + 1)) (cano r))
    else .node p q a l r

/-- What is said of a written tree c, and of its tree's own text. -/
structure CC (c : Tr) : Prop where
  ne : kindT (strip c) = kindT (cano (strip c))
  kind : kindT c ≠ 14 → kindT (strip c) = kindT c
  plain : kindT (strip c) ≠ 14
  good : Good (cano (strip c))
  back : strip (cano (strip c)) = strip c
  toks : toks (text (strip c)) = tw (cano (strip c))
  dep : dep (cano (strip c)) + (bif kindT c == 14 then 1 else 0) ≤ dep c
  ndc : ndc (cano (strip c)) = ndc c
  pos : 0 < (text (strip c)).length

theorem brkT_good {b : Bool} {x : Tr} (h : Good x) : Good (brkT b x) := by
  cases b with
  | false => exact h
  | true => exact ⟨rfl, rfl, Or.inr (Or.inr (Or.inr (Or.inr (Or.inr (Or.inl ⟨rfl, rfl, h, rfl⟩)))))⟩

theorem brkT_strip {b : Bool} (x : Tr) : strip (brkT b x) = strip x := by cases b <;> rfl
theorem brkT_ndc {b : Bool} (x : Tr) : ndc (brkT b x) = ndc x := by cases b <;> rfl
theorem brkT_dep {b : Bool} (x : Tr) : dep (brkT b x) = dep x + (bif b then 1 else 0) := by cases b <;> rfl
theorem brkT_rank {x : Tr} {t : Tr} {m : Int} (h : kindT t = kindT x) (hm : m ≤ 4) : m ≤ rankK (kindT (brkT (decide (rankK (kindT t) < m)) x)) := by
  by_cases hlt : rankK (kindT t) < m
  · simp only [hlt, decide_true]
    show m ≤ 4
    exact hm
  · simp only [hlt, decide_false]
    show m ≤ rankK (kindT x)
    rw [← h]
    omega

theorem brk_toks (b : Bool) (x : List UInt8) (y : Tr) (h : toks x = tw y) : toks (brk b x) = tw (brkT b y) := by
  cases b with
  | false => exact h
  | true =>
    show toks (40 :: (x ++ [41])) = (3, [40]) :: (tw y ++ [(3, [41])])
    rw [toks_sign (by decide) (by decide), toks_then (by decide), h]
    rfl

/-- The text of one more is that of the words. -/
theorem brk_then (b : Bool) (x : List UInt8) (y : Tr) (h : toks x = tw y) (c : UInt8) (hc : an c = false) (r : List UInt8) : toks (brk b x ++ c :: r) = tw (brkT b y) ++ toks (c :: r) := by
  rw [toks_then hc, brk_toks b x y h]

theorem brk_pos (b : Bool) {x : List UInt8} (h : 0 < x.length) : 0 < (brk b x).length := by cases b <;> simp [brk] <;> omega

end Rd
end Go.Proofs.YtmepffenlgedbaaDoor

/-
  PLAIN MATHEMATICS: a tree's own text is read as itself.
-/
set_option linter.unusedSimpArgs false
namespace Go.Proofs.YtmepffenlgedbaaDoor
namespace Rd
open Go.Deep (BT)

def commaT : List Int → List Tok
  | [] => []
  | y :: r => (3, [44]) :: (1, dec y) :: commaT r

theorem commaT_snoc (a : List Int) (z : Int) : commaT (a ++ [z]) = commaT a ++ [(3, [44]), (1, dec z)] := by
  induction a with
  | nil => rfl
  | cons y r ih => simp [commaT, ih]

theorem rest_comma : ∀ (r : List Int) (y : Int), restToks (y :: r) = (1, dec y) :: (commaT r ++ [(3, [93])]) := by
  intro r
  induction r with
  | nil => intro y; rfl
  | cons z r ih => intro y; rw [restToks_cons, ih z]; rfl

theorem toks_cf2 {x y : Int} {r : List Int} (hx : numOk x) (hy : numOk y) (hr : ∀ z ∈ r, numOk z) : ∀ j, j ≤ r.length → toks (termsTo (x :: y :: r) (2 + j)) = [(2, [99, 102]), (3, [91]), (1, dec x), (3, [59]), (1, dec y)] ++ commaT (r.take j) := by
  intro j
  induction j with
  | zero =>
    intro _
    show toks (([99, 102, 91] ++ ([] ++ dec x)) ++ ([59, 32] ++ dec y)) = _
    have e1 : ([99, 102, 91] ++ ([] ++ dec x)) ++ ([59, 32] ++ dec y) = [99, 102] ++ (91 :: (dec x ++ 59 :: 32 :: dec y)) := by simp
    rw [e1, toks_then (by decide), toks_sign (c := 91) (by decide) (by decide), toks_then (by decide), toks_dec hx, toks_sign (c := 59) (by decide) (by decide), toks_blank, toks_dec hy]
    rfl
  | succ j ih =>
    intro hj
    have e1 : termsTo (x :: y :: r) (2 + (j + 1)) = termsTo (x :: y :: r) (2 + j) ++ (44 :: 32 :: dec r[j]) := by
      rw [show 2 + (j + 1) = (2 + j) + 1 by omega, termsTo]
      have e2 : sep (2 + j) = [44, 32] := by
        unfold sep
        rw [beq_eq_false_iff_ne.2 (show 2 + j ≠ 0 by omega), beq_eq_false_iff_ne.2 (show 2 + j ≠ 1 by omega)]
        rfl
      have e3 : (x :: y :: r).getD (2 + j) 0 = r[j] := by
        rw [show 2 + j = j + 1 + 1 by omega]
        simp [List.getD, List.getElem?_eq_getElem (show j < r.length by omega)]
      rw [e2, e3]
      rfl
    have hz : numOk r[j] := hr _ (List.getElem_mem (by omega))
    rw [e1, toks_then (by decide), ih (by omega), toks_sign (by decide) (by decide), toks_blank, toks_dec hz, List.take_succ_eq_append_getElem (by omega), commaT_snoc]
    simp

theorem toks_cf {ts : List Int} (h : CfOk ts) : toks (termsTxt ts) = cfToks ts := by
  obtain ⟨x, r, rfl, hx, hr, h1, _⟩ := h
  cases r with
  | nil => simp at h1
  | cons y r =>
    have key := toks_cf2 hx (hr y (by simp)).1 (fun z hz => (hr z (by simp [hz])).1) r.length (Nat.le_refl _)
    unfold termsTxt
    rw [toks_then (by decide), show (x :: y :: r).length = 2 + r.length by simp; omega, key, List.take_length, toks_sign (by decide) (by decide), toks_nil]
    simp only [cfToks, rest_comma]
    simp

theorem CC_leaf {c : Tr} (hs : strip c = c) (hc : cano c = c) (hk : kindT c ≠ 14) (hg : Good c) (ht : toks (text c) = tw c) (hp : 0 < (text c).length) : CC c := by
  refine ⟨by rw [hs, hc], fun _ => by rw [hs], by rw [hs]; exact hk, by rw [hs, hc]; exact hg, by rw [hs, hc, hs], by rw [hs, hc]; exact ht, ?_, by rw [hs, hc], by rw [hs]; exact hp⟩
  rw [hs, hc, beq_eq_false_iff_ne.2 hk]
  exact Nat.le_refl _

theorem CC_par {x : Tr} (h : CC x) : CC (unT 14 x) := by
  have d : dep (unT 14 x) = dep x + 1 := rfl
  refine ⟨h.ne, fun e => absurd rfl e, h.plain, h.good, h.back, h.toks, ?_, h.ndc, h.pos⟩
  have := h.dep
  rw [d]
  show dep (cano (strip x)) + 1 ≤ dep x + 1
  omega

theorem dep_brk {x : Tr} (h : CC x) {m : Int} (hm : m ≤ rankK (kindT x)) : dep (brkT (decide (rankK (kindT (strip x)) < m)) (cano (strip x))) ≤ dep x := by
  rw [brkT_dep]
  have hd := h.dep
  by_cases hk : kindT x = 14
  · rw [hk] at hd
    simp only [beq_self_eq_true, cond_true] at hd
    cases decide (rankK (kindT (strip x)) < m) <;> simp <;> omega
  · have := h.kind hk
    rw [this, decide_eq_false (by omega)]
    simp only [cond_false]
    omega

theorem CC_neg {x : Tr} (h : CC x) (hr : 3 ≤ rankK (kindT x)) : CC (unT 5 x) := by
  have hd := dep_brk h hr
  refine ⟨rfl, fun _ => rfl, by show (5 : Int) ≠ 14; decide, ?_, ?_, ?_, ?_, ?_, ?_⟩
  · exact ⟨rfl, rfl, Or.inr (Or.inr (Or.inr (Or.inl ⟨rfl, rfl, brkT_good h.good, brkT_rank h.ne (by decide), rfl⟩)))⟩
  · show unT 5 (strip (brkT _ (cano (strip x)))) = unT 5 (strip x)
    rw [brkT_strip, h.back]
  · show toks (45 :: brk _ (text (strip x))) = (3, [45]) :: tw (brkT _ (cano (strip x)))
    rw [toks_sign (by decide) (by decide), brk_toks _ _ _ h.toks]
  · show dep (brkT _ (cano (strip x))) + 1 + 0 ≤ dep x + 1
    omega
  · show ndc (brkT _ (cano (strip x))) + 0 + 1 = ndc x + 0 + 1
    rw [brkT_ndc, h.ndc]
  · show 0 < (45 :: brk _ (text (strip x))).length
    simp

theorem CC_fn {k : Int} (hk : k = 10 ∨ k = 11 ∨ k = 12 ∨ k = 13) {x : Tr} (h : CC x) (hx : kindT x = 14) : CC (unT k x) := by
  have e5 : (k == 5) = false := by rcases hk with rfl | rfl | rfl | rfl <;> rfl
  have e14 : (k == 14) = false := by rcases hk with rfl | rfl | rfl | rfl <;> rfl
  have e10 : decide (10 ≤ k ∧ k ≤ 13) = true := by rcases hk with rfl | rfl | rfl | rfl <;> rfl
  have s1 : strip (unT k x) = unT k (strip x) := by
    unfold unT
    simp only [strip, e14, cond_false]
  have c1 : cano (unT k (strip x)) = unT k (unT 14 (cano (strip x))) := by
    unfold unT
    simp only [cano, e5, e10, cond_false, cond_true]
    rfl
  have s2 : ∀ y, strip (unT k y) = unT k (strip y) := by
    intro y
    unfold unT
    simp only [strip, e14, cond_false]
  have t1 : text (unT k (strip x)) = sym k ++ 40 :: (text (strip x) ++ [41]) := by rcases hk with rfl | rfl | rfl | rfl <;> rfl
  have hd := h.dep
  rw [hx] at hd
  simp only [beq_self_eq_true, cond_true] at hd
  have dk : ∀ y, dep (unT k y) = dep y := by
    intro y
    show (bif k == 5 || k == 14 then dep y + 1 else max (dep y) (dep .nil)) = _
    rw [e5, e14]
    simp [dep]
  have nk : ∀ y, ndc (unT k y) = ndc y + 1 := by
    intro y
    show (bif k == 14 then ndc y else ndc y + ndc .nil + 1) = _
    rw [e14]
    simp [ndc]
  refine ⟨by rw [s1, c1]; rfl, fun _ => by rw [s1]; rfl, by rw [s1]; show k ≠ 14; omega, ?_, ?_, ?_, ?_, ?_, ?_⟩
  · rw [s1, c1]
    exact ⟨rfl, rfl, Or.inr (Or.inr (Or.inr (Or.inr (Or.inl ⟨hk, rfl, brkT_good (b := true) h.good, rfl, rfl⟩))))⟩
  · rw [s1, c1, s2]
    show unT k (strip (cano (strip x))) = _
    rw [h.back]
  · rw [s1, c1, t1, toks_then (by decide), toks_sign (by decide) (by decide), toks_then (by decide), h.toks, tw_fn hk, tw_par]
    have : toks (sym k) = [(2, sym k)] := by rcases hk with rfl | rfl | rfl | rfl <;> rfl
    rw [this]
    rfl
  · rw [s1, c1, dk, dk]
    show dep (cano (strip x)) + 1 + (bif k == 14 then 1 else 0) ≤ dep x
    rw [e14]
    exact hd
  · rw [s1, c1, nk, nk]
    show ndc (cano (strip x)) + 1 = _
    rw [h.ndc]
  · rw [s1, t1]
    simp
    omega

theorem CC_op {k : Int} (hk : k = 6 ∨ k = 7 ∨ k = 8 ∨ k = 9) {l r : Tr} (hl : CC l) (hr : CC r) (h1 : rankK k ≤ rankK (kindT l)) (h2 : rankK k + 1 ≤ rankK (kindT r)) : CC (opT k l r) := by
  have e5 : (k == 5) = false := by rcases hk with rfl | rfl | rfl | rfl <;> rfl
  have e14 : (k == 14) = false := by rcases hk with rfl | rfl | rfl | rfl <;> rfl
  have e10 : decide (10 ≤ k ∧ k ≤ 13) = false := by rcases hk with rfl | rfl | rfl | rfl <;> rfl
  have e6 : decide (6 ≤ k ∧ k ≤ 9) = true := by rcases hk with rfl | rfl | rfl | rfl <;> rfl
  have rk : rankK k ≤ 2 := by rcases hk with rfl | rfl | rfl | rfl <;> decide
  have s1 := strip_op hk l r
  have c1 : cano (opT k (strip l) (strip r)) = opT k (brkT (decide (rankK (kindT (strip l)) < rankK k)) (cano (strip l))) (brkT (decide (rankK (kindT (strip r)) < rankK k + 1)) (cano (strip r))) := by
    unfold opT
    simp only [cano, e5, e10, e6, cond_false, cond_true]
  have t1 : text (opT k (strip l) (strip r)) = brk (decide (rankK (kindT (strip l)) < rankK k)) (text (strip l)) ++ 32 :: (sym k ++ 32 :: brk (decide (rankK (kindT (strip r)) < rankK k + 1)) (text (strip r))) := by rcases hk with rfl | rfl | rfl | rfl <;> rfl
  have ts : ∀ y, toks (sym k ++ 32 :: y) = (3, sym k) :: toks y := by
    intro y
    rcases hk with rfl | rfl | rfl | rfl <;> (show toks (_ :: 32 :: y) = _; rw [toks_sign (by decide) (by decide), toks_blank]; rfl)
  have hdl := dep_brk hl h1
  have hdr := dep_brk hr h2
  have dk : ∀ y z, dep (opT k y z) = max (dep y) (dep z) := fun y z => by rcases hk with rfl | rfl | rfl | rfl <;> rfl
  have nk : ∀ y z, ndc (opT k y z) = ndc y + ndc z + 1 := fun y z => by rcases hk with rfl | rfl | rfl | rfl <;> rfl
  refine ⟨by rw [s1, c1]; rfl, fun _ => by rw [s1]; rfl, by rw [s1]; show k ≠ 14; omega, ?_, ?_, ?_, ?_, ?_, ?_⟩
  · rw [s1, c1]
    exact ⟨rfl, rfl, Or.inr (Or.inr (Or.inr (Or.inr (Or.inr (Or.inr ⟨hk, rfl, brkT_good hl.good, brkT_good hr.good, brkT_rank hl.ne (by show rankK k ≤ 4; omega), brkT_rank hr.ne (by show rankK k + 1 ≤ 4; omega)⟩)))))⟩
  · rw [s1, c1, strip_op hk, brkT_strip, brkT_strip, hl.back, hr.back]
  · rw [s1, c1, t1, brk_then _ _ _ hl.toks _ (by decide), toks_blank, ts, brk_toks _ _ _ hr.toks, tw_op hk]
  · rw [s1, c1, dk, dk]
    show max _ _ + (bif k == 14 then 1 else 0) ≤ _
    rw [e14]
    simp only [cond_false]
    omega
  · rw [s1, c1, nk, nk, brkT_ndc, brkT_ndc, hl.ndc, hr.ndc]
  · rw [s1, t1]
    simp
    omega

theorem CC_all : ∀ c, Good c → CC c := by
  intro c
  induction c with
  | nil => intro h; exact h.elim
  | node p q a l r ihl ihr =>
    intro h
    have hg := h
    obtain ⟨k, v, ts⟩ := a
    obtain ⟨rfl, rfl, h⟩ := h
    simp only at h
    rcases h with ⟨rfl, h1, rfl, rfl, rfl⟩ | ⟨h1, h2, rfl, rfl⟩ | ⟨rfl, rfl, h1, rfl, rfl⟩ | ⟨rfl, h2, h3, h4, rfl⟩ | ⟨h1, h2, h3, h4, rfl⟩ | ⟨rfl, h2, h3, rfl⟩ | ⟨h1, h2, h3, h4, h5, h6⟩
    · refine CC_leaf rfl rfl (by show (1 : Int) ≠ 14; decide) hg (toks_dec h1) ?_
      show 0 < (dec v).length
      rw [dec, Lib.decDigits_length]
      exact Lib.nDigits_pos _
    · obtain ⟨rfl, rfl⟩ := Prod.mk.inj h2
      rcases h1 with rfl | rfl
      · exact CC_leaf rfl rfl (by show (2 : Int) ≠ 14; decide) hg rfl (by decide)
      · exact CC_leaf rfl rfl (by show (3 : Int) ≠ 14; decide) hg rfl (by decide)
    · refine CC_leaf rfl rfl (by show (4 : Int) ≠ 14; decide) hg (toks_cf h1) ?_
      show 0 < (termsTxt ts).length
      unfold termsTxt
      simp
    · obtain ⟨rfl, rfl⟩ := Prod.mk.inj h2
      exact CC_neg (ihl h3) h4
    · obtain ⟨rfl, rfl⟩ := Prod.mk.inj h2
      exact CC_fn h1 (ihl h3) h4
    · obtain ⟨rfl, rfl⟩ := Prod.mk.inj h2
      exact CC_par (ihl h3)
    · obtain ⟨rfl, rfl⟩ := Prod.mk.inj h2
      exact CC_op h1 (ihl h3) (ihr h4) h5 h6

/-- A tree's own text, if it isn't too long, is read as the tree. -/
theorem read_again {c : Tr} (hc : Good c) (hd : dep c ≤ 12) (hn : ndc c ≤ 40) {u : ByteArray} (hu : u.data.toList = text (strip c)) :
    read 1300 u = bif decide (120 < u.size) then some (none, 1, 0) else some (some (strip c), 0, 0) := by
  have h := CC_all c hc
  have h1 := h.dep
  have h2 := h.ndc
  rw [read_good h.good (by rw [hu]; exact h.toks), h.back, h2, decide_eq_false (show ¬ 12 < dep (cano (strip c)) by omega), decide_eq_false (show ¬ 40 < ndc c by omega)]
  rfl

end Rd
end Go.Proofs.YtmepffenlgedbaaDoor
