/-
  PLAIN MATHEMATICS: words of a text, the parser's answer, as plain functions. Nothing of the program stands here.
-/
import Derived.WalkKit
namespace Go.Proofs.Ytmepffenlgedbaa
namespace Rd

def isDig (n : Int) : Bool := decide (48 ≤ n ∧ n ≤ 57)
def isLet (n : Int) : Bool := decide (97 ≤ n ∧ n ≤ 122)
def kindOf (n : Int) : Int := bif isDig n then 1 else bif isLet n then 2 else 3
/-- The byte at a place, as a number; 0 behind the end. -/
def byteAt (s : ByteArray) (k : Nat) : Int := ((s.data.toList.getD k 0).toNat : Int)

theorem byteAt_eq (s : ByteArray) (k : Nat) (h : k < s.size) : byteAt s k = (s[k].toNat : Int) := by
  unfold byteAt
  have h' : k < s.data.size := h
  have e : s.data[k]? = some (s[k]) := by rw [Array.getElem?_eq_getElem h']; rfl
  simp [List.getD, e]

theorem byteAt_lo (s : ByteArray) (k : Nat) : 0 ≤ byteAt s k := by unfold byteAt; omega
theorem byteAt_hi (s : ByteArray) (k : Nat) : byteAt s k ≤ 255 := by
  unfold byteAt
  have := UInt8.toNat_lt (s.data.toList.getD k 0)
  omega

/-- Where a number ends that began at 'a': the end so far is e. -/
def numEnd (s : ByteArray) (a : Nat) : Nat → Nat → Nat
  | 0, e => e
  | f + 1, e => bif decide (e < s.size ∧ e - a < 9) && isDig (byteAt s e) then numEnd s a f (e + 1) else e

/-- Where a name ends: the end so far is e. -/
def nameEnd (s : ByteArray) : Nat → Nat → Nat
  | 0, e => e
  | f + 1, e => bif decide (e < s.size) && (isLet (byteAt s e) || isDig (byteAt s e)) then nameEnd s f (e + 1) else e

theorem numEnd_lo (s : ByteArray) (a : Nat) : ∀ f e, e ≤ numEnd s a f e := by
  intro f
  induction f with
  | zero => intro e; exact Nat.le_refl _
  | succ f ih =>
    intro e
    unfold numEnd
    cases decide (e < s.size ∧ e - a < 9) && isDig (byteAt s e) with
    | false => exact Nat.le_refl _
    | true => exact Nat.le_trans (by omega) (ih (e + 1))

theorem numEnd_hi (s : ByteArray) (a : Nat) : ∀ f e, e ≤ s.size → numEnd s a f e ≤ s.size := by
  intro f
  induction f with
  | zero => intro e h; exact h
  | succ f ih =>
    intro e h
    unfold numEnd
    cases hc : decide (e < s.size ∧ e - a < 9) && isDig (byteAt s e) with
    | false => exact h
    | true =>
      simp only [Bool.and_eq_true, decide_eq_true_eq] at hc
      exact ih (e + 1) (by omega)

theorem nameEnd_lo (s : ByteArray) : ∀ f e, e ≤ nameEnd s f e := by
  intro f
  induction f with
  | zero => intro e; exact Nat.le_refl _
  | succ f ih =>
    intro e
    unfold nameEnd
    cases decide (e < s.size) && (isLet (byteAt s e) || isDig (byteAt s e)) with
    | false => exact Nat.le_refl _
    | true => exact Nat.le_trans (by omega) (ih (e + 1))

theorem nameEnd_hi (s : ByteArray) : ∀ f e, e ≤ s.size → nameEnd s f e ≤ s.size := by
  intro f
  induction f with
  | zero => intro e h; exact h
  | succ f ih =>
    intro e h
    unfold nameEnd
    cases hc : decide (e < s.size) && (isLet (byteAt s e) || isDig (byteAt s e)) with
    | false => exact h
    | true =>
      simp only [Bool.and_eq_true, decide_eq_true_eq] at hc
      exact ih (e + 1) (by omega)

/-- A word: its sort, its text, its place. -/
structure Wd where
  kind : Int
  text : ByteArray
  pos : Nat

/-- Where the word ends that begins at a. -/
def wordEnd (s : ByteArray) (a : Nat) : Nat :=
  bif Rd.isDig (byteAt s a) then numEnd s a 9 (a + 1) else bif Rd.isLet (byteAt s a) then nameEnd s s.size (a + 1) else a + 1

/-- The words from a on, the end's among them. -/
def split (s : ByteArray) : Nat → Nat → List Wd
  | 0, _ => []
  | f + 1, a =>
    bif decide (a < s.size) then
      bif byteAt s a != 32 then ⟨kindOf (byteAt s a), s.extract a (wordEnd s a), a⟩ :: split s f (wordEnd s a)
      else split s f (wordEnd s a)
    else [⟨0, ⟨#[]⟩, s.size⟩]

theorem wordEnd_lo (s : ByteArray) (a : Nat) : a + 1 ≤ wordEnd s a := by
  unfold wordEnd
  cases isDig (byteAt s a) with
  | true => exact numEnd_lo s a 9 (a + 1)
  | false =>
    cases isLet (byteAt s a) with
    | true => exact nameEnd_lo s s.size (a + 1)
    | false => exact Nat.le_refl _

theorem wordEnd_hi (s : ByteArray) (a : Nat) (h : a < s.size) : wordEnd s a ≤ s.size := by
  unfold wordEnd
  cases isDig (byteAt s a) with
  | true => exact numEnd_hi s a 9 (a + 1) (by omega)
  | false =>
    cases isLet (byteAt s a) with
    | true => exact nameEnd_hi s s.size (a + 1) (by omega)
    | false => exact h

/-- The cells of words. -/
def wcells : List Wd → List Value
  | [] => []
  | w :: r => .int .i64 w.kind :: .string w.text :: .int .i64 w.pos :: wcells r

theorem wcells_append (a b : List Wd) : wcells (a ++ b) = wcells a ++ wcells b := by
  induction a with
  | nil => rfl
  | cons x r ih => simp [wcells, ih]

theorem wcells_length (a : List Wd) : (wcells a).length = a.length * 3 := by
  induction a with
  | nil => rfl
  | cons x r ih => simp [wcells, ih]; omega

/-- The number of a text's first k bytes. -/
def valTo (t : ByteArray) : Nat → Int
  | 0 => 0
  | k + 1 => bif isDig (byteAt t k) then valTo t k * 10 + (byteAt t k - 48) else valTo t k

theorem valTo_lo (t : ByteArray) : ∀ k, 0 ≤ valTo t k := by
  intro k
  induction k with
  | zero => exact Int.le_refl _
  | succ k ih =>
    unfold valTo
    cases h : isDig (byteAt t k) with
    | false => exact ih
    | true =>
      simp [isDig] at h
      simp
      omega

theorem valTo_hi (t : ByteArray) : ∀ k, valTo t k < (10 : Int) ^ k := by
  intro k
  induction k with
  | zero => simp [valTo]
  | succ k ih =>
    unfold valTo
    rw [Int.pow_succ]
    have h0 := valTo_lo t k
    cases h : isDig (byteAt t k) with
    | false => simp; omega
    | true =>
      simp [isDig] at h
      simp
      omega

theorem valTo_bd (t : ByteArray) (k : Nat) (h : k ≤ 9) : valTo t k < 1000000000 := by
  have h1 := valTo_hi t k
  have h2 : (10 : Int) ^ k ≤ 10 ^ 9 := by
    have := Nat.pow_le_pow_right (n := 10) (by omega) h
    exact_mod_cast this
  omega

/-- Is the text these bytes? -/
def isT (t : ByteArray) (c : List UInt8) : Bool := t.data.toList == c

theorem isT_eq (t : ByteArray) (c : List UInt8) : (t.toList == c) = isT t c := by unfold isT; rw [ByteArray.toList_eq]

/-- Which constant, function or cf a name stands for. -/
def named (t : ByteArray) : Int :=
  bif isT t [112, 105] then 2 else bif isT t [101] then 3 else bif isT t [99, 102] then 4 else bif isT t [115, 113, 114, 116] then 10
  else bif isT t [101, 120, 112] then 11 else bif isT t [108, 110, 49, 112] then 12 else bif isT t [97, 116, 97, 110] then 13 else 0

/-- How far the reader is. -/
structure St where
  next : Nat
  around : Nat
  deepest : Nat
  nodes : Nat

def wordAt (ws : List Wd) (n : Nat) : Wd := ws.getD n ⟨0, ⟨#[]⟩, 0⟩

theorem wcells_at : ∀ (ws : List Wd) (n : Nat), n < ws.length → (wcells ws)[n * 3]? = some (.int .i64 (wordAt ws n).kind) ∧ (wcells ws)[n * 3 + 1]? = some (.string (wordAt ws n).text) ∧ (wcells ws)[n * 3 + 2]? = some (.int .i64 (wordAt ws n).pos) := by
  intro ws
  induction ws with
  | nil => intro n h; simp at h
  | cons x r ih =>
    intro n h
    cases n with
    | zero => simp [wcells, wordAt]
    | succ n =>
      have := ih n (by simpa using h)
      simpa [wcells, wordAt, Nat.add_mul] using this

end Rd
end Go.Proofs.Ytmepffenlgedbaa
