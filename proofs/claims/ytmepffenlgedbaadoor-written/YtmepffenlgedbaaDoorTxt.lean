/-
  PLAIN MATHEMATICS: the text of a tree; which trees the parser makes.
-/
import Derived.Test.YtmepffenlgedbaaDoorParse
import Derived.Lib.ItoaNum
set_option linter.unusedSimpArgs false
namespace Go.Proofs.YtmepffenlgedbaaDoor
namespace Rd
open Go.Deep (BT)

def rankK (k : Int) : Int := bif k == 6 || k == 7 then 1 else bif k == 8 || k == 9 then 2 else bif k == 5 then 3 else 4

/-- How a sort is written. -/
def sym (k : Int) : List UInt8 :=
  bif k == 2 then [112, 105] else bif k == 3 then [101] else bif k == 4 then [99, 102] else bif k == 10 then [115, 113, 114, 116]
  else bif k == 11 then [101, 120, 112] else bif k == 12 then [108, 110, 49, 112] else bif k == 13 then [97, 116, 97, 110]
  else bif k == 6 then [43] else bif k == 5 || k == 7 then [45] else bif k == 8 then [42] else bif k == 9 then [47] else []

def brk (b : Bool) (x : List UInt8) : List UInt8 := bif b then 40 :: (x ++ [41]) else x
def kindT : Tr → Int
  | .nil => 0
  | .node _ _ a _ _ => a.1

def dec (v : Int) : List UInt8 := Lib.decDigits v.toNat

/-- What stands ahead of the k-th number of a cf. -/
def sep (k : Nat) : List UInt8 := bif k == 0 then [] else bif k == 1 then [59, 32] else [44, 32]

/-- A cf's text up to its k-th number. -/
def termsTo (ts : List Int) : Nat → List UInt8
  | 0 => [99, 102, 91]
  | k + 1 => termsTo ts k ++ (sep k ++ dec (ts.getD k 0))

def termsTxt (ts : List Int) : List UInt8 := termsTo ts ts.length ++ [93]

def txtOf (a : Int × Int × List Int) (kl kr : Int) (x y : List UInt8) : List UInt8 :=
  bif a.1 == 1 then dec a.2.1
  else bif a.1 == 4 then termsTxt a.2.2
  else bif a.1 == 5 then 45 :: brk (decide (rankK kl < 3)) x
  else bif decide (10 ≤ a.1 ∧ a.1 ≤ 13) then sym a.1 ++ 40 :: (x ++ [41])
  else bif decide (6 ≤ a.1 ∧ a.1 ≤ 9) then brk (decide (rankK kl < rankK a.1)) x ++ 32 :: (sym a.1 ++ 32 :: brk (decide (rankK kr < rankK a.1 + 1)) y)
  else sym a.1

/-- The text of a tree. -/
def text : Tr → List UInt8
  | .nil => []
  | .node _ _ a l r => txtOf a (kindT l) (kindT r) (text l) (text r)

def numOk (v : Int) : Prop := 0 ≤ v ∧ v < 1000000000

/-- The trees that the parser makes. -/
def Wf : Tr → Prop
  | .nil => False
  | .node _ _ a l r =>
    (a.1 = 1 ∧ numOk a.2.1 ∧ a.2.2 = [] ∧ l = .nil ∧ r = .nil) ∨
    ((a.1 = 2 ∨ a.1 = 3) ∧ a.2.1 = 0 ∧ a.2.2 = [] ∧ l = .nil ∧ r = .nil) ∨
    (a.1 = 4 ∧ (∀ x ∈ a.2.2, numOk x) ∧ 2 ≤ a.2.2.length ∧ a.2.2.length ≤ 9 ∧ a.2.1 = 0 ∧ l = .nil ∧ r = .nil) ∨
    ((a.1 = 5 ∨ a.1 = 10 ∨ a.1 = 11 ∨ a.1 = 12 ∨ a.1 = 13) ∧ Wf l ∧ a.2.2 = [] ∧ r = .nil) ∨
    ((a.1 = 6 ∨ a.1 = 7 ∨ a.1 = 8 ∨ a.1 = 9) ∧ Wf l ∧ Wf r ∧ a.2.2 = [])

/-- How many nodes. -/
def cnt : Tr → Nat
  | .nil => 0
  | .node _ _ _ l r => cnt l + cnt r + 1

theorem dec_len {v : Int} (h : numOk v) : (dec v).length ≤ 9 := by
  unfold dec
  rw [Lib.decDigits_length]
  have h1 : v.toNat < 1000000000 := by have := h.2; omega
  generalize v.toNat = u at h1
  have key : ∀ k u, u < 10 ^ (k + 1) → Lib.nDigits u ≤ k + 1 := by
    intro k
    induction k with
    | zero => intro u h; rw [Lib.nDigits_small (by simpa using h)]; omega
    | succ k ih =>
      intro u h
      by_cases h2 : u < 10
      · rw [Lib.nDigits_small h2]; omega
      · rw [Lib.nDigits_big h2]
        have := ih (u / 10) (by rw [Nat.pow_succ] at h ⊢; rw [Nat.pow_succ] at h; omega)
        omega
  exact key 8 u h1

theorem sep_len (k : Nat) : (sep k).length ≤ 2 := by
  unfold sep
  cases k == 0 <;> cases k == 1 <;> simp

theorem sym_len (k : Int) : (sym k).length ≤ 4 := by
  unfold sym
  cases k == 2 <;> cases k == 3 <;> cases k == 4 <;> cases k == 10 <;> cases k == 11 <;> cases k == 12 <;> cases k == 13 <;> (try (simp; done)) <;> cases k == 6 <;> (try (simp; done)) <;> cases k == 5 <;> cases k == 7 <;> cases k == 8 <;> cases k == 9 <;> simp

theorem getD_ok {ts : List Int} (h : ∀ x ∈ ts, numOk x) (k : Nat) : numOk (ts.getD k 0) := by
  unfold List.getD
  cases e : ts[k]? with
  | none => exact ⟨by decide, by decide⟩
  | some x => exact h x (List.mem_of_getElem? e)

theorem termsTo_len {ts : List Int} (h : ∀ x ∈ ts, numOk x) : ∀ k, (termsTo ts k).length ≤ 3 + 11 * k := by
  intro k
  induction k with
  | zero => simp [termsTo]
  | succ k ih =>
    have := dec_len (getD_ok h k)
    have := sep_len k
    simp only [termsTo, List.length_append]
    omega

theorem brk_len (b : Bool) (x : List UInt8) : (brk b x).length ≤ x.length + 2 := by
  cases b <;> simp [brk]

/-- The text of a tree is not long. -/
theorem text_len : ∀ t, Wf t → (text t).length ≤ 200 * cnt t := by
  intro t
  induction t with
  | nil => intro h; exact h.elim
  | node p q a l r ihl ihr =>
    intro h
    obtain ⟨k, v, ts⟩ := a
    simp only [text, cnt]
    rcases h with ⟨h1, h2, _⟩ | ⟨h1, _⟩ | ⟨h1, h2, _, h3, _⟩ | ⟨h1, h2, _, h3⟩ | ⟨h1, h2, h3, _⟩
    · simp only at h1 h2
      subst h1
      have := dec_len h2
      simp only [txtOf, beq_self_eq_true, cond_true]
      omega
    · simp only at h1
      have := sym_len k
      rcases h1 with rfl | rfl
      · simp only [txtOf, sym]; simp; omega
      · simp only [txtOf, sym]; simp; omega
    · simp only at h1 h2 h3
      subst h1
      have := termsTo_len h2 ts.length
      simp only [txtOf, termsTxt]
      simp
      omega
    · simp only at h1
      have i1 := ihl h2
      have s := sym_len k
      have b1 := brk_len (decide (rankK (kindT l) < 3)) (text l)
      rcases h1 with rfl | rfl | rfl | rfl | rfl <;> (simp only [txtOf]; simp; try omega)
    · simp only at h1
      have i1 := ihl h2
      have i2 := ihr h3
      have s := sym_len k
      have b1 := brk_len (decide (rankK (kindT l) < rankK k)) (text l)
      have b2 := brk_len (decide (rankK (kindT r) < rankK k + 1)) (text r)
      rcases h1 with rfl | rfl | rfl | rfl <;> (simp only [txtOf]; simp at b1 b2 ⊢; omega)

end Rd
end Go.Proofs.YtmepffenlgedbaaDoor
