/-
  PLAIN MATHEMATICS: the numeral out of places of four digits.
-/
import Derived.Test.YtmepffenlgedbaaGreatDoorROf
import Derived.Test.YtmepffenlgedbaaGreatDoorTxt
set_option linter.unusedSimpArgs false
namespace Go.Proofs.YtmepffenlgedbaaGreatDoor
namespace Rd

def dgt (x : Nat) : UInt8 := UInt8.ofNat (48 + x % 10)

/-- c digits of a place are put ahead of t; last: the highest place, no 0 ahead. -/
def inner (last : Bool) : Nat → Nat → List UInt8 → List UInt8
  | 0, _, t => t
  | c + 1, x, t => inner last c (x / 10) (bif decide (0 < x) || !last then dgt x :: t else t)

/-- The numeral of places. -/
def ntxt : List Int → List UInt8 → List UInt8
  | [], t => t
  | x :: r, t => ntxt r (inner r.isEmpty 4 x.toNat t)

/-- c digits. -/
def fix : Nat → Nat → List UInt8
  | 0, _ => []
  | c + 1, x => fix c (x / 10) ++ [dgt x]

theorem inner_fix : ∀ c x t, inner false c x t = fix c x ++ t := by
  intro c
  induction c with
  | zero => intro x t; rfl
  | succ c ih =>
    intro x t
    rw [inner, ih, fix]
    simp

theorem inner_zero : ∀ c t, inner true c 0 t = t := by
  intro c
  induction c with
  | zero => intro t; rfl
  | succ c ih => intro t; rw [inner]; exact ih t

theorem inner_dec : ∀ c x t, 0 < x → x < 10 ^ c → inner true c x t = Lib.decDigits x ++ t := by
  intro c
  induction c with
  | zero => intro x t h1 h2; simp at h2; omega
  | succ c ih =>
    intro x t h1 h2
    rw [inner, decide_eq_true h1]
    simp only [Bool.true_or, cond_true]
    rw [Lib.decDigits]
    by_cases h : x < 10
    · rw [dif_pos h, Nat.div_eq_of_lt h, inner_zero, dgt, Nat.mod_eq_of_lt h]
      rfl
    · rw [dif_neg h, ih (x / 10) _ (by omega) (by rw [Nat.pow_succ] at h2; omega)]
      simp [dgt]

theorem dec_fix : ∀ c h lo, 0 < h → lo < 10 ^ c → Lib.decDigits (h * 10 ^ c + lo) = Lib.decDigits h ++ fix c lo := by
  intro c
  induction c with
  | zero => intro h lo h1 h2; simp at h2; subst h2; simp [fix]
  | succ c ih =>
    intro h lo h1 h2
    have hp : 1 ≤ 10 ^ c := Nat.one_le_pow _ _ (by decide)
    rw [Nat.pow_succ] at h2
    have e : h * 10 ^ (c + 1) + lo = (h * 10 ^ c + lo / 10) * 10 + lo % 10 := by
      rw [Nat.pow_succ, ← Nat.mul_assoc]; omega
    rw [e]
    have hge : 1 ≤ h * 10 ^ c := Nat.mul_pos h1 hp
    have hd : ((h * 10 ^ c + lo / 10) * 10 + lo % 10) / 10 = h * 10 ^ c + lo / 10 := by omega
    have hm : ((h * 10 ^ c + lo / 10) * 10 + lo % 10) % 10 = lo % 10 := by omega
    rw [Lib.decDigits, dif_neg (by omega), hd, hm, ih h (lo / 10) h1 (by omega), fix, dgt, List.append_assoc]

theorem places_zero (f : Nat) : places f 0 = [] := by cases f <;> rfl

theorem ntxt_places : ∀ f m t, 0 < m → m < 10000 ^ f → ntxt (places f m) t = Lib.decDigits m ++ t := by
  intro f
  induction f with
  | zero => intro m t h1 h2; simp at h2; omega
  | succ f ih =>
    intro m t h1 h2
    have hm0 : (m == 0) = false := by simp; omega
    rw [places, hm0]
    simp only [cond_false, ntxt]
    have ex : ((m % 10000 : Nat) : Int).toNat = m % 10000 := Int.toNat_natCast _
    rw [ex]
    have hq := pow4 m f h2
    by_cases h : m / 10000 = 0
    · rw [h, places_zero]
      have hlt : m < 10000 := by omega
      rw [Nat.mod_eq_of_lt hlt]
      simp only [List.isEmpty_nil, ntxt]
      exact inner_dec 4 m t h1 (by omega)
    · have hne : (places f (m / 10000)).isEmpty = false := by
        cases f with
        | zero => simp at hq; omega
        | succ f =>
          rw [places, show (m / 10000 == 0) = false by simp; omega]
          rfl
      rw [hne, ih _ _ (by omega) hq, inner_fix]
      have := dec_fix 4 (m / 10000) (m % 10000) (by omega) (by omega)
      rw [show m / 10000 * 10 ^ 4 + m % 10000 = m by omega] at this
      rw [this, List.append_assoc]

theorem places_ok : ∀ f m, ∀ x ∈ places f m, 0 ≤ x ∧ x < 10000 := by
  intro f
  induction f with
  | zero => intro m x h; cases h
  | succ f ih =>
    intro m x h
    rw [places] at h
    cases hm : m == 0 with
    | true => rw [hm] at h; cases h
    | false =>
      rw [hm] at h
      rcases List.mem_cons.1 h with rfl | h
      · omega
      · exact ih _ _ h

theorem places_len : ∀ f m, (places f m).length ≤ f := by
  intro f
  induction f with
  | zero => intro m; simp [places]
  | succ f ih =>
    intro m
    rw [places]
    cases m == 0 with
    | true => simp
    | false => simp; exact ih _

theorem inner_len : ∀ c last x t, (inner last c x t).length ≤ t.length + c := by
  intro c
  induction c with
  | zero => intro last x t; exact Nat.le_refl _
  | succ c ih =>
    intro last x t
    rw [inner]
    have := ih last (x / 10) (bif decide (0 < x) || !last then dgt x :: t else t)
    cases h : (decide (0 < x) || !last) with
    | true => rw [h] at this; simp only [cond_true, List.length_cons] at this ⊢; omega
    | false => rw [h] at this; simp only [cond_false] at this ⊢; omega

end Rd
end Go.Proofs.YtmepffenlgedbaaGreatDoor
