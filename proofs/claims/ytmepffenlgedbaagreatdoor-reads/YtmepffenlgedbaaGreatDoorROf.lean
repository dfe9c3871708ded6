/-
  THE WALK of realsnum.Of.
-/
import Derived.Test.YtmepffenlgedbaaGreatDoorRLast
import Derived.Test.YtmepffenlgedbaaGreatDoorCont
set_option linter.unusedSimpArgs false
namespace Go.Proofs.YtmepffenlgedbaaGreatDoor
open Go.RowKit

namespace Rd
/-- The places of four digits of a number, the lowest first. -/
def places : Nat → Nat → List Int
  | 0, _ => []
  | f + 1, m => bif m == 0 then [] else ((m % 10000 : Nat) : Int) :: places f (m / 10000)
end Rd

theorem own_slice {w : World} {B e size n : Nat} {v : Value} {xs : List Value} (h : w.ownsRow B e size v n xs) : ∃ ao ln cp, v = .slice ao ln cp := by
  rcases h.2 with ⟨h, _⟩ | ⟨g, cap, cur, h, _⟩
  · exact ⟨_, _, _, h⟩
  · exact ⟨_, _, _, h⟩

theorem cell_set {w : World} {b o : Nat} {xs : Array Value} {t : TypeId} (h : w.heap[b]? = some (.cells xs t (0, 0))) (ho : o < xs.size) (u : Value) : (w.setCell ⟨b, o, none⟩ u).cell? ⟨b, o, none⟩ = some u :=
  cell_of_block (heap_set h u) (by simp [ho])

theorem terms_own' {rb B n : Nat} {w : World} {v : Value} {ts : List Int} (hown : w.ownsRow B 3 1 v n (ts.map (Value.int .i64))) (hrb : rb < B) (hn : n = ts.length) : TermsAt rb w ts v := by
  rcases hown.2 with ⟨h1, h⟩ | ⟨g, cap, cur, h, hg', h3, h4, _, _, h5⟩
  · exact Or.inl ⟨List.eq_nil_of_length_eq_zero (by omega), h1⟩
  · subst hn
    exact Or.inr ⟨g, cap, cur, h, by omega, h3, h4, by simpa using h5⟩

def ofRel (w : World) (n : Nat) (m d : Value) (wr : World) : Prop :=
  ∃ (k f : Nat) (done : List Int), m = .int .i64 k ∧ k ≤ n ∧ k < 10000 ^ f ∧ f + done.length = 5 ∧ wr.ownsRow w.heap.size 3 1 d done.length (done.map (Value.int .i64)) ∧ Below w.heap.size w wr ∧ done ++ Rd.places f k = Rd.places 5 n

theorem pow4 (k f : Nat) (h : k < 10000 ^ (f + 1)) : k / 10000 < 10000 ^ f := by
  rw [Nat.pow_succ] at h
  exact Nat.div_lt_of_lt_mul (by rw [Nat.mul_comm]; exact h)

set_option maxRecDepth 100000 in
set_option maxHeartbeats 1000000 in
theorem of_any (n : Nat) (w : World) (hn : n < 1000000000) (rb : Nat) (hrb : rb < w.heap.size) :
    Calls Tryz.prog 40 #[.int .i64 n] w fun e w' => ∃ dv, e = .returned (.agg #[.bool false, dv]) ∧ TermsAt rb w' (Rd.places 5 n) dv ∧ Below w.heap.size w w' := by
  obtain ⟨i, hi, hz, hsize, hby⟩ := info_parts infoInt
  have hn0 : decide ((n : Int) < 0) = false := decide_eq_false (by omega)
  go_enter Tryz.func40, Tryz.ntmps40
  go_wp2_with fail
  go_loopw [3, 4] (fun m d wr => ofRel (w.alloc (.cells #[.bool false, .slice none 0 0] 59)) n m d wr) (fun m _ _ => (intOf m).toNat)
  case atStart => exact ⟨n, 5, [], rfl, Nat.le_refl _, by omega, rfl, ⟨rfl, Or.inl ⟨rfl, rfl⟩⟩, Below.refl _ _, rfl⟩
  case round =>
    obtain ⟨k, f, done, rfl, hkn, hkf, hfd, hown, hbel, heq⟩ := hrel
    have HEQ := hideq heq
    have HKF := hideq hkf
    have HFD := hideq hfd
    have hsz := hbel.size
    simp only [World.size_alloc] at hsz
    clear heq hkf hfd
    by_cases hk0 : (0 : Int) < k
    · obtain ⟨f', hf'⟩ : ∃ f', f = f' + 1 := by
        cases f with
        | zero => have := HKF.out; simp at this; omega
        | succ f' => exact ⟨f', rfl⟩
      have HF' := hideq hf'
      have hdl : done.length ≤ 4 := by have := HFD.out; omega
      clear hf'
      go_wp2_with (at_builtin; refine wpList_append_own _ rfl _ _ 24 rfl _ 3 i (.int .i64 0) 1 8 Tryz.underlying24 hi hz hsize hby rfl (by decide) _ _ _ rfl (hown.alloc _) ⟨wr.heap.size, 0, none⟩ 1 1 [.int .i64 ((k : Int) % 10000)] rfl rfl (cell_one_new _ _ _) (fun u hu => by simp at hu; subst hu; rfl) (by unfold maxLen; omega) (by omega) (by simp; omega) ?_; intro v' w3 hown' hgrow3 hnil3)
      go_roundw
      case rel =>
        refine ⟨k / 10000, f', done ++ [((k % 10000 : Nat) : Int)], by simp, by omega, ?_, by have := HFD.out; have := HF'.out; simp; omega, ?_, below_own hown hbel hbel.size _ hgrow3, ?_⟩
        · have := HKF.out
          rw [HF'.out] at this
          exact pow4 k f' this
        · simpa using hown'
        · have := HEQ.out
          rw [HF'.out, Rd.places, show (k == 0) = false by simp; omega] at this
          rw [← this]
          simp
      case measure => simp [intOf]; omega
    · obtain rfl : k = 0 := by omega
      have hpl : Hid (done = Rd.places 5 n) := by
        have := HEQ.out
        show _ = _
        rw [← this]
        cases f <;> simp [Rd.places]
      have hblk : wr.heap[w.heap.size]? = some (.cells #[.bool false, .slice none 0 0] 59 (0, 0)) := by
        rw [hbel.block _ (by simp)]
        exact cells_new _ _
      have r0 : wr.cell? ⟨w.heap.size, 0, none⟩ = some (.bool false) := cell_of_block hblk rfl
      have r1 : wr.cell? ⟨w.heap.size, 1, none⟩ = some (.slice none 0 0) := cell_of_block hblk rfl
      have rf0 : wr.frozen? ⟨w.heap.size, 0, none⟩ = false := frozen_of_block hblk
      have rf1 : wr.frozen? ⟨w.heap.size, 1, none⟩ = false := frozen_of_block hblk
      obtain ⟨ao, ln, cp, hv⟩ := own_slice hown
      have HV := hideq hv
      have q0 := cell_set hblk (o := 0) (by decide) (.bool false)
      have q1 := cell_set (heap_set hblk (o := 0) (.bool false)) (o := 1) (by simp) (.slice ao ln cp)
      rw [hv]
      clear hv hblk
      go_wp2_with fail
      refine bodyPost_ret (v := .agg #[.bool false, .slice ao ln cp]) (by simp [results, Tryz.results40, go_sem, q0, q1]) rfl ⟨_, rfl, ?_, ?_⟩
      · rw [← HV.out, ← hpl.out]
        exact terms_own' (own_keep hown (((Keep.refl w.heap.size wr).setCell 0 _).setCell 1 _) (by rw [World.size_alloc]; omega)) (by rw [World.size_alloc]; omega) rfl
      · exact ((((Below.refl _ _).alloc (Nat.le_refl _) _).trans (hbel.mono (by simp))).setCell (Nat.le_refl _) _).setCell (Nat.le_refl _) _

end Go.Proofs.YtmepffenlgedbaaGreatDoor
