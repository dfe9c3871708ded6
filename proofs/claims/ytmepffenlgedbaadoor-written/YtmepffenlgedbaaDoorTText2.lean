/-
  THE WALK of the program's termsText.
-/
import Derived.Test.YtmepffenlgedbaaDoorTText
set_option linter.unusedSimpArgs false
namespace Go.Proofs.YtmepffenlgedbaaDoor
open Go.RowKit

theorem hidp {p : Prop} (h : p) : Hid p := h

/-- A text as the walk sees it: a string and its length. -/
structure Str (s : ByteArray) (l : List UInt8) : Prop where
  eq : s.data.toList = l

theorem Str.size {s : ByteArray} {l : List UInt8} (h : Str s l) : s.size = l.length := by
  rw [← h.eq, Array.length_toList]; rfl
theorem Str.app {s t : ByteArray} {l m : List UInt8} (h : Str s l) (k : Str t m) : Str (s ++ t) (l ++ m) := ⟨by rw [← h.eq, ← k.eq]; simp [ByteArray.data_append]⟩
theorem Str.mk' (l : List UInt8) : Str ⟨l.toArray⟩ l := ⟨by simp⟩
theorem Str.to {s : ByteArray} {l m : List UInt8} (h : Str s l) (e : l = m) : Str s m := e ▸ h

/-- A row of whole numbers at block tb. -/
theorem ints_cell {w : World} {tb : Nat} {ts : List Int} {cur : Array Value} (h1 : w.heap[tb]? = some (.cells cur 3 (0, 0))) (h2 : cur.toList.take ts.length = ts.map (Value.int .i64)) (k : Nat) (hk : k < ts.length) :
    w.cell? ⟨tb, k, none⟩ = some (.int .i64 (ts.getD k 0)) := by
  refine cell_of_block h1 ?_
  have : (ts.map (Value.int .i64))[k]? = some (.int .i64 (ts.getD k 0)) := by
    simp [List.getD, List.getElem?_eq_getElem hk]
  rw [← h2, List.getElem?_take_of_lt hk] at this
  simpa using this

def termsRel (w : World) (ts : List Int) (tv iv : Value) (wr : World) : Prop :=
  ∃ (k : Nat) (s : ByteArray), iv = .int .i64 k ∧ tv = .string s ∧ k ≤ ts.length ∧ Str s (Rd.termsTo ts k) ∧ Below w.heap.size w wr

set_option maxRecDepth 100000 in
set_option maxHeartbeats 1000000 in
theorem termsText_any (rb : Nat) (w : World) (ts : List Int) (tv : Value) (ht : TermsAt rb w ts tv) (hl : 2 ≤ ts.length) (hl9 : ts.length ≤ 9) (hok : ∀ x ∈ ts, Rd.numOk x) (htab : Tab w) :
    Calls Tryd.prog 39 #[tv] w fun e w' => ∃ s : ByteArray, e = .returned (.string s) ∧ Str s (Rd.termsTxt ts) ∧ Below w.heap.size w w' := by
  rcases ht with ⟨h, _⟩ | ⟨tb, cap, cur, rfl, _, h3, h4, h5⟩
  · rw [h] at hl; simp at hl
  have HOK := hidp hok
  have l0 : (0 : Int) < ts.length := by omega
  have l0' : 0 < ts.length := by omega
  have l1 : (1 : Int) < ts.length := by omega
  have l1' : 1 < ts.length := by omega
  have HT := hidp htab
  clear hok htab
  go_enter Tryd.func39, Tryd.ntmps39
  go_wp2_with fail
  go_loopw [3, 4] (fun t i wr => termsRel w ts t i wr) (fun _ i _ => ts.length - (intOf i).toNat)
  case atStart => exact ⟨0, _, rfl, rfl, by omega, Str.mk' _, Below.refl _ _⟩
  case round =>
    obtain ⟨k, s, rfl, rfl, hk, hS, hb⟩ := hrel
    have hsz : s.size ≤ 102 := by have := Rd.termsTo_len HOK.out k; rw [hS.size]; omega
    by_cases hkl : (k : Int) < ts.length
    · have hkl' : k < ts.length := by omega
      have hc := ints_cell (by rw [hb.block tb (heap_lt h3)]; exact h3) h5 k hkl'
      have hnum := hidp (Rd.getD_ok HOK.out k)
      have hTab := hidp (HT.out.below hb)
      have HS := hidp hS
      have HB := hidp hb
      clear hS hb h3 h5
      have HX := hidp (show Rd.termsTo ts (k + 1) = Rd.termsTo ts k ++ (Rd.sep k ++ Rd.dec (ts.getD k 0)) from rfl)
      generalize ts.getD k 0 = x at hc hnum HX
      have HSEP := hidp (show Rd.sep k = Rd.sep k from rfl)
      by_cases hk0 : (k : Int) = 0
      · obtain rfl : k = 0 := by omega
        clear HSEP hk0 hkl
        go_wp2_with (go_at_call 38; refine (itoa_any _ hnum.out _ hTab.out).mono ?_; rintro e w1 ⟨u, rfl, hu, husz, hb1⟩)
        go_roundw
        case rel => exact ⟨1, _, by simp, rfl, hkl', (HS.out.app ⟨hu⟩).to (by rw [HX.out]; rfl), HB.out.trans (hb1.mono HB.out.size)⟩
        case measure => simp [intOf]; omega
      · by_cases hk1 : (k : Int) = 1
        · obtain rfl : k = 1 := by omega
          clear HSEP hk0 hk1 hkl
          go_wp2_with (go_at_call 38; refine (itoa_any _ hnum.out _ hTab.out).mono ?_; rintro e w1 ⟨u, rfl, hu, husz, hb1⟩)
          go_roundw
          case rel => exact ⟨2, _, by simp, rfl, hkl', ((HS.out.app (Str.mk' [59, 32])).app ⟨hu⟩).to (by rw [HX.out]; simp [Rd.sep]), HB.out.trans (hb1.mono HB.out.size)⟩
          case measure => simp [intOf]; omega
        · have e0 : Rd.sep k = [44, 32] := by
            unfold Rd.sep
            rw [show (k == 0) = false by simp; omega, show (k == 1) = false by simp; omega]; rfl
          rw [e0] at HX
          clear e0 HSEP
          have hk2 : (1 : Int) < k := by omega
          go_wp2_with (go_at_call 38; refine (itoa_any _ hnum.out _ hTab.out).mono ?_; rintro e w1 ⟨u, rfl, hu, husz, hb1⟩)
          go_roundw
          case rel => exact ⟨k + 1, _, by simp, rfl, hkl', ((HS.out.app (Str.mk' [44, 32])).app ⟨hu⟩).to (by rw [HX.out]; simp), HB.out.trans (hb1.mono HB.out.size)⟩
          case measure => simp [intOf]; omega
    · obtain rfl : k = ts.length := by omega
      have HS := hidp hS
      have HB := hidp hb
      clear hS hb h3 h5
      go_wp2_with fail
      go_ret
      exact ⟨_, rfl, HS.out.app (Str.mk' [93]), HB.out⟩

end Go.Proofs.YtmepffenlgedbaaDoor
