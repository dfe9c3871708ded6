/-
  THE TREE OF THE DOCUMENT'S ANSWER IN MEMORY; the walk of (shape).tree.
-/
import Derived.Test.YtmepffenlgedbaaGreatDoorROf
import Derived.Test.YtmepffenlgedbaaGreatDoorSame
import Derived.Deep.RegionWith
set_option linter.unusedSimpArgs false
namespace Go.Proofs.YtmepffenlgedbaaGreatDoor
open Go.RowKit
open Go.Deep (BT)

namespace Rd
/-- How a node's sort is named. -/
def opName (k : Int) : ByteArray :=
  bif k == 1 then ⟨#[113]⟩ else bif k == 2 then ⟨#[112, 105]⟩ else bif k == 3 then ⟨#[101]⟩ else bif k == 4 then ⟨#[99, 102]⟩ else bif k == 5 then ⟨#[110, 101, 103]⟩
  else bif k == 6 then ⟨#[43]⟩ else bif k == 7 then ⟨#[45]⟩ else bif k == 8 then ⟨#[42]⟩ else bif k == 9 then ⟨#[47]⟩
  else bif k == 10 then ⟨#[115, 113, 114, 116]⟩ else bif k == 11 then ⟨#[101, 120, 112]⟩ else bif k == 12 then ⟨#[108, 110, 49, 112]⟩ else ⟨#[97, 116, 97, 110]⟩

theorem scan_sel {ws : List Wd} (a b : List UInt8) (i : Nat) : ∀ c k (o q : Int), (scan ws a b i c k (o, q)).2 = q ∨ ∃ m : Nat, (scan ws a b i c k (o, q)).2 = (m : Int) ∧ k ≤ m ∧ m < k + c ∧ i < m ∧ (txt ws m == a || txt ws m == b) = true := by
  intro c
  induction c with
  | zero => intro k o q; exact Or.inl rfl
  | succ c ih =>
    intro k o q
    rw [scan]
    have step : (∃ o', scanStep ws a b i k (o, q) = (o', q)) ∨ (∃ o', scanStep ws a b i k (o, q) = (o', (k : Int)) ∧ i < k ∧ (txt ws k == a || txt ws k == b) = true) := by
      unfold scanStep
      cases txt ws k == [40] || txt ws k == [91] with
      | true => exact Or.inl ⟨_, rfl⟩
      | false =>
        cases txt ws k == [41] || txt ws k == [93] with
        | true => exact Or.inl ⟨_, rfl⟩
        | false =>
          cases h : ((o == 0) && decide (i < k) && (txt ws k == a || txt ws k == b) && !isOp (txt ws (k - 1))) with
          | false => exact Or.inl ⟨_, rfl⟩
          | true =>
            simp only [Bool.and_eq_true, decide_eq_true_eq] at h
            exact Or.inr ⟨_, rfl, h.1.1.2, h.1.2⟩
    rcases step with ⟨o', e⟩ | ⟨o', e, h1, h2⟩
    · rw [e]
      rcases ih (k + 1) o' q with h | ⟨m, h3, h4, h5, h6⟩
      · exact Or.inl h
      · exact Or.inr ⟨m, h3, by omega, by omega, h6⟩
    · rw [e]
      rcases ih (k + 1) o' (k : Int) with h | ⟨m, h3, h4, h5, h6⟩
      · exact Or.inr ⟨k, h, Nat.le_refl _, by omega, h1, h2⟩
      · exact Or.inr ⟨m, h3, by omega, by omega, h6⟩

theorem last_sel {ws : List Wd} (a b : List UInt8) (i j : Nat) (h : 0 ≤ lastOf ws a b i j) : ∃ k : Nat, lastOf ws a b i j = (k : Int) ∧ i < k ∧ k < j ∧ (txt ws k == a || txt ws k == b) = true := by
  unfold lastOf at *
  rcases scan_sel (ws := ws) a b i (j - i) i 0 (-1) with e | ⟨m, e, h1, h2, h3, h4⟩
  · rw [e] at h; omega
  · exact ⟨m, e, h3, by omega, h4⟩

theorem last_lo {ws : List Wd} (a b : List UInt8) (i j : Nat) : -1 ≤ lastOf ws a b i j ∧ lastOf ws a b i j ≤ j := by
  unfold lastOf
  rcases scan_sel (ws := ws) a b i (j - i) i 0 (-1) with e | ⟨m, e, h1, h2, h3, h4⟩
  · rw [e]; omega
  · rw [e]; omega
end Rd

/-- The number of a node, and 1 beneath it. -/
def NumAt (sb : Nat) (w : World) (k v : Int) (pv qv : Value) : Prop :=
  (k = 1 ∧ TermsAt sb w (Rd.places 5 v.toNat) pv ∧ TermsAt sb w (Rd.places 5 1) qv) ∨ (k ≠ 1 ∧ pv = .slice none 0 0 ∧ qv = .slice none 0 0)

/-- The tree lies at v, apart from block sb. -/
def REnc (sb : Nat) (w : World) : Rd.Tr → Value → Prop
  | .nil, _ => False
  | .node _ _ a l r, v => ∃ b pv qv tv lv, v = .pointer (some ⟨b, 0, none⟩) ∧ b ≠ sb ∧ w.heap[b]? = some (.cells #[.string (Rd.opName a.1), .bool false, pv, .bool false, qv, tv, lv] 62 (0, 0)) ∧ NumAt sb w a.1 a.2.1 pv qv ∧ TermsAt sb w a.2.2 tv ∧
      ((l = .nil ∧ r = .nil ∧ lv = .slice none 0 0) ∨ (r = .nil ∧ ∃ kb xv, lv = .slice (some ⟨kb, 0, none⟩) 1 1 ∧ kb ≠ sb ∧ w.heap[kb]? = some (.cells #[xv] 28 (0, 0)) ∧ REnc sb w l xv)
        ∨ (∃ kb xv yv, lv = .slice (some ⟨kb, 0, none⟩) 2 2 ∧ kb ≠ sb ∧ w.heap[kb]? = some (.cells #[xv, yv] 28 (0, 0)) ∧ REnc sb w l xv ∧ REnc sb w r yv))

theorem REnc.ptr {sb : Nat} {w : World} {t : Rd.Tr} {v : Value} (h : REnc sb w t v) : ∃ b, v = .pointer (some ⟨b, 0, none⟩) := by
  cases t with
  | nil => exact h.elim
  | node x y a l r => obtain ⟨b, pv, qv, tv, lv, h1, _⟩ := h; exact ⟨b, h1⟩

theorem NumAt.keep {sb : Nat} {w w' : World} {k v : Int} {pv qv : Value} (h : NumAt sb w k v pv qv) (hk : Keep sb w w') : NumAt sb w' k v pv qv := by
  rcases h with ⟨h1, h2, h3⟩ | h
  · exact Or.inl ⟨h1, h2.keep hk, h3.keep hk⟩
  · exact Or.inr h

theorem REnc.keep {sb : Nat} {w w' : World} (hk : Keep sb w w') : ∀ {t : Rd.Tr} {v : Value}, REnc sb w t v → REnc sb w' t v := by
  intro t
  induction t with
  | nil => intro v h; exact h
  | node _ _ a l r ihl ihr =>
    intro v h
    obtain ⟨b, pv, qv, tv, lv, h1, h2, h3, h4, h5, h6⟩ := h
    refine ⟨b, pv, qv, tv, lv, h1, h2, by rw [hk.block b (heap_lt h3) h2]; exact h3, h4.keep hk, h5.keep hk, ?_⟩
    rcases h6 with h | ⟨hr, kb, xv, e1, e2, e3, e4⟩ | ⟨kb, xv, yv, e1, e2, e3, e4, e5⟩
    · exact Or.inl h
    · exact Or.inr (Or.inl ⟨hr, kb, xv, e1, e2, by rw [hk.block kb (heap_lt e3) e2]; exact e3, ihl e4⟩)
    · exact Or.inr (Or.inr ⟨kb, xv, yv, e1, e2, by rw [hk.block kb (heap_lt e3) e2]; exact e3, ihl e4, ihr e5⟩)

theorem RowAt.keep {sb g : Nat} {ws : List Rd.Wd} {w w' : World} (h : RowAt w g ws) (hk : Keep sb w w') (hn : g ≠ sb) : RowAt w' g ws := by
  obtain ⟨cur, h1, h2⟩ := h
  exact ⟨cur, by rw [hk.block g (heap_lt h1) hn]; exact h1, h2⟩

/-- How deep, how many nodes, at block sb. -/
def Shp (w : World) (sb : Nat) (s : Rd.Tally) : Prop := w.heap[sb]? = some (.cells #[.int .i64 s.1, .int .i64 s.2] 56 (0, 0))

theorem Shp.set0 {w : World} {sb : Nat} {s : Rd.Tally} (h : Shp w sb s) (n : Nat) {m : Int} (hm : m = (n : Int)) : Shp (w.setCell ⟨sb, 0, none⟩ (.int .i64 m)) sb (n, s.2) := by
  unfold Shp at *; subst hm; rw [heap_set h]; rfl
theorem Shp.set1 {w : World} {sb : Nat} {s : Rd.Tally} (h : Shp w sb s) (n : Nat) {m : Int} (hm : m = (n : Int)) : Shp (w.setCell ⟨sb, 1, none⟩ (.int .i64 m)) sb (s.1, n) := by
  unfold Shp at *; subst hm; rw [heap_set h]; rfl
theorem Shp.alloc {w : World} {sb : Nat} {s : Rd.Tally} (h : Shp w sb s) (o : Obj) : Shp (w.alloc o) sb s := by
  unfold Shp at *; rw [Below.heap_alloc _ _ _ (heap_lt h)]; exact h
theorem Shp.below {w w' : World} {sb : Nat} {s : Rd.Tally} (h : Shp w sb s) (hb : Below w.heap.size w w') : Shp w' sb s := by
  unfold Shp at *; rw [hb.block _ (heap_lt h)]; exact h
theorem Shp.drewN {w : World} {sb : Nat} {s : Rd.Tally} (h : Shp w sb s) (n : Nat) : Shp (w.drewN n) sb s := h

def TPost (sb : Nat) (w : World) (t : Rd.Tr) (s' : Rd.Tally) (e : Ending) (w' : World) : Prop :=
  ∃ v, e = .returned v ∧ REnc sb w' t v ∧ Shp w' sb s' ∧ Keep sb w w'

def TSaid (sb g cap : Nat) (ws : List Rd.Wd) (f : Nat) : Prop :=
  ∀ (w : World) (i j d : Nat) (s : Rd.Tally) (t : Rd.Tr) (s' : Rd.Tally) (ii jj dd : Int), ii = (i : Int) → jj = (j : Int) → dd = (d : Int) → Shp w sb s → RowAt w g ws → Rd.rtree ws f i j d s = some (t, s') → s'.2 ≤ 1000 → d + (j - i) ≤ 500 →
    Calls Tryz.prog 25 #[.pointer (some ⟨sb, 0, none⟩), .slice (some ⟨g, 0, none⟩) ws.length cap, .int .i64 ii, .int .i64 jj, .int .i64 dd] w (TPost sb w t s')

end Go.Proofs.YtmepffenlgedbaaGreatDoor
