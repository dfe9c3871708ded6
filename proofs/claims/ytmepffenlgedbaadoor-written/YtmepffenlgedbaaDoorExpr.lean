/-
  THE WALK of reals.Read.
-/
import Derived.Test.YtmepffenlgedbaaDoorJoin
set_option linter.unusedSimpArgs false
namespace Go.Proofs.YtmepffenlgedbaaDoor
open Go.RowKit

/-- What reals.Read answers: an expression lies at v, or nil. -/
def ExprAt (B : Nat) (w : World) (x : Option Rd.Tr) (v : Value) : Prop :=
  match x with
  | none => v = .pointer none
  | some t => ∃ rb xb rv, v = .pointer (some ⟨xb, 0, none⟩) ∧ B ≤ rb ∧ B ≤ xb ∧ w.heap[xb]? = some (.cells #[rv] 58 (0, 0)) ∧ EncO rb w (some t) rv

def ExprPost (w : World) (x : Option Rd.Tr × Int × Int) (e : Ending) (w' : World) : Prop :=
  ∃ v, e = .returned (.tuple #[v, .int .i64 x.2.1, .int .i64 x.2.2]) ∧ ExprAt w.heap.size w' x.1 v ∧ Below w.heap.size w w'

/-- There is a tree if and only if there is no error; then the place is 0. -/
theorem read_ok {f : Nat} {s : ByteArray} {x : Option Rd.Tr × Int × Int} (h : Rd.read f s = some x) : (x.1 = none ∧ (x.2.1 != 0) = true) ∨ (∃ t, x = (some t, 0, 0)) := by
  unfold Rd.read at h
  cases h1 : decide (120 < s.size) with
  | true =>
    rw [h1] at h
    simp only [cond_true, Option.some.injEq] at h
    subst h
    exact Or.inl ⟨rfl, rfl⟩
  | false =>
    rw [h1] at h
    simp only [cond_false] at h
    split at h
    · cases h
    · simp only [Option.some.injEq] at h
      subst h
      exact Or.inl ⟨rfl, rfl⟩
    · rename_i t st _
      generalize ((Rd.wordAt (Rd.split s (s.size + 1) 0) st.next).kind == 0) = b at h
      generalize (decide (12 < st.deepest) || decide (40 < st.nodes)) = c at h
      cases b
      · simp only [cond_false, Option.some.injEq] at h
        subst h
        exact Or.inl ⟨rfl, rfl⟩
      · cases c
        · simp only [cond_true, cond_false, Option.some.injEq] at h
          exact Or.inr ⟨t, h.symm⟩
        · simp only [cond_true, Option.some.injEq] at h
          subst h
          exact Or.inl ⟨rfl, rfl⟩

set_option maxHeartbeats 1000000 in
theorem exprRead_any (f : Nat) (s : ByteArray) (w : World) (x : Option Rd.Tr × Int × Int) (hm : s.size ≤ maxLen) (hp : Rd.read f s = some x) : Calls Tryd.prog 14 #[.string s] w (ExprPost w x) := by
  have TR := hideq (treeRead_any f s w x hm hp)
  rcases read_ok hp with ⟨h1, h2⟩ | ⟨t, rfl⟩
  · obtain ⟨t, er, pl⟩ := x
    simp only at h1 h2
    subst h1
    clear hp hm
    go_enter Tryd.func14, Tryd.ntmps14
    go_wp2_with fail
    refine (TR.out).mono ?_
    rintro e w1 ⟨rb, v, rfl, hrb, hE, hb⟩
    go_wp2_with fail
    go_ret3
    exact ⟨_, rfl, rfl, hb⟩
  · clear hp hm
    go_enter Tryd.func14, Tryd.ntmps14
    go_wp2_with fail
    refine (TR.out).mono ?_
    rintro e w1 ⟨rb, v, rfl, hrb, hE, hb⟩
    obtain ⟨⟨b, hv⟩, hE2⟩ := hE
    rw [hv]
    rw [hv] at hE2
    clear hv
    have hsz := hb.size
    go_wp2_with fail
    go_ret3
    exact ⟨_, rfl, ⟨rb, w1.heap.size, _, rfl, hrb, hsz, cells_new _ _, ⟨b, rfl⟩, Enc.keep ((Keep.refl _ _).alloc _) hE2⟩, hb.alloc hsz _⟩

end Go.Proofs.YtmepffenlgedbaaDoor
