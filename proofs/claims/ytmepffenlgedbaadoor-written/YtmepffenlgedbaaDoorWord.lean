/-
  THE WALKS of the reader's word and take.
-/
import Derived.Test.YtmepffenlgedbaaDoorFrame
import Derived.BigQuiet
namespace Go.Proofs.YtmepffenlgedbaaDoor
open Go.RowKit

abbrev rp (rb : Nat) : Value := .pointer (some ⟨rb, 0, none⟩)
def wagg (x : Rd.Wd) : Value := .agg #[.int .i64 x.kind, .string x.text, .int .i64 x.pos]

theorem Rdr.cells {w : World} {rb g cap : Nat} {ws : List Rd.Wd} {st : Rd.St} (h : Rdr w rb g cap ws st) (n : Nat) (hn : n < ws.length) :
    w.cell? ⟨g, n * 3, none⟩ = some (.int .i64 (Rd.wordAt ws n).kind) ∧ w.cell? ⟨g, n * 3 + 1, none⟩ = some (.string (Rd.wordAt ws n).text) ∧ w.cell? ⟨g, n * 3 + 2, none⟩ = some (.int .i64 (Rd.wordAt ws n).pos) := by
  obtain ⟨cur, h1, h2⟩ := h.row
  have key : ∀ i v, i < ws.length * 3 → (Rd.wcells ws)[i]? = some v → w.cell? ⟨g, i, none⟩ = some v := by
    intro i v hi hv
    refine cell_of_block h1 ?_
    rw [← h2, List.getElem?_take_of_lt hi] at hv
    simpa using hv
  obtain ⟨a, b, c⟩ := Rd.wcells_at ws n hn
  exact ⟨key _ _ (by omega) a, key _ _ (by omega) b, key _ _ (by omega) c⟩

set_option maxHeartbeats 400000 in
theorem word_in (w : World) (rb g cap : Nat) (ws : List Rd.Wd) (st : Rd.St) (h : Rdr w rb g cap ws st) (hn : st.next < ws.length) :
    Calls Tryd.prog 37 #[.pointer (some ⟨rb, 0, none⟩)] w fun e w' => e = .returned (wagg (Rd.wordAt ws st.next)) ∧ Below w.heap.size w w' := by
  have c0 := h.c0
  have c1 := h.c1
  obtain ⟨e0, e1, e2⟩ := h.cells st.next hn
  have hlt := h.lt
  have hglt : g < w.heap.size := by obtain ⟨cur, h1, _⟩ := h.row; exact heap_lt h1
  clear h
  go_enter Tryd.func37, Tryd.ntmps37
  go_wp2_with fail
  go_quiet (fail)
  go_wp2_with fail
  go_region
  all_goals go_wp2_with fail
  exact bodyPost_ret (v := .agg #[.int .i64 (Rd.wordAt ws st.next).kind, .string (Rd.wordAt ws st.next).text, .int .i64 (Rd.wordAt ws st.next).pos]) (by simp [results, Tryd.results37, go_sem]) rfl
    ⟨rfl, (((below_drewN ((Below.refl _ _).alloc (Nat.le_refl _) _) _).setCell (Nat.le_refl _) _).setCell (Nat.le_refl _) _).setCell (Nat.le_refl _) _⟩

set_option maxHeartbeats 400000 in
theorem word_out (w : World) (rb g cap : Nat) (ws : List Rd.Wd) (st : Rd.St) (h : Rdr w rb g cap ws st) (hn : ¬ st.next < ws.length) :
    Calls Tryd.prog 37 #[.pointer (some ⟨rb, 0, none⟩)] w fun e w' => e = .returned (.agg #[.int .i64 0, .string ⟨#[]⟩, .int .i64 0]) ∧ Below w.heap.size w w' := by
  have c0 := h.c0
  have c1 := h.c1
  have hlt := h.lt
  clear h
  go_enter Tryd.func37, Tryd.ntmps37
  go_wp2_with fail
  go_quiet (fail)
  go_wp2_with fail
  exact bodyPost_ret (v := .agg #[.int .i64 0, .string ⟨#[]⟩, .int .i64 0]) (by simp [results, Tryd.results37, go_sem]) rfl
    ⟨rfl, (((below_drewN ((Below.refl _ _).alloc (Nat.le_refl _) _) _).setCell (Nat.le_refl _) _).setCell (Nat.le_refl _) _).setCell (Nat.le_refl _) _⟩

theorem word_any (w : World) (rb g cap : Nat) (ws : List Rd.Wd) (st : Rd.St) (h : Rdr w rb g cap ws st) :
    Calls Tryd.prog 37 #[.pointer (some ⟨rb, 0, none⟩)] w fun e w' => e = .returned (wagg (Rd.wordAt ws st.next)) ∧ Below w.heap.size w w' := by
  by_cases hn : st.next < ws.length
  · exact word_in w rb g cap ws st h hn
  · have e : Rd.wordAt ws st.next = ⟨0, ⟨#[]⟩, 0⟩ := by
      unfold Rd.wordAt List.getD
      rw [List.getElem?_eq_none (by omega)]; rfl
    rw [e]
    exact word_out w rb g cap ws st h hn

end Go.Proofs.YtmepffenlgedbaaDoor
