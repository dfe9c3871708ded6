/-
  THE STATEMENT Refused.
-/
import Derived.Test.YtmepffenlgedbaaExpr
import Derived.ProofKit
import Derived.OpenShut
set_option linter.unusedSimpArgs false
namespace Go.Proofs.Ytmepffenlgedbaa
open Go.ChangeShapes Go.WideShapes Go.ChangeAt Go.RowKit

/-- The table: text, error, place. -/
def tab : List (ByteArray × Int × Int) := [
  (⟨#[]⟩, 2, 0),
  (⟨#[49, 32, 43]⟩, 2, 3),
  (⟨#[50, 32, 51]⟩, 2, 2),
  (⟨#[40, 49]⟩, 2, 2),
  (⟨#[49, 41]⟩, 2, 1),
  (⟨#[115, 113, 114, 116, 32, 50]⟩, 2, 5),
  (⟨#[102, 111, 111, 40, 49, 41]⟩, 2, 0),
  (⟨#[49, 50, 51, 52, 53, 54, 55, 56, 57, 48]⟩, 2, 9),
  (⟨#[99, 102, 91, 49, 59, 32, 48, 93]⟩, 2, 6),
  (⟨#[99, 102, 91, 49, 59, 32, 50, 44, 32, 48, 93]⟩, 2, 9),
  (⟨#[99, 102, 91, 49, 59, 32, 50, 44, 32, 51, 44, 32, 52, 44, 32, 48, 48, 93]⟩, 2, 15),
  (⟨#[99, 102, 91, 49, 44, 32, 50, 93]⟩, 2, 4),
  (⟨#[99, 102, 91, 49, 59, 32, 49, 44, 32, 50, 44, 32, 51, 44, 32, 52, 44, 32, 53, 44, 32, 54, 44, 32, 55, 44, 32, 56, 44, 32, 57, 93]⟩, 2, 28),
  (⟨#[40, 40, 40, 40, 40, 40, 40, 40, 40, 40, 40, 40, 40, 49]⟩, 2, 14),
  (⟨#[40, 40, 40, 40, 40, 40, 40, 40, 40, 40, 40, 40, 40, 49, 41, 41, 41, 41, 41, 41, 41, 41, 41, 41, 41, 41, 41]⟩, 3, 0),
  (⟨#[49, 43, 49, 43, 49, 43, 49, 43, 49, 43, 49, 43, 49, 43, 49, 43, 49, 43, 49, 43, 49, 43, 49, 43, 49, 43, 49, 43, 49, 43, 49, 43, 49, 43, 49, 43, 49, 43, 49, 43, 49]⟩, 3, 0)]

def tabAt (i : Nat) : ByteArray × Int × Int := tab.getD i (⟨#[]⟩, 0, 0)

set_option maxHeartbeats 400000 in
theorem pick_any (c : Int) (n : Nat) (w : World) (h0 : -9223372036854775808 ≤ c) (h1 : c ≤ 9223372036854775807) (hn : 0 < n) (hm : n ≤ 1000000) :
    Calls Try.prog 4 #[.int .i64 c, .int .i64 n] w fun e w' => ∃ i : Nat, i < n ∧ e = .returned (.int .i64 i) ∧ w = w' := by
  by_cases hc : c < 0
  · have e1 : -(c + 1).tmod (n : Int) = (((-(c + 1)) % (n : Int)).toNat : Int) := by
      rw [← Int.neg_tmod, Int.tmod_eq_emod_of_nonneg (by omega), Int.toNat_of_nonneg (Int.emod_nonneg _ (by omega))]
    have e2 : ((-(c + 1)) % (n : Int)).toNat < n := by
      have := Int.emod_lt_of_pos (-(c + 1)) (show (0 : Int) < n by omega)
      omega
    generalize ((-(c + 1)) % (n : Int)).toNat = i at *
    have E := hideq e1
    clear e1
    go_enter Try.func4, Try.ntmps4
    go_wp2_with fail
    go_ret
    exact ⟨i, e2, ret_int E.out, rfl⟩
  · have e1 : c % (n : Int) = ((c % (n : Int)).toNat : Int) := by
      rw [Int.toNat_of_nonneg (Int.emod_nonneg _ (by omega))]
    have e2 : (c % (n : Int)).toNat < n := by
      have := Int.emod_lt_of_pos c (show (0 : Int) < n by omega)
      omega
    have E := hideq e1
    clear e1
    go_enter Try.func4, Try.ntmps4
    go_wp2_with fail
    go_ret
    exact ⟨_, e2, ret_int E.out, rfl⟩

theorem calls_abstract {P : Program} {f : FuncId} {args : Array Value} {R : Ending → World → Prop} {w : World} (I : World → Prop) (hI : I w) (h : ∀ W, I W → Calls P f args W R) : Calls P f args w R := h _ hI

def deepTo : Nat → ByteArray
  | 0 => ⟨#[]⟩
  | k + 1 => deepTo k ++ ⟨#[40]⟩

theorem deep13 : deepTo 13 = ⟨#[40, 40, 40, 40, 40, 40, 40, 40, 40, 40, 40, 40, 40]⟩ := by rfl

theorem deepTo_size : ∀ k, (deepTo k).size = k := by
  intro k
  induction k with
  | zero => rfl
  | succ k ih => rw [deepTo, ByteArray.size_append, ih]; rfl

def tabVals : List (ByteArray × Int × Int) → List Value
  | [] => []
  | x :: r => .string x.1 :: .int .i64 x.2.1 :: .int .i64 x.2.2 :: tabVals r

def tabCells : Array Value := (tabVals tab).toArray

theorem tabVals_at : ∀ (l : List (ByteArray × Int × Int)) (n : Nat), n < l.length → (tabVals l)[n * 3]? = some (.string (l.getD n (⟨#[]⟩, 0, 0)).1) ∧ (tabVals l)[n * 3 + 1]? = some (.int .i64 (l.getD n (⟨#[]⟩, 0, 0)).2.1) ∧ (tabVals l)[n * 3 + 2]? = some (.int .i64 (l.getD n (⟨#[]⟩, 0, 0)).2.2) := by
  intro l
  induction l with
  | nil => intro n h; simp at h
  | cons x r ih =>
    intro n h
    cases n with
    | zero => simp [tabVals]
    | succ n =>
      have := ih n (by simpa using h)
      simpa [tabVals, Nat.add_mul] using this

/-- What Read says of a text of the table, each reckoned. -/
def tabOk (x : ByteArray × Int × Int) : Bool :=
  match Rd.read 300 x.1 with
  | some (none, e, a) => e == x.2.1 && a == x.2.2 && decide (x.1.size ≤ 120)
  | _ => false

theorem tab_all : tab.all tabOk = true := by decide +kernel

theorem read_tab (i : Nat) (hi : i < 16) : Rd.read 300 (tabAt i).1 = some (none, (tabAt i).2.1, (tabAt i).2.2) ∧ (tabAt i).1.size ≤ 120 := by
  have hl : i < tab.length := hi
  have hx : tabAt i = tab[i] := by simp [tabAt, List.getD, hl]
  have h := List.all_eq_true.1 tab_all tab[i] (List.getElem_mem hl)
  rw [← hx] at h
  unfold tabOk at h
  split at h
  · rename_i e a he
    simp only [Bool.and_eq_true, beq_iff_eq, decide_eq_true_eq] at h
    obtain ⟨⟨rfl, rfl⟩, h3⟩ := h
    exact ⟨he, h3⟩
  · cases h

set_option maxHeartbeats 1000000 in
theorem refused_walk (c : Int) (w : World) (h0 : -9223372036854775808 ≤ c) (h1 : c ≤ 9223372036854775807) :
    Calls Try.prog 3 #[.int .i64 c] w fun e w' => e = .returned (.bool true) ∧ Below w.heap.size w w' := by
  go_enter Try.func3, Try.ntmps3
  go_wp2_with fail
  go_loop [3, 4] (fun d i => ∃ k : Nat, k ≤ 13 ∧ i = .int .i64 k ∧ d = .string (deepTo k)) (fun _ i => 14 - (intOf i).toNat)
  case atStart => exact ⟨0, by omega, rfl, rfl⟩
  case round =>
    obtain ⟨k, hk, rfl, rfl⟩ := hrel
    by_cases hlt : k < 13
    · have hz : (deepTo k).size ≤ 13 := by rw [deepTo_size]; omega
      go_wp2_with fail
      go_round
      case rel => exact ⟨k + 1, by omega, by go_num, rfl⟩
      case measure => simp [intOf]; omega
    · obtain rfl : k = 13 := by omega
      rw [deep13]
      go_wp2_with fail
      refine calls_abstract (fun W => W = w.alloc (.cells tabCells 24)) (by kernel_rfl) ?_
      rintro W hW
      have hbW : Below w.heap.size w W := by rw [hW]; exact (Below.refl _ _).alloc (Nat.le_refl _) _
      have hsW : w.heap.size < W.heap.size := by rw [hW]; simp
      have hcW : ∀ i, i < 16 → W.cell? ⟨w.heap.size, i * 3, none⟩ = some (.string (tabAt i).1) ∧ W.cell? ⟨w.heap.size, i * 3 + 1, none⟩ = some (.int .i64 (tabAt i).2.1) ∧ W.cell? ⟨w.heap.size, i * 3 + 2, none⟩ = some (.int .i64 (tabAt i).2.2) := by
        intro i hi
        obtain ⟨a, b, c⟩ := tabVals_at tab i hi
        rw [hW]
        exact ⟨cell_of_block (cells_new _ _) (by simpa [tabCells, tabAt] using a), cell_of_block (cells_new _ _) (by simpa [tabCells, tabAt] using b), cell_of_block (cells_new _ _) (by simpa [tabCells, tabAt] using c)⟩
      clear hW
      refine (pick_any c 16 _ h0 h1 (by omega) (by omega)).mono ?_
      rintro e w1 ⟨i, hi, rfl, rfl⟩
      obtain ⟨e0, e1, e2⟩ := hcW i hi
      obtain ⟨hp, hz⟩ := read_tab i hi
      clear hcW
      generalize tabAt i = X at *
      obtain ⟨t, er, pl⟩ := X
      simp only at e0 e1 e2 hp hz
      have HP := hideq hp
      clear hp
      go_wp2_with fail
      refine (exprRead_any 300 t _ (none, er, pl) (by unfold maxLen; omega) HP.out).mono ?_
      rintro e w2 ⟨v, rfl, hv, hb2⟩
      rw [show v = Value.pointer none from hv]
      have q1 : w2.cell? ⟨W.heap.size, 1, none⟩ = some (.int .i64 er) := by rw [hb2.cell (by simp)]; exact cell_of_block (cells_new _ _) rfl
      have q2 : w2.cell? ⟨W.heap.size, 2, none⟩ = some (.int .i64 pl) := by rw [hb2.cell (by simp)]; exact cell_of_block (cells_new _ _) rfl
      have hbf : Below w.heap.size w w2 := (hbW.alloc (by omega) _).trans (hb2.mono (by simp; omega))
      clear hb2 hbW e0 e1 e2 hv
      go_wp2_with fail
      go_ret
      exact ⟨rfl, hbf⟩

theorem own : ownKnob Try.prog.godebug = none := by kernel_rfl

set_option maxRecDepth 100000 in
theorem refused_lifted (os : Os) (started : os.Started) (H : Type) (enc : TypeId × Value → H) :
    ReturnsInHanded {} Try.checked os 3 .any (Rows.refusedSpec.pre6 enc Try.prog Try.f3 Rows.refusedRow.domain false) (Rows.refusedSpec.post enc Try.prog Try.f3 false true false false) := by
  refine returnsInHanded_of_change (C := Try.checked) own started (by kernel_rfl) Try.func3
    (ChangeSpec.witness6 (enc := enc) (C := Try.checked) false ⟨#[], #[.int .i64 0], []⟩ 8 (by kernel_rfl) (by kernel_rfl) (by kernel_rfl) (by kernel_rfl)) ?_
  intro W base args ds gs before hval0 hW hcnd _
  have hval : ∀ (j : Nat) t v, Try.f3.params[j]? = some t → args[j]? = some v → Value.okWide Try.prog W .any base t v := hval0
  have hW' := hW
  obtain ⟨p, q, hA0, hV, rfl, hfz, hnd⟩ := hW
  have hA : DataW.TrodAll enc Try.prog W 0 (fun _ => true) true Try.f3.params.toList args.toList ds p := hA0
  rw [Try.params3] at hA hval
  obtain ⟨v0, vs0, d0, ds0, p0, q0, hargs, rfl, rfl, h0, r0⟩ := trodAll_cons hA
  obtain ⟨rfl, rfl, rfl⟩ := trodAll_nil r0
  obtain rfl : args = #[v0] := by cases args; simp_all
  obtain ⟨rfl, rfl⟩ := trodVars_none hV
  obtain ⟨a0, rfl, rfl, rfl, w0⟩ := open_int Try.underlying3 (hval 0 3 v0 rfl rfl) h0
  clear hA0 hval0
  obtain ⟨b0, b1⟩ := bounds_i64 w0
  refine (refused_walk a0 W b0 b1).mono fun e W' ⟨he, bel⟩ => ?_
  subst he
  exact ⟨_, rfl, _, _, _, [], _, [], hW', trodAll_mk1 (shut_bool Try.underlying4 _), trodAll_cons_mk (shut_int Try.underlying3 w0) trodAll_mk0, rfl, bel.frame _, fun h => by cases h⟩

theorem refused_holds : Rows.RefusedSaid :=
  OpenClaim.holds_of_wide 3 Try.f3 rfl rfl rfl rfl rfl rfl rfl ⟨rfl, rfl, rfl, rfl, rfl⟩ rfl rfl rfl rfl rfl (by kernel_rfl) Try.func3 (by kernel_rfl)
    (of_decide_eq_true (by kernel_rfl)) (by unfold Func.isWrapper; first | (rw [if_pos (by decide +kernel)]; kernel_rfl) | (rw [if_neg (by decide +kernel)]; exact ⟨rfl, rfl⟩))
    (fun os started H enc _ => refused_lifted os started H enc)

end Go.Proofs.Ytmepffenlgedbaa
