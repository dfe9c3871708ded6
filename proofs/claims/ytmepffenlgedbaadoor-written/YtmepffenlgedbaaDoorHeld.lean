/-
  A REGION THAT DRAWS ITS ORDER, ITS LOADS TAKEN FIRST, where the region itself stores into what it has read: what is held of the world is asked for behind each operation but those that D leaves out (the store at the end, which waits for all loads).
-/
import Derived.Deep.RegionHeld3
namespace Go.Proofs.YtmepffenlgedbaaDoor
open Go

section
variable {P : Program} {ops : Array Oper} {Q : Exit → Act → World → Prop} {md : Region.Mode} {S : World → Prop} {D : Nat → Bool}

def wpAnyE (P : Program) (md : Region.Mode) (ops : Array Oper) (Q : Exit → Act → World → Prop) (S : World → Prop) (D : Nat → Bool) : Nat → Array Bool → Act → World → Prop
  | 0, listed, a, w => Region.ready md ops listed = [] ∧ Q .normal a w
  | fuel + 1, listed, a, w =>
    (Region.ready md ops listed = [] → Q .normal a w) ∧
    ∀ i ∈ Region.ready md ops listed, wpOp P ops Q i (fun a' w' => (D i = true → S w') ∧ wpAnyE P md ops Q S D fuel (listed.setIfInBounds i true) a' w') a w

theorem wpAny_of_E : ∀ (fuel : Nat) (listed : Array Bool) (a : Act) (w : World), wpAnyE P md ops Q S D fuel listed a w → wpAny P md ops Q fuel listed a w
  | 0, _, _, _, h => h
  | fuel + 1, _, _, _, h => ⟨h.1, fun i hi => wpOp_mono (fun a' w' h' => wpAny_of_E fuel _ a' w' h'.2) (h.2 i hi)⟩

/-- Whoever does not wait for i is one behind whom S is shown. -/
def waitB (md : Region.Mode) (ops : Array Oper) (D : Nat → Bool) (i : Nat) : Bool := (List.range ops.size).all fun j => D j || (match ops[j]? with
  | some o => o.after.any fun e => Region.binds md e && e.on == i
  | none => true)

theorem waitB_spec {i : Nat} (h : waitB md ops D i = true) (j : Nat) (oj : Oper) (hj : ops[j]? = some oj) (hn : ∀ e ∈ oj.after, Region.binds md e = true → e.on ≠ i) : D j = true := by
  have hlt : j < ops.size := (Array.getElem?_eq_some_iff.1 hj).1
  have := List.all_eq_true.1 h j (List.mem_range.2 hlt)
  rw [hj] at this
  rcases Bool.or_eq_true _ _ ▸ this with h1 | h1
  · exact h1
  · exfalso
    simp only [Array.any_eq_true, Bool.and_eq_true, beq_iff_eq] at h1
    obtain ⟨k, hk, h2, h3⟩ := h1
    exact hn _ (Array.getElem_mem hk) h2 h3

/-- Of two that may come up now neither waits for the other. -/
theorem no_wait {i j : Nat} {listed : Array Bool} {oj : Oper} (hi : i ∈ Region.ready md ops listed) (hj : j ∈ Region.ready md ops listed) (ho : ops[j]? = some oj) : ∀ e ∈ oj.after, Region.binds md e = true → e.on ≠ i := by
  intro e he hb heq
  obtain ⟨_, o, ho', hall⟩ := mem_ready.1 hj
  obtain rfl : oj = o := Option.some.inj (ho.symm.trans ho')
  have up := hall e he hb
  have down := (mem_ready.1 hi).1
  rw [heq, Array.getD_eq_getD_getElem?] at up
  rw [Array.getD_eq_getD_getElem?] at down
  cases hx : listed[i]? with
  | none => rw [hx] at up; cases up
  | some b =>
    rw [hx] at up down
    have e1 : b = true := up
    have e2 : b = false := down
    rw [e1] at e2
    cases e2

/-- Whoever has not come up and does not wait for i is apart from it. -/
def Fr (md : Region.Mode) (ops : Array Oper) (i : Nat) (oi : Oper) (listed : Array Bool) : Prop :=
  ∀ j oj, ops[j]? = some oj → j ≠ i → listed.getD j true = false → (∀ e ∈ oj.after, Region.binds md e = true → e.on ≠ i) → oi.apart ops oj = true

theorem Fr.set {i : Nat} {oi : Oper} {listed : Array Bool} (h : Fr md ops i oi listed) (j : Nat) (hj : listed.getD j true = false) : Fr md ops i oi (listed.setIfInBounds j true) := by
  intro k ok hk hki hun hno
  rcases Nat.decEq j k with ne | rfl
  · exact h k ok hk hki ((getD_set_ne true ne).symm.trans hun) hno
  · exact h j ok hk hki hj hno

/-- An operation that yields its value in every world that meets S may be taken first, if S is shown behind each that could come before it. -/
theorem wpAnyE_first {i : Nat} {oi : Oper} {v : Value} (hD : waitB md ops D i = true) (hi : ops[i]? = some oi) (hsel : ∀ (j : Nat) (o : Oper) cs b, ops[j]? = some o → o.op ≠ .select cs b)
    (hQ : ∀ c a w, Q (.panic c) (a.put oi.dst v) w → Q (.panic c) a w) (fuel : Nat) : ∀ (listed : Array Bool) (a : Act) (w : World),
      Fr md ops i oi listed → i ∈ Region.ready md ops listed → YieldsIf P ops S oi v a → S w →
      wpAnyE P md ops Q S D fuel (listed.setIfInBounds i true) (a.put oi.dst v) w → wpAnyE P md ops Q S D (fuel + 1) listed a w := by
  induction fuel with
  | zero =>
    intro listed a w _ hr hy hS H
    constructor
    · intro h0
      rw [h0] at hr
      exact absurd hr (by simp)
    · intro j hj
      rcases Nat.decEq j i with ne | rfl
      · have := ready_mono hj ne
        rw [H.1] at this
        exact absurd this (by simp)
      · exact hy.wpOp hi hS ⟨fun _ => hS, H⟩
  | succ fuel ih =>
    intro listed a w hfree hr hy hS H
    constructor
    · intro h0
      rw [h0] at hr
      exact absurd hr (by simp)
    · intro j hj
      rcases Nat.decEq j i with ne | rfl
      · obtain ⟨hjun, oj, hoj, _⟩ := mem_ready.1 hj
        have free := no_wait hr hj hoj
        have step := wpOp_putIf hoj (hfree j oj hoj ne hjun free) (fun cs b => hsel i oi cs b hi) (fun cs b => hsel j oj cs b hoj) hQ hy (H.2 j (ready_mono hj ne))
        refine wpOp_mono ?_ step
        rintro a' w' ⟨y, s, rest⟩
        refine ⟨s, ih _ a' w' (hfree.set j hjun) (ready_mono hr (Ne.symm ne)) y (s (waitB_spec hD j oj hoj free)) ?_⟩
        rw [Array.setIfInBounds_comm _ _ ne]
        exact rest
      · exact hy.wpOp hi hS ⟨fun _ => hS, H⟩

/-- Take number i first. -/
theorem wpAnyE_take {i : Nat} {oi : Oper} {v : Value} {fuel : Nat} {listed : Array Bool} {a : Act} {w : World} (hi : ops[i]? = some oi) (hD : waitB md ops D i = true)
    (hs : Region.noSelect ops = true) (hf : Region.free md ops listed i = true) (hr : (Region.ready md ops listed).contains i = true)
    (hQ : ∀ c a w, Q (.panic c) (a.put oi.dst v) w → Q (.panic c) a w) (hy : YieldsIf P ops S oi v a) (hS : S w)
    (h : wpAnyE P md ops Q S D fuel (listed.setIfInBounds i true) (a.put oi.dst v) w) : wpAnyE P md ops Q S D (fuel + 1) listed a w :=
  wpAnyE_first hD hi (Region.noSelect_spec hs) hQ fuel listed a w (Region.free_spec hi hf) (by simpa using hr) hy hS h

/-- The one operation that may come up comes up. -/
theorem wpAnyE_one {i : Nat} {o : Oper} {fuel : Nat} {listed : Array Bool} {a : Act} {w : World} (hr : Region.ready md ops listed = [i]) (ho : ops[i]? = some o)
    (h : ∀ K' : Act → World → Prop, Shut (∀ a w, (D i = true → S w) → wpAnyE P md ops Q S D fuel (listed.setIfInBounds i true) a w → K' a w) → if Region.wanted o (yielded ops a.tmps) = true then Oper.wp P o a w K' Q else K' (a.put o.dst undef) w) :
    wpAnyE P md ops Q S D (fuel + 1) listed a w := by
  refine ⟨(fun h0 => by rw [hr] at h0; cases h0), fun j hj => ?_⟩
  rw [hr] at hj
  obtain rfl := List.mem_singleton.1 hj
  exact wpOp_step ho (fun K' hK => h K' (fun a w hS hW => hK a w ⟨hS, hW⟩))

/-- Two may come up. -/
theorem wpAnyE_two {i j : Nat} {o o' : Oper} {fuel : Nat} {listed : Array Bool} {a : Act} {w : World} (hr : Region.ready md ops listed = [i, j]) (ho : ops[i]? = some o) (ho' : ops[j]? = some o')
    (h : ∀ K' : Act → World → Prop, Shut (∀ a w, (D i = true → S w) → wpAnyE P md ops Q S D fuel (listed.setIfInBounds i true) a w → K' a w) → if Region.wanted o (yielded ops a.tmps) = true then Oper.wp P o a w K' Q else K' (a.put o.dst undef) w)
    (h' : ∀ K' : Act → World → Prop, Shut (∀ a w, (D j = true → S w) → wpAnyE P md ops Q S D fuel (listed.setIfInBounds j true) a w → K' a w) → if Region.wanted o' (yielded ops a.tmps) = true then Oper.wp P o' a w K' Q else K' (a.put o'.dst undef) w) :
    wpAnyE P md ops Q S D (fuel + 1) listed a w := by
  refine ⟨(fun h0 => by rw [hr] at h0; cases h0), fun k hk => ?_⟩
  rw [hr] at hk
  rcases List.mem_cons.1 hk with rfl | hk
  · exact wpOp_step ho (fun K' hK => h K' (fun a w hS hW => hK a w ⟨hS, hW⟩))
  · obtain rfl := List.mem_singleton.1 hk
    exact wpOp_step ho' (fun K' hK => h' K' (fun a w hS hW => hK a w ⟨hS, hW⟩))

theorem wpAnyE_done {listed : Array Bool} {a : Act} {w : World} (hr : Region.ready md ops listed = []) (h : Q .normal a w) :
    ∀ fuel, wpAnyE P md ops Q S D fuel listed a w
  | 0 => ⟨hr, h⟩
  | _ + 1 => ⟨fun _ => h, by rw [hr]; simp⟩

theorem wp_region_E {id : Nat} {a : Act} {w : World} (S : World → Prop) (D : Nat → Bool) (hm : P.follows .mixedOrders = true)
    (h : wpAnyE P .any ops Q S D ops.size (Array.replicate ops.size false) a w.drew) : (Code.region id ops true).wp P Q a w :=
  wp_region_any hm (wpAny_of_E _ _ _ _ h)

end
end Go.Proofs.YtmepffenlgedbaaDoor
