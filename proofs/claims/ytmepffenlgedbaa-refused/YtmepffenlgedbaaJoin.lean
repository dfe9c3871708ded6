/-
  THE PARSER's CONTRACT, all methods by one induction on the fuel; newReader, tree.Read, reals.Read.
-/
import Derived.Test.YtmepffenlgedbaaSum
import Derived.Test.YtmepffenlgedbaaProduct
import Derived.Test.YtmepffenlgedbaaAtom
set_option linter.unusedSimpArgs false
namespace Go.Proofs.Ytmepffenlgedbaa
open Go.RowKit

theorem all_said (rb g cap : Nat) (ws : List Rd.Wd) (hws : WsOk ws) : ∀ n f, f ≤ n →
    Said rb g cap ws 8 0 f ∧ Said rb g cap ws 11 2 f ∧ Said rb g cap ws 17 4 f ∧ Said rb g cap ws 20 5 f ∧ Said rb g cap ws 26 6 f := by
  intro n
  induction n with
  | zero =>
    intro f hf
    obtain rfl : f = 0 := by omega
    refine ⟨?_, ?_, ?_, ?_, ?_⟩ <;> (intro w st res st' _ hp; cases hp)
  | succ n ih =>
    intro f hf
    have lt : ∀ k, k < f → k ≤ n := fun k hk => by omega
    exact ⟨sum_step rb g cap ws f (fun k hk => (ih k (lt k hk)).2.1), product_step rb g cap ws f (fun k hk => (ih k (lt k hk)).2.2.1),
      signed_step rb g cap ws f (fun k hk => (ih k (lt k hk)).2.2.1) (fun k hk => (ih k (lt k hk)).2.2.2.1),
      atom_step rb g cap ws f hws (fun k hk => (ih k (lt k hk)).2.2.2.2), brackets_step rb g cap ws f (fun k hk => (ih k (lt k hk)).1)⟩

/-- The words of a text that are numbers have nine digits at most. -/
theorem numEnd_nine (s : ByteArray) (a : Nat) : ∀ f e, e ≤ a + 9 → Rd.numEnd s a f e ≤ a + 9 := by
  intro f
  induction f with
  | zero => intro e h; exact h
  | succ f ih =>
    intro e h
    unfold Rd.numEnd
    cases hc : decide (e < s.size ∧ e - a < 9) && Rd.isDig (Rd.byteAt s e) with
    | false => exact h
    | true =>
      simp only [Bool.and_eq_true, decide_eq_true_eq] at hc
      exact ih (e + 1) (by omega)

theorem split_nine (s : ByteArray) : ∀ f a, ∀ x ∈ Rd.split s f a, x.kind = 1 → x.text.size ≤ 9 := by
  intro f
  induction f with
  | zero => intro a x hx; simp [Rd.split] at hx
  | succ f ih =>
    intro a x hx
    rw [Rd.split] at hx
    cases h1 : decide (a < s.size) with
    | false =>
      rw [h1] at hx
      simp at hx
      subst hx
      intro h
      simp at h
    | true =>
      rw [h1] at hx
      simp only [decide_eq_true_eq] at h1
      cases h2 : (Rd.byteAt s a != 32) with
      | false =>
        rw [h2] at hx
        exact ih _ x hx
      | true =>
        rw [h2] at hx
        simp only [cond_true, List.mem_cons] at hx
        rcases hx with rfl | hx
        · intro hk
          simp only at hk
          have hd : Rd.isDig (Rd.byteAt s a) = true := by
            cases hd : Rd.isDig (Rd.byteAt s a) with
            | true => rfl
            | false =>
              rw [Rd.kindOf, hd] at hk
              cases hl : Rd.isLet (Rd.byteAt s a) <;> simp [hl] at hk
          have he : Rd.wordEnd s a ≤ a + 9 := by
            rw [Rd.wordEnd, hd]
            exact numEnd_nine s a 9 (a + 1) (by omega)
          show (s.extract a (Rd.wordEnd s a)).size ≤ 9
          rw [ByteArray.size_extract]
          omega
        · exact ih _ x hx

theorem split_ok (s : ByteArray) (f a : Nat) : WsOk (Rd.split s f a) := by
  intro n hk
  unfold Rd.wordAt at *
  rcases Nat.lt_or_ge n (Rd.split s f a).length with h | h
  · rw [show (Rd.split s f a).getD n ⟨0, ⟨#[]⟩, 0⟩ = (Rd.split s f a)[n] by simp [List.getD, h]] at *
    exact split_nine s f a _ (List.getElem_mem h) hk
  · rw [show (Rd.split s f a).getD n ⟨0, ⟨#[]⟩, 0⟩ = ⟨0, ⟨#[]⟩, 0⟩ by simp [List.getD, h]] at hk
    simp at hk

theorem split_pos (s : ByteArray) : ∀ f a, s.size < f + a → a ≤ s.size → 0 < (Rd.split s f a).length := by
  intro f
  induction f with
  | zero => intro a h h'; omega
  | succ f ih =>
    intro a h h'
    rw [Rd.split]
    cases h1 : decide (a < s.size) with
    | false => simp
    | true =>
      simp only [decide_eq_true_eq] at h1
      cases h2 : (Rd.byteAt s a != 32) with
      | true => simp
      | false =>
        have e1 := Rd.wordEnd_lo s a
        have e2 := Rd.wordEnd_hi s a h1
        exact ih _ (by omega) e2

set_option maxHeartbeats 400000 in
theorem newReader_any (s : ByteArray) (w : World) (hs : s.size ≤ 120) :
    Calls Try.prog 7 #[.string s] w fun e w' => ∃ rb g cap, e = .returned (.pointer (some ⟨rb, 0, none⟩)) ∧ w.heap.size ≤ rb ∧ Rdr w' rb g cap (Rd.split s (s.size + 1) 0) ⟨0, 0, 0, 0⟩ ∧ Below w.heap.size w w' := by
  have hpos := split_pos s (s.size + 1) 0 (by omega) (by omega)
  have SP := hideq (split_any s w hs)
  generalize Rd.split s (s.size + 1) 0 = ws at *
  go_enter Try.func7, Try.ntmps7
  go_wp2_with fail
  refine (SP.out).mono ?_
  rintro e w1 ⟨v, rfl, hown, hb⟩
  obtain ⟨g, cap, cur, hv, hg, hh, hrow⟩ : ∃ g cap cur, v = .slice (some ⟨g, 0, none⟩) ws.length cap ∧ w.heap.size ≤ g ∧ w1.heap[g]? = some (.cells cur 41 (0, 0)) ∧ cur.toList.take (ws.length * 3) = Rd.wcells ws := by
    rcases hown.2 with ⟨_, h⟩ | ⟨g, cap, cur, h1, h2, h3, _, _, _, h4⟩
    · omega
    · exact ⟨g, cap, cur, h1, h2, h3, h4⟩
  rw [hv]
  have hsz := hb.size
  have hglt := heap_lt hh
  have HH := hideq hh
  have HR := hideq hrow
  clear hv hown hh hrow
  go_wp2_with fail
  go_ret
  refine ⟨w1.heap.size, g, cap, rfl, hsz, ⟨cells_new _ _, ⟨cur, ?_, HR.out⟩, by omega⟩, hb.alloc hsz _⟩
  rw [Below.heap_alloc _ _ _ hglt]
  exact HH.out

theorem below_keep {B rb : Nat} {w w1 w2 : World} (h : Below B w w1) (hk : Keep rb w1 w2) (hB : B ≤ rb) (hs : B ≤ w1.heap.size) : Below B w w2 :=
  h.trans ⟨hk.os, hk.tape, hk.output, hk.size, fun k hk' => hk.block k (by omega) (by omega)⟩

/-- What tree.Read answers. -/
def ReadPost (w : World) (x : Option Rd.Tr × Int × Int) (e : Ending) (w' : World) : Prop :=
  ∃ rb v, e = .returned (.tuple #[v, .int .i64 x.2.1, .int .i64 x.2.2]) ∧ w.heap.size ≤ rb ∧ EncO rb w' x.1 v ∧ Below w.heap.size w w'

set_option maxHeartbeats 1000000 in
theorem treeRead_any (f : Nat) (s : ByteArray) (w : World) (x : Option Rd.Tr × Int × Int) (hm : s.size ≤ maxLen) (hp : Rd.read f s = some x) : Calls Try.prog 6 #[.string s] w (ReadPost w x) := by
  unfold maxLen at hm
  unfold Rd.read at hp
  by_cases hs : 120 < s.size
  · rw [decide_eq_true hs] at hp
    simp only [cond_true, Option.some.injEq] at hp
    subst hp
    go_enter Try.func6, Try.ntmps6
    go_wp2_with fail
    go_ret3
    exact ⟨_, _, rfl, Nat.le_refl _, rfl, Below.refl _ _⟩
  · rw [decide_eq_false hs] at hp
    simp only [cond_false] at hp
    have hws := split_ok s (s.size + 1) 0
    generalize hP : Rd.parse (Rd.split s (s.size + 1) 0) f 0 none ⟨0, 0, 0, 0⟩ = R at hp
    have NR := hideq (newReader_any s w (by omega))
    generalize Rd.split s (s.size + 1) 0 = ws at *
    have HWS := hideq hws
    have HPP := hideq hP
    clear hws hP
    cases R with
    | none => cases hp
    | some y =>
      obtain ⟨t, st⟩ := y
      have WX : Hid (∀ W rb g cap, Rdr W rb g cap ws st → Calls Try.prog 9 #[.pointer (some ⟨rb, 0, none⟩)] W fun e w' => e = .returned (.agg #[.int .i64 (Rd.wordAt ws st.next).kind, .string (Rd.wordAt ws st.next).text, .int .i64 (Rd.wordAt ws st.next).pos]) ∧ Below W.heap.size W w') := fun W rb g cap hW => word_any W rb g cap ws st hW
      cases t with
      | none =>
        simp only [Option.some.injEq] at hp
        generalize Rd.wordAt ws st.next = x at *
        subst hp
        go_enter Try.func6, Try.ntmps6
        go_wp2_with fail
        refine (NR.out).mono ?_
        rintro e w1 ⟨rb, g, cap, rfl, hrb, hR1, hb1⟩
        go_wp2_with fail
        refine ((all_said rb g cap ws HWS.out f f (Nat.le_refl _)).1 _ _ _ st hR1 HPP.out).mono ?_
        rintro e w2 ⟨v2, rfl, hE2, hR2, hK2⟩
        have hb2 := below_keep hb1 hK2 hrb hb1.size
        have hsz2 := hb2.size
        rw [show v2 = Value.pointer none from hE2]
        go_wp2_with fail
        refine (WX.out _ _ _ _ hR2).mono ?_
        rintro e w3 ⟨rfl, hb3⟩
        have hsz3 := hb3.size
        go_wp2_with fail
        go_quiet (fail)
        go_wp2_with fail
        go_ret3
        exact ⟨rb, _, rfl, hrb, rfl, below_drewN ((hb2.trans (hb3.mono hsz2)).alloc (by omega) _) _⟩
      | some t =>
        simp only at hp
        generalize Rd.wordAt ws st.next = x at *
        cases u1 : (x.kind == 0)
        · have u1' : (x.kind != 0) = true := by simp [bne, u1]
          rw [u1] at hp
          simp only [cond_false, Option.some.injEq] at hp
          subst hp
          go_enter Try.func6, Try.ntmps6
          go_wp2_with fail
          refine (NR.out).mono ?_
          rintro e w1 ⟨rb, g, cap, rfl, hrb, hR1, hb1⟩
          go_wp2_with fail
          refine ((all_said rb g cap ws HWS.out f f (Nat.le_refl _)).1 _ _ _ st hR1 HPP.out).mono ?_
          rintro e w2 ⟨v2, rfl, hE2, hR2, hK2⟩
          have hb2 := below_keep hb1 hK2 hrb hb1.size
          have hsz2 := hb2.size
          obtain ⟨⟨b5, hb5⟩, hE6⟩ := hE2
          rw [hb5]
          rw [hb5] at hE6
          clear hb5
          go_wp2_with fail
          refine (WX.out _ _ _ _ hR2).mono ?_
          rintro e w3 ⟨rfl, hb3⟩
          have hsz3 := hb3.size
          have hb4 : Below w.heap.size w w3 := hb2.trans (hb3.mono hsz2)
          have hR3 := hR2.below hb3
          have d3 := hR3.c3
          have d4 := hR3.c4
          have l3 := hR3.lt
          clear hb1 hR1 hK2 hb2
          go_wp2_with fail
          go_quiet (fail)
          go_wp2_with fail
          go_ret3
          exact ⟨rb, _, rfl, hrb, rfl, below_drewN (hb4.alloc (by omega) _) _⟩
        · have u1' : (x.kind != 0) = false := by simp [bne, u1]
          rw [u1] at hp
          simp only [cond_true] at hp
          by_cases u2 : (12 : Int) < st.deepest
          · rw [decide_eq_true (show 12 < st.deepest by omega)] at hp
            simp only [Bool.true_or, cond_true, Option.some.injEq] at hp
            subst hp
            go_enter Try.func6, Try.ntmps6
            go_wp2_with fail
            refine (NR.out).mono ?_
            rintro e w1 ⟨rb, g, cap, rfl, hrb, hR1, hb1⟩
            go_wp2_with fail
            refine ((all_said rb g cap ws HWS.out f f (Nat.le_refl _)).1 _ _ _ st hR1 HPP.out).mono ?_
            rintro e w2 ⟨v2, rfl, hE2, hR2, hK2⟩
            have hb2 := below_keep hb1 hK2 hrb hb1.size
            have hsz2 := hb2.size
            obtain ⟨⟨b5, hb5⟩, hE6⟩ := hE2
            rw [hb5]
            rw [hb5] at hE6
            clear hb5
            go_wp2_with fail
            refine (WX.out _ _ _ _ hR2).mono ?_
            rintro e w3 ⟨rfl, hb3⟩
            have hsz3 := hb3.size
            have hb4 : Below w.heap.size w w3 := hb2.trans (hb3.mono hsz2)
            have hR3 := hR2.below hb3
            have d3 := hR3.c3
            have d4 := hR3.c4
            have l3 := hR3.lt
            clear hb1 hR1 hK2 hb2
            go_wp2_with fail
            go_ret3
            exact ⟨rb, _, rfl, hrb, rfl, hb4.alloc (by omega) _⟩
          · rw [decide_eq_false (show ¬ 12 < st.deepest by omega)] at hp
            by_cases u3 : (40 : Int) < st.nodes
            · rw [decide_eq_true (show 40 < st.nodes by omega)] at hp
              simp only [Bool.or_true, cond_true, Option.some.injEq] at hp
              subst hp
              go_enter Try.func6, Try.ntmps6
              go_wp2_with fail
              refine (NR.out).mono ?_
              rintro e w1 ⟨rb, g, cap, rfl, hrb, hR1, hb1⟩
              go_wp2_with fail
              refine ((all_said rb g cap ws HWS.out f f (Nat.le_refl _)).1 _ _ _ st hR1 HPP.out).mono ?_
              rintro e w2 ⟨v2, rfl, hE2, hR2, hK2⟩
              have hb2 := below_keep hb1 hK2 hrb hb1.size
              have hsz2 := hb2.size
              obtain ⟨⟨b5, hb5⟩, hE6⟩ := hE2
              rw [hb5]
              rw [hb5] at hE6
              clear hb5
              go_wp2_with fail
              refine (WX.out _ _ _ _ hR2).mono ?_
              rintro e w3 ⟨rfl, hb3⟩
              have hsz3 := hb3.size
              have hb4 : Below w.heap.size w w3 := hb2.trans (hb3.mono hsz2)
              have hR3 := hR2.below hb3
              have d3 := hR3.c3
              have d4 := hR3.c4
              have l3 := hR3.lt
              clear hb1 hR1 hK2 hb2
              go_wp2_with fail
              go_ret3
              exact ⟨rb, _, rfl, hrb, rfl, hb4.alloc (by omega) _⟩
            · rw [decide_eq_false (show ¬ 40 < st.nodes by omega)] at hp
              simp only [Bool.or_false, cond_false, Option.some.injEq] at hp
              subst hp
              go_enter Try.func6, Try.ntmps6
              go_wp2_with fail
              refine (NR.out).mono ?_
              rintro e w1 ⟨rb, g, cap, rfl, hrb, hR1, hb1⟩
              go_wp2_with fail
              refine ((all_said rb g cap ws HWS.out f f (Nat.le_refl _)).1 _ _ _ st hR1 HPP.out).mono ?_
              rintro e w2 ⟨v2, rfl, hE2, hR2, hK2⟩
              have hb2 := below_keep hb1 hK2 hrb hb1.size
              have hsz2 := hb2.size
              obtain ⟨⟨b5, hb5⟩, hE6⟩ := hE2
              rw [hb5]
              rw [hb5] at hE6
              clear hb5
              go_wp2_with fail
              refine (WX.out _ _ _ _ hR2).mono ?_
              rintro e w3 ⟨rfl, hb3⟩
              have hsz3 := hb3.size
              have hb4 : Below w.heap.size w w3 := hb2.trans (hb3.mono hsz2)
              have hR3 := hR2.below hb3
              have d3 := hR3.c3
              have d4 := hR3.c4
              have l3 := hR3.lt
              clear hb1 hR1 hK2 hb2
              go_wp2_with fail
              go_ret3
              exact ⟨rb, _, rfl, hrb, ⟨⟨b5, rfl⟩, Enc.keep ((Keep.of_below hb3).alloc _) hE6⟩, hb4.alloc (by omega) _⟩

end Go.Proofs.Ytmepffenlgedbaa
