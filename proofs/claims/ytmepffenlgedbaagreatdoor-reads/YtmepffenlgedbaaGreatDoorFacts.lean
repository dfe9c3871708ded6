/-
  PLAIN MATHEMATICS: what the words of a text are.
-/
import Derived.Test.YtmepffenlgedbaaGreatDoorRList
import Derived.Test.YtmepffenlgedbaaGreatDoorTotal
set_option linter.unusedSimpArgs false
namespace Go.Proofs.YtmepffenlgedbaaGreatDoor

theorem ext_list (s : ByteArray) (a e : Nat) : (s.extract a e).data.toList = (s.data.toList.take e).drop a := by
  rw [ByteArray.data_extract, Array.toList_extract]
  simp [List.extract, List.drop_take]

theorem ext_byte (s : ByteArray) (a e k : Nat) (h : a + k < e) : Rd.byteAt (s.extract a e) k = Rd.byteAt s (a + k) := by
  unfold Rd.byteAt
  rw [ext_list]
  simp [List.getD, List.getElem?_drop, List.getElem?_take, h]

theorem ext_kd (s : ByteArray) (a e : Nat) (h : a < e) (he : e ≤ s.size) : (s.extract a e).data.toList ≠ [] ∧ Rd.kd (s.extract a e).data.toList = Rd.kindOf (Rd.byteAt s a) := by
  have hl : (s.extract a e).data.toList.length = e - a := by
    rw [show (s.extract a e).data.toList.length = (s.extract a e).size from Array.length_toList, ByteArray.size_extract]
    omega
  have hb := ext_byte s a e 0 (by omega)
  cases hx : (s.extract a e).data.toList with
  | nil => rw [hx] at hl; simp at hl; omega
  | cons b r =>
    refine ⟨by simp, ?_⟩
    unfold Rd.byteAt at hb
    rw [hx] at hb
    simp only [List.getD_cons_zero, Nat.add_zero] at hb
    show Rd.kindOf (b.toNat : Int) = _
    rw [hb]
    rfl

theorem numEnd_dig (s : ByteArray) (a : Nat) : ∀ f e k, e ≤ k → k < Rd.numEnd s a f e → Rd.isDig (Rd.byteAt s k) = true := by
  intro f
  induction f with
  | zero => intro e k h1 h2; simp only [Rd.numEnd] at h2; omega
  | succ f ih =>
    intro e k h1 h2
    rw [Rd.numEnd] at h2
    cases hc : decide (e < s.size ∧ e - a < 9) && Rd.isDig (Rd.byteAt s e) with
    | false => rw [hc] at h2; simp only [cond_false] at h2; omega
    | true =>
      rw [hc] at h2
      simp only [Bool.and_eq_true] at hc
      rcases Nat.lt_or_ge e k with h3 | h3
      · exact ih (e + 1) k h3 h2
      · obtain rfl : e = k := by omega
        exact hc.2

theorem numEnd_nine' (s : ByteArray) (a : Nat) : ∀ f e, e ≤ a + 9 → Rd.numEnd s a f e ≤ a + 9 := by
  intro f
  induction f with
  | zero => intro e h; exact h
  | succ f ih =>
    intro e h
    unfold Rd.numEnd
    cases hc : decide (e < s.size ∧ e - a < 9) && Rd.isDig (Rd.byteAt s e) with
    | false => exact h
    | true =>
      simp only [Bool.and_eq_true, decide_eq_true_eq] at hc
      exact ih (e + 1) (by omega)

def wordOk (x : Rd.Wd) : Prop := x.text.data.toList ≠ [] ∧ x.kind = Rd.kd x.text.data.toList ∧ (x.kind = 1 → x.text.size ≤ 9 ∧ allDig x.text)

theorem word_ok (s : ByteArray) (a : Nat) (h : a < s.size) : wordOk ⟨Rd.kindOf (Rd.byteAt s a), s.extract a (Rd.wordEnd s a), a⟩ := by
  have h1 := Rd.wordEnd_lo s a
  have h2 := Rd.wordEnd_hi s a h
  obtain ⟨e1, e2⟩ := ext_kd s a (Rd.wordEnd s a) (by omega) h2
  refine ⟨e1, e2.symm, ?_⟩
  intro hk
  simp only at hk
  have hd : Rd.isDig (Rd.byteAt s a) = true := by
    cases hd : Rd.isDig (Rd.byteAt s a) with
    | true => rfl
    | false =>
      rw [Rd.kindOf, hd] at hk
      cases hl : Rd.isLet (Rd.byteAt s a) <;> simp [hl] at hk
  have hw : Rd.wordEnd s a = Rd.numEnd s a 9 (a + 1) := by rw [Rd.wordEnd, hd]; rfl
  have h9 := numEnd_nine' s a 9 (a + 1) (by omega)
  refine ⟨?_, ?_⟩
  · show (s.extract a (Rd.wordEnd s a)).size ≤ 9
    rw [ByteArray.size_extract, hw]
    omega
  · intro k hkk
    have hsz : (s.extract a (Rd.wordEnd s a)).size = Rd.wordEnd s a - a := by rw [ByteArray.size_extract]; omega
    have hkk' : k < (s.extract a (Rd.wordEnd s a)).size := hkk
    show Rd.isDig (Rd.byteAt (s.extract a (Rd.wordEnd s a)) k) = true
    rw [ext_byte s a _ k (by omega)]
    cases k with
    | zero => exact hd
    | succ k => exact numEnd_dig s a 9 (a + 1) (a + (k + 1)) (by omega) (by rw [← hw]; omega)

theorem split_form (s : ByteArray) : ∀ f a, s.size < f + a → a ≤ s.size → ∃ init, Rd.split s f a = init ++ [⟨0, ⟨#[]⟩, s.size⟩] ∧ init.length ≤ s.size - a ∧ ∀ x ∈ init, wordOk x := by
  intro f
  induction f with
  | zero => intro a h h'; omega
  | succ f ih =>
    intro a h h'
    rw [Rd.split]
    cases h1 : decide (a < s.size) with
    | false => exact ⟨[], rfl, Nat.zero_le _, fun x hx => by simp at hx⟩
    | true =>
      simp only [decide_eq_true_eq] at h1
      have e1 := Rd.wordEnd_lo s a
      have e2 := Rd.wordEnd_hi s a h1
      obtain ⟨init, i1, i2, i3⟩ := ih (Rd.wordEnd s a) (by omega) e2
      cases h2 : (Rd.byteAt s a != 32) with
      | false => exact ⟨init, i1, by omega, i3⟩
      | true =>
        refine ⟨⟨Rd.kindOf (Rd.byteAt s a), s.extract a (Rd.wordEnd s a), a⟩ :: init, ?_, by simp; omega, ?_⟩
        · simp only [cond_true, i1, List.cons_append]
        · intro x hx
          rcases List.mem_cons.1 hx with rfl | hx
          · exact word_ok s a h1
          · exact i3 x hx

/-- All that is asked of a list of words. -/
structure WsAll (ws : List Rd.Wd) (n : Nat) : Prop where
  len : ws.length ≤ n + 1
  pos : 0 < ws.length
  kind : Rd.KindOk ws
  dig : DigOk ws
  endk : Rd.EndK ws
  ends : EndOk ws
  last : Rd.txt ws (ws.length - 1) = []
  end1 : ∀ k, k < ws.length → Rd.txt ws k = [] → k = ws.length - 1

theorem form_all {init : List Rd.Wd} {e : Rd.Wd} {n : Nat} (h1 : ∀ x ∈ init, wordOk x) (h2 : init.length ≤ n) (e0 : e.kind = 0) (e1 : e.text = ⟨#[]⟩) : WsAll (init ++ [e]) n := by
  have hat : ∀ k, k < init.length → ∃ x ∈ init, Rd.wordAt (init ++ [e]) k = x := by
    intro k hk
    refine ⟨init[k], List.getElem_mem hk, ?_⟩
    unfold Rd.wordAt
    simp [List.getD, List.getElem?_append_left hk, List.getElem?_eq_getElem hk]
  have hend : ∀ k, ¬ k < init.length → (Rd.wordAt (init ++ [e]) k).kind = 0 ∧ (Rd.wordAt (init ++ [e]) k).text = ⟨#[]⟩ := by
    intro k hk
    rcases Nat.lt_or_ge k (init.length + 1) with h | h
    · obtain rfl : k = init.length := by omega
      have : Rd.wordAt (init ++ [e]) init.length = e := by unfold Rd.wordAt; simp [List.getD]
      rw [this]
      exact ⟨e0, e1⟩
    · have : Rd.wordAt (init ++ [e]) k = ⟨0, ⟨#[]⟩, 0⟩ := by unfold Rd.wordAt; simp [List.getD, List.getElem?_eq_none (show (init ++ [e]).length ≤ k by simp; omega)]
      rw [this]
      exact ⟨rfl, rfl⟩
  have hlen : (init ++ [e]).length = init.length + 1 := by simp
  have htx : ∀ k, Rd.txt (init ++ [e]) k ≠ [] → k < init.length := by
    intro k hk
    rcases Nat.lt_or_ge k init.length with h | h
    · exact h
    · exfalso; apply hk; unfold Rd.txt; rw [(hend k (by omega)).2]
  refine ⟨by rw [hlen]; omega, by rw [hlen]; omega, ?_, ?_, ?_, ⟨by rw [hlen]; omega, fun k hk => by have := htx k hk; rw [hlen]; omega⟩, ?_, ?_⟩
  · intro k
    by_cases hk : k < init.length
    · obtain ⟨x, hx, ex⟩ := hat k hk
      unfold Rd.txt
      rw [ex]
      exact (h1 x hx).2.1
    · unfold Rd.txt
      rw [(hend k hk).1, (hend k hk).2]
      rfl
  · intro k hk
    by_cases hk2 : k < init.length
    · obtain ⟨x, hx, ex⟩ := hat k hk2
      unfold Rd.txt at hk
      rw [ex] at hk ⊢
      exact (h1 x hx).2.2 ((h1 x hx).2.1.trans hk)
    · unfold Rd.txt at hk
      rw [(hend k hk2).2] at hk
      cases hk
  · intro k hk
    rcases Nat.lt_or_ge k init.length with h | h
    · rw [hlen]; omega
    · exact absurd (hend k (by omega)).1 hk
  · unfold Rd.txt
    rw [hlen, (hend (init.length + 1 - 1) (by omega)).2]
  · intro k hk hx
    rw [hlen] at hk ⊢
    rcases Nat.lt_or_ge k init.length with h | h
    · obtain ⟨x, hx', ex⟩ := hat k h
      unfold Rd.txt at hx
      rw [ex] at hx
      exact absurd hx (h1 x hx').1
    · omega

theorem split_all (s : ByteArray) : WsAll (Rd.split s (s.size + 1) 0) s.size := by
  obtain ⟨init, e1, e2, e3⟩ := split_form s (s.size + 1) 0 (by omega) (by omega)
  rw [e1]
  exact form_all e3 (by omega) rfl rfl

end Go.Proofs.YtmepffenlgedbaaGreatDoor
