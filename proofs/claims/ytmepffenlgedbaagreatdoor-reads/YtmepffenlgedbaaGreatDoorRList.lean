/-
  THE WALK of (reads).list.
-/
import Derived.Test.YtmepffenlgedbaaGreatDoorRSmall
set_option linter.unusedSimpArgs false
namespace Go.Proofs.YtmepffenlgedbaaGreatDoor
open Go.RowKit

/-- Behind a word that is none there is no word. -/
def EndOk (ws : List Rd.Wd) : Prop := 0 < ws.length ∧ ∀ n, Rd.txt ws n ≠ [] → n + 1 < ws.length
/-- Words that open with a digit are numbers of at most nine digits. -/
def DigOk (ws : List Rd.Wd) : Prop := ∀ n, Rd.kd (Rd.txt ws n) = 1 → (Rd.wordAt ws n).text.size ≤ 9 ∧ allDig (Rd.wordAt ws n).text

theorem block_keep {rb b : Nat} {w w' : World} {o : Obj} (hk : Keep rb w w') (h : w.heap[b]? = some o) (hn : b ≠ rb) : w'.heap[b]? = some o := by
  rw [hk.block b (heap_lt h) hn]
  exact h

theorem hide1 {p : Prop} (h : p) : Hid p := h

theorem cells_new (w : World) (o : Obj) : (w.alloc o).heap[w.heap.size]? = some o := by
  show (w.heap.push o)[w.heap.size]? = some o
  simp

theorem empty_of {t : ByteArray} (h : ¬ 0 < t.size) : t = ⟨#[]⟩ := by
  obtain ⟨d⟩ := t
  have : d.size = 0 := by have : ¬ 0 < d.size := h; omega
  rw [Array.eq_empty_of_size_eq_zero this]

theorem nonempty_of {t : ByteArray} (h : 0 < t.size) : (t.toList == []) = false ∧ t.toList.isEmpty = false := by
  rw [ByteArray.toList_eq]
  obtain ⟨d⟩ := t
  obtain ⟨l⟩ := d
  cases l with
  | nil => exact absurd h (by simp [ByteArray.size])
  | cons b r => exact ⟨rfl, rfl⟩

theorem kd_first {t : ByteArray} (h : 0 < t.size) : (Rd.kd t.data.toList == 1) = Rd.isDig (t[0].toNat : Int) := by
  obtain ⟨d⟩ := t
  obtain ⟨l⟩ := d
  cases l with
  | nil => exact absurd h (by simp [ByteArray.size])
  | cons b r =>
    show (Rd.kindOf (b.toNat : Int) == 1) = Rd.isDig (b.toNat : Int)
    unfold Rd.kindOf
    cases Rd.isDig (b.toNat : Int) <;> cases Rd.isLet (b.toNat : Int) <;> rfl

theorem kd_empty : (Rd.kd (⟨#[]⟩ : ByteArray).data.toList == 1) = false := rfl

theorem txt_is {ws : List Rd.Wd} {n : Nat} {c : List UInt8} {b : Bool} (h : ((Rd.wordAt ws n).text.toList == c) = b) : (Rd.txt ws n == c) = b := by
  rw [ByteArray.toList_eq] at h
  exact h

/-- The plain list, from its first three words on. -/
def listRel (rb g cap : Nat) (ws : List Rd.Wd) (a : Nat) (w : World) (i : Value) (wr : World) : Prop :=
  ∃ k : Nat, k ≤ 3 ∧ i = .int .i64 k ∧ RRd wr rb g cap ws (a + k) ∧ a + k < ws.length ∧ Keep rb w wr ∧ (k < 3 → Rd.txt ws (a + k) ≠ []) ∧ (1 ≤ k → (Rd.txt ws (a + 1) == [91]) = true) ∧ (2 ≤ k → (Rd.kd (Rd.txt ws (a + 2)) == 1) = true) ∧ (3 ≤ k → (Rd.txt ws (a + 3) == [59]) = true)

/-- The terms, from the c-th on. -/
def list2Rel (rb g cap : Nat) (ws : List Rd.Wd) (w : World) (R : Bool × Nat) (i : Value) (wr : World) : Prop :=
  ∃ (c a : Nat), i = .int .i64 c ∧ 1 ≤ c ∧ c ≤ 8 ∧ RRd wr rb g cap ws a ∧ Rd.txt ws a ≠ [] ∧ Keep rb w wr ∧ Rd.listEnd ws (9 - c) a = R

theorem beq_ne {t : List UInt8} {b : UInt8} {r : List UInt8} (h : (t == b :: r) = true) : t ≠ [] := by
  intro e; rw [e] at h; cases h

theorem kd_ne {t : List UInt8} (h : (Rd.kd t == 1) = true) : t ≠ [] := by
  intro e; rw [e] at h; cases h

set_option maxRecDepth 100000 in
set_option maxHeartbeats 4000000 in
theorem rlist_any (w : World) (rb g cap : Nat) (ws : List Rd.Wd) (a : Nat) (h : RRd w rb g cap ws a) (hl : ws.length ≤ 121) (he : EndOk ws) (hd : DigOk ws) (ha : Rd.txt ws a ≠ []) :
    Calls Tryz.prog 37 #[.pointer (some ⟨rb, 0, none⟩)] w fun e w' => e = .returned (.bool (Rd.listM ws a).1) ∧ RRd w' rb g cap ws (Rd.listM ws a).2 ∧ Keep rb w w' := by
  have hrb := h.lt
  have ha1 := he.2 a ha
  have HE : Hid (EndOk ws) := he
  have HD : Hid (DigOk ws) := hd
  have HA : Hid (Rd.txt ws a ≠ []) := ha
  have hK0 : Keep rb w (w.alloc (.cells #[.string ⟨#[91]⟩, .string ⟨#[48]⟩, .string ⟨#[59]⟩] 9)) := (Keep.refl _ _).alloc _
  clear he hd ha
  go_enter Tryz.func37, Tryz.ntmps37
  go_wp2_with fail
  go_loopw [11] (fun i wr => listRel rb g cap ws a (w.alloc (.cells #[.string ⟨#[91]⟩, .string ⟨#[48]⟩, .string ⟨#[59]⟩] 9)) i wr) (fun i _ => 3 - (intOf i).toNat)
  case atStart => exact ⟨0, by omega, rfl, h.alloc _, by omega, Keep.refl _ _, fun _ => HA.out, fun h => by omega, fun h => by omega, fun h => by omega⟩
  case round =>
    obtain ⟨k, hk, rfl, hR, hlt, hK, q0, q1, q2, q3⟩ := hrel
    have hblk := block_keep (b := w.heap.size) hK (cells_new _ _) (by omega)
    have x0 : wr.cell? ⟨w.heap.size, 0, none⟩ = some (.string ⟨#[91]⟩) := cell_of_block hblk rfl
    have x1 : wr.cell? ⟨w.heap.size, 1, none⟩ = some (.string ⟨#[48]⟩) := cell_of_block hblk rfl
    have x2 : wr.cell? ⟨w.heap.size, 2, none⟩ = some (.string ⟨#[59]⟩) := cell_of_block hblk rfl
    have d1 := hR.c1
    have f1 := hR.fz 1
    have l1 := hR.lt
    have hK' := hK0.trans hK
    have Q0 := hide1 q0
    have Q1 := hide1 q1
    have Q2 := hide1 q2
    have Q3 := hide1 q3
    clear hblk q0 q1 q2 q3 h
    rcases (show k = 0 ∨ k = 1 ∨ k = 2 ∨ k = 3 by omega) with rfl | rfl | rfl | rfl
    · have hn1 : a + 1 < ws.length := HE.out.2 (a + 0) (Q0.out (by omega))
      have hR1 := hR.set1 (m := (↑(a + 0) + 1)) (a + 1) (by simp; try omega)
      have HT := hide1 (rt_any _ rb g cap ws (a + 1) hR1 hn1)
      have UT : Hid (∀ c b, ((Rd.wordAt ws (a + 1)).text.toList == c) = b → (Rd.txt ws (a + 1) == c) = b) := fun c b h => txt_is h
      have UK : Hid (Rd.kd (Rd.txt ws (a + 1)) = Rd.kd (Rd.wordAt ws (a + 1)).text.data.toList) := rfl
      generalize (Rd.wordAt ws (a + 1)).text = t at *
      cases u : (t.toList == [91])
      · by_cases hz : 0 < t.size
        · obtain ⟨z1, z2⟩ := nonempty_of hz
          go_wp2_with fail
          refine (HT.out).mono ?_
          rintro e w1 ⟨rfl, hb⟩
          have HR2 := hide1 (hR1.below hb)
          have HK2 := hide1 ((hK'.setCell 1 _).trans (Keep.of_below hb))
          go_wp2_with (go_at_call 34; refine (rdigit_any _ _).mono ?_; rintro e w' ⟨rfl, rfl⟩)
          go_ret
          have e1 := UT.out _ _ u
          exact (by rw [Rd.listM, e1]; exact ⟨rfl, HR2.out, HK2.out⟩)
        · have hz' := empty_of hz
          subst hz'
          clear hz u
          go_wp2_with fail
          refine (HT.out).mono ?_
          rintro e w1 ⟨rfl, hb⟩
          have HR2 := hide1 (hR1.below hb)
          have HK2 := hide1 ((hK'.setCell 1 _).trans (Keep.of_below hb))
          go_wp2_with (go_at_call 34; refine (rdigit_any _ _).mono ?_; rintro e w' ⟨rfl, rfl⟩)
          go_ret
          have e1 := UT.out [91] false (by rw [ByteArray.toList_eq]; rfl)
          exact (by rw [Rd.listM, e1]; exact ⟨rfl, HR2.out, HK2.out⟩)
      · have hz : 0 < t.size := by
          rcases Nat.lt_or_ge 0 t.size with h | h
          · exact h
          · rw [empty_of (t := t) (by omega), ByteArray.toList_eq] at u; cases u
        obtain ⟨z1, z2⟩ := nonempty_of hz
        go_wp2_with fail
        refine (HT.out).mono ?_
        rintro e w1 ⟨rfl, hb⟩
        have HR2 := hide1 (hR1.below hb)
        have HK2 := hide1 ((hK.setCell 1 _).trans (Keep.of_below hb))
        go_wp2_with (go_at_call 34; refine (rdigit_any _ _).mono ?_; rintro e w' ⟨rfl, rfl⟩)
        go_roundw
        case rel =>
          have e1 := UT.out _ _ u
          exact ⟨1, by omega, by go_num, HR2.out, hn1, HK2.out, fun _ => beq_ne e1, fun _ => e1, fun h => by omega, fun h => by omega⟩
        case measure => simp [intOf]
    · have hn1 : a + 2 < ws.length := HE.out.2 (a + 1) (Q0.out (by omega))
      have hR1 := hR.set1 (m := (↑(a + 1) + 1)) (a + 2) (by simp; try omega)
      have HT := hide1 (rt_any _ rb g cap ws (a + 2) hR1 hn1)
      have UT : Hid (∀ c b, ((Rd.wordAt ws (a + 2)).text.toList == c) = b → (Rd.txt ws (a + 2) == c) = b) := fun c b h => txt_is h
      have UK : Hid (Rd.kd (Rd.txt ws (a + 2)) = Rd.kd (Rd.wordAt ws (a + 2)).text.data.toList) := rfl
      generalize (Rd.wordAt ws (a + 2)).text = t at *
      by_cases hz : 0 < t.size
      · obtain ⟨z1, z2⟩ := nonempty_of hz
        have UF := hide1 (kd_first hz)
        cases u : Rd.isDig (t[0].toNat : Int)
        · go_wp2_with fail
          refine (HT.out).mono ?_
          rintro e w1 ⟨rfl, hb⟩
          have HR2 := hide1 (hR1.below hb)
          have HK2 := hide1 ((hK'.setCell 1 _).trans (Keep.of_below hb))
          go_wp2_with (go_at_call 34; refine (rdigit_any _ _).mono ?_; rintro e w' ⟨rfl, rfl⟩)
          go_ret
          have e1 : (Rd.kd (Rd.txt ws (a + 2)) == 1) = false := by rw [UK.out, UF.out, u]
          exact (by rw [Rd.listM, Q1.out (by omega), e1]; exact ⟨rfl, HR2.out, HK2.out⟩)
        · go_wp2_with fail
          refine (HT.out).mono ?_
          rintro e w1 ⟨rfl, hb⟩
          have HR2 := hide1 (hR1.below hb)
          have HK2 := hide1 ((hK.setCell 1 _).trans (Keep.of_below hb))
          go_wp2_with (go_at_call 34; refine (rdigit_any _ _).mono ?_; rintro e w' ⟨rfl, rfl⟩)
          go_roundw
          case rel =>
            have e1 : (Rd.kd (Rd.txt ws (a + 2)) == 1) = true := by rw [UK.out, UF.out, u]
            exact ⟨2, by omega, by go_num, HR2.out, hn1, HK2.out, fun _ => kd_ne e1, fun _ => Q1.out (by omega), fun _ => e1, fun h => by omega⟩
          case measure => simp [intOf]
      · have hz' := empty_of hz
        subst hz'
        clear hz
        go_wp2_with fail
        refine (HT.out).mono ?_
        rintro e w1 ⟨rfl, hb⟩
        have HR2 := hide1 (hR1.below hb)
        have HK2 := hide1 ((hK'.setCell 1 _).trans (Keep.of_below hb))
        go_wp2_with (go_at_call 34; refine (rdigit_any _ _).mono ?_; rintro e w' ⟨rfl, rfl⟩)
        go_ret
        have e1 : (Rd.kd (Rd.txt ws (a + 2)) == 1) = false := by rw [UK.out]; rfl
        exact (by rw [Rd.listM, Q1.out (by omega), e1]; exact ⟨rfl, HR2.out, HK2.out⟩)
    · have hn1 : a + 3 < ws.length := HE.out.2 (a + 2) (Q0.out (by omega))
      have hR1 := hR.set1 (m := (↑(a + 2) + 1)) (a + 3) (by simp; try omega)
      have HT := hide1 (rt_any _ rb g cap ws (a + 3) hR1 hn1)
      have UT : Hid (∀ c b, ((Rd.wordAt ws (a + 3)).text.toList == c) = b → (Rd.txt ws (a + 3) == c) = b) := fun c b h => txt_is h
      have UK : Hid (Rd.kd (Rd.txt ws (a + 3)) = Rd.kd (Rd.wordAt ws (a + 3)).text.data.toList) := rfl
      generalize (Rd.wordAt ws (a + 3)).text = t at *
      cases u : (t.toList == [59])
      · by_cases hz : 0 < t.size
        · obtain ⟨z1, z2⟩ := nonempty_of hz
          go_wp2_with fail
          refine (HT.out).mono ?_
          rintro e w1 ⟨rfl, hb⟩
          have HR2 := hide1 (hR1.below hb)
          have HK2 := hide1 ((hK'.setCell 1 _).trans (Keep.of_below hb))
          go_wp2_with (go_at_call 34; refine (rdigit_any _ _).mono ?_; rintro e w' ⟨rfl, rfl⟩)
          go_ret
          have e1 := UT.out _ _ u
          exact (by rw [Rd.listM, Q1.out (by omega), Q2.out (by omega), e1]; exact ⟨rfl, HR2.out, HK2.out⟩)
        · have hz' := empty_of hz
          subst hz'
          clear hz u
          go_wp2_with fail
          refine (HT.out).mono ?_
          rintro e w1 ⟨rfl, hb⟩
          have HR2 := hide1 (hR1.below hb)
          have HK2 := hide1 ((hK'.setCell 1 _).trans (Keep.of_below hb))
          go_wp2_with (go_at_call 34; refine (rdigit_any _ _).mono ?_; rintro e w' ⟨rfl, rfl⟩)
          go_ret
          have e1 := UT.out [59] false (by rw [ByteArray.toList_eq]; rfl)
          exact (by rw [Rd.listM, Q1.out (by omega), Q2.out (by omega), e1]; exact ⟨rfl, HR2.out, HK2.out⟩)
      · have hz : 0 < t.size := by
          rcases Nat.lt_or_ge 0 t.size with h | h
          · exact h
          · rw [empty_of (t := t) (by omega), ByteArray.toList_eq] at u; cases u
        obtain ⟨z1, z2⟩ := nonempty_of hz
        go_wp2_with fail
        refine (HT.out).mono ?_
        rintro e w1 ⟨rfl, hb⟩
        have HR2 := hide1 (hR1.below hb)
        have HK2 := hide1 ((hK.setCell 1 _).trans (Keep.of_below hb))
        go_wp2_with (go_at_call 34; refine (rdigit_any _ _).mono ?_; rintro e w' ⟨rfl, rfl⟩)
        go_roundw
        case rel =>
          have e1 := UT.out _ _ u
          exact ⟨3, by omega, by go_num, HR2.out, hn1, HK2.out, fun h => by omega, fun _ => Q1.out (by omega), fun _ => Q2.out (by omega), fun _ => e1⟩
        case measure => simp [intOf]
    · have HLM : Hid (Rd.listM ws a = Rd.listEnd ws 8 (a + 3)) := by
        show _ = _
        rw [Rd.listM, Q1.out (by omega), Q2.out (by omega), Q3.out (by omega)]
        rfl
      have QN : Hid (Rd.txt ws (a + 3) ≠ []) := beq_ne (Q3.out (by omega))
      clear Q0 Q1 Q2 Q3 x0 x1 x2 d1 f1 hK HA ha1 hlt hK0 l1
      go_wp2_with fail
      obtain ⟨wo, rfl⟩ : ∃ wo : World, wo = wr := ⟨_, rfl⟩
      go_loopw [7] (fun i wr => list2Rel rb g cap ws w (Rd.listM ws a) i wr) (fun i _ => 9 - (intOf i).toNat)
      case atStart => exact ⟨1, a + 3, rfl, by omega, by omega, hR, QN.out, hK', HLM.out.symm⟩
      case round =>
        obtain ⟨c, b, rfl, c1, c8, hB, hne, hKB, hend⟩ := hrel
        have hb1 := HE.out.2 b hne
        obtain ⟨f, hf⟩ : ∃ f, 9 - c = f + 1 := ⟨8 - c, by omega⟩
        rw [hf, Rd.listEnd] at hend
        have HF : Hid (9 - c = f + 1) := hf
        have HEND := hide1 hend
        have d1 := hB.c1
        have f1 := hB.fz 1
        have hB1 := hB.set1 (m := (↑b + 1)) (b + 1) (by simp)
        have HT := hide1 (rt_any _ rb g cap ws (b + 1) hB1 hb1)
        have UK : Hid (Rd.kd (Rd.txt ws (b + 1)) = Rd.kd (Rd.wordAt ws (b + 1)).text.data.toList) := rfl
        have UV : Hid (Rd.valAt ws (b + 1) = Rd.valTo (Rd.wordAt ws (b + 1)).text (Rd.wordAt ws (b + 1)).text.size) := rfl
        have UD : Hid (Rd.kd (Rd.txt ws (b + 1)) = 1 → (Rd.wordAt ws (b + 1)).text.size ≤ 9 ∧ allDig (Rd.wordAt ws (b + 1)).text) := HD.out (b + 1)
        generalize (Rd.wordAt ws (b + 1)).text = t at *
        clear hne hf hend hR hK' HLM QN
        by_cases hz : 0 < t.size
        · obtain ⟨z1, z2⟩ := nonempty_of hz
          have UF := hide1 (kd_first hz)
          cases u : Rd.isDig (t[0].toNat : Int)
          · go_wp2_with fail
            refine (HT.out).mono ?_
            rintro e w1 ⟨rfl, hb⟩
            have HR2 := hide1 (hB1.below hb)
            have HK2 := hide1 ((hKB.setCell 1 _).trans (Keep.of_below hb))
            go_wp2_with (go_at_call 34; refine (rdigit_any _ _).mono ?_; rintro e w' ⟨rfl, rfl⟩)
            go_ret
            have e1 : (Rd.kd (Rd.txt ws (b + 1)) == 1) = false := by rw [UK.out, UF.out, u]
            rw [← HEND.out, e1]
            exact ⟨rfl, HR2.out, HK2.out⟩
          · have k1 : Hid ((Rd.kd (Rd.txt ws (b + 1)) == 1) = true) := by show _ = _; rw [UK.out, UF.out, u]
            obtain ⟨ud1, ud2⟩ := UD.out (by simpa using k1.out)
            have hb2 := HE.out.2 (b + 1) (kd_ne k1.out)
            have UD2 := hide1 ud2
            clear ud2 UD UF
            cases v : (Rd.valTo t t.size == 0)
            · have HT2 : Hid (∀ W, RRd W rb g cap ws (b + 2) → Calls Tryz.prog 36 #[.pointer (some ⟨rb, 0, none⟩)] W fun e w' => e = .returned (.string (Rd.wordAt ws (b + 2)).text) ∧ Below W.heap.size W w') := fun W hW => rt_any W rb g cap ws (b + 2) hW hb2
              have UT2 : Hid (∀ c b', ((Rd.wordAt ws (b + 2)).text.toList == c) = b' → (Rd.txt ws (b + 2) == c) = b') := fun c b' h => txt_is h
              generalize (Rd.wordAt ws (b + 2)).text = t2 at *
              have HCOND : Hid ((Rd.kd (Rd.txt ws (b + 1)) == 1 && !(Rd.valAt ws (b + 1) == 0)) = true) := by show _ = _; rw [k1.out, UV.out, v]; rfl
              go_wp2_with fail
              refine (HT.out).mono ?_
              rintro e w1 ⟨rfl, hb⟩
              have hB2 := hB1.below hb
              have hK2 := (hKB.setCell 1 _).trans (Keep.of_below hb)
              clear hb HT hB1 hKB hB d1 f1
              go_wp2_with (first | (go_at_call 34; refine (rdigit_any _ _).mono ?_; rintro e w' ⟨rfl, rfl⟩) | (go_at_call 41; refine (number_any _ _ ud1 UD2.out).mono ?_; rintro e w2 ⟨rfl, hbn⟩; have hB3 := hB2.below hbn; have hK3 := hK2.trans (Keep.of_below hbn); have d1 := hB3.c1; have f1 := hB3.fz 1; clear hbn hB2 hK2))
              have hB4 := hB3.set1 (m := (↑b + 1 + 1)) (b + 2) (by simp; omega)
              refine (HT2.out _ hB4).mono ?_
              rintro e w3 ⟨rfl, hb3⟩
              have hB5 := hB4.below hb3
              have hK5 := (hK3.setCell 1 _).trans (Keep.of_below hb3)
              clear hb3 hB4 hK3 hB3 d1 f1
              cases y1 : (t2.toList == [93])
              · cases y2 : (t2.toList == [44])
                · go_wp2_with fail
                  refine (HT2.out _ hB5).mono ?_
                  rintro e w4 ⟨rfl, hb4⟩
                  have hB6 := hB5.below hb4
                  have hK6 := hK5.trans (Keep.of_below hb4)
                  go_wp2_with fail
                  go_ret
                  rw [← HEND.out, HCOND.out, UT2.out _ _ y1, UT2.out _ _ y2]
                  cases hf0 : (f == 0) <;> exact ⟨rfl, hB6, hK6⟩
                · cases y3 : ((c : Int) == 8)
                  · have hf0 : Hid ((f == 0) = false) := by show _ = _; have := HF.out; simp at y3 ⊢; omega
                    go_wp2_with fail
                    refine (HT2.out _ hB5).mono ?_
                    rintro e w4 ⟨rfl, hb4⟩
                    have hB6 := hB5.below hb4
                    have hK6 := hK5.trans (Keep.of_below hb4)
                    go_wp2_with fail
                    have rel : list2Rel rb g cap ws w (Rd.listM ws a) (.int .i64 (↑c + 1)) w4 := by
                      refine ⟨c + 1, b + 2, by go_num, by omega, by have := HF.out; simp at y3; omega, hB6, beq_ne (UT2.out _ _ y2), hK6, ?_⟩
                      have e := HEND.out
                      rw [HCOND.out, UT2.out _ _ y1, UT2.out _ _ y2, hf0.out] at e
                      rw [show 9 - (c + 1) = f by have := HF.out; omega]
                      exact e
                    go_roundw
                    case rel => first | exact rel | ((repeat apply Exists.intro); exact ⟨rel, rfl⟩)
                    case measure => simp [intOf]; have := HF.out; omega
                  · have hf0 : Hid ((f == 0) = true) := by show _ = _; have := HF.out; simp at y3 ⊢; omega
                    go_wp2_with fail
                    refine (HT2.out _ hB5).mono ?_
                    rintro e w4 ⟨rfl, hb4⟩
                    have hB6 := hB5.below hb4
                    have hK6 := hK5.trans (Keep.of_below hb4)
                    go_wp2_with fail
                    go_ret
                    rw [← HEND.out, HCOND.out, UT2.out _ _ y1, hf0.out]
                    exact ⟨rfl, hB6, hK6⟩
              · go_wp2_with fail
                go_ret
                rw [← HEND.out, HCOND.out, UT2.out _ _ y1]
                exact ⟨rfl, hB5, hK5⟩
            · go_wp2_with fail
              refine (HT.out).mono ?_
              rintro e w1 ⟨rfl, hb⟩
              have hB2 := hB1.below hb
              have hK2 := (hKB.setCell 1 _).trans (Keep.of_below hb)
              clear hb HT hB1 hKB hB d1 f1
              go_wp2_with (first | (go_at_call 34; refine (rdigit_any _ _).mono ?_; rintro e w' ⟨rfl, rfl⟩) | (go_at_call 41; refine (number_any _ _ ud1 UD2.out).mono ?_; rintro e w2 ⟨rfl, hbn⟩; have hB3 := hB2.below hbn; have hK3 := hK2.trans (Keep.of_below hbn); clear hbn hB2 hK2))
              go_ret
              have e1 : (Rd.kd (Rd.txt ws (b + 1)) == 1 && !(Rd.valAt ws (b + 1) == 0)) = false := by rw [k1.out, UV.out, v]; rfl
              rw [← HEND.out, e1]
              exact ⟨rfl, hB3, hK3⟩
        · have hz' := empty_of hz
          subst hz'
          clear hz
          go_wp2_with fail
          refine (HT.out).mono ?_
          rintro e w1 ⟨rfl, hb⟩
          have HR2 := hide1 (hB1.below hb)
          have HK2 := hide1 ((hKB.setCell 1 _).trans (Keep.of_below hb))
          go_wp2_with fail
          go_ret
          have e1 : (Rd.kd (Rd.txt ws (b + 1)) == 1) = false := by rw [UK.out]; rfl
          rw [← HEND.out, e1]
          exact ⟨rfl, HR2.out, HK2.out⟩

end Go.Proofs.YtmepffenlgedbaaGreatDoor
