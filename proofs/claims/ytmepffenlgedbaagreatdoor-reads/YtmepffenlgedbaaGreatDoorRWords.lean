/-
  THE WALKS of realstree: digit, letter, function, words.
-/
import Derived.Test.YtmepffenlgedbaaGreatDoorSplit
set_option linter.unusedSimpArgs false
namespace Go.Proofs.YtmepffenlgedbaaGreatDoor
open Go.RowKit

set_option maxHeartbeats 400000 in
theorem rdigit_any (n : Int) (w : World) :
    Calls Tryz.prog 34 #[.int .u8 n] w fun e w' => e = .returned (.bool (Rd.isDig n)) ∧ w = w' := by
  by_cases h1 : 48 ≤ n
  all_goals by_cases h2 : n ≤ 57
  all_goals
    go_enter Tryz.func34, Tryz.ntmps34
    go_wp2
    go_ret
    exact ⟨by simp [Rd.isDig]; omega, rfl⟩

set_option maxHeartbeats 400000 in
theorem rletter_any (n : Int) (w : World) :
    Calls Tryz.prog 35 #[.int .u8 n] w fun e w' => e = .returned (.bool (Rd.isLet n)) ∧ w = w' := by
  by_cases h1 : 97 ≤ n
  all_goals by_cases h2 : n ≤ 122
  all_goals
    go_enter Tryz.func35, Tryz.ntmps35
    go_wp2
    go_ret
    exact ⟨by simp [Rd.isLet]; omega, rfl⟩

namespace Rd
/-- The cells of words, without their sorts. -/
def rcells : List Wd → List Value
  | [] => []
  | w :: r => .string w.text :: .int .i64 w.pos :: rcells r

theorem rcells_append (a b : List Wd) : rcells (a ++ b) = rcells a ++ rcells b := by
  induction a with
  | nil => rfl
  | cons x r ih => simp [rcells, ih]

theorem rcells_at : ∀ (ws : List Wd) (n : Nat), n < ws.length → (rcells ws)[n * 2]? = some (.string (wordAt ws n).text) ∧ (rcells ws)[n * 2 + 1]? = some (.int .i64 (wordAt ws n).pos) := by
  intro ws
  induction ws with
  | nil => intro n h; simp at h
  | cons x r ih =>
    intro n h
    cases n with
    | zero => simp [rcells, wordAt]
    | succ n =>
      have := ih n (by simpa using h)
      simpa [rcells, wordAt, Nat.add_mul] using this
end Rd

theorem infoRWord : (Tryz.prog.info? 53).map (fun i => (i.zero, i.size, i.bytes)) = some (some (.agg #[.string ⟨#[]⟩, .int .i64 0]), 2, 24) := by kernel_rfl

theorem cell_pair_new (w : World) (x y : Value) (t : TypeId) : ∀ j u, [x, y][j]? = some u → (w.alloc (.cells #[x, y] t)).cell? ((⟨w.heap.size, 0, none⟩ : Addr).add j) = some u := by
  intro j u hj
  match j, hj with
  | 0, hj => simp at hj; subst hj; simp [Addr.add]
  | 1, hj => simp at hj; subst hj; simp [Addr.add]

theorem pair_one {x y : Value} (hx : x.oneCell' = true) (hy : y.oneCell' = true) : ∀ u ∈ [x, y], u.oneCell' = true := by
  intro u hu
  simp at hu
  rcases hu with rfl | rfl <;> assumption

/-- The loop's relation. -/
def rwRel (s : ByteArray) (w : World) (l i : Value) (wr : World) : Prop :=
  ∃ (k f : Nat) (done : List Rd.Wd), k ≤ s.size ∧ i = .int .i64 k ∧ done.length ≤ k ∧ s.size < f + k ∧ wr.ownsRow w.heap.size 53 2 l done.length (Rd.rcells done) ∧ Below w.heap.size w wr ∧ done ++ Rd.split s f k = Rd.split s (s.size + 1) 0

theorem rw_word (s : ByteArray) (w w1 : World) (k f : Nat) (done : List Rd.Wd) (l' : Value) (e : Nat) (he : Rd.wordEnd s k = e)
    (h : k < s.size) (hb : (Rd.byteAt s k != 32) = true) (hd : done.length ≤ k) (hf : s.size < f + k) (hown : w1.ownsRow w.heap.size 53 2 l' (done.length + 1) (Rd.rcells done ++ [.string (s.extract k e), .int .i64 k]))
    (hbel : Below w.heap.size w w1) (heq : done ++ Rd.split s f k = Rd.split s (s.size + 1) 0) : rwRel s w l' (.int .i64 e) w1 := by
  obtain ⟨f', rfl⟩ : ∃ f', f = f' + 1 := ⟨f - 1, by omega⟩
  have h1 := Rd.wordEnd_lo s k
  have h2 := Rd.wordEnd_hi s k h
  subst he
  refine ⟨_, f', done ++ [⟨Rd.kindOf (Rd.byteAt s k), s.extract k (Rd.wordEnd s k), k⟩], h2, rfl, by simp; omega, by omega, ?_, hbel, ?_⟩
  · rw [Rd.rcells_append]
    simpa [Rd.rcells] using hown
  · rw [← heq]; exact split_word s f' k h hb done

theorem rw_blank (s : ByteArray) (w w1 : World) (k f : Nat) (done : List Rd.Wd) (l : Value) (e : Nat) (he : Rd.wordEnd s k = e)
    (h : k < s.size) (hb : (Rd.byteAt s k != 32) = false) (hd : done.length ≤ k) (hf : s.size < f + k) (hown : w1.ownsRow w.heap.size 53 2 l done.length (Rd.rcells done))
    (hbel : Below w.heap.size w w1) (heq : done ++ Rd.split s f k = Rd.split s (s.size + 1) 0) : rwRel s w l (.int .i64 e) w1 := by
  obtain ⟨f', rfl⟩ : ∃ f', f = f' + 1 := ⟨f - 1, by omega⟩
  have h1 := Rd.wordEnd_lo s k
  have h2 := Rd.wordEnd_hi s k h
  subst he
  exact ⟨_, f', done, h2, rfl, by omega, by omega, hown, hbel, by rw [← heq, split_blank s f' k h hb]⟩

set_option maxRecDepth 100000 in
set_option maxHeartbeats 2000000 in
theorem rwords_any (s : ByteArray) (w : World) (hs : s.size ≤ 120) :
    Calls Tryz.prog 23 #[.string s] w fun e w' => ∃ v, e = .returned v ∧ w'.ownsRow w.heap.size 53 2 v (Rd.split s (s.size + 1) 0).length (Rd.rcells (Rd.split s (s.size + 1) 0)) ∧ Below w.heap.size w w' := by
  obtain ⟨i, hi, hz, hsize, hby⟩ := info_parts infoRWord
  go_enter Tryz.func23, Tryz.ntmps23
  go_wp2_with fail
  go_loopw [3, 4] (fun l i wr => rwRel s w l i wr) (fun _ i _ => s.size - (intOf i).toNat)
  case atStart =>
    exact ⟨0, s.size + 1, [], Nat.zero_le _, rfl, Nat.le_refl _, by omega, ⟨rfl, Or.inl ⟨rfl, rfl⟩⟩, Below.refl _ _, rfl⟩
  case round =>
    obtain ⟨k, f, done, hk, rfl, hd, hf, hown, hbel, heq⟩ := hrel
    have HEQ : Hid (done ++ Rd.split s f k = Rd.split s (s.size + 1) 0) := heq
    clear heq
    have hsz := hbel.size
    by_cases c1 : k < s.size
    · have HB : Hid (Rd.byteAt s k = (s[k].toNat : Int)) := Rd.byteAt_eq s k c1
      cases c2 : Rd.isDig (s[k].toNat : Int)
      · cases c3 : Rd.isLet (s[k].toNat : Int)
        · have HW : Hid (Rd.wordEnd s k = k + 1) := by show Rd.wordEnd s k = k + 1; simp [Rd.wordEnd, HB.out, c2, c3]
          cases c4 : ((s[k].toNat : Int) != 32)
          · go_wp2_with (first | (go_at_call 34; refine (rdigit_any _ _).mono ?_; rintro e w' ⟨rfl, rfl⟩) | (go_at_call 35; refine (rletter_any _ _).mono ?_; rintro e w' ⟨rfl, rfl⟩))
            go_roundw
            case rel => exact rw_blank s w _ k f done _ (k + 1) HW.out c1 (by rw [HB.out]; exact c4) hd hf hown hbel HEQ.out
            case measure => simp [intOf]; omega
          · go_wp2_with (first | (go_at_call 34; refine (rdigit_any _ _).mono ?_; rintro e w' ⟨rfl, rfl⟩) | (go_at_call 35; refine (rletter_any _ _).mono ?_; rintro e w' ⟨rfl, rfl⟩) | (at_builtin; refine wpList_append_own _ rfl _ _ 47 rfl w.heap.size 53 i (.agg #[.string ⟨#[]⟩, .int .i64 0]) 2 24 Tryz.underlying47 hi hz hsize hby rfl (by decide) _ _ _ rfl (hown.alloc _) ⟨wr.heap.size, 0, none⟩ 1 1 [.string (s.extract k (k + 1)), .int .i64 k] rfl rfl (cell_pair_new _ _ _ _) (pair_one rfl rfl) (by unfold maxLen; omega) (by omega) (by simp; omega) ?_; intro v' w3 hown' hgrow3 hnil3))
            go_roundw
            case rel => exact rw_word s w _ k f done _ (k + 1) HW.out c1 (by rw [HB.out]; exact c4) hd hf hown' (below_own hown hbel hsz _ hgrow3) HEQ.out
            case measure => simp [intOf]; omega
        · have c4 : ((s[k].toNat : Int) != 32) = true := by simp [Rd.isLet] at c3; rw [bne_iff_ne]; omega
          have HW0 : Hid (Rd.wordEnd s k = Rd.nameEnd s s.size (k + 1)) := by show Rd.wordEnd s k = _; simp [Rd.wordEnd, HB.out, c2, c3]
          go_wp2_with (first | (go_at_call 34; refine (rdigit_any _ _).mono ?_; rintro e w' ⟨rfl, rfl⟩) | (go_at_call 35; refine (rletter_any _ _).mono ?_; rintro e w' ⟨rfl, rfl⟩))
          obtain ⟨wo, rfl⟩ : ∃ wo : World, wo = wr := ⟨_, rfl⟩
          go_loop [5] (fun e => ∃ j : Nat, k + 1 ≤ j ∧ j ≤ s.size ∧ e = .int .i64 j ∧ Hid (Rd.nameEnd s (s.size + k + 1 - j) j = Rd.nameEnd s s.size (k + 1))) (fun e => s.size - (intOf e).toNat)
          case atStart => exact ⟨k + 1, by omega, by omega, by go_num, by rw [show s.size + k + 1 - (k + 1) = s.size by omega]; rfl⟩
          case round =>
            obtain ⟨j, j1, j3, rfl, HE⟩ := hrel
            obtain ⟨f2, hf2⟩ : ∃ f2, s.size + k + 1 - j = f2 + 1 := ⟨s.size + k - j, by omega⟩
            have HF : Hid (s.size + k + 1 - j = f2 + 1) := hf2
            clear hf2
            by_cases d1 : j < s.size
            · cases d2 : Rd.isLet (s[j].toNat : Int)
              · cases d3 : Rd.isDig (s[j].toNat : Int)
                · have HW : Hid (Rd.wordEnd s k = j) := by
                    show Rd.wordEnd s k = j
                    rw [HW0.out, ← HE.out, HF.out, Rd.nameEnd, Rd.byteAt_eq s j d1, d2, d3]
                    simp
                  go_wp2_with (first | (go_at_call 34; refine (rdigit_any _ _).mono ?_; rintro e w' ⟨rfl, rfl⟩) | (go_at_call 35; refine (rletter_any _ _).mono ?_; rintro e w' ⟨rfl, rfl⟩) | (at_builtin; refine wpList_append_own _ rfl _ _ 47 rfl w.heap.size 53 i (.agg #[.string ⟨#[]⟩, .int .i64 0]) 2 24 Tryz.underlying47 hi hz hsize hby rfl (by decide) _ _ _ rfl (hown.alloc _) ⟨wo.heap.size, 0, none⟩ 1 1 [.string (s.extract k j), .int .i64 k] rfl rfl (cell_pair_new _ _ _ _) (pair_one rfl rfl) (by unfold maxLen; omega) (by omega) (by simp; omega) ?_; intro v' w3 hown' hgrow3 hnil3))
                  go_roundw
                  case rel => exact rw_word s w _ k f done _ j HW.out c1 (by rw [HB.out]; exact c4) hd hf hown' (below_own hown hbel hsz _ hgrow3) HEQ.out
                  case measure => simp [intOf]; omega
                · go_wp2_with (first | (go_at_call 34; refine (rdigit_any _ _).mono ?_; rintro e w' ⟨rfl, rfl⟩) | (go_at_call 35; refine (rletter_any _ _).mono ?_; rintro e w' ⟨rfl, rfl⟩))
                  go_round
                  case rel =>
                    refine ⟨j + 1, by omega, by omega, by go_num, ?_⟩
                    show Rd.nameEnd s (s.size + k + 1 - (j + 1)) (j + 1) = _
                    have e1 : s.size + k + 1 - (j + 1) = f2 := by have := HF.out; omega
                    rw [e1, ← HE.out, HF.out]
                    conv => rhs; rw [Rd.nameEnd, Rd.byteAt_eq s j d1, d2, d3]
                    simp [d1]
                  case measure => simp [intOf]; omega
              · go_wp2_with (first | (go_at_call 34; refine (rdigit_any _ _).mono ?_; rintro e w' ⟨rfl, rfl⟩) | (go_at_call 35; refine (rletter_any _ _).mono ?_; rintro e w' ⟨rfl, rfl⟩))
                go_round
                case rel =>
                  refine ⟨j + 1, by omega, by omega, by go_num, ?_⟩
                  show Rd.nameEnd s (s.size + k + 1 - (j + 1)) (j + 1) = _
                  have e1 : s.size + k + 1 - (j + 1) = f2 := by have := HF.out; omega
                  rw [e1, ← HE.out, HF.out]
                  conv => rhs; rw [Rd.nameEnd, Rd.byteAt_eq s j d1, d2]
                  simp [d1]
                case measure => simp [intOf]; omega
            · have HW : Hid (Rd.wordEnd s k = j) := by
                show Rd.wordEnd s k = j
                rw [HW0.out, ← HE.out, HF.out, Rd.nameEnd, decide_eq_false (by omega)]
                simp
              go_wp2_with (first | (go_at_call 34; refine (rdigit_any _ _).mono ?_; rintro e w' ⟨rfl, rfl⟩) | (go_at_call 35; refine (rletter_any _ _).mono ?_; rintro e w' ⟨rfl, rfl⟩) | (at_builtin; refine wpList_append_own _ rfl _ _ 47 rfl w.heap.size 53 i (.agg #[.string ⟨#[]⟩, .int .i64 0]) 2 24 Tryz.underlying47 hi hz hsize hby rfl (by decide) _ _ _ rfl (hown.alloc _) ⟨wo.heap.size, 0, none⟩ 1 1 [.string (s.extract k j), .int .i64 k] rfl rfl (cell_pair_new _ _ _ _) (pair_one rfl rfl) (by unfold maxLen; omega) (by omega) (by simp; omega) ?_; intro v' w3 hown' hgrow3 hnil3))
              go_roundw
              case rel => exact rw_word s w _ k f done _ j HW.out c1 (by rw [HB.out]; exact c4) hd hf hown' (below_own hown hbel hsz _ hgrow3) HEQ.out
              case measure => simp [intOf]; omega
      · have c4 : ((s[k].toNat : Int) != 32) = true := by simp [Rd.isDig] at c2; rw [bne_iff_ne]; omega
        have HW0 : Hid (Rd.wordEnd s k = Rd.numEnd s k 9 (k + 1)) := by show Rd.wordEnd s k = _; simp [Rd.wordEnd, HB.out, c2]
        go_wp2_with (first | (go_at_call 34; refine (rdigit_any _ _).mono ?_; rintro e w' ⟨rfl, rfl⟩) | (go_at_call 35; refine (rletter_any _ _).mono ?_; rintro e w' ⟨rfl, rfl⟩))
        obtain ⟨wo, rfl⟩ : ∃ wo : World, wo = wr := ⟨_, rfl⟩
        go_loop [5] (fun e => ∃ j : Nat, k + 1 ≤ j ∧ j ≤ k + 9 ∧ j ≤ s.size ∧ e = .int .i64 j ∧ Hid (Rd.numEnd s k (k + 10 - j) j = Rd.numEnd s k 9 (k + 1))) (fun e => s.size - (intOf e).toNat)
        case atStart => exact ⟨k + 1, by omega, by omega, by omega, by go_num, by rw [show k + 10 - (k + 1) = 9 by omega]; rfl⟩
        case round =>
          obtain ⟨j, j1, j2, j3, rfl, HE⟩ := hrel
          obtain ⟨f2, hf2⟩ : ∃ f2, k + 10 - j = f2 + 1 := ⟨k + 9 - j, by omega⟩
          have HF : Hid (k + 10 - j = f2 + 1) := hf2
          clear hf2
          by_cases d1 : j < s.size
          · cases d3 : Rd.isDig (s[j].toNat : Int)
            · have HW : Hid (Rd.wordEnd s k = j) := by
                show Rd.wordEnd s k = j
                rw [HW0.out, ← HE.out, HF.out, Rd.numEnd, Rd.byteAt_eq s j d1, d3]
                simp
              go_wp2_with (first | (go_at_call 34; refine (rdigit_any _ _).mono ?_; rintro e w' ⟨rfl, rfl⟩) | (go_at_call 35; refine (rletter_any _ _).mono ?_; rintro e w' ⟨rfl, rfl⟩) | (at_builtin; refine wpList_append_own _ rfl _ _ 47 rfl w.heap.size 53 i (.agg #[.string ⟨#[]⟩, .int .i64 0]) 2 24 Tryz.underlying47 hi hz hsize hby rfl (by decide) _ _ _ rfl (hown.alloc _) ⟨wo.heap.size, 0, none⟩ 1 1 [.string (s.extract k j), .int .i64 k] rfl rfl (cell_pair_new _ _ _ _) (pair_one rfl rfl) (by unfold maxLen; omega) (by omega) (by simp; omega) ?_; intro v' w3 hown' hgrow3 hnil3))
              go_roundw
              case rel => exact rw_word s w _ k f done _ j HW.out c1 (by rw [HB.out]; exact c4) hd hf hown' (below_own hown hbel hsz _ hgrow3) HEQ.out
              case measure => simp [intOf]; omega
            · by_cases d2 : (j : Int) - k < 9
              · go_wp2_with (first | (go_at_call 34; refine (rdigit_any _ _).mono ?_; rintro e w' ⟨rfl, rfl⟩) | (go_at_call 35; refine (rletter_any _ _).mono ?_; rintro e w' ⟨rfl, rfl⟩))
                go_round
                case rel =>
                  refine ⟨j + 1, by omega, by omega, by omega, by go_num, ?_⟩
                  show Rd.numEnd s k (k + 10 - (j + 1)) (j + 1) = _
                  have e1 : k + 10 - (j + 1) = f2 := by have := HF.out; omega
                  rw [e1, ← HE.out, HF.out]
                  conv => rhs; rw [Rd.numEnd, Rd.byteAt_eq s j d1, d3]
                  simp [d1, show j - k < 9 by omega]
                case measure => simp [intOf]; omega
              · have HW : Hid (Rd.wordEnd s k = j) := by
                  show Rd.wordEnd s k = j
                  rw [HW0.out, ← HE.out, HF.out, Rd.numEnd, decide_eq_false (by omega)]
                  simp
                go_wp2_with (first | (go_at_call 34; refine (rdigit_any _ _).mono ?_; rintro e w' ⟨rfl, rfl⟩) | (go_at_call 35; refine (rletter_any _ _).mono ?_; rintro e w' ⟨rfl, rfl⟩) | (at_builtin; refine wpList_append_own _ rfl _ _ 47 rfl w.heap.size 53 i (.agg #[.string ⟨#[]⟩, .int .i64 0]) 2 24 Tryz.underlying47 hi hz hsize hby rfl (by decide) _ _ _ rfl (hown.alloc _) ⟨wo.heap.size, 0, none⟩ 1 1 [.string (s.extract k j), .int .i64 k] rfl rfl (cell_pair_new _ _ _ _) (pair_one rfl rfl) (by unfold maxLen; omega) (by omega) (by simp; omega) ?_; intro v' w3 hown' hgrow3 hnil3))
                go_roundw
                case rel => exact rw_word s w _ k f done _ j HW.out c1 (by rw [HB.out]; exact c4) hd hf hown' (below_own hown hbel hsz _ hgrow3) HEQ.out
                case measure => simp [intOf]; omega
          · have HW : Hid (Rd.wordEnd s k = j) := by
              show Rd.wordEnd s k = j
              rw [HW0.out, ← HE.out, HF.out, Rd.numEnd, decide_eq_false (by omega)]
              simp
            go_wp2_with (first | (go_at_call 34; refine (rdigit_any _ _).mono ?_; rintro e w' ⟨rfl, rfl⟩) | (go_at_call 35; refine (rletter_any _ _).mono ?_; rintro e w' ⟨rfl, rfl⟩) | (at_builtin; refine wpList_append_own _ rfl _ _ 47 rfl w.heap.size 53 i (.agg #[.string ⟨#[]⟩, .int .i64 0]) 2 24 Tryz.underlying47 hi hz hsize hby rfl (by decide) _ _ _ rfl (hown.alloc _) ⟨wo.heap.size, 0, none⟩ 1 1 [.string (s.extract k j), .int .i64 k] rfl rfl (cell_pair_new _ _ _ _) (pair_one rfl rfl) (by unfold maxLen; omega) (by omega) (by simp; omega) ?_; intro v' w3 hown' hgrow3 hnil3))
            go_roundw
            case rel => exact rw_word s w _ k f done _ j HW.out c1 (by rw [HB.out]; exact c4) hd hf hown' (below_own hown hbel hsz _ hgrow3) HEQ.out
            case measure => simp [intOf]; omega
    · obtain ⟨f', hf'⟩ : ∃ f', f = f' + 1 := ⟨f - 1, by omega⟩
      have HS : Hid (Rd.split s (s.size + 1) 0 = done ++ [⟨0, ⟨#[]⟩, s.size⟩]) := by
        show _ = _
        rw [← HEQ.out, hf', split_end s f' k c1]
      clear hf'
      go_wp2_with ((at_builtin; refine wpList_append_own _ rfl _ _ 47 rfl w.heap.size 53 i (.agg #[.string ⟨#[]⟩, .int .i64 0]) 2 24 Tryz.underlying47 hi hz hsize hby rfl (by decide) _ _ _ rfl (hown.alloc _) ⟨wr.heap.size, 0, none⟩ 1 1 [.string ⟨#[]⟩, .int .i64 s.size] rfl rfl (cell_pair_new _ _ _ _) (pair_one rfl rfl) (by unfold maxLen; omega) (by omega) (by simp; omega) ?_; intro v' w3 hown' hgrow3 hnil3))
      go_ret
      refine ⟨_, rfl, ?_, below_own hown hbel hsz _ hgrow3⟩
      rw [HS.out, Rd.rcells_append]
      simpa [Rd.rcells] using hown'

end Go.Proofs.YtmepffenlgedbaaGreatDoor
