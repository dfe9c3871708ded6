/-
  THE WALK of words.Split.
-/
import Derived.Test.YtmepffenlgedbaaSmall
namespace Go.Proofs.Ytmepffenlgedbaa
open Go.RowKit

theorem infoWord : (Try.prog.info? 41).map (fun i => (i.zero, i.size, i.bytes)) = some (some (.agg #[.int .i64 0, .string ⟨#[]⟩, .int .i64 0]), 3, 32) := by kernel_rfl

theorem cell_three_new (w : World) (x y z : Value) (t : TypeId) : ∀ j u, [x, y, z][j]? = some u → (w.alloc (.cells #[x, y, z] t)).cell? ((⟨w.heap.size, 0, none⟩ : Addr).add j) = some u := by
  intro j u hj
  match j, hj with
  | 0, hj => simp at hj; subst hj; simp [Addr.add]
  | 1, hj => simp at hj; subst hj; simp [Addr.add]
  | 2, hj => simp at hj; subst hj; simp [Addr.add]

theorem Below.heap_alloc_at (w : World) (o : Obj) : (w.alloc o).heap[w.heap.size]? = some o := by
  show (w.heap.push o)[w.heap.size]? = some o
  simp

/-- The loop's relation. -/
def splitRel (s : ByteArray) (w : World) (l i : Value) (wr : World) : Prop :=
  ∃ (k f : Nat) (done : List Rd.Wd), k ≤ s.size ∧ i = .int .i64 k ∧ done.length ≤ k ∧ s.size < f + k ∧ wr.ownsRow w.heap.size 41 3 l done.length (Rd.wcells done) ∧ Below w.heap.size w wr ∧ done ++ Rd.split s f k = Rd.split s (s.size + 1) 0

theorem three_one {x y z : Value} (hx : x.oneCell' = true) (hy : y.oneCell' = true) (hz : z.oneCell' = true) : ∀ u ∈ [x, y, z], u.oneCell' = true := by
  intro u hu
  simp at hu
  rcases hu with rfl | rfl | rfl <;> assumption

/-- Behind an append onto what the call itself owns. -/
theorem below_own {w wr w3 : World} {B e size n : Nat} {l : Value} {xs : List Value} (hown : wr.ownsRow B e size l n xs) (hbel : Below B w wr) (hB : B ≤ wr.heap.size) (o : Obj) (hg : (wr.alloc o).grownBy w3 l.ownBlock) : Below B w w3 := by
  refine Below.grown (hbel.alloc hB o) hg (by simp; omega) ?_
  intro k hk
  rcases hown.2 with ⟨h, _⟩ | ⟨g, cap, cur, h, hg', _⟩
  · rw [h] at hk; cases hk
  · rw [h] at hk
    cases hk
    exact hg'

/-- One word more. -/
theorem split_word (s : ByteArray) (f k : Nat) (h : k < s.size) (hb : (Rd.byteAt s k != 32) = true) (done : List Rd.Wd) :
    done ++ [⟨Rd.kindOf (Rd.byteAt s k), s.extract k (Rd.wordEnd s k), k⟩] ++ Rd.split s f (Rd.wordEnd s k) = done ++ Rd.split s (f + 1) k := by
  conv => rhs; rw [Rd.split, decide_eq_true h, hb]
  simp

theorem split_blank (s : ByteArray) (f k : Nat) (h : k < s.size) (hb : (Rd.byteAt s k != 32) = false) : Rd.split s f (Rd.wordEnd s k) = Rd.split s (f + 1) k := by
  conv => rhs; rw [Rd.split, decide_eq_true h, hb]
  simp

theorem split_end (s : ByteArray) (f k : Nat) (h : ¬ k < s.size) : Rd.split s (f + 1) k = [⟨0, ⟨#[]⟩, s.size⟩] := by
  rw [Rd.split, decide_eq_false h]; rfl

theorem rel_word (s : ByteArray) (w w1 : World) (k f : Nat) (done : List Rd.Wd) (l' : Value) (x : Rd.Wd) (e : Nat) (hx : x = ⟨Rd.kindOf (Rd.byteAt s k), s.extract k (Rd.wordEnd s k), k⟩) (he : e = Rd.wordEnd s k)
    (h : k < s.size) (hb : (Rd.byteAt s k != 32) = true) (hd : done.length ≤ k) (hf : s.size < f + k) (hown : w1.ownsRow w.heap.size 41 3 l' (done.length + 1) (Rd.wcells done ++ [.int .i64 x.kind, .string x.text, .int .i64 x.pos]))
    (hbel : Below w.heap.size w w1) (heq : done ++ Rd.split s f k = Rd.split s (s.size + 1) 0) : splitRel s w l' (.int .i64 e) w1 := by
  obtain ⟨f', rfl⟩ : ∃ f', f = f' + 1 := ⟨f - 1, by omega⟩
  have h1 := Rd.wordEnd_lo s k
  have h2 := Rd.wordEnd_hi s k h
  subst he
  refine ⟨_, f', done ++ [x], h2, rfl, by simp; omega, by omega, ?_, hbel, ?_⟩
  · rw [Rd.wcells_append]
    simpa [Rd.wcells] using hown
  · rw [← heq, hx]; exact split_word s f' k h hb done

theorem rel_blank (s : ByteArray) (w w1 : World) (k f : Nat) (done : List Rd.Wd) (l : Value) (e : Nat) (he : e = Rd.wordEnd s k)
    (h : k < s.size) (hb : (Rd.byteAt s k != 32) = false) (hd : done.length ≤ k) (hf : s.size < f + k) (hown : w1.ownsRow w.heap.size 41 3 l done.length (Rd.wcells done))
    (hbel : Below w.heap.size w w1) (heq : done ++ Rd.split s f k = Rd.split s (s.size + 1) 0) : splitRel s w l (.int .i64 e) w1 := by
  obtain ⟨f', rfl⟩ : ∃ f', f = f' + 1 := ⟨f - 1, by omega⟩
  have h1 := Rd.wordEnd_lo s k
  have h2 := Rd.wordEnd_hi s k h
  subst he
  exact ⟨_, f', done, h2, rfl, by omega, by omega, hown, hbel, by rw [← heq, split_blank s f' k h hb]⟩

set_option maxHeartbeats 1000000 in
theorem split_any (s : ByteArray) (w : World) (hs : s.size ≤ 120) :
    Calls Try.prog 10 #[.string s] w fun e w' => ∃ v, e = .returned v ∧ w'.ownsRow w.heap.size 41 3 v (Rd.split s (s.size + 1) 0).length (Rd.wcells (Rd.split s (s.size + 1) 0)) ∧ Below w.heap.size w w' := by
  obtain ⟨i, hi, hz, hsize, hby⟩ := info_parts infoWord
  go_enter Try.func10, Try.ntmps10
  go_wp2_with fail
  go_loopw [3, 4] (fun l i wr => splitRel s w l i wr) (fun _ i _ => s.size - (intOf i).toNat)
  case atStart =>
    refine ⟨0, s.size + 1, [], Nat.zero_le _, rfl, Nat.le_refl _, by omega, ?_, (Below.refl _ _).alloc (Nat.le_refl _) _, rfl⟩
    refine ⟨rfl, Or.inr ⟨w.heap.size, 0, #[], rfl, Nat.le_refl _, Below.heap_alloc_at _ _, Nat.le_refl _, Nat.zero_le _, rfl, rfl⟩⟩
  case round =>
    obtain ⟨k, f, done, hk, rfl, hd, hf, hown, hbel, heq⟩ := hrel
    have HEQ : Hid (done ++ Rd.split s f k = Rd.split s (s.size + 1) 0) := heq
    clear heq
    have hsz := hbel.size
    by_cases c1 : k < s.size
    · have hbe := Rd.byteAt_eq s k c1
      cases c2 : Rd.isDig (s[k].toNat : Int)
      · cases c3 : Rd.isLet (s[k].toNat : Int)
        · cases c4 : ((s[k].toNat : Int) != 32)
          · have hko : Rd.kindOf (s[k].toNat : Int) = 3 := by simp [Rd.kindOf, c2, c3]
            have hwe : Hid (Rd.wordEnd s k = k + 1) := by show Rd.wordEnd s k = k + 1; simp [Rd.wordEnd, hbe, c2, c3]
            have HB : Hid (Rd.byteAt s k = (s[k].toNat : Int)) := hbe
            clear hbe
            go_wp2_with (go_at_call 14; refine (kindOf_any _ _).mono ?_; rintro e w' ⟨rfl, rfl⟩)
            go_roundw
            case rel => exact rel_blank s w _ k f done _ (k + 1) hwe.out.symm c1 (by rw [HB.out]; exact c4) hd hf hown hbel HEQ.out
            case measure => simp [intOf]; omega
          · have hko : Rd.kindOf (s[k].toNat : Int) = 3 := by simp [Rd.kindOf, c2, c3]
            have hwe : Hid (Rd.wordEnd s k = (k + 1)) := by show Rd.wordEnd s k = (k + 1); simp [Rd.wordEnd, hbe, c2, c3]
            have he1 : k < (k + 1) := by have h1 := Rd.wordEnd_lo s k; rw [hwe.out] at h1; omega
            have he2 : (k + 1) ≤ s.size := by have h1 := Rd.wordEnd_hi s k c1; rw [hwe.out] at h1; omega
            have HB : Hid (Rd.byteAt s k = (s[k].toNat : Int)) := hbe
            clear hbe
            go_wp2_with (first | (go_at_call 14; refine (kindOf_any _ _).mono ?_; rintro e w' ⟨rfl, rfl⟩) | (at_builtin; (refine wpList_append_own _ rfl _ _ 43 rfl w.heap.size 41 i (.agg #[.int .i64 0, .string ⟨#[]⟩, .int .i64 0]) 3 32 Try.underlying43 hi hz hsize hby rfl (by decide) _ _ _ rfl (hown.alloc _) ⟨wr.heap.size, 0, none⟩ 1 1 [.int .i64 3, .string (s.extract k (k + 1)), .int .i64 k] rfl rfl (cell_three_new _ _ _ _ _) (three_one rfl rfl rfl) (by unfold maxLen; omega) (by omega) (by simp; omega) ?_); intro v' w3 hown' hgrow3 hnil3))
            go_roundw
            case rel => exact rel_word s w _ k f done _ ⟨3, s.extract k (k + 1), k⟩ (k + 1) (by rw [HB.out, hko, hwe.out]) hwe.out.symm c1 (by rw [HB.out]; exact c4) hd hf hown' (below_own hown hbel hsz _ hgrow3) HEQ.out
            case measure => simp [intOf]; omega
        · have c4 : ((s[k].toNat : Int) != 32) = true := by simp [Rd.isLet] at c3; rw [bne_iff_ne]; omega
          have hko : Rd.kindOf (s[k].toNat : Int) = 2 := by simp [Rd.kindOf, c2, c3]
          have hwe : Hid (Rd.wordEnd s k = (Rd.nameEnd s s.size (k + 1))) := by show Rd.wordEnd s k = (Rd.nameEnd s s.size (k + 1)); simp [Rd.wordEnd, hbe, c2, c3]
          have he1 : k < (Rd.nameEnd s s.size (k + 1)) := by have h1 := Rd.wordEnd_lo s k; rw [hwe.out] at h1; omega
          have he2 : (Rd.nameEnd s s.size (k + 1)) ≤ s.size := by have h1 := Rd.wordEnd_hi s k c1; rw [hwe.out] at h1; omega
          have HB : Hid (Rd.byteAt s k = (s[k].toNat : Int)) := hbe
          clear hbe
          go_wp2_with (first | (go_at_call 14; refine (kindOf_any _ _).mono ?_; rintro e w' ⟨rfl, rfl⟩) | (go_at_call 16; refine (nameEnd_any _ _ _ hs c1).mono ?_; rintro e w' ⟨rfl, rfl⟩) | (at_builtin; (refine wpList_append_own _ rfl _ _ 43 rfl w.heap.size 41 i (.agg #[.int .i64 0, .string ⟨#[]⟩, .int .i64 0]) 3 32 Try.underlying43 hi hz hsize hby rfl (by decide) _ _ _ rfl (hown.alloc _) ⟨wr.heap.size, 0, none⟩ 1 1 [.int .i64 2, .string (s.extract k (Rd.nameEnd s s.size (k + 1))), .int .i64 k] rfl rfl (cell_three_new _ _ _ _ _) (three_one rfl rfl rfl) (by unfold maxLen; omega) (by omega) (by simp; omega) ?_); intro v' w3 hown' hgrow3 hnil3))
          go_roundw
          case rel => exact rel_word s w _ k f done _ ⟨2, s.extract k (Rd.nameEnd s s.size (k + 1)), k⟩ (Rd.nameEnd s s.size (k + 1)) (by rw [HB.out, hko, hwe.out]) hwe.out.symm c1 (by rw [HB.out]; exact c4) hd hf hown' (below_own hown hbel hsz _ hgrow3) HEQ.out
          case measure => simp [intOf]; omega
      · have c4 : ((s[k].toNat : Int) != 32) = true := by simp [Rd.isDig] at c2; rw [bne_iff_ne]; omega
        have hko : Rd.kindOf (s[k].toNat : Int) = 1 := by simp [Rd.kindOf, c2]
        have hwe : Hid (Rd.wordEnd s k = (Rd.numEnd s k 9 (k + 1))) := by show Rd.wordEnd s k = (Rd.numEnd s k 9 (k + 1)); simp [Rd.wordEnd, hbe, c2]
        have he1 : k < (Rd.numEnd s k 9 (k + 1)) := by have h1 := Rd.wordEnd_lo s k; rw [hwe.out] at h1; omega
        have he2 : (Rd.numEnd s k 9 (k + 1)) ≤ s.size := by have h1 := Rd.wordEnd_hi s k c1; rw [hwe.out] at h1; omega
        have HB : Hid (Rd.byteAt s k = (s[k].toNat : Int)) := hbe
        clear hbe
        go_wp2_with (first | (go_at_call 14; refine (kindOf_any _ _).mono ?_; rintro e w' ⟨rfl, rfl⟩) | (go_at_call 15; refine (numberEnd_any _ _ _ hs c1).mono ?_; rintro e w' ⟨rfl, rfl⟩) | (at_builtin; (refine wpList_append_own _ rfl _ _ 43 rfl w.heap.size 41 i (.agg #[.int .i64 0, .string ⟨#[]⟩, .int .i64 0]) 3 32 Try.underlying43 hi hz hsize hby rfl (by decide) _ _ _ rfl (hown.alloc _) ⟨wr.heap.size, 0, none⟩ 1 1 [.int .i64 1, .string (s.extract k (Rd.numEnd s k 9 (k + 1))), .int .i64 k] rfl rfl (cell_three_new _ _ _ _ _) (three_one rfl rfl rfl) (by unfold maxLen; omega) (by omega) (by simp; omega) ?_); intro v' w3 hown' hgrow3 hnil3))
        go_roundw
        case rel => exact rel_word s w _ k f done _ ⟨1, s.extract k (Rd.numEnd s k 9 (k + 1)), k⟩ (Rd.numEnd s k 9 (k + 1)) (by rw [HB.out, hko, hwe.out]) hwe.out.symm c1 (by rw [HB.out]; exact c4) hd hf hown' (below_own hown hbel hsz _ hgrow3) HEQ.out
        case measure => simp [intOf]; omega
    · obtain ⟨f', hf'⟩ : ∃ f', f = f' + 1 := ⟨f - 1, by omega⟩
      have HS : Hid (Rd.split s (s.size + 1) 0 = done ++ [⟨0, ⟨#[]⟩, s.size⟩]) := by
        show _ = _
        rw [← HEQ.out, hf', split_end s f' k c1]
      clear hf'
      go_wp2_with (at_builtin; refine wpList_append_own _ rfl _ _ 43 rfl w.heap.size 41 i (.agg #[.int .i64 0, .string ⟨#[]⟩, .int .i64 0]) 3 32 Try.underlying43 hi hz hsize hby rfl (by decide) _ _ _ rfl (hown.alloc _) ⟨wr.heap.size, 0, none⟩ 1 1 [.int .i64 0, .string ⟨#[]⟩, .int .i64 s.size] rfl rfl (cell_three_new _ _ _ _ _) (three_one rfl rfl rfl) (by unfold maxLen; omega) (by omega) (by simp; omega) ?_; intro v' w3 hown' hgrow3 hnil3)
      go_ret
      refine ⟨_, rfl, ?_, below_own hown hbel hsz _ hgrow3⟩
      rw [HS.out, Rd.wcells_append]
      simpa [Rd.wcells] using hown'

end Go.Proofs.Ytmepffenlgedbaa
