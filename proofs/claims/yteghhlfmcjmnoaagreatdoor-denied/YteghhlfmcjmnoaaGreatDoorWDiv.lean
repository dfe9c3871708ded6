import Derived.Test.YteghhlfmcjmnoaaGreatDoorWUp
set_option linter.unusedSimpArgs false
namespace Go.Proofs.YteghhlfmcjmnoaaGreatDoor
open Go.RowKit
theorem LimsB.used {B : Nat} {w : World} {xs : List Int} {g n cap : Nat} (h : LimsB B w xs (.slice (some ⟨g, 0, none⟩) n cap)) : LimsB B w (Nm.strip xs) (.slice (some ⟨g, 0, none⟩) (Nm.strip xs).length cap) := by
  have hle := Nm.strip_len xs
  rcases h.2 with ⟨h', _⟩ | ⟨g', cap', cur, h', h0, hh, hc, hm, hs, ht⟩
  · cases h'
  · cases h'
    refine ⟨by simp, Or.inr ⟨g, cap, cur, rfl, h0, hh, by omega, hm, hs, ?_⟩⟩
    have e : Nm.strip xs = xs.take (Nm.strip xs).length := Nm.strip_take xs
    conv => rhs; rw [e]
    rw [List.map_take, ← ht, List.take_take]
    congr 1
    omega
def lowRel (w : World) (x : Int) (a : List Int) (o i : Value) (wr : World) : Prop :=
  ∃ (k : Nat) (g cap : Nat), i = .int .i64 k ∧ k ≤ a.length ∧ o = .slice (some ⟨g, 0, none⟩) (k + 1) cap ∧ wr.ownsRow w.heap.size 142 1 o (k + 1) ((x :: a.take k).map (Value.int .u32)) ∧ Below w.heap.size w wr
set_option maxRecDepth 100000 in
set_option maxHeartbeats 1000000 in
theorem withLowest_any (w : World) (a : List Int) (v : Value) (x : Int) (ha : Lims w a v) (hal : a.length ≤ 10000000000) (ga : Nm.Dig 4294967296 a) (x0 : 0 ≤ x) (x1 : x < 4294967296) :
    Calls Tryz.prog 151 #[v, .int .u32 x] w (LimPost w fun xs => Nm.Good 4294967296 xs ∧ Nm.val 4294967296 xs = x + 4294967296 * Nm.val 4294967296 a ∧ xs.length ≤ a.length + 1) := by
  obtain ⟨ti, hi, hz, hsize, hby⟩ := info_parts infoU
  obtain ⟨ao, cap, rfl, hcap⟩ := ha.shape
  have HA := hid ha
  have GA := hid ga
  clear ha ga
  go_enter Tryz.func151, Tryz.ntmps151
  go_wp2_with fail
  go_loopw [5, 6] (fun o i wr => lowRel w x a o i wr) (fun _ i _ => a.length - (intOf i).toNat)
  case atStart => exact ⟨0, w.heap.size, 1, rfl, Nat.zero_le _, rfl, World.ownsRow_lit (size := 1) w #[.int .u32 x] 1 (Nat.le_refl _) (by decide) rfl, belowW (Below.refl _ _) (Nat.le_refl _) _⟩
  case round =>
    obtain ⟨k, g, c, rfl, hk, rfl, hown, hbel⟩ := hrel
    have hs := hbel.size
    have HBEL := hid hbel
    by_cases hka : (k : Int) < a.length
    · obtain ⟨g2, rfl, hc⟩ := (HA.out.below hbel).place (by omega)
      have x2 := hc k (by omega)
      have HAT : Hid (a.take (k + 1) = a.take k ++ [Nm.at' a k]) := by
        show _ = _
        rw [List.take_succ_eq_append_getElem (by omega)]
        unfold Nm.at'
        rw [List.getD_eq_getElem?_getD, List.getElem?_eq_getElem (show k < a.length by omega)]; rfl
      clear hc hbel
      generalize Nm.at' a k = y at *
      go_wp2_with (at_builtin; refine wpList_append_own _ rfl _ _ 78 rfl _ 142 ti (.int .u32 0) 1 4 Tryz.underlying78 hi hz hsize hby rfl (by decide) _ _ _ rfl (hown.alloc _) ⟨wr.heap.size, 0, none⟩ 1 1 [.int .u32 y] rfl rfl (cell_one_new _ _ _) (fun u hu => by simp at hu; subst hu; rfl) (by unfold maxLen; omega) (by omega) (by simp; omega) ?_; intro v' w3 hown' hgrow3 hnil3)
      have hsh : ∃ g' c', v' = .slice (some ⟨g', 0, none⟩) (k + 1 + 1) c' := by
        rcases hown'.2 with ⟨_, hh⟩ | ⟨g', c', cur, h', _⟩
        · omega
        · exact ⟨g', c', h'⟩
      obtain ⟨g', c', hv'⟩ := hsh
      go_roundw
      case rel =>
        refine ⟨k + 1, g', c', by simp, by omega, hv', ?_, below_own hown HBEL.out HBEL.out.size _ hgrow3⟩
        rw [HAT.out]
        simpa using hown'
      case measure => simp [intOf]; omega
    · obtain rfl : k = a.length := by omega
      rw [List.take_length] at hown
      have HD : Hid (Nm.Dig 4294967296 (x :: a)) := Nm.Dig.cons x0 x1 GA.out
      have hL : LimsB w.heap.size wr (x :: a) (.slice (some ⟨g, 0, none⟩) (a.length + 1) c) := hown
      have US := hid (used_any wr (x :: a) _ w.heap.size hL (by simp; omega))
      have HL := hid hL.used
      have hsl := Nm.strip_len (x :: a)
      simp only [List.length_cons] at hsl
      have hcc : a.length + 1 ≤ c := by
        rcases hown.2 with ⟨hh, _⟩ | ⟨g', c', cur, h', _, _, hc', _⟩
        · cases hh
        · cases h'; exact hc'
      clear hown hL hbel
      generalize hn : (Nm.strip (x :: a)).length = n at *
      have HN := hid hn
      clear hn
      go_wp2_with fail
      refine (US.out).mono ?_
      rintro e w1 ⟨rfl, rfl⟩
      go_wp2_with fail
      go_ret
      exact ⟨_, Nm.strip (x :: a), rfl, ⟨Nm.good_strip HD.out, by rw [Nm.val_strip]; rfl, by rw [HN.out]; exact hsl⟩, HL.out, HBEL.out⟩
theorem good_last {d : List Int} {n : Nat} (gd : Nm.Good 4294967296 d) (hn : d.length = n + 1) : 1 ≤ Nm.at' d n := by
  rcases Nm.good_cases gd with rfl | ⟨r, e, rfl, _, he, _⟩
  · simp at hn
  · have : r.length = n := by simpa using hn
    unfold Nm.at'
    simp [List.getD, this ▸ List.getElem?_concat_length]
    exact he
theorem guess_math {r d : List Int} {n : Nat} (hn : d.length = n + 1) (gr : Nm.Dig 4294967296 r) (gd : Nm.Good 4294967296 d) (hlt : Nm.val 4294967296 r < 4294967296 * Nm.val 4294967296 d) (hr2 : r.length ≤ n + 2) :
    Nm.val 4294967296 r / Nm.val 4294967296 d ≤ (Nm.at' r n + Nm.at' r (n + 1) * 4294967296) / Nm.at' d n ∧ Nm.val 4294967296 r / Nm.val 4294967296 d ≤ 4294967295 ∧ 0 ≤ Nm.val 4294967296 r / Nm.val 4294967296 d := by
  have hP := Nm.pow_pos' (B := (4294967296 : Int)) (by decide) n
  have hf := good_last gd hn
  have e1 : Nm.val 4294967296 d = Nm.val 4294967296 (d.take n) + Nm.at' d n * 4294967296 ^ n := by
    rw [← Nm.val_take, Nm.val_take_all _ d (by omega)]
  have e2 : Nm.val 4294967296 r = Nm.val 4294967296 (r.take n) + Nm.at' r n * 4294967296 ^ n + Nm.at' r (n + 1) * 4294967296 ^ (n + 1) := by
    rw [← Nm.val_take, ← Nm.val_take, Nm.val_take_all _ r (by omega)]
  have h1 := Nm.val_lo (by decide) (gd.dig.take n)
  have h2 := Nm.val_hi (by decide) (gr.take n)
  have h3 : (4294967296 : Int) ^ (r.take n).length ≤ 4294967296 ^ n := Nm.pow_mono (by decide) (by rw [List.length_take]; omega)
  have h4 := Nm.val_lo (by decide) gr
  have hfP : 1 * 4294967296 ^ n ≤ Nm.at' d n * 4294967296 ^ n := Int.mul_le_mul_of_nonneg_right hf (Int.le_of_lt hP)
  have hd : 0 < Nm.val 4294967296 d := by omega
  have hq0 : 0 ≤ Nm.val 4294967296 r / Nm.val 4294967296 d := Int.ediv_nonneg h4 (by omega)
  have hq1 : Nm.val 4294967296 r / Nm.val 4294967296 d < 4294967296 := Int.ediv_lt_of_lt_mul hd hlt
  have hq2 := Int.ediv_mul_le (Nm.val 4294967296 r) (show Nm.val 4294967296 d ≠ 0 by omega)
  refine ⟨?_, by omega, hq0⟩
  generalize hq : Nm.val 4294967296 r / Nm.val 4294967296 d = q at *
  refine Int.le_ediv_of_mul_le (by omega) ?_
  have h5 : q * (Nm.at' d n * 4294967296 ^ n) ≤ q * Nm.val 4294967296 d := Int.mul_le_mul_of_nonneg_left (by omega) hq0
  have h6 : q * Nm.at' d n * 4294967296 ^ n < (Nm.at' r n + Nm.at' r (n + 1) * 4294967296 + 1) * 4294967296 ^ n := by
    rw [Int.pow_succ] at e2
    have e3 : (Nm.at' r n + Nm.at' r (n + 1) * 4294967296 + 1) * 4294967296 ^ n = Nm.at' r n * 4294967296 ^ n + Nm.at' r (n + 1) * (4294967296 ^ n * 4294967296) + 4294967296 ^ n := by grind
    rw [e3, Int.mul_assoc]
    omega
  have := Int.lt_of_mul_lt_mul_right h6 (Int.le_of_lt hP)
  omega
theorem guess_len {r d : List Int} {n : Nat} (hn : d.length = n + 1) (gr : Nm.Good 4294967296 r) (gd : Nm.Dig 4294967296 d) (hlt : Nm.val 4294967296 r < 4294967296 * Nm.val 4294967296 d) : r.length ≤ n + 2 := by
  rcases Nat.lt_or_ge (n + 2) r.length with h | h
  · have h1 := Nm.val_top (by decide) gr (by intro e; rw [e] at h; simp at h)
    have h2 := Nm.val_hi (by decide) gd
    have h3 : (4294967296 : Int) ^ (n + 2) ≤ 4294967296 ^ (r.length - 1) := Nm.pow_mono (by decide) (by omega)
    rw [hn] at h2
    rw [Int.pow_succ] at h3
    omega
  · exact h
theorem guess_short {r d : List Int} {n : Nat} (hn : d.length = n + 1) (gr : Nm.Dig 4294967296 r) (gd : Nm.Good 4294967296 d) (h : r.length < n + 1) : Nm.val 4294967296 r / Nm.val 4294967296 d = 0 :=
  Int.ediv_eq_zero_of_lt (Nm.val_lo (by decide) gr) (Nm.val_longer (by decide) gr gd (by omega))
set_option maxRecDepth 100000 in
set_option maxHeartbeats 1000000 in
theorem guess_any (w : World) (r d : List Int) (u v : Value) (hr : Lims w r u) (hd : Lims w d v) (hrl : r.length ≤ 10000000000) (gr : Nm.Good 4294967296 r) (gd : Nm.Good 4294967296 d) (hp : 0 < d.length) (hlt : Nm.val 4294967296 r < 4294967296 * Nm.val 4294967296 d) :
    Calls Tryz.prog 152 #[u, v] w fun e w' => ∃ G : Int, e = .returned (.int .u32 G) ∧ 0 ≤ G ∧ G < 4294967296 ∧ Nm.val 4294967296 r / Nm.val 4294967296 d ≤ G ∧ w = w' := by
  obtain ⟨n, hn⟩ : ∃ n, d.length = n + 1 := ⟨d.length - 1, by omega⟩
  have hl2 := guess_len hn gr gd.dig hlt
  have hf := good_last gd hn
  have hf2 := (gd.dig.at' (by decide) n).2
  obtain ⟨m1, m2, m3⟩ := guess_math hn gr.dig gd hlt hl2
  have SH := hid (guess_short (r := r) hn gr.dig gd)
  obtain ⟨ro, rc, rfl, _⟩ := hr.shape
  obtain ⟨do', dc, rfl, _⟩ := hd.shape
  rw [hn]
  have l0 : (((n : Int) + 1) == 0) = false := beq_eq_false_iff_ne.2 (by omega)
  have M1 := hid m1
  have M2 := hid m2
  have M3 := hid m3
  obtain ⟨g2, rfl, hc2⟩ := hd.place hp
  have y1 := hc2 n (by omega)
  have a0 := gr.dig.at' (by decide) n
  have a1 := gr.dig.at' (by decide) (n + 1)
  by_cases c1 : (r.length : Int) < (n : Int) + 1
  · have HS := hid (SH.out (by omega))
    clear hc2 m1 m2 m3 M1 M2 M3 hr hd gr gd hlt y1 SH
    go_enter Tryz.func152, Tryz.ntmps152
    go_wp2_with fail
    go_ret
    exact ⟨0, rfl, by omega, by omega, by rw [HS.out]; exact Int.le_refl _, rfl⟩
  · obtain ⟨g, rfl, hc⟩ := hr.place (by omega)
    have x1 := hc n (by omega)
    by_cases c2 : (n : Int) + 1 < r.length
    · have x2 := hc (n + 1) (by omega)
      clear hc hc2 m1 m2 m3 hr hd gr gd hlt SH
      generalize Nm.val 4294967296 r / Nm.val 4294967296 d = q at *
      generalize Nm.at' r n = t0 at *
      generalize Nm.at' r (n + 1) = t1 at *
      generalize Nm.at' d n = f at *
      obtain ⟨a2, a3⟩ := a0
      obtain ⟨a4, a5⟩ := a1
      have f0 : (f == 0) = false := beq_eq_false_iff_ne.2 (by omega)
      have d0 : 0 ≤ (t0 + t1 * 4294967296) / f := Int.ediv_nonneg (by omega) (by omega)
      have d1 : (t0 + t1 * 4294967296) / f ≤ t0 + t1 * 4294967296 := Int.ediv_le_self _ (by omega)
      by_cases c3 : 4294967295 < (t0 + t1 * 4294967296) / f
      · go_enter Tryz.func152, Tryz.ntmps152
        go_wp2_with fail
        go_ret
        exact ⟨4294967295, rfl, by omega, by omega, M2.out, rfl⟩
      · go_enter Tryz.func152, Tryz.ntmps152
        go_wp2_with fail
        go_ret
        exact ⟨(t0 + t1 * 4294967296) / f, rfl, d0, by omega, M1.out, rfl⟩
    · have e1 := Nm.at_noneW (xs := r) (i := n + 1) (by omega)
      rw [e1, Int.zero_mul, Int.add_zero] at M1
      clear hc hc2 m1 m2 m3 hr hd gr gd hlt SH a1 e1
      generalize Nm.val 4294967296 r / Nm.val 4294967296 d = q at *
      generalize Nm.at' r n = t0 at *
      generalize Nm.at' d n = f at *
      obtain ⟨a2, a3⟩ := a0
      have f0 : (f == 0) = false := beq_eq_false_iff_ne.2 (by omega)
      have d0 : 0 ≤ t0 / f := Int.ediv_nonneg (by omega) (by omega)
      have d1 : t0 / f ≤ t0 := Int.ediv_le_self _ (by omega)
      go_enter Tryz.func152, Tryz.ntmps152
      go_wp2_with fail
      go_ret
      exact ⟨t0 / f, rfl, d0, by omega, M1.out, rfl⟩
end Go.Proofs.YteghhlfmcjmnoaaGreatDoor
set_option linter.unusedSimpArgs false
namespace Go.Proofs.YteghhlfmcjmnoaaGreatDoor
open Go.RowKit
def divOut (W1 : World) (A : List Int) (D : Int) (rv i : Value) (wr : World) : Prop :=
  ∃ (k : Nat) (q R : List Int), i = .int .i64 ((k : Int) - 1) ∧ k ≤ A.length ∧ LimsB (W1.heap.size + 1) wr R rv ∧ Nm.Good 4294967296 R ∧ LBlk wr W1.heap.size q ∧ q.length = A.length ∧ Nm.Dig 4294967296 q ∧ Below W1.heap.size W1 wr ∧
    Nm.val 4294967296 (A.drop k) = Nm.val 4294967296 (q.drop k) * D + Nm.val 4294967296 R ∧ Nm.val 4294967296 R < D
def divIn (W1 w5 : World) (D q0 : Int) (lv pv : Value) (wr : World) : Prop :=
  ∃ (g : Int) (P : List Int), lv = .int .u32 g ∧ 0 ≤ g ∧ g < 4294967296 ∧ q0 ≤ g ∧ LimsB (W1.heap.size + 1) wr P pv ∧ Nm.Good 4294967296 P ∧ Nm.val 4294967296 P = D * g ∧ Below w5.heap.size w5 wr
theorem div_step {x D A Q R R1 l : Int} (h : A = Q * D + R) (hr : R1 = x + 4294967296 * R) : x + 4294967296 * A = (l + 4294967296 * Q) * D + (R1 - D * l) := by
  subst h hr
  grind
theorem wdrop_set {q : List Int} {k : Nat} {x : Int} (h : k < q.length) : Nm.val 4294967296 ((q.set k x).drop k) = x + 4294967296 * Nm.val 4294967296 (q.drop (k + 1)) := by
  rw [Nm.val_drop 4294967296 _ k (by simpa using h)]
  congr 1
  · unfold Nm.at'; simp [h]
  · rw [List.drop_set_of_lt (by omega)]
def DivPost (w : World) (x y : Int) : Ending → World → Prop := fun e w' => ∃ qv rv Q R, e = .returned (.tuple #[qv, rv]) ∧ Lims w' Q qv ∧ Lims w' R rv ∧ Nm.Good 4294967296 Q ∧ Nm.Good 4294967296 R ∧ Nm.val 4294967296 Q = x / y ∧ Nm.val 4294967296 R = x % y ∧ Below w.heap.size w w'
theorem shifted_quot {a b s Q R A D : Int} (hb : 0 < b) (hs : 0 < s) (hA : A = a * s) (hD : D = b * s) (h : A = Q * D + R) (r0 : 0 ≤ R) (r1 : R < D) : Q = a / b ∧ R / s = a % b := by
  subst hA hD
  have e : R = s * (a - Q * b) := by grind
  have h1 : R / s = a - Q * b := by rw [e]; exact Int.mul_ediv_cancel_left _ (by omega)
  have h2 : 0 ≤ a - Q * b := by
    rcases Int.lt_or_le (a - Q * b) 0 with h' | h'
    · have := Int.mul_neg_of_pos_of_neg hs h'; omega
    · exact h'
  have h3 : a - Q * b < b := by
    have : s * (a - Q * b) < s * b := by rw [← e, Int.mul_comm s b]; exact r1
    exact Int.lt_of_mul_lt_mul_left this (by omega)
  have := Nm.floor_unique hb (show a = Q * b + (a - Q * b) by omega) h2 h3
  exact ⟨this.1.symm, by rw [h1, this.2]⟩
theorem len_up {a xs : List Int} {s : Nat} (ga : Nm.Dig 4294967296 a) (gx : Nm.Good 4294967296 xs) (hv : Nm.val 4294967296 xs = Nm.val 4294967296 a * 2 ^ s) (hs : s ≤ 32) : xs.length ≤ a.length + 1 := by
  rcases Nat.lt_or_ge (a.length + 1) xs.length with h | h
  · exfalso
    have h1 := Nm.val_top (by decide) gx (by intro e; rw [e] at h; simp at h)
    have h2 := Nm.val_hi (by decide) ga
    have h3 : (4294967296 : Int) ^ (a.length + 1) ≤ 4294967296 ^ (xs.length - 1) := Nm.pow_mono (by decide) (by omega)
    have h4 : (2 : Int) ^ s ≤ 2 ^ 32 := Nm.pow_mono (by decide) hs
    have h5 := Nm.val_lo (by decide) ga
    have h6 : Nm.val 4294967296 a * 2 ^ s ≤ Nm.val 4294967296 a * 4294967296 := Int.mul_le_mul_of_nonneg_left h4 h5
    rw [Int.pow_succ] at h3
    omega
  · exact h
theorem val_pos_len {xs : List Int} (h : 0 < Nm.val 4294967296 xs) : 0 < xs.length := by
  cases xs with
  | nil => simp [Nm.val] at h
  | cons _ _ => simp
set_option maxRecDepth 100000 in
set_option maxHeartbeats 4000000 in
theorem divideLimbs_any (w : World) (a b : List Int) (u v : Value) (ha : Lims w a u) (hb : Lims w b v) (hal : a.length ≤ 4000000000) (hbl : b.length ≤ 4000000000) (ga : Nm.Good 4294967296 a) (gb : Nm.Good 4294967296 b) (hp : 0 < b.length) :
    Calls Tryz.prog 117 #[u, v] w (DivPost w (Nm.val 4294967296 a) (Nm.val 4294967296 b)) := by
  have HA := hid ha
  have HB := hid hb
  have GA := hid ga
  have GB := hid gb
  obtain ⟨ao, ac, rfl, _⟩ := ha.shape
  obtain ⟨bo, bc, rfl, _⟩ := hb.shape
  have BL := hid (bitLength_any w b _ hb (by omega) hp gb.dig)
  have hbv : 0 < Nm.val 4294967296 b := by
    have h1 := Nm.val_lo (by decide) gb.dig
    have h2 := Nm.val_zero (by decide) gb
    rcases Int.lt_or_eq_of_le h1 with h | h
    · exact h
    · have := h2.1 h.symm; rw [this] at hp; simp at hp
  clear ha hb ga gb
  go_enter Tryz.func117, Tryz.ntmps117
  go_wp2_with fail
  refine (BL.out).mono ?_
  rintro e w0 ⟨c, rfl, hc, rfl⟩
  obtain ⟨s, hs⟩ : ∃ s : Nat, (32 : Int) * b.length - ((32 * (b.length - 1) + c : Nat) : Int) = s := ⟨32 - c, by omega⟩
  have hs2 : s ≤ 32 := by omega
  have hcb : ((32 * (b.length - 1) + c : Nat) : Int) = 32 * b.length - s := by omega
  rw [hcb]
  have SU1 := hid (shiftUp_any w b _ s HB.out (by omega) GB.out.dig (by omega))
  have hw1 : IntKind.i64.wrap (32 * (b.length : Int) - (32 * b.length - s)) = s := by rw [IntKind.wrap_i64]; omega
  have hw2 : IntKind.i64.wrap (32 * (b.length : Int)) = 32 * b.length := by rw [IntKind.wrap_i64]; omega
  clear hs hcb hc
  go_wp2_with fail
  refine (SU1.out).mono ?_
  rintro e w1 ⟨dv, dl, rfl, ⟨hg1, hv1⟩, hI1, hb1⟩
  have hld := len_up GB.out.dig hg1 hv1 hs2
  have SU2 := hid (shiftUp_any w1 a _ s (HA.out.below hb1) (by omega) GA.out.dig (by omega))
  obtain ⟨do', dc, rfl, _⟩ := hI1.shape
  go_wp2_with fail
  refine (SU2.out).mono ?_
  rintro e W1 ⟨av, al, rfl, ⟨hg2, hv2⟩, hI2, hb2⟩
  have hla := len_up GA.out.dig hg2 hv2 hs2
  obtain ⟨ao', ac', rfl, _⟩ := hI2.shape
  have hs1 := hb1.size
  have hs3 := hb2.size
  have BW := hid (hb1.trans (hb2.mono hb1.size))
  have hD : (0 : Int) < 2 ^ s := Nm.pow_pos' (by decide) s
  have hDp : 0 < Nm.val 4294967296 dl := by rw [hv1]; exact Int.mul_pos hbv hD
  have hdl := val_pos_len hDp
  have FINAL := hid (fun Q R h r0 r1 => shifted_quot (Q := Q) (R := R) hbv hD hv2 hv1 h r0 r1)
  have DL := hid (hI1.below hb2)
  have AL := hid hI2
  have GD := hid hg1
  have GAL := hid hg2
  have hmk := run_make_row' (P := Tryz.prog) 78 142 (.int .u32 0) 4 Tryz.underlying78 infoU rfl .i64 .i64 al.length (by omega) (by omega)
  clear hI1 hI2 hb1 hb2 hv1 hv2 hg1 hg2 SU1 SU2 hD hw1 hw2 HA HB BL
  go_wp2_with fail
  go_loopw [10, 11] (fun r i wr => divOut W1 al (Nm.val 4294967296 dl) r i wr) (fun _ i _ => (intOf i + 1).toNat)
  case atStart =>
    refine ⟨al.length, List.replicate al.length 0, [], rfl, Nat.le_refl _, ?_, Nm.Good.nil _, ?_, by simp, Nm.Dig.zeros (by decide) _, belowW (belowW (Below.refl _ _) (Nat.le_refl _) _) (by simp) _, by simp [Nm.val], hDp⟩
    · exact ⟨rfl, Or.inr ⟨W1.heap.size + 1, 0, #[], by simp, Nat.le_refl _, by have := at_newW (W1.alloc (.cells (madeCells #[.int .u32 0] al.length) 142)) (.cells #[] 142); rw [World.size_alloc] at this; exact this, Nat.le_refl _, by decide, rfl, rfl⟩⟩
    · exact (LBlk.made W1 al.length).below (belowW (Below.refl _ _) (Nat.le_refl _) _)
  case round =>
    obtain ⟨k, q, R, rfl, hk, hR, hRg, hblk, hlen, hdig, hbel, hval, hRy⟩ := hrel
    have HV := hid hval
    have HLEN := hid hlen
    have HDIG := hid hdig
    have HBEL := hid hbel
    have HBLK := hid hblk
    have HRG := hid hRg
    have hR0 := Nm.val_lo (by decide) hRg.dig
    have hsb := hblk.lt
    have hRlen := wlen_le hRg GD.out (by omega)
    obtain ⟨ro, rc, rfl, _⟩ := hR.shape
    have HR := hid hR
    clear hval hlen hdig hbel hblk hRg hR
    cases k with
    | zero =>
      have hA : Nm.val 4294967296 al = Nm.val 4294967296 q * Nm.val 4294967296 dl + Nm.val 4294967296 R := by have := HV.out; simpa using this
      have FQ := hid (FINAL.out _ _ hA hR0 hRy)
      have US := hid (used_any wr.drew q _ 0 (HBLK.out.drew.lims (by rw [HLEN.out]; omega)) (by rw [HLEN.out]; omega))
      have SD := hid (shiftDown_any wr.drew R _ s ((HR.out.below (drewW _)).weak (Nat.zero_le _)) (by omega) HRG.out.dig (by omega))
      have hsl := Nm.strip_len q
      have HL := hid (HBLK.out.used (B := 0) (by rw [HLEN.out]; omega) (Nat.zero_le _))
      rw [HLEN.out] at US hsl HL
      have HGQ := hid (Nm.good_strip HDIG.out)
      have HVQ := hid (Nm.val_strip 4294967296 q)
      generalize hn : (Nm.strip q).length = n at *
      clear hA hn
      go_wp2_with fail
      go_region_with (first
        | (go_at_call 115; refine (US.out).mono ?_; rintro e w6 ⟨rfl, rfl⟩)
        | (go_at_call 155; refine (SD.out).mono ?_; rintro e w7 ⟨sv, S, rfl, ⟨gS, vS⟩, hIS, hbS'⟩; have hbS := undrewW hbS'; clear hbS'; obtain ⟨so, sc, rfl, _⟩ := hIS.shape; have HIS := hid (hIS.weak (Nat.zero_le _)); have HBS := hid hbS; have GS := hid gS; have VS := hid vS; clear hIS hbS gS vS))
      all_goals
        go_wp2_with fail
        refine bodyPost_ret (v := .tuple #[.slice (some ⟨W1.heap.size, 0, none⟩) n al.length, .slice so S.length sc]) (by simp [results, Tryz.results117, go_sem]) rfl ⟨_, _, Nm.strip q, S, rfl, HL.out.below HBS.out, HIS.out, HGQ.out, GS.out, by rw [HVQ.out]; exact FQ.out.1, by rw [VS.out]; exact FQ.out.2, ?_⟩
        exact BW.out.trans ((HBEL.out.trans (HBS.out.mono (by omega))).mono (by omega))
    | succ k =>
      obtain ⟨g, rfl, _⟩ := AL.out.place (by omega)
      have x1 := (AL.out.below HBEL.out).cellG k (by omega)
      have a0 := GAL.out.dig.at' (by decide) k
      generalize hx : Nm.at' al k = x at *
      have HX := hid hx
      clear hx
      have WL := hid (withLowest_any wr R _ x (HR.out.weak (Nat.zero_le _)) (by omega) HRG.out.dig a0.1 a0.2)
      go_wp2_with fail
      refine (WL.out).mono ?_
      rintro e w3 ⟨rv, R1, rfl, ⟨g3, v3, l3⟩, hI3, hb3⟩
      obtain ⟨ro3, rc3, rfl, _⟩ := hI3.shape
      have hs4 := hb3.size
      have hlt3 : Nm.val 4294967296 R1 < 4294967296 * Nm.val 4294967296 dl := by omega
      have hge3 := Nm.val_lo (by decide) g3.dig
      have B3 := hid (HBEL.out.trans (hb3.mono (show W1.heap.size ≤ wr.heap.size by omega)))
      have GU := hid (guess_any w3 R1 dl _ _ (hI3.weak (Nat.zero_le _)) ((DL.out.below B3.out).weak (Nat.zero_le _)) (by omega) g3 GD.out hdl hlt3)
      have HI3 := hid (hI3.weak (show W1.heap.size + 1 ≤ wr.heap.size by omega))
      have H3 := hid hb3
      have G3 := hid g3
      have V3 := hid v3
      clear hI3 g3 hb3 WL
      go_wp2_with fail
      refine (GU.out).mono ?_
      rintro e w3' ⟨G, rfl, G0, G1, hqG, rfl⟩
      have LO := hid (limbsOf_any G w3 G0 (by omega))
      go_wp2_with fail
      refine (LO.out).mono ?_
      rintro e w4 ⟨lv, L, rfl, ⟨gL, vL, lL⟩, hI4, hb4⟩
      have hs5 := hb4.size
      have ML := hid (multiplyLimbs_any w4 dl L _ _ (((DL.out.below B3.out).below hb4).weak (Nat.zero_le _)) (hI4.weak (Nat.zero_le _)) (by omega) (by omega) GD.out.dig gL.dig)
      rw [vL] at ML
      go_wp2_with fail
      refine (ML.out).mono ?_
      rintro e w5 ⟨pv, P, rfl, ⟨gP, vP⟩, hI5, hb5⟩
      have hs6 := hb5.size
      have HQG := hid hqG
      have HI5 := hid (hI5.weak (show W1.heap.size + 1 ≤ w4.heap.size by omega))
      have GP := hid gP
      have VP := hid vP
      have H35 := hid (hb4.trans (hb5.mono hb4.size))
      clear hI5 gP vP hb4 hb5 gL vL hI4 hqG ML LO GU
      obtain ⟨wo, hwo⟩ : ∃ wo : World, wo = wr := ⟨_, rfl⟩
      subst hwo
      go_wp2_with fail
      go_loopw [12, 13] (fun l p wr => divIn W1 w5 (Nm.val 4294967296 dl) (Nm.val 4294967296 R1 / Nm.val 4294967296 dl) l p wr) (fun l _ _ => (intOf l).toNat)
      case atStart => exact ⟨G, P, rfl, G0, G1, HQG.out, HI5.out, GP.out, VP.out, Below.refl _ _⟩
      case round =>
        obtain ⟨G', P', rfl, h0, h1, hq, hI, hg, hv, hbi⟩ := hrel
        have hsi := hbi.size
        have BX0 := hid (H35.out.trans (hbi.mono (show w3.heap.size ≤ w5.heap.size by omega)))
        obtain ⟨po, pc, rfl, _⟩ := hI.shape
        have HIX0 := hid hI
        have HG := hid hg
        have HVV := hid hv
        have HBI := hid hbi
        have hPl : P'.length ≤ 9000000000 := by
          have h2 := Nm.val_hi (by decide) GD.out.dig
          rcases Nat.lt_or_ge (dl.length + 1) P'.length with h | h
          · exfalso
            have h3 := Nm.val_top (by decide) hg (by intro e; rw [e] at h; simp at h)
            have h4 : (4294967296 : Int) ^ (dl.length + 1) ≤ 4294967296 ^ (P'.length - 1) := Nm.pow_mono (by decide) (by omega)
            have h5 : Nm.val 4294967296 dl * G' ≤ Nm.val 4294967296 dl * 4294967296 := Int.mul_le_mul_of_nonneg_left (by omega) (by omega)
            rw [Int.pow_succ] at h4
            omega
          · omega
        clear hI hg hv hbi
        by_cases hg0 : 0 < G'
        · have CMP := hid (compareLimbs_any wr P' R1 _ _ (HIX0.out.weak (Nat.zero_le _)) ((HI3.out.below BX0.out).weak (Nat.zero_le _)) (by omega) HG.out G3.out)
          rw [HVV.out] at CMP
          by_cases hle : Nm.val 4294967296 dl * G' ≤ Nm.val 4294967296 R1
          · have hc : ¬ 0 < Nm.cmp (Nm.val 4294967296 dl * G') (Nm.val 4294967296 R1) := by
              rcases Int.lt_or_eq_of_le hle with h | h
              · rw [Nm.cmp_lt h]; decide
              · rw [Nm.cmp_eq h]; decide
            generalize Nm.cmp (Nm.val 4294967296 dl * G') (Nm.val 4294967296 R1) = cv at *
            go_wp2_with fail
            refine (CMP.out).mono ?_
            rintro e w6 ⟨rfl, hb6⟩
            have hs9 := hb6.size
            have BX := hid (BX0.out.trans (hb6.mono (show w3.heap.size ≤ wr.heap.size by omega)))
            have HIX := hid (HIX0.out.below hb6)
            clear hb6
            have hgq : Nm.val 4294967296 R1 / Nm.val 4294967296 dl = G' := by
              have := Int.le_ediv_of_mul_le hDp (show G' * Nm.val 4294967296 dl ≤ Nm.val 4294967296 R1 by rw [Int.mul_comm]; exact hle)
              omega
            have hmod := Int.emod_lt_of_pos (Nm.val 4294967296 R1) hDp
            have hmod2 := Int.emod_add_mul_ediv (Nm.val 4294967296 R1) (Nm.val 4294967296 dl)
            rw [hgq] at hmod2
            have SB := hid (subtractLimbs_any w6 R1 P' _ _ ((HI3.out.below BX.out).weak (Nat.zero_le _)) (HIX.out.weak (Nat.zero_le _)) (by omega) (wlen_le HG.out G3.out (by rw [HVV.out]; exact hle)) G3.out.dig HG.out.dig (by rw [HVV.out]; exact hle))
            rw [HVV.out] at SB
            have HMOD : Hid (Nm.val 4294967296 R1 - Nm.val 4294967296 dl * G' < Nm.val 4294967296 dl) := by show _ < _; omega
            have Bw6 := hid (B3.out.trans (BX.out.mono (show W1.heap.size ≤ w3.heap.size by omega)))
            have BLK := hid ((HBLK.out.below H3.out).below BX.out)
            clear hmod hmod2 hgq
            go_wp2_with fail
            refine (SB.out).mono ?_
            rintro e w8 ⟨rv8, R8, rfl, ⟨g8, v8⟩, hI8, hb8⟩
            obtain ⟨ro8, rc8, rfl, _⟩ := hI8.shape
            have hs8 := hb8.size
            have bk8 := BLK.out.below hb8
            have hql : k < q.length := by rw [HLEN.out]; omega
            have k1 := bk8.cell k hql
            have k2 := bk8.frozen k
            have REL : Hid (divOut W1 al (Nm.val 4294967296 dl) (.slice ro8 R8.length rc8) (.int .i64 ((k : Int) - 1)) (w8.setCell ⟨W1.heap.size, k, none⟩ (.int .u32 G'))) := by
              refine ⟨k, q.set k G', R8, by simp, by omega, (hI8.weak (show W1.heap.size + 1 ≤ w6.heap.size by omega)).lowSet (by omega) _, g8, bk8.set _ _, by simpa using HLEN.out, HDIG.out.set _ h0 h1, (Bw6.out.trans (hb8.mono (show W1.heap.size ≤ w6.heap.size by omega))).setCell (by simp) _, ?_, by rw [v8]; exact HMOD.out⟩
              rw [Nm.val_drop 4294967296 al k (by omega), wdrop_set hql, HX.out, v8]
              exact div_step HV.out V3.out
            clear hI8 g8 v8 hb8 bk8 hql
            generalize Nm.at' q k = oq at *
            go_wp2_with fail
            go_roundw
            case rel => exact REL.out
            case measure => simp [intOf]
          · have hlt : Nm.val 4294967296 R1 < Nm.val 4294967296 dl * G' := by omega
            have hc : Nm.cmp (Nm.val 4294967296 dl * G') (Nm.val 4294967296 R1) = 1 := Nm.cmp_gt hlt
            rw [hc] at CMP
            have hqlt : Nm.val 4294967296 R1 / Nm.val 4294967296 dl < G' := Int.ediv_lt_of_lt_mul hDp (by rw [Int.mul_comm]; exact hlt)
            have hge : Nm.val 4294967296 dl ≤ Nm.val 4294967296 dl * G' := by
              have := Int.mul_le_mul_of_nonneg_left (show 1 ≤ G' by omega) (show 0 ≤ Nm.val 4294967296 dl by omega)
              omega
            have hnew : Nm.val 4294967296 dl * G' - Nm.val 4294967296 dl = Nm.val 4294967296 dl * (G' - 1) := by rw [Int.mul_sub, Int.mul_one]
            go_wp2_with fail
            refine (CMP.out).mono ?_
            rintro e w6 ⟨rfl, hb6⟩
            have hs9 := hb6.size
            have BX := hid (BX0.out.trans (hb6.mono (show w3.heap.size ≤ wr.heap.size by omega)))
            have SB := hid (subtractLimbs_any w6 P' dl _ _ ((HIX0.out.below hb6).weak (Nat.zero_le _)) (((DL.out.below B3.out).below BX.out).weak (Nat.zero_le _)) (by omega) (wlen_le GD.out HG.out (by rw [HVV.out]; exact hge)) HG.out.dig GD.out.dig (by rw [HVV.out]; exact hge))
            rw [HVV.out, hnew] at SB
            go_wp2_with fail
            refine (SB.out).mono ?_
            rintro e w7 ⟨pv7, P7, rfl, ⟨g7, v7⟩, hI7, hb7⟩
            have hs7 := hb7.size
            go_wp2_with fail
            go_roundw
            case rel => exact ⟨G' - 1, P7, rfl, by omega, by omega, by omega, hI7.weak (by omega), g7, v7, (HBI.out.trans (hb6.mono (by omega))).trans (hb7.mono (by omega))⟩
            case measure => simp [intOf]; omega
        · obtain rfl : G' = 0 := by omega
          have hle : Nm.val 4294967296 dl * 0 ≤ Nm.val 4294967296 R1 := by rw [Int.mul_zero]; exact hge3
          have BX := BX0
          have HIX := HIX0
          have hgq : Nm.val 4294967296 R1 / Nm.val 4294967296 dl = 0 := by
            have := Int.le_ediv_of_mul_le hDp (show 0 * Nm.val 4294967296 dl ≤ Nm.val 4294967296 R1 by rw [Int.mul_comm]; exact hle)
            omega
          have hmod := Int.emod_lt_of_pos (Nm.val 4294967296 R1) hDp
          have hmod2 := Int.emod_add_mul_ediv (Nm.val 4294967296 R1) (Nm.val 4294967296 dl)
          rw [hgq] at hmod2
          have SB := hid (subtractLimbs_any wr R1 P' _ _ ((HI3.out.below BX.out).weak (Nat.zero_le _)) (HIX.out.weak (Nat.zero_le _)) (by omega) (wlen_le HG.out G3.out (by rw [HVV.out]; exact hle)) G3.out.dig HG.out.dig (by rw [HVV.out]; exact hle))
          rw [HVV.out] at SB
          have HMOD : Hid (Nm.val 4294967296 R1 - Nm.val 4294967296 dl * 0 < Nm.val 4294967296 dl) := by show _ < _; omega
          have BVV := hid (B3.out.trans (BX.out.mono (show W1.heap.size ≤ w3.heap.size by omega)))
          have BLK := hid ((HBLK.out.below H3.out).below BX.out)
          clear hmod hmod2 hgq
          go_wp2_with fail
          refine (SB.out).mono ?_
          rintro e w8 ⟨rv8, R8, rfl, ⟨g8, v8⟩, hI8, hb8⟩
          obtain ⟨ro8, rc8, rfl, _⟩ := hI8.shape
          have hs8 := hb8.size
          have bk8 := BLK.out.below hb8
          have hql : k < q.length := by rw [HLEN.out]; omega
          have k1 := bk8.cell k hql
          have k2 := bk8.frozen k
          have REL : Hid (divOut W1 al (Nm.val 4294967296 dl) (.slice ro8 R8.length rc8) (.int .i64 ((k : Int) - 1)) (w8.setCell ⟨W1.heap.size, k, none⟩ (.int .u32 0))) := by
            refine ⟨k, q.set k 0, R8, by simp, by omega, (hI8.weak (show W1.heap.size + 1 ≤ wr.heap.size by omega)).lowSet (by omega) _, g8, bk8.set _ _, by simpa using HLEN.out, HDIG.out.set _ h0 h1, (BVV.out.trans (hb8.mono (show W1.heap.size ≤ wr.heap.size by omega))).setCell (by simp) _, ?_, by rw [v8]; exact HMOD.out⟩
            rw [Nm.val_drop 4294967296 al k (by omega), wdrop_set hql, HX.out, v8]
            exact div_step HV.out V3.out
          clear hI8 g8 v8 hb8 bk8 hql
          generalize Nm.at' q k = oq at *
          go_wp2_with fail
          go_roundw
          case rel => exact REL.out
          case measure => simp [intOf]
end Go.Proofs.YteghhlfmcjmnoaaGreatDoor
