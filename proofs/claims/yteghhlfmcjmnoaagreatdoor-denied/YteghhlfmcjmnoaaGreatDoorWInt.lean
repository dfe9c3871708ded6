import Derived.Test.YteghhlfmcjmnoaaGreatDoorWAdd
set_option linter.unusedSimpArgs false
namespace Go.Proofs.YteghhlfmcjmnoaaGreatDoor
open Go.RowKit
def subRel (w : World) (a b : List Int) (c i : Value) (wr : World) : Prop :=
  ∃ (k : Nat) (cc : Int) (out : List Int), i = .int .i64 k ∧ c = .int .u64 cc ∧ 0 ≤ cc ∧ cc ≤ 1 ∧ k ≤ a.length ∧ LBlk wr w.heap.size out ∧ out.length = a.length ∧ Nm.Dig 4294967296 out ∧ Below w.heap.size w wr ∧
    Nm.val 4294967296 (out.take k) + Nm.val 4294967296 (b.take k) = Nm.val 4294967296 (a.take k) + cc * 4294967296 ^ k
theorem subRel_step {w wr : World} {a b out : List Int} {k : Nat} {cc c' d : Int} (c0 : 0 ≤ c') (c1 : c' ≤ 1) (hk : k < a.length) (hblk : LBlk wr w.heap.size out) (hlen : out.length = a.length) (hdig : Nm.Dig 4294967296 out) (hbel : Below w.heap.size w wr)
    (hval : Nm.val 4294967296 (out.take k) + Nm.val 4294967296 (b.take k) = Nm.val 4294967296 (a.take k) + cc * 4294967296 ^ k) (d0 : 0 ≤ d) (d1 : d < 4294967296) (hd : d = Nm.at' a k - Nm.at' b k - cc + c' * 4294967296) :
    subRel w a b (.int .u64 c') (.int .i64 ((k : Int) + 1)) (wr.setCell ⟨w.heap.size, k, none⟩ (.int .u32 d)) := by
  refine ⟨k + 1, c', out.set k d, by simp, rfl, c0, c1, by omega, hblk.set _ _, by simpa using hlen, hdig.set _ d0 d1, hbel.setCell (by simp) _, ?_⟩
  rw [Nm.take_set (by omega)]
  exact Nm.less_step (by rw [List.length_take]; omega) hval hd
set_option maxRecDepth 100000 in
set_option maxHeartbeats 2000000 in
theorem subtractLimbs_any (w : World) (a b : List Int) (u v : Value) (ha : Lims w a u) (hb : Lims w b v) (hal : a.length ≤ 10000000000) (hbl : b.length ≤ a.length) (ga : Nm.Dig 4294967296 a) (gb : Nm.Dig 4294967296 b) (hle : Nm.val 4294967296 b ≤ Nm.val 4294967296 a) :
    Calls Tryz.prog 120 #[u, v] w (LimPost w fun xs => Nm.Good 4294967296 xs ∧ Nm.val 4294967296 xs = Nm.val 4294967296 a - Nm.val 4294967296 b) := by
  obtain ⟨ao, cap, rfl, hcap⟩ := ha.shape
  obtain ⟨bo, bap, rfl, hbap⟩ := hb.shape
  have hmk := run_make_row' (P := Tryz.prog) 78 142 (.int .u32 0) 4 Tryz.underlying78 infoU rfl .i64 .i64 a.length (by omega) (by omega)
  have HA := hid ha
  have HB := hid hb
  have GA := hid ga
  have GB := hid gb
  have HLE := hid hle
  clear ha hb ga gb hle
  go_enter Tryz.func120, Tryz.ntmps120
  go_wp2_with fail
  go_loopw [6, 7] (fun c i wr => subRel w a b c i wr) (fun _ i _ => a.length - (intOf i).toNat)
  case atStart => exact ⟨0, 0, List.replicate a.length 0, rfl, rfl, by omega, by omega, by omega, LBlk.made w _, by simp, Nm.Dig.zeros (by decide) _, belowW (Below.refl _ _) (Nat.le_refl _) _, rfl⟩
  case round =>
    obtain ⟨k, cc, out, rfl, rfl, c0, c1, hk, hblk, hlen, hdig, hbel, hval⟩ := hrel
    by_cases hkn : (k : Int) < a.length
    · have k1 := hblk.cell k (by omega)
      have k2 := hblk.frozen k
      have ST := hid (fun c' d c0' c1' d0 d1 hd => subRel_step (c' := c') (d := d) c0' c1' (by omega) hblk hlen hdig hbel hval d0 d1 hd)
      have a0 := GA.out.at' (by decide) k
      have b0 := GB.out.at' (by decide) k
      have HLEN := hid hlen
      obtain ⟨ga, rfl, hca⟩ := (HA.out.below hbel).place (by omega)
      have x1 := hca k (by omega)
      clear hca
      by_cases g2 : (k : Int) < b.length
      · obtain ⟨gb, rfl, hcb⟩ := (HB.out.below hbel).place (by omega)
        have x2 := hcb k (by omega)
        clear hcb hval hlen hdig hbel hblk
        generalize Nm.at' a k = x at *
        generalize Nm.at' b k = y at *
        generalize Nm.at' out k = o at *
        obtain ⟨a1, a2⟩ := a0
        obtain ⟨b1, b2⟩ := b0
        by_cases hc : x < cc + y
        · go_wp2_with fail
          go_roundw
          case rel => exact ST.out 1 _ (by omega) (by omega) (by omega) (by omega) (by omega)
          case measure => simp [intOf]; omega
        · go_wp2_with fail
          go_roundw
          case rel => exact ST.out 0 _ (by omega) (by omega) (by omega) (by omega) (by omega)
          case measure => simp [intOf]; omega
      · have e2 := Nm.at_noneW (xs := b) (i := k) (by omega)
        clear hval hlen hdig hbel hblk
        generalize Nm.at' a k = x at *
        generalize Nm.at' b k = y at *
        generalize Nm.at' out k = o at *
        obtain ⟨a1, a2⟩ := a0
        have HE2 := hid e2
        clear e2 b0
        by_cases hc : x < cc
        · go_wp2_with fail
          go_roundw
          case rel => exact ST.out 1 _ (by omega) (by omega) (by omega) (by omega) (by have := HE2.out; omega)
          case measure => simp [intOf]; omega
        · go_wp2_with fail
          go_roundw
          case rel => exact ST.out 0 _ (by omega) (by omega) (by omega) (by omega) (by have := HE2.out; omega)
          case measure => simp [intOf]; omega
    · obtain rfl : k = a.length := by omega
      have hl1 : (out.take a.length).length = a.length := by rw [List.length_take]; omega
      have HE := hid (Nm.less_end (by decide) rfl hl1 (hdig.take _) c0 HLE.out hbl hval)
      have HT := hid (show out.take a.length = out from List.take_of_length_le (by omega))
      have US := hid (used_any wr out _ 0 (hblk.lims (by omega)) (by omega))
      rw [hlen] at US
      have hsl := Nm.strip_len out
      rw [hlen] at hsl
      have HL := hid (hblk.used (B := w.heap.size) (by omega) (Nat.le_refl _))
      rw [hlen] at HL
      have HD := hid hdig
      have HBEL := hid hbel
      clear hval hlen hdig hbel hblk hl1
      generalize hn : (Nm.strip out).length = n at *
      clear hn
      go_wp2_with fail
      refine (US.out).mono ?_
      rintro e w1 ⟨rfl, rfl⟩
      go_wp2_with fail
      go_ret
      exact ⟨_, Nm.strip out, rfl, ⟨Nm.good_strip HD.out, by rw [Nm.val_strip, ← HE.out.2, HT.out]⟩, HL.out, HBEL.out⟩
end Go.Proofs.YteghhlfmcjmnoaaGreatDoor
set_option linter.unusedSimpArgs false
namespace Go.Proofs.YteghhlfmcjmnoaaGreatDoor
open Go.RowKit
theorem Nm.at_set_ne {l : List Int} {k j : Nat} {x : Int} (h : k ≠ j) : Nm.at' (l.set k x) j = Nm.at' l j := by
  unfold Nm.at'
  simp [List.getD, List.getElem?_set_ne h]
theorem Nm.at_zeros (n i : Nat) : Nm.at' (List.replicate n 0) i = 0 := by
  unfold Nm.at'
  rw [List.getD_eq_getElem?_getD]
  cases h : (List.replicate n (0 : Int))[i]? with
  | none => rfl
  | some x => have := List.mem_of_getElem? h; rw [List.mem_replicate] at this; rw [this.2]; rfl
def wmOut (w : World) (S L : List Int) (i : Value) (wr : World) : Prop :=
  ∃ (k : Nat) (out : List Int), i = .int .i64 k ∧ k ≤ S.length ∧ LBlk wr w.heap.size out ∧ out.length = S.length + L.length ∧ Nm.Dig 4294967296 out ∧ Below w.heap.size w wr ∧ Nm.val 4294967296 out = Nm.val 4294967296 (S.take k) * Nm.val 4294967296 L ∧ (∀ t, k + L.length ≤ t → Nm.at' out t = 0)
def wmIn (w : World) (S L : List Int) (i : Nat) (c jv : Value) (wr : World) : Prop :=
  ∃ (j : Nat) (cc : Int) (out : List Int), jv = .int .i64 j ∧ c = .int .u64 cc ∧ 0 ≤ cc ∧ cc < 4294967296 ∧ j ≤ L.length ∧ LBlk wr w.heap.size out ∧ out.length = S.length + L.length ∧ Nm.Dig 4294967296 out ∧ Below w.heap.size w wr ∧
    Nm.val 4294967296 out + cc * 4294967296 ^ (i + j) = Nm.val 4294967296 (S.take i) * Nm.val 4294967296 L + Nm.at' S i * Nm.val 4294967296 (L.take j) * 4294967296 ^ i ∧ (∀ t, i + L.length ≤ t → Nm.at' out t = 0)
theorem wm_row {a b out : List Int} {k : Nat} {cc : Int} (hk : k + b.length < out.length) (hz : Nm.at' out (k + b.length) = 0) (h : Nm.val 4294967296 out + cc * 4294967296 ^ (k + b.length) = Nm.val 4294967296 (a.take k) * Nm.val 4294967296 b + Nm.at' a k * Nm.val 4294967296 (b.take b.length) * 4294967296 ^ k) :
    Nm.val 4294967296 (out.set (k + b.length) cc) = Nm.val 4294967296 (a.take (k + 1)) * Nm.val 4294967296 b := by
  rw [List.take_length] at h
  rw [Nm.val_set _ _ _ _ hk, hz, Nm.val_take]
  generalize (4294967296 : Int) ^ (k + b.length) = P at *
  grind
set_option maxRecDepth 100000 in
set_option maxHeartbeats 8000000 in
theorem multiplyLimbs_any (w : World) (a b : List Int) (u v : Value) (ha : Lims w a u) (hb : Lims w b v) (hal : a.length ≤ 10000000000) (hbl : b.length ≤ 10000000000) (ga : Nm.Dig 4294967296 a) (gb : Nm.Dig 4294967296 b) :
    Calls Tryz.prog 153 #[u, v] w (LimPost w fun xs => Nm.Good 4294967296 xs ∧ Nm.val 4294967296 xs = Nm.val 4294967296 a * Nm.val 4294967296 b) := by
  obtain ⟨ao, cap, rfl, hcap⟩ := ha.shape
  obtain ⟨bo, bap, rfl, hbap⟩ := hb.shape
  have hmk := run_make_row' (P := Tryz.prog) 78 142 (.int .u32 0) 4 Tryz.underlying78 infoU rfl .i64 .i64 (a.length + b.length) (by omega) (by omega)
  rw [show ((a.length + b.length : Nat) : Int) = (a.length : Int) + b.length by omega] at hmk
  by_cases hab : (b.length : Int) < a.length
  · have HS := hid hb
    have HL := hid ha
    have GS := hid gb
    have GL := hid ga
    clear ha hb ga gb
    go_enter Tryz.func153, Tryz.ntmps153
    go_wp2_with fail
    go_loopw [8] (fun i wr => wmOut w b a i wr) (fun i _ => b.length - (intOf i).toNat)
    case atStart => exact ⟨0, List.replicate (a.length + b.length) 0, rfl, Nat.zero_le _, LBlk.made w _, by simp; try omega, Nm.Dig.zeros (by decide) _, belowW (Below.refl _ _) (Nat.le_refl _) _, by rw [Nm.val_zeros]; simp [Nm.val], fun t _ => Nm.at_zeros _ _⟩
    case round =>
      obtain ⟨k, out, rfl, hk, hblk, hlen, hdig, hbel, hval, hzz⟩ := hrel
      have HV := hid hval
      have HLEN := hid hlen
      have HDIG := hid hdig
      have HBEL := hid hbel
      have HBLK := hid hblk
      have HZZ := hid hzz
      have hs := hblk.lt
      by_cases hka : (k : Int) < b.length
      · obtain ⟨g, rfl, _⟩ := HS.out.place (by omega)
        obtain ⟨wo, hwo⟩ : ∃ wo : World, wo = wr := ⟨_, rfl⟩
        subst hwo
        have x1 := (HS.out.below HBEL.out).cellG k (by omega)
        clear hval hlen hdig hbel hblk hzz
        have a0 := GS.out.at' (by decide) k
        have i5 : (k : Int) + a.length ≤ (a.length : Int) + b.length := by omega
        have i6 : IntKind.i64.wrap ((k : Int) + a.length) = (k : Int) + a.length := by rw [IntKind.wrap_i64]; omega
        have i7 : ((k : Int) + a.length).toNat = k + a.length := by omega
        have i8 : k + a.length - k = a.length := by omega
        have i9 : (0 : Int) ≤ (k : Int) + a.length := by omega
        have i10 : (k : Int) ≤ (k : Int) + a.length := by omega
        have i11 : k + a.length ≤ a.length + b.length := by omega
        have i12 : k ≤ k + a.length := by omega
        go_wp2_with fail
        go_loopw [11, 12] (fun c j wr => wmIn w b a k c j wr) (fun _ j _ => a.length - (intOf j).toNat)
        case atStart =>
          refine ⟨0, 0, out, rfl, rfl, by omega, by omega, by omega, HBLK.out, HLEN.out, HDIG.out, HBEL.out, ?_, HZZ.out⟩
          rw [HV.out]
          simp [Nm.val]
        case round =>
          obtain ⟨j, cc, out', rfl, rfl, c0, c1, hj, hblk, hlen, hdig, hbel, hval, hzz⟩ := hrel
          have hs' := hblk.lt
          by_cases gg : (j : Int) < a.length
          · have hij : k + j < out'.length := by rw [hlen]; omega
            obtain ⟨g2, rfl, _⟩ := HL.out.place (by omega)
            have y1 := (HL.out.below hbel).cellG j (by omega)
            have x2 := hblk.cell (k + j) hij
            have x3 := hblk.frozen (k + j)
            have b0 := GL.out.at' (by decide) j
            have o0 := hdig.at' (by decide) (k + j)
            have hcar := Nm.mul_carry (x := cc + Nm.at' out' (k + j) + Nm.at' b k * Nm.at' a j) (by decide) c0 c1 o0.1 o0.2 a0.1 a0.2 b0.1 b0.2 rfl
            have ST := hid (Nm.mul_step (x := cc + Nm.at' out' (k + j) + Nm.at' b k * Nm.at' a j) hij hval rfl)
            have REL : Hid (∀ X q, X = cc + Nm.at' out' (k + j) + Nm.at' b k * Nm.at' a j → wmIn w b a k (.int .u64 (X / 4294967296)) (.int .i64 ((j : Int) + 1)) ((wr.drewN q).setCell ⟨w.heap.size, k + j, none⟩ (.int .u32 (X % 4294967296)))) := by
              rintro X q rfl
              refine ⟨j + 1, _, out'.set (k + j) ((cc + Nm.at' out' (k + j) + Nm.at' b k * Nm.at' a j) % 4294967296), by simp, rfl, hcar.2.1, hcar.2.2.1, by omega, (show LBlk (wr.drewN q) w.heap.size out' from hblk).set _ _, by simpa using hlen, hdig.set _ (by omega) (by omega), (below_drewN hbel q).setCell (by simp) _, ST.out, ?_⟩
              intro t ht
              rw [Nm.at_set_ne (by omega)]
              exact hzz t ht
            clear hval hlen hdig hbel hblk hzz ST
            generalize Nm.at' b k = x at *
            generalize Nm.at' a j = y at *
            generalize Nm.at' out' (k + j) = o at *
            obtain ⟨a1, a2⟩ := a0
            obtain ⟨b1, b2⟩ := b0
            obtain ⟨o1, o2⟩ := o0
            obtain ⟨k0, k1, k2, k3⟩ := hcar
            have p0 : 0 ≤ x * y := Int.mul_nonneg a1 b1
            have p1 : x * y ≤ 4294967295 * 4294967295 := Int.mul_le_mul (by omega) (by omega) b1 (by omega)
            go_wp2_with fail
            go_quiet (fail)
            go_wp2_with fail
            go_roundw
            case rel => exact REL.out (cc + (x * y + o)) _ (by rw [Int.add_comm (x * y) o, Int.add_assoc])
            case measure => simp [intOf]; omega
          · obtain rfl : j = a.length := by omega
            have hij : k + a.length < out'.length := by rw [hlen]; omega
            have ROW := hid (wm_row hij (hzz _ (Nat.le_refl _)) hval)
            have x2 := hblk.cell (k + a.length) hij
            have x3 := hblk.frozen (k + a.length)
            have REL : Hid (wmOut w b a (.int .i64 ((k : Int) + 1)) (wr.setCell ⟨w.heap.size, k + a.length, none⟩ (.int .u32 cc))) := by
              refine ⟨k + 1, out'.set (k + a.length) cc, by simp, by omega, hblk.set _ _, by simpa using hlen, hdig.set _ c0 c1, hbel.setCell (by simp) _, ROW.out, ?_⟩
              intro t ht
              rw [Nm.at_set_ne (by omega)]
              exact hzz t (by omega)
            have i1 : (k : Int) + a.length < (a.length : Int) + b.length := by omega
            clear hval hlen hdig hbel hblk hzz ROW
            generalize Nm.at' out' (k + a.length) = o at *
            go_wp2_with fail
            go_roundw
            case rel => exact REL.out
            case measure => simp [intOf]; omega
      · obtain rfl : k = b.length := by omega
        have HE := hid (show Nm.val 4294967296 out = Nm.val 4294967296 b * Nm.val 4294967296 a by rw [hval, List.take_length])
        have US := hid (used_any wr out _ 0 (hblk.lims (by omega)) (by omega))
        have hlen2 : out.length = a.length + b.length := by omega
        rw [hlen2] at US
        have hsl := Nm.strip_len out
        rw [hlen2] at hsl
        have HL := hid (hblk.used (B := w.heap.size) (by omega) (Nat.le_refl _))
        rw [hlen2] at HL
        clear hval hlen hdig hbel hblk hzz hlen2
        generalize hn : (Nm.strip out).length = n at *
        clear hn
        go_wp2_with fail
        refine (US.out).mono ?_
        rintro e w1 ⟨rfl, rfl⟩
        go_wp2_with fail
        go_ret
        exact ⟨_, Nm.strip out, rfl, ⟨Nm.good_strip HDIG.out, by rw [Nm.val_strip, HE.out]; exact Int.mul_comm _ _⟩, HL.out, HBEL.out⟩
  · have HS := hid ha
    have HL := hid hb
    have GS := hid ga
    have GL := hid gb
    clear ha hb ga gb
    go_enter Tryz.func153, Tryz.ntmps153
    go_wp2_with fail
    go_loopw [8] (fun i wr => wmOut w a b i wr) (fun i _ => a.length - (intOf i).toNat)
    case atStart => exact ⟨0, List.replicate (a.length + b.length) 0, rfl, Nat.zero_le _, LBlk.made w _, by simp; try omega, Nm.Dig.zeros (by decide) _, belowW (Below.refl _ _) (Nat.le_refl _) _, by rw [Nm.val_zeros]; simp [Nm.val], fun t _ => Nm.at_zeros _ _⟩
    case round =>
      obtain ⟨k, out, rfl, hk, hblk, hlen, hdig, hbel, hval, hzz⟩ := hrel
      have HV := hid hval
      have HLEN := hid hlen
      have HDIG := hid hdig
      have HBEL := hid hbel
      have HBLK := hid hblk
      have HZZ := hid hzz
      have hs := hblk.lt
      by_cases hka : (k : Int) < a.length
      · obtain ⟨g, rfl, _⟩ := HS.out.place (by omega)
        obtain ⟨wo, hwo⟩ : ∃ wo : World, wo = wr := ⟨_, rfl⟩
        subst hwo
        have x1 := (HS.out.below HBEL.out).cellG k (by omega)
        clear hval hlen hdig hbel hblk hzz
        have a0 := GS.out.at' (by decide) k
        have i5 : (k : Int) + b.length ≤ (a.length : Int) + b.length := by omega
        have i6 : IntKind.i64.wrap ((k : Int) + b.length) = (k : Int) + b.length := by rw [IntKind.wrap_i64]; omega
        have i7 : ((k : Int) + b.length).toNat = k + b.length := by omega
        have i8 : k + b.length - k = b.length := by omega
        have i9 : (0 : Int) ≤ (k : Int) + b.length := by omega
        have i10 : (k : Int) ≤ (k : Int) + b.length := by omega
        have i11 : k + b.length ≤ a.length + b.length := by omega
        have i12 : k ≤ k + b.length := by omega
        go_wp2_with fail
        go_loopw [11, 12] (fun c j wr => wmIn w a b k c j wr) (fun _ j _ => b.length - (intOf j).toNat)
        case atStart =>
          refine ⟨0, 0, out, rfl, rfl, by omega, by omega, by omega, HBLK.out, HLEN.out, HDIG.out, HBEL.out, ?_, HZZ.out⟩
          rw [HV.out]
          simp [Nm.val]
        case round =>
          obtain ⟨j, cc, out', rfl, rfl, c0, c1, hj, hblk, hlen, hdig, hbel, hval, hzz⟩ := hrel
          have hs' := hblk.lt
          by_cases gg : (j : Int) < b.length
          · have hij : k + j < out'.length := by rw [hlen]; omega
            obtain ⟨g2, rfl, _⟩ := HL.out.place (by omega)
            have y1 := (HL.out.below hbel).cellG j (by omega)
            have x2 := hblk.cell (k + j) hij
            have x3 := hblk.frozen (k + j)
            have b0 := GL.out.at' (by decide) j
            have o0 := hdig.at' (by decide) (k + j)
            have hcar := Nm.mul_carry (x := cc + Nm.at' out' (k + j) + Nm.at' a k * Nm.at' b j) (by decide) c0 c1 o0.1 o0.2 a0.1 a0.2 b0.1 b0.2 rfl
            have ST := hid (Nm.mul_step (x := cc + Nm.at' out' (k + j) + Nm.at' a k * Nm.at' b j) hij hval rfl)
            have REL : Hid (∀ X q, X = cc + Nm.at' out' (k + j) + Nm.at' a k * Nm.at' b j → wmIn w a b k (.int .u64 (X / 4294967296)) (.int .i64 ((j : Int) + 1)) ((wr.drewN q).setCell ⟨w.heap.size, k + j, none⟩ (.int .u32 (X % 4294967296)))) := by
              rintro X q rfl
              refine ⟨j + 1, _, out'.set (k + j) ((cc + Nm.at' out' (k + j) + Nm.at' a k * Nm.at' b j) % 4294967296), by simp, rfl, hcar.2.1, hcar.2.2.1, by omega, (show LBlk (wr.drewN q) w.heap.size out' from hblk).set _ _, by simpa using hlen, hdig.set _ (by omega) (by omega), (below_drewN hbel q).setCell (by simp) _, ST.out, ?_⟩
              intro t ht
              rw [Nm.at_set_ne (by omega)]
              exact hzz t ht
            clear hval hlen hdig hbel hblk hzz ST
            generalize Nm.at' a k = x at *
            generalize Nm.at' b j = y at *
            generalize Nm.at' out' (k + j) = o at *
            obtain ⟨a1, a2⟩ := a0
            obtain ⟨b1, b2⟩ := b0
            obtain ⟨o1, o2⟩ := o0
            obtain ⟨k0, k1, k2, k3⟩ := hcar
            have p0 : 0 ≤ x * y := Int.mul_nonneg a1 b1
            have p1 : x * y ≤ 4294967295 * 4294967295 := Int.mul_le_mul (by omega) (by omega) b1 (by omega)
            go_wp2_with fail
            go_quiet (fail)
            go_wp2_with fail
            go_roundw
            case rel => exact REL.out (cc + (x * y + o)) _ (by rw [Int.add_comm (x * y) o, Int.add_assoc])
            case measure => simp [intOf]; omega
          · obtain rfl : j = b.length := by omega
            have hij : k + b.length < out'.length := by rw [hlen]; omega
            have ROW := hid (wm_row hij (hzz _ (Nat.le_refl _)) hval)
            have x2 := hblk.cell (k + b.length) hij
            have x3 := hblk.frozen (k + b.length)
            have REL : Hid (wmOut w a b (.int .i64 ((k : Int) + 1)) (wr.setCell ⟨w.heap.size, k + b.length, none⟩ (.int .u32 cc))) := by
              refine ⟨k + 1, out'.set (k + b.length) cc, by simp, by omega, hblk.set _ _, by simpa using hlen, hdig.set _ c0 c1, hbel.setCell (by simp) _, ROW.out, ?_⟩
              intro t ht
              rw [Nm.at_set_ne (by omega)]
              exact hzz t (by omega)
            have i1 : (k : Int) + b.length < (a.length : Int) + b.length := by omega
            clear hval hlen hdig hbel hblk hzz ROW
            generalize Nm.at' out' (k + b.length) = o at *
            go_wp2_with fail
            go_roundw
            case rel => exact REL.out
            case measure => simp [intOf]; omega
      · obtain rfl : k = a.length := by omega
        have HE := hid (show Nm.val 4294967296 out = Nm.val 4294967296 a * Nm.val 4294967296 b by rw [hval, List.take_length])
        have US := hid (used_any wr out _ 0 (hblk.lims (by omega)) (by omega))
        have hlen2 : out.length = a.length + b.length := by omega
        rw [hlen2] at US
        have hsl := Nm.strip_len out
        rw [hlen2] at hsl
        have HL := hid (hblk.used (B := w.heap.size) (by omega) (Nat.le_refl _))
        rw [hlen2] at HL
        clear hval hlen hdig hbel hblk hzz hlen2
        generalize hn : (Nm.strip out).length = n at *
        clear hn
        go_wp2_with fail
        refine (US.out).mono ?_
        rintro e w1 ⟨rfl, rfl⟩
        go_wp2_with fail
        go_ret
        exact ⟨_, Nm.strip out, rfl, ⟨Nm.good_strip HDIG.out, by rw [Nm.val_strip, HE.out]⟩, HL.out, HBEL.out⟩
end Go.Proofs.YteghhlfmcjmnoaaGreatDoor
set_option linter.unusedSimpArgs false
namespace Go.Proofs.YteghhlfmcjmnoaaGreatDoor
open Go.RowKit
theorem at_oldW {w : World} {k : Nat} {o : Obj} (o' : Obj) (h : w.heap[k]? = some o) : (w.alloc o').heap[k]? = some o := by rw [Below.heap_alloc _ _ _ (heap_lt h)]; exact h
structure Finw (w w2 : World) (B : Nat) (z : Int) (p q : Value) : Prop where
  c0 : ((w2.setCell ⟨B, 0, none⟩ p).setCell ⟨B, 1, none⟩ q).cell? ⟨B, 0, none⟩ = some p
  c1 : ((w2.setCell ⟨B, 0, none⟩ p).setCell ⟨B, 1, none⟩ q).cell? ⟨B, 1, none⟩ = some q
  num : WhoAt ((w2.setCell ⟨B, 0, none⟩ p).setCell ⟨B, 1, none⟩ q) z (.agg #[p, q])
  below : Below w.heap.size w ((w2.setCell ⟨B, 0, none⟩ p).setCell ⟨B, 1, none⟩ q)
theorem finw {w w2 : World} {B : Nat} {x y p q : Value} {z : Int} (h : w2.heap[B]? = some (.cells #[x, y] 80 (0, 0))) (hn : WhoAt w2 z (.agg #[p, q])) (hb : Below w.heap.size w w2) (hB : w.heap.size ≤ B) : Finw w w2 B z p q := by
  have h1 := heap_set h (o := 0) p
  have h2 := heap_set h1 (o := 1) q
  exact ⟨cell_of_block h2 rfl, cell_of_block h2 rfl, (hn.other h (by decide) p).other h1 (by decide) q, (hb.setCell hB _).setCell hB _⟩
def boxw (w : World) (a b c d : Value) : World := ((w.alloc (.cells #[a, b] 80)).alloc (.cells #[c, d] 80)).alloc (.cells #[.bool false, .slice none 0 0] 80)
theorem boxw_below (w : World) (a b c d : Value) : Below w.heap.size w (boxw w a b c d).drew := (belowW (belowW (belowW (Below.refl _ _) (Nat.le_refl _) _) (by simp) _) (by simp; omega) _).trans ((drewW _).mono (by simp [boxw]; omega))
theorem boxw_size (w : World) (a b c d : Value) : (boxw w a b c d).drew.heap.size = w.heap.size + 3 := by simp [boxw]
theorem boxw_at0 (w : World) (a b c d : Value) : (boxw w a b c d).drew.heap[w.heap.size]? = some (.cells #[a, b] 80 (0, 0)) := at_oldW _ (at_oldW _ (at_newW _ _))
theorem boxw_at1 (w : World) (a b c d : Value) : (boxw w a b c d).drew.heap[w.heap.size + 1]? = some (.cells #[c, d] 80 (0, 0)) := by
  have := at_oldW (.cells #[.bool false, .slice none 0 0] 80) (at_newW (w.alloc (.cells #[a, b] 80)) (.cells #[c, d] 80))
  rw [World.size_alloc] at this
  exact this
theorem boxw_at2 (w : World) (a b c d : Value) : (boxw w a b c d).drew.heap[w.heap.size + 2]? = some (.cells #[.bool false, .slice none 0 0] 80 (0, 0)) := by
  have := at_newW ((w.alloc (.cells #[a, b] 80)).alloc (.cells #[c, d] 80)) (.cells #[.bool false, .slice none 0 0] 80)
  rw [World.size_alloc, World.size_alloc] at this
  exact this
theorem boxw_below' (w : World) (a b c d : Value) : Below w.heap.size w (boxw w a b c d) := belowW (belowW (belowW (Below.refl _ _) (Nat.le_refl _) _) (by simp) _) (by simp; omega) _
theorem boxw_size' (w : World) (a b c d : Value) : (boxw w a b c d).heap.size = w.heap.size + 3 := by simp [boxw]
theorem boxw_at0' (w : World) (a b c d : Value) : (boxw w a b c d).heap[w.heap.size]? = some (.cells #[a, b] 80 (0, 0)) := boxw_at0 w a b c d
theorem boxw_at1' (w : World) (a b c d : Value) : (boxw w a b c d).heap[w.heap.size + 1]? = some (.cells #[c, d] 80 (0, 0)) := boxw_at1 w a b c d
theorem boxw_at2' (w : World) (a b c d : Value) : (boxw w a b c d).heap[w.heap.size + 2]? = some (.cells #[.bool false, .slice none 0 0] 80 (0, 0)) := boxw_at2 w a b c d
theorem who_of {W : World} {z : Int} {xs : List Int} {v : Value} {nb : Bool} (hI : Lims W xs v) (hg : Nm.Good 4294967296 xs) (hv : Nm.val 4294967296 xs = z.natAbs) (hb : nb = decide (z < 0)) : WhoAt W z (.agg #[.bool nb, v]) := ⟨xs, v, by rw [hb], hI, hg, hv⟩
set_option maxRecDepth 100000 in
set_option maxHeartbeats 1000000 in
theorem wof_neg (n : Int) (w : World) (hlo : -9223372036854775808 ≤ n) (hhi : n < 9223372036854775808) (hc : n < 0) : Calls Tryz.prog 94 #[.int .i64 n] w (WhoPost w n) := by
  have LO : Hid (∀ W N, N = -n → Calls Tryz.prog 119 #[.int .u64 N] W (LimPost W fun xs => Nm.Good 4294967296 xs ∧ Nm.val 4294967296 xs = -n ∧ xs.length ≤ 2)) := by
    rintro W N rfl
    exact limbsOf_any _ W (by omega) (by omega)
  have hd : decide (n < 0) = true := by simpa using hc
  go_enter Tryz.func94, Tryz.ntmps94
  go_wp2_with fail
  refine (LO.out _ _ (by omega)).mono ?_
  rintro e w1 ⟨v1, xs, rfl, ⟨hg, hv, _⟩, hI, hb⟩
  have hs1 := hb.size
  rw [World.size_alloc] at hs1
  obtain ⟨o1, c1, rfl, _⟩ := hI.shape
  have hblk := newW (by rw [World.size_alloc]; omega) (at_newW w (.cells #[.bool false, .slice none 0 0] 80)) hb
  have hN : WhoAt w1 n (.agg #[.bool true, .slice o1 xs.length c1]) := who_of (hI.weak (Nat.zero_le _)) hg (by omega) hd.symm
  have hr := (belowW (Below.refl w.heap.size w) (Nat.le_refl _) (.cells #[.bool false, .slice none 0 0] 80)).trans (hb.mono (by rw [World.size_alloc]; omega))
  have F := finw hblk hN hr (by omega)
  have r0 := frozen_of_block (o := 0) hblk
  have r1 := frozen_of_block (o := 1) hblk
  have s0 := cell_of_block (o := 0) hblk rfl
  have s1 := cell_of_block (o := 1) hblk rfl
  have q0 := F.c0
  have q1 := F.c1
  have FN := hid F.num
  have FB := hid F.below
  clear F hN hr hblk
  clear hb hI hd
  go_wp2_with fail
  refine bodyPost_ret (v := .agg #[.bool true, .slice o1 xs.length c1]) (by simp [results, Tryz.results94, go_sem, q0, q1]) rfl ⟨_, rfl, FN.out, FB.out⟩
set_option maxRecDepth 100000 in
set_option maxHeartbeats 1000000 in
theorem wof_pos (n : Int) (w : World) (hlo : -9223372036854775808 ≤ n) (hhi : n < 9223372036854775808) (hc : ¬ n < 0) : Calls Tryz.prog 94 #[.int .i64 n] w (WhoPost w n) := by
  have LO : Hid (∀ W N, N = n → Calls Tryz.prog 119 #[.int .u64 N] W (LimPost W fun xs => Nm.Good 4294967296 xs ∧ Nm.val 4294967296 xs = n ∧ xs.length ≤ 2)) := by
    rintro W N rfl
    exact limbsOf_any _ W (by omega) (by omega)
  have hd : decide (n < 0) = false := by simpa using hc
  go_enter Tryz.func94, Tryz.ntmps94
  go_wp2_with fail
  refine (LO.out _ _ (by omega)).mono ?_
  rintro e w1 ⟨v1, xs, rfl, ⟨hg, hv, _⟩, hI, hb⟩
  have hs1 := hb.size
  rw [World.size_alloc] at hs1
  obtain ⟨o1, c1, rfl, _⟩ := hI.shape
  have hblk := newW (by rw [World.size_alloc]; omega) (at_newW w (.cells #[.bool false, .slice none 0 0] 80)) hb
  have hN : WhoAt w1 n (.agg #[.bool false, .slice o1 xs.length c1]) := who_of (hI.weak (Nat.zero_le _)) hg (by omega) hd.symm
  have hr := (belowW (Below.refl w.heap.size w) (Nat.le_refl _) (.cells #[.bool false, .slice none 0 0] 80)).trans (hb.mono (by rw [World.size_alloc]; omega))
  have F := finw hblk hN hr (by omega)
  have r0 := frozen_of_block (o := 0) hblk
  have r1 := frozen_of_block (o := 1) hblk
  have s0 := cell_of_block (o := 0) hblk rfl
  have s1 := cell_of_block (o := 1) hblk rfl
  have q0 := F.c0
  have q1 := F.c1
  have FN := hid F.num
  have FB := hid F.below
  clear F hN hr hblk
  clear hb hI hd
  go_wp2_with fail
  refine bodyPost_ret (v := .agg #[.bool false, .slice o1 xs.length c1]) (by simp [results, Tryz.results94, go_sem, q0, q1]) rfl ⟨_, rfl, FN.out, FB.out⟩
theorem wof_any (n : Int) (w : World) (hlo : -9223372036854775808 ≤ n) (hhi : n < 9223372036854775808) : Calls Tryz.prog 94 #[.int .i64 n] w (WhoPost w n) := by
  by_cases h : n < 0
  · exact wof_neg n w hlo hhi h
  · exact wof_pos n w hlo hhi h
theorem who_zero {ds : List Int} {z : Int} (hg : Nm.Good 4294967296 ds) (hv : Nm.val 4294967296 ds = z.natAbs) : ds = [] ↔ z = 0 := by
  have := Nm.val_zero (by decide) hg
  rw [hv] at this
  rw [← this]
  omega
set_option maxRecDepth 100000 in
set_option maxHeartbeats 1000000 in
theorem wsign_any (w : World) (z : Int) (v : Value) (h : WhoAt w z v) : Calls Tryz.prog 72 #[v] w fun e w' => e = .returned (.int .i64 (Nm.cmp z 0)) ∧ Below w.heap.size w w' := by
  obtain ⟨ds, ao, cap, rfl, hI, hg, hv⟩ := h.open
  have hz := who_zero hg hv
  clear hI hg hv h
  rcases Int.lt_trichotomy z 0 with h0 | h0 | h0
  · have l0 : ((ds.length : Int) == 0) = false := by
      simp only [beq_eq_false_iff_ne, ne_eq]
      intro h
      have := hz.1 (List.eq_nil_of_length_eq_zero (by omega))
      omega
    rw [Nm.cmp_lt h0, decide_eq_true h0]
    clear hz
    go_enter Tryz.func72, Tryz.ntmps72
    go_wp2_with fail
    go_ret
    exact ⟨rfl, belowW (Below.refl _ _) (Nat.le_refl _) _⟩
  · subst h0
    have := hz.2 rfl
    subst this
    rw [Nm.cmp_eq rfl]
    clear hz
    go_enter Tryz.func72, Tryz.ntmps72
    go_wp2_with fail
    go_ret
    exact ⟨rfl, belowW (Below.refl _ _) (Nat.le_refl _) _⟩
  · have l0 : ((ds.length : Int) == 0) = false := by
      simp only [beq_eq_false_iff_ne, ne_eq]
      intro h
      have := hz.1 (List.eq_nil_of_length_eq_zero (by omega))
      omega
    rw [Nm.cmp_gt h0, decide_eq_false (by omega)]
    clear hz
    go_enter Tryz.func72, Tryz.ntmps72
    go_wp2_with fail
    go_ret
    exact ⟨rfl, belowW (Below.refl _ _) (Nat.le_refl _) _⟩
set_option maxRecDepth 100000 in
set_option maxHeartbeats 1000000 in
theorem wneg_any (w : World) (z : Int) (v : Value) (h : WhoAt w z v) : Calls Tryz.prog 123 #[v] w (WhoPost w (-z)) := by
  obtain ⟨ds, ao, cap, rfl, hI, hg, hv⟩ := h.open
  have hz := who_zero hg hv
  have HI := hid hI
  have HG := hid hg
  have HV := hid hv
  clear hI hg hv h
  by_cases hneg : z < 0
  · rw [decide_eq_true hneg]
    go_enter Tryz.func123, Tryz.ntmps123
    go_wp2_with fail
    refine bodyPost_ret (v := .agg #[.bool false, .slice ao ds.length cap]) (by simp [results, Tryz.results123, go_sem]) rfl ⟨_, rfl, who_of ((HI.out.alloc _).alloc _) HG.out (by rw [HV.out]; omega) (by symm; simp; omega), belowW (belowW (Below.refl _ _) (Nat.le_refl _) _) (by simp) _⟩
  · rw [decide_eq_false hneg]
    by_cases h0 : z = 0
    · have e := hz.2 h0
      subst e
      go_enter Tryz.func123, Tryz.ntmps123
      go_wp2_with fail
      refine bodyPost_ret (v := .agg #[.bool false, .slice ao 0 cap]) (by simp [results, Tryz.results123, go_sem]) rfl ⟨_, rfl, who_of (xs := []) ((HI.out.alloc _).alloc _) HG.out rfl rfl, belowW (belowW (Below.refl _ _) (Nat.le_refl _) _) (by simp) _⟩
    · have l0 : (0 : Int) < ds.length := by
        rcases Nat.eq_zero_or_pos ds.length with h | h
        · exact absurd (hz.1 (List.eq_nil_of_length_eq_zero h)) h0
        · omega
      have l1 : 0 < ds.length := by omega
      go_enter Tryz.func123, Tryz.ntmps123
      go_wp2_with fail
      refine bodyPost_ret (v := .agg #[.bool true, .slice ao ds.length cap]) (by simp [results, Tryz.results123, go_sem, l1]) rfl ⟨_, rfl, who_of ((HI.out.alloc _).alloc _) HG.out (by rw [HV.out]; omega) (by symm; simp; omega), belowW (belowW (Below.refl _ _) (Nat.le_refl _) _) (by simp) _⟩
set_option maxRecDepth 100000 in
set_option maxHeartbeats 1000000 in
theorem wsize_any (w : World) (z : Int) (v : Value) (h : WhoAt w z v) : Calls Tryz.prog 147 #[v] w (WhoPost w (z.natAbs : Int)) := by
  obtain ⟨ds, ao, cap, rfl, hI, hg, hv⟩ := h.open
  have HI := hid hI
  have HG := hid hg
  have HV := hid hv
  clear hI hg hv h
  generalize decide (z < 0) = nb at *
  go_enter Tryz.func147, Tryz.ntmps147
  go_wp2_with fail
  refine bodyPost_ret (v := .agg #[.bool false, .slice ao ds.length cap]) (by simp [results, Tryz.results147, go_sem]) rfl ⟨_, rfl, who_of ((HI.out.alloc _).alloc _) HG.out (by rw [HV.out]; simp) (by symm; simp), belowW (belowW (Below.refl _ _) (Nat.le_refl _) _) (by simp) _⟩
end Go.Proofs.YteghhlfmcjmnoaaGreatDoor
