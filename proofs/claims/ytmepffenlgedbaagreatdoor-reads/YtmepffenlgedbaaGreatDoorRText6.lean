/-
  THE WALK of realstree's Text: continued fractions.
-/
import Derived.Test.YtmepffenlgedbaaGreatDoorRText3
import Derived.Deep.RegionHeld3
set_option linter.unusedSimpArgs false
namespace Go.Proofs.YtmepffenlgedbaaGreatDoor
open Go.RowKit
open Go.Deep (BT)

theorem num_nat {x : Int} (h : Rd.numOk x) : ∃ n : Nat, x = (n : Int) ∧ n < 1000000000 := ⟨x.toNat, by have := h.1; omega, by have := h.2; have := h.1; omega⟩

def cfRel (w : World) (ts : List Int) (tv iv : Value) (wr : World) : Prop :=
  ∃ (s : ByteArray) (k : Nat), tv = .string s ∧ iv = .int .i64 k ∧ k + 2 ≤ ts.length ∧ Str s (Rd.termsTo ts (k + 2)) ∧ Below w.heap.size w wr

set_option maxRecDepth 100000 in
set_option maxHeartbeats 1000000 in
theorem rt_cf (sb b : Nat) (w : World) (ts : List Int) (pv qv tv lv : Value) (h : w.heap[b]? = some (.cells #[.string (Rd.opName 4), .bool false, pv, .bool false, qv, tv, lv] 62 (0, 0))) (hts : TermsAt sb w ts tv) (hl : 2 ≤ ts.length) (hl9 : ts.length ≤ 9) (hok : ∀ x ∈ ts, Rd.numOk x) :
    Calls Tryz.prog 85 #[.pointer (some ⟨b, 0, none⟩)] w (TxtPost w (Rd.termsTxt ts)) := by
  rcases hts with ⟨h', _⟩ | ⟨tb, cap, cur, rfl, _, h3, h4, h5⟩
  · rw [h'] at hl; simp at hl
  have c0 : w.cell? ⟨b, 0, none⟩ = some (.string ⟨#[99, 102]⟩) := cell_of_block h rfl
  have c5 : w.cell? ⟨b, 5, none⟩ = some (.slice (some ⟨tb, 0, none⟩) ts.length cap) := cell_of_block h rfl
  obtain ⟨n0, e0, hn0⟩ := num_nat (Rd.getD_ok hok 0)
  obtain ⟨n1, e1, hn1⟩ := num_nat (Rd.getD_ok hok 1)
  have t0 : w.cell? ⟨tb, 0, none⟩ = some (.int .i64 n0) := by rw [← e0]; exact ints_cell h3 h5 0 (by omega)
  have t1 : w.cell? ⟨tb, 1, none⟩ = some (.int .i64 n1) := by rw [← e1]; exact ints_cell h3 h5 1 (by omega)
  have D2 : Hid (Rd.termsTo ts 2 = [99, 102, 91] ++ Rd.dec n0 ++ [59, 32] ++ Rd.dec n1) := by
    show _ = _
    show [99, 102, 91] ++ (Rd.sep 0 ++ Rd.dec (ts.getD 0 0)) ++ (Rd.sep 1 ++ Rd.dec (ts.getD 1 0)) = _
    rw [e0, e1]
    simp [Rd.sep]
  have L0 := Rd.dec_len (v := (n0 : Int)) ⟨by omega, by omega⟩
  have L1 := Rd.dec_len (v := (n1 : Int)) ⟨by omega, by omega⟩
  have hbl := heap_lt h
  have htl := heap_lt h3
  have l0 : (0 : Int) < ts.length := by omega
  have l0' : 0 < ts.length := by omega
  have l1' : 1 < ts.length := by omega
  have lne : ¬ ts = [] := by intro h; rw [h] at hl; simp at hl
  have l1 : (1 : Int) < ts.length := by omega
  have l2 : (2 : Int) ≤ ts.length := by omega
  have lc : (ts.length : Int) ≤ cap := by omega
  have HOK := hidp hok
  have H5 := hidp h5
  clear hok h5 h
  go_enter Tryz.func85, Tryz.ntmps85
  go_wp2_with fail
  go_region_held3 (fun w' => w'.cell? ⟨b, 5, none⟩ = some (.slice (some ⟨tb, 0, none⟩) ts.length cap) ∧ w'.cell? ⟨tb, 0, none⟩ = some (.int .i64 n0) ∧ w'.cell? ⟨tb, 1, none⟩ = some (.int .i64 n1)) (go_keep)
    (first
      | (go_at_call 116; have _t := m4; refine (ntext_any b n1 w4 _ m4 hn1).mono ?_; rintro e w5 ⟨u2, rfl, hu2, hb5⟩; obtain ⟨y3, a3, s3⟩ := add_named s2 hu2 (by simp; omega); have hb6 := hb4.trans (hb5.mono hb4.size); clear hb5; have g5 := (hb6.cell (p := ⟨b, 5, none⟩) hbl).trans c5; have g0 := (hb6.cell (p := ⟨tb, 0, none⟩) htl).trans t0; have g1 := (hb6.cell (p := ⟨tb, 1, none⟩) htl).trans t1)
      | (go_at_call 40; have _t := hu1; refine (of_any n1 w2 hn1 b (Nat.lt_of_lt_of_le hbl hb2.size)).mono ?_; rintro e w4 ⟨dv, rfl, m4, hb3⟩; have hb4 := hb2.trans (hb3.mono hb2.size); clear hb3; obtain ⟨ao4, ln4, cp4, hv4⟩ := terms_form m4; subst hv4; have f5 := (hb4.cell (p := ⟨b, 5, none⟩) hbl).trans c5; have f0 := (hb4.cell (p := ⟨tb, 0, none⟩) htl).trans t0; have f1 := (hb4.cell (p := ⟨tb, 1, none⟩) htl).trans t1)
      | (go_at_call 116; have _t := m1; refine (ntext_any b n0 w1 _ m1 hn0).mono ?_; rintro e w2 ⟨u1, rfl, hu1, hb0⟩; obtain ⟨y1, a1, s1⟩ := add_named (Str.mk' [99, 102, 91]) hu1 (by simp; omega); obtain ⟨y2, a2, s2⟩ := add_named s1 (Str.mk' [59, 32]) (by simp; omega); have hb2 := hb1.trans (hb0.mono hb1.size); clear hb0; have e5 := (hb2.cell (p := ⟨b, 5, none⟩) hbl).trans c5; have e6 := (hb2.cell (p := ⟨tb, 0, none⟩) htl).trans t0; have e7 := (hb2.cell (p := ⟨tb, 1, none⟩) htl).trans t1)
      | (go_at_call 40; refine (of_any n0 w.drew hn0 b hbl).mono ?_; rintro e w1 ⟨dv, rfl, m1, hb0⟩; have hb1 := undrew hb0; clear hb0; obtain ⟨ao1, ln1, cp1, hv1⟩ := terms_form m1; subst hv1; have d5 := (hb1.cell (p := ⟨b, 5, none⟩) hbl).trans c5; have d0 := (hb1.cell (p := ⟨tb, 0, none⟩) htl).trans t0; have d1 := (hb1.cell (p := ⟨tb, 1, none⟩) htl).trans t1))
  have SY := hidp (show Str y3 (Rd.termsTo ts 2) from s3.to (by rw [D2.out]))
  have H6 := hidp hb6
  have H3 := hidp h3
  clear s3 s2 s1 hu1 hu2 hb1 hb2 hb4 hb6 h3
  by_cases hc2 : cap = 2
  · go_wp2_with fail
    go_loopw [3, 51] (fun t i wr => cfRel w ts t i wr) (fun _ i _ => ts.length - (intOf i).toNat)
    case atStart => exact ⟨_, 0, rfl, rfl, hl, SY.out, H6.out⟩
    case round =>
      obtain ⟨s, k, rfl, rfl, hk, hS, hb⟩ := hrel
      have hsz : s.size ≤ 102 := by have := Rd.termsTo_len HOK.out (k + 2); rw [hS.size]; omega
      by_cases hkl : (k : Int) < (ts.length : Int) - 2
      · exfalso; omega
      · have hkl' : k + 2 = ts.length := by omega
        have HS := hidp hS
        have HB := hidp hb
        clear hS hb
        go_wp2_with fail
        go_ret
        refine ⟨_, rfl, (HS.out.app (Str.mk' [93])).to ?_, HB.out⟩
        rw [hkl']
        rfl
  · go_wp2_with fail
    go_loopw [3, 51] (fun t i wr => cfRel w ts t i wr) (fun _ i _ => ts.length - (intOf i).toNat)
    case atStart => exact ⟨_, 0, rfl, rfl, hl, SY.out, H6.out⟩
    case round =>
      obtain ⟨s, k, rfl, rfl, hk, hS, hb⟩ := hrel
      have hsz : s.size ≤ 102 := by have := Rd.termsTo_len HOK.out (k + 2); rw [hS.size]; omega
      by_cases hkl : (k : Int) < (ts.length : Int) - 2
      · have hkl' : k + 2 < ts.length := by omega
        obtain ⟨n, en, hn⟩ := num_nat (Rd.getD_ok HOK.out (k + 2))
        have hc : wr.cell? ⟨tb, k + 2, none⟩ = some (.int .i64 n) := by rw [← en]; exact ints_cell (by rw [hb.block tb htl]; exact H3.out) H5.out (k + 2) hkl'
        have hc' : wr.cell? ⟨tb, 2 + k, none⟩ = some (.int .i64 n) := by rw [Nat.add_comm]; exact hc
        have L := Rd.dec_len (v := (n : Int)) ⟨by omega, by omega⟩
        have HX := hidp (show Rd.termsTo ts (k + 2 + 1) = Rd.termsTo ts (k + 2) ++ ([44, 32] ++ Rd.dec n) by rw [Rd.termsTo, en]; rfl)
        have hbw : b < wr.heap.size := Nat.lt_of_lt_of_le hbl hb.size
        have HS := hidp hS
        have HB := hidp hb
        clear hS hb en
        go_wp2_with (first
          | (go_at_call 116; refine (ntext_any b n w1 _ m1 hn).mono ?_; rintro e w2 ⟨u1, rfl, hu1, hb0⟩; have usz : u1.size ≤ 9 := Nat.le_trans (Nat.le_of_eq hu1.size) L)
          | (go_at_call 40; refine (of_any n wr hn b hbw).mono ?_; rintro e w1 ⟨dv, rfl, m1, hb1⟩; obtain ⟨ao1, ln1, cp1, hv1⟩ := terms_form m1; subst hv1))
        go_roundw
        case rel =>
          have R : cfRel w ts (.string (s ++ (⟨#[44, 32]⟩ ++ u1))) (.int .i64 ((k : Int) + 1)) w2 := ⟨_, k + 1, rfl, by simp, by omega, (HS.out.app ((Str.mk' [44, 32]).app hu1)).to (by rw [show k + 1 + 2 = k + 2 + 1 by omega, HX.out]), HB.out.trans ((hb1.trans (hb0.mono hb1.size)).mono HB.out.size)⟩
          first | exact R | ((repeat apply Exists.intro); exact ⟨R, rfl⟩)
        case measure => simp only [intOf]; omega
      · have hkl' : k + 2 = ts.length := by omega
        have HS := hidp hS
        have HB := hidp hb
        clear hS hb
        go_wp2_with fail
        go_ret
        refine ⟨_, rfl, (HS.out.app (Str.mk' [93])).to ?_, HB.out⟩
        rw [hkl']
        rfl

end Go.Proofs.YtmepffenlgedbaaGreatDoor
