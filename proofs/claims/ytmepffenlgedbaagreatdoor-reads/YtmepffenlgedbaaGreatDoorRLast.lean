/-
  THE WALK of realstree.last.
-/
import Derived.Test.YtmepffenlgedbaaGreatDoorRFollow
import Derived.Test.YtmepffenlgedbaaGreatDoorSame
set_option linter.unusedSimpArgs false
namespace Go.Proofs.YtmepffenlgedbaaGreatDoor
open Go.RowKit

/-- The words lie at block g. -/
def RowAt (w : World) (g : Nat) (ws : List Rd.Wd) : Prop := ∃ cur, w.heap[g]? = some (.cells cur 53 (0, 0)) ∧ cur.toList.take (ws.length * 2) = Rd.rcells ws

def lastRel (ws : List Rd.Wd) (a b : ByteArray) (i j : Nat) (o q k : Value) : Prop :=
  ∃ (kk : Nat) (oo qq : Int), i ≤ kk ∧ kk ≤ j ∧ k = .int .i64 kk ∧ o = .int .i64 oo ∧ q = .int .i64 qq ∧ -(kk : Int) ≤ oo ∧ oo ≤ kk ∧ Rd.scan ws a.data.toList b.data.toList i (j - kk) kk (oo, qq) = Rd.scan ws a.data.toList b.data.toList i (j - i) i (0, -1)

theorem scan_go {ws : List Rd.Wd} {a b : List UInt8} {i j k : Nat} {s : Int × Int} (h : k < j) : Rd.scan ws a b i (j - k) k s = Rd.scan ws a b i (j - (k + 1)) (k + 1) (Rd.scanStep ws a b i k s) := by
  rw [show j - k = (j - (k + 1)) + 1 by omega, Rd.scan]

theorem last_rel_step {ws : List Rd.Wd} {a b : ByteArray} {i j kk : Nat} {oo qq oo' qq' : Int} (h1 : i ≤ kk) (h2 : kk < j) (hs : Rd.scan ws a.data.toList b.data.toList i (j - kk) kk (oo, qq) = Rd.scan ws a.data.toList b.data.toList i (j - i) i (0, -1))
    (hb0 : -((kk + 1 : Nat) : Int) ≤ oo') (hb1 : oo' ≤ ((kk + 1 : Nat) : Int)) (hst : Rd.scanStep ws a.data.toList b.data.toList i kk (oo, qq) = (oo', qq')) : lastRel ws a b i j (.int .i64 oo') (.int .i64 qq') (.int .i64 ((kk : Int) + 1)) :=
  ⟨kk + 1, oo', qq', by omega, by omega, by go_num, rfl, rfl, hb0, hb1, by rw [← hs, scan_go h2, hst]⟩

set_option maxRecDepth 100000 in
set_option maxHeartbeats 2000000 in
theorem rlast_any (w : World) (g cap : Nat) (ws : List Rd.Wd) (i j : Nat) (a b : ByteArray) (h : RowAt w g ws) (hl : ws.length ≤ 121) (hij : i ≤ j) (hj : j ≤ ws.length) :
    Calls Tryz.prog 39 #[.slice (some ⟨g, 0, none⟩) ws.length cap, .int .i64 i, .int .i64 j, .string a, .string b] w fun e w' => e = .returned (.int .i64 (Rd.lastOf ws a.data.toList b.data.toList i j)) ∧ w = w' := by
  have HRow := hide1 h
  clear h
  go_enter Tryz.func39, Tryz.ntmps39
  go_wp2_with fail
  go_loop [11, 12, 13] (fun o q k => lastRel ws a b i j o q k) (fun _ _ k => j - (intOf k).toNat)
  case atStart => exact ⟨i, 0, -1, Nat.le_refl _, hij, rfl, rfl, rfl, by omega, by omega, rfl⟩
  case round =>
    obtain ⟨k, oo, qq, h1, h2, rfl, rfl, rfl, b0, b1, hs⟩ := hrel
    have HS := hide1 hs
    clear hs
    by_cases c1 : k < j
    · obtain ⟨e0, _⟩ := row_cells HRow.out k (by omega)
      have UX : Hid (Rd.txt ws k = (Rd.wordAt ws k).text.data.toList) := rfl
      generalize (Rd.wordAt ws k).text = t at *
      by_cases t1 : (t.data.toList == [40] || t.data.toList == [91]) = true
      · have HST : Hid (Rd.scanStep ws a.data.toList b.data.toList i k (oo, qq) = (oo + 1, qq)) := by show _ = _; rw [Rd.scanStep, UX.out, t1]; rfl
        simp only [Bool.or_eq_true] at t1
        rcases t1 with t1 | t1
        all_goals
          have ht := lit_of t1
          subst ht
          clear t1
          go_wp2_with fail
          go_round
          case rel => exact last_rel_step h1 c1 HS.out (by omega) (by omega) HST.out
          case measure => simp [intOf]; omega
      · have n1 : (t.data.toList == [40] || t.data.toList == [91]) = false := by simpa using t1
        by_cases t2 : (t.data.toList == [41] || t.data.toList == [93]) = true
        · have HST : Hid (Rd.scanStep ws a.data.toList b.data.toList i k (oo, qq) = (oo - 1, qq)) := by show _ = _; rw [Rd.scanStep, UX.out, n1, t2]; rfl
          simp only [Bool.or_eq_true] at t2
          rcases t2 with t2 | t2
          all_goals
            have ht := lit_of t2
            subst ht
            clear t2 t1 n1
            go_wp2_with fail
            go_round
            case rel => exact last_rel_step h1 c1 HS.out (by omega) (by omega) HST.out
            case measure => simp [intOf]; omega
        · have n2 : (t.data.toList == [41] || t.data.toList == [93]) = false := by simpa using t2
          have m1 : (t.toList == [40]) = false ∧ (t.toList == [91]) = false := by simp only [Bool.or_eq_false_iff] at n1; exact ⟨tl n1.1, tl n1.2⟩
          have m2 : (t.toList == [41]) = false ∧ (t.toList == [93]) = false := by simp only [Bool.or_eq_false_iff] at n2; exact ⟨tl n2.1, tl n2.2⟩
          obtain ⟨m11, m12⟩ := m1
          obtain ⟨m21, m22⟩ := m2
          have HST0 : Hid (Rd.scanStep ws a.data.toList b.data.toList i k (oo, qq) = bif (oo == 0) && decide (i < k) && (t.data.toList == a.data.toList || t.data.toList == b.data.toList) && !Rd.isOp (Rd.txt ws (k - 1)) then (oo, (k : Int)) else (oo, qq)) := by
            show _ = _
            rw [Rd.scanStep, UX.out, n1, n2]; rfl
          clear t1 t2 n1 n2
          cases u1 : (oo == 0)
          · go_wp2_with fail
            go_round
            case rel => exact last_rel_step h1 c1 HS.out (by omega) (by omega) (by rw [HST0.out, u1]; rfl)
            case measure => simp [intOf]; omega
          · by_cases u2 : (i : Int) < k
            · cases u3 : (t.toList == a.toList)
              · cases u4 : (t.toList == b.toList)
                · have u3' : (t.data.toList == a.data.toList) = false := by rw [← ByteArray.toList_eq, ← ByteArray.toList_eq]; exact u3
                  have u4' : (t.data.toList == b.data.toList) = false := by rw [← ByteArray.toList_eq, ← ByteArray.toList_eq]; exact u4
                  have HST1 : Hid (Rd.scanStep ws a.data.toList b.data.toList i k (oo, qq) = (oo, qq)) := by show _ = _; rw [HST0.out, u3', u4']; simp
                  clear u3' u4'
                  go_wp2_with fail
                  go_round
                  case rel => exact last_rel_step h1 c1 HS.out (by omega) (by omega) HST1.out
                  case measure => simp [intOf]; omega
                · have hor : Hid ((t.data.toList == a.data.toList || t.data.toList == b.data.toList) = true) := by
                    show _ = _
                    rw [← ByteArray.toList_eq, ← ByteArray.toList_eq, ← ByteArray.toList_eq, u4]
                    simp
                  obtain ⟨k1, rfl⟩ : ∃ k1, k = k1 + 1 := ⟨k - 1, by omega⟩
                  obtain ⟨e1, _⟩ := row_cells HRow.out k1 (by omega)
                  have UP : Hid (Rd.txt ws (k1 + 1 - 1) = (Rd.wordAt ws k1).text.data.toList) := rfl
                  generalize (Rd.wordAt ws k1).text = tp at *
                  cases p1 : (tp.data.toList == [43]) with
                  | true =>
                    have ht := lit_of p1
                    subst ht
                    have HST1 : Hid (Rd.scanStep ws a.data.toList b.data.toList i (k1 + 1) (oo, qq) = (oo, qq)) := by show _ = _; rw [HST0.out, UP.out]; simp [Rd.isOp]
                    go_wp2_with fail
                    go_round
                    case rel => exact last_rel_step h1 c1 HS.out (by omega) (by omega) HST1.out
                    case measure => simp [intOf]; omega
                  | false =>
                    cases p2 : (tp.data.toList == [45]) with
                    | true =>
                      have ht := lit_of p2
                      subst ht
                      have HST1 : Hid (Rd.scanStep ws a.data.toList b.data.toList i (k1 + 1) (oo, qq) = (oo, qq)) := by show _ = _; rw [HST0.out, UP.out]; simp [Rd.isOp]
                      go_wp2_with fail
                      go_round
                      case rel => exact last_rel_step h1 c1 HS.out (by omega) (by omega) HST1.out
                      case measure => simp [intOf]; omega
                    | false =>
                      cases p3 : (tp.data.toList == [42]) with
                      | true =>
                        have ht := lit_of p3
                        subst ht
                        have HST1 : Hid (Rd.scanStep ws a.data.toList b.data.toList i (k1 + 1) (oo, qq) = (oo, qq)) := by show _ = _; rw [HST0.out, UP.out]; simp [Rd.isOp]
                        go_wp2_with fail
                        go_round
                        case rel => exact last_rel_step h1 c1 HS.out (by omega) (by omega) HST1.out
                        case measure => simp [intOf]; omega
                      | false =>
                        cases p4 : (tp.data.toList == [47]) with
                        | true =>
                          have ht := lit_of p4
                          subst ht
                          have HST1 : Hid (Rd.scanStep ws a.data.toList b.data.toList i (k1 + 1) (oo, qq) = (oo, qq)) := by show _ = _; rw [HST0.out, UP.out]; simp [Rd.isOp]
                          go_wp2_with fail
                          go_round
                          case rel => exact last_rel_step h1 c1 HS.out (by omega) (by omega) HST1.out
                          case measure => simp [intOf]; omega
                        | false =>
                          have y1 := tl p1
                          have y2 := tl p2
                          have y3 := tl p3
                          have y4 := tl p4
                          have HST1 : Hid (Rd.scanStep ws a.data.toList b.data.toList i (k1 + 1) (oo, qq) = (oo, ((k1 + 1 : Nat) : Int))) := by
                            show _ = _
                            rw [HST0.out, UP.out, hor.out, u1, decide_eq_true (by omega), show Rd.isOp tp.data.toList = false by simp only [Rd.isOp, p1, p2, p3, p4]; rfl]
                            rfl
                          go_wp2_with fail
                          go_round
                          case rel => exact last_rel_step h1 c1 HS.out (by omega) (by omega) HST1.out
                          case measure => simp [intOf]; omega
              · have hor : Hid ((t.data.toList == a.data.toList || t.data.toList == b.data.toList) = true) := by
                  show _ = _
                  rw [← ByteArray.toList_eq, ← ByteArray.toList_eq, ← ByteArray.toList_eq, u3]
                  simp
                obtain ⟨k1, rfl⟩ : ∃ k1, k = k1 + 1 := ⟨k - 1, by omega⟩
                obtain ⟨e1, _⟩ := row_cells HRow.out k1 (by omega)
                have UP : Hid (Rd.txt ws (k1 + 1 - 1) = (Rd.wordAt ws k1).text.data.toList) := rfl
                generalize (Rd.wordAt ws k1).text = tp at *
                cases p1 : (tp.data.toList == [43]) with
                | true =>
                  have ht := lit_of p1
                  subst ht
                  have HST1 : Hid (Rd.scanStep ws a.data.toList b.data.toList i (k1 + 1) (oo, qq) = (oo, qq)) := by show _ = _; rw [HST0.out, UP.out]; simp [Rd.isOp]
                  go_wp2_with fail
                  go_round
                  case rel => exact last_rel_step h1 c1 HS.out (by omega) (by omega) HST1.out
                  case measure => simp [intOf]; omega
                | false =>
                  cases p2 : (tp.data.toList == [45]) with
                  | true =>
                    have ht := lit_of p2
                    subst ht
                    have HST1 : Hid (Rd.scanStep ws a.data.toList b.data.toList i (k1 + 1) (oo, qq) = (oo, qq)) := by show _ = _; rw [HST0.out, UP.out]; simp [Rd.isOp]
                    go_wp2_with fail
                    go_round
                    case rel => exact last_rel_step h1 c1 HS.out (by omega) (by omega) HST1.out
                    case measure => simp [intOf]; omega
                  | false =>
                    cases p3 : (tp.data.toList == [42]) with
                    | true =>
                      have ht := lit_of p3
                      subst ht
                      have HST1 : Hid (Rd.scanStep ws a.data.toList b.data.toList i (k1 + 1) (oo, qq) = (oo, qq)) := by show _ = _; rw [HST0.out, UP.out]; simp [Rd.isOp]
                      go_wp2_with fail
                      go_round
                      case rel => exact last_rel_step h1 c1 HS.out (by omega) (by omega) HST1.out
                      case measure => simp [intOf]; omega
                    | false =>
                      cases p4 : (tp.data.toList == [47]) with
                      | true =>
                        have ht := lit_of p4
                        subst ht
                        have HST1 : Hid (Rd.scanStep ws a.data.toList b.data.toList i (k1 + 1) (oo, qq) = (oo, qq)) := by show _ = _; rw [HST0.out, UP.out]; simp [Rd.isOp]
                        go_wp2_with fail
                        go_round
                        case rel => exact last_rel_step h1 c1 HS.out (by omega) (by omega) HST1.out
                        case measure => simp [intOf]; omega
                      | false =>
                        have y1 := tl p1
                        have y2 := tl p2
                        have y3 := tl p3
                        have y4 := tl p4
                        have HST1 : Hid (Rd.scanStep ws a.data.toList b.data.toList i (k1 + 1) (oo, qq) = (oo, ((k1 + 1 : Nat) : Int))) := by
                          show _ = _
                          rw [HST0.out, UP.out, hor.out, u1, decide_eq_true (by omega), show Rd.isOp tp.data.toList = false by simp only [Rd.isOp, p1, p2, p3, p4]; rfl]
                          rfl
                        go_wp2_with fail
                        go_round
                        case rel => exact last_rel_step h1 c1 HS.out (by omega) (by omega) HST1.out
                        case measure => simp [intOf]; omega
            · have HST1 : Hid (Rd.scanStep ws a.data.toList b.data.toList i k (oo, qq) = (oo, qq)) := by show _ = _; rw [HST0.out, decide_eq_false (by omega)]; simp
              go_wp2_with fail
              go_round
              case rel => exact last_rel_step h1 c1 HS.out (by omega) (by omega) HST1.out
              case measure => simp [intOf]; omega
    · obtain rfl : k = j := by omega
      go_wp2_with fail
      go_ret
      refine ⟨ret_int ?_, rfl⟩
      have e := HS.out
      rw [show k - k = 0 by omega] at e
      unfold Rd.lastOf
      rw [← e]
      rfl
end Go.Proofs.YtmepffenlgedbaaGreatDoor
