/-
  THE WALK of realsnum's (N).Text.
-/
import Derived.Test.YtmepffenlgedbaaGreatDoorRNum
import Derived.Test.YtmepffenlgedbaaGreatDoorTText4
set_option linter.unusedSimpArgs false
namespace Go.Proofs.YtmepffenlgedbaaGreatDoor
open Go.RowKit

def inRel (w : World) (last : Bool) (G : List UInt8) (tv xv pv : Value) (wr : World) : Prop :=
  ∃ (s : ByteArray) (x p : Nat) (l : List UInt8), tv = .string s ∧ xv = .int .i64 x ∧ pv = .int .i64 p ∧ p ≤ 4 ∧ x < 10000 ∧ Str s l ∧ l.length ≤ 40 + p ∧ Rd.inner last (4 - p) x l = G ∧ Below w.heap.size w wr

def outRel (w : World) (ds : List Int) (tv iv : Value) (wr : World) : Prop :=
  ∃ (s : ByteArray) (k : Nat) (l : List UInt8), tv = .string s ∧ iv = .int .i64 k ∧ k ≤ ds.length ∧ Str s l ∧ l.length ≤ 4 * k ∧ Rd.ntxt (ds.drop k) l = Rd.ntxt ds [] ∧ Below w.heap.size w wr

theorem drop_cons {ds : List Int} {k : Nat} (h : k < ds.length) : ds.drop k = ds.getD k 0 :: ds.drop (k + 1) := by
  rw [List.drop_eq_getElem_cons h]
  simp [List.getD, List.getElem?_eq_getElem h]

theorem byte_conv (wr : World) (x : Nat) : (convert 101 9 (.slice (some ⟨wr.heap.size, 0, none⟩) 1 1)).run Tryz.prog (wr.alloc (.cells #[.int .u8 (48 + (x : Int) % 10)] 5)) = .ok (.string ⟨#[Rd.dgt x]⟩) (wr.alloc (.cells #[.int .u8 (48 + (x : Int) % 10)] 5)) := by
  have h : ((Rd.dgt x).toNat : Int) = 48 + (x : Int) % 10 := by
    unfold Rd.dgt
    rw [UInt8.toNat_ofNat']
    omega
  refine run_convert_bytes_back (P := Tryz.prog) _ 101 9 5 ⟨wr.heap.size, 0, none⟩ 1 [Rd.dgt x] Tryz.underlying101 Tryz.underlying5 Tryz.underlying9 ?_
  intro j hj
  obtain rfl : j = 0 := by simpa using hj
  show _ = some (Value.int .u8 ((Rd.dgt x).toNat : Int))
  rw [h]
  exact cell_of_block (cells_new _ _) rfl

set_option maxRecDepth 100000 in
set_option maxHeartbeats 1000000 in
theorem ntext_some (w : World) (ds : List Int) (tb cap : Nat) (cur : Array Value) (h3 : w.heap[tb]? = some (.cells cur 3 (0, 0))) (h5 : cur.toList.take ds.length = ds.map (Value.int .i64)) (hl : 0 < ds.length) (hl5 : ds.length ≤ 5) (hok : ∀ x ∈ ds, 0 ≤ x ∧ x < 10000) :
    Calls Tryz.prog 116 #[.agg #[.bool false, .slice (some ⟨tb, 0, none⟩) ds.length cap]] w (TxtPost w (Rd.ntxt ds [])) := by
  have l0 : ((ds.length : Int) == 0) = false := by simp; intro h; rw [h] at hl; simp at hl
  have htb := heap_lt h3
  go_enter Tryz.func116, Tryz.ntmps116
  go_wp2_with fail
  go_loopw [3, 14] (fun t i wr => outRel (w.alloc (.cells #[.bool false, .slice (some ⟨tb, 0, none⟩) ds.length cap] 59)) ds t i wr) (fun _ i _ => ds.length - (intOf i).toNat)
  case atStart => exact ⟨_, 0, [], rfl, rfl, by omega, ⟨rfl⟩, Nat.le_refl _, rfl, Below.refl _ _⟩
  case round =>
    obtain ⟨s, k, l, rfl, rfl, hk, hS, hll, hG, hb⟩ := hrel
    obtain ⟨wo, hwo⟩ : ∃ wo, wo = wr := ⟨wr, rfl⟩
    subst hwo
    by_cases hkl : (k : Int) < ds.length
    · have hkl' : k < ds.length := by omega
      have hc := ints_cell (w := wo) (by rw [hb.block tb (by simp; omega), Below.heap_alloc _ _ _ htb]; exact h3) h5 k hkl'
      obtain ⟨m, hm, hm2⟩ : ∃ m : Nat, ds.getD k 0 = (m : Int) ∧ m < 10000 := by
        have : 0 ≤ ds.getD k 0 ∧ ds.getD k 0 < 10000 := by
          refine hok _ ?_
          simp only [List.getD, List.getElem?_eq_getElem hkl', Option.getD_some]
          exact List.getElem_mem hkl'
        exact ⟨(ds.getD k 0).toNat, by omega, by omega⟩
      rw [hm] at hc
      have HG := hidp hG
      have HS := hidp hS
      have HB := hidp hb
      have HM := hidp hm
      have HOK := hidp hok
      clear hG hS hb hm hok
      go_wp2_with fail
      go_loopw [3, 5, 6] (fun t x p w2 => inRel wo (ds.drop (k + 1)).isEmpty (Rd.inner (ds.drop (k + 1)).isEmpty 4 m l) t x p w2) (fun _ _ p _ => 4 - (intOf p).toNat)
      case atStart => exact ⟨s, m, 0, l, rfl, rfl, rfl, by omega, hm2, HS.out, by omega, rfl, Below.refl _ _⟩
      case round =>
        obtain ⟨s2, x, p, l2, rfl, rfl, rfl, hp, hx, hS2, hl2, hG2, hb2⟩ := hrel
        have hbb := HB.out.trans (hb2.mono HB.out.size)
        have r1 : wr.cell? ⟨w.heap.size, 1, none⟩ = some (.slice (some ⟨tb, 0, none⟩) ds.length cap) := by
          rw [hbb.cell (by simp)]
          exact cell_of_block (cells_new _ _) rfl
        have hs2 : s2.size ≤ 44 := by rw [hS2.size]; omega
        have hwl : w.heap.size < wr.heap.size := by have := hbb.size; simp at this; omega
        have HB2 := hidp hb2
        have HS2 := hidp hS2
        have HG2 := hidp hG2
        clear hb2 hS2 hG2 hbb
        by_cases hp4 : (p : Int) < 4
        · have hstep := hidp (show Rd.inner (ds.drop (k + 1)).isEmpty (4 - p) x l2 = Rd.inner (ds.drop (k + 1)).isEmpty (4 - (p + 1)) (x / 10) (bif decide (0 < x) || !(ds.drop (k + 1)).isEmpty then Rd.dgt x :: l2 else l2) by rw [show 4 - p = (4 - (p + 1)) + 1 by omega, Rd.inner])
          by_cases hx0 : (0 : Int) < x
          · have hcv := byte_conv wr x
            go_wp2_with fail
            go_roundw
            case rel =>
              refine ⟨_, x / 10, p + 1, Rd.dgt x :: l2, rfl, by simp, by simp, by omega, by omega, ((Str.mk' [Rd.dgt x]).app HS2.out), by simp; omega, ?_, HB2.out.alloc HB2.out.size _⟩
              rw [← HG2.out, hstep.out, decide_eq_true (show 0 < x by omega)]
              rfl
            case measure => simp [intOf]; omega
          · obtain rfl : x = 0 := by omega
            by_cases hlast : (k : Int) < (ds.length : Int) - 1
            · have hcv : (convert 101 9 (.slice (some ⟨wr.heap.size, 0, none⟩) 1 1)).run Tryz.prog (wr.alloc (.cells #[.int .u8 48] 5)) = .ok (.string ⟨#[Rd.dgt 0]⟩) (wr.alloc (.cells #[.int .u8 48] 5)) := byte_conv wr 0
              go_wp2_with fail
              go_roundw
              case rel =>
                refine ⟨_, 0, p + 1, Rd.dgt 0 :: l2, rfl, by simp, by simp, by omega, by omega, ((Str.mk' [Rd.dgt 0]).app HS2.out), by simp; omega, ?_, HB2.out.alloc HB2.out.size _⟩
                rw [← HG2.out, hstep.out, show (ds.drop (k + 1)).isEmpty = false by simp; omega]
                rfl
              case measure => simp [intOf]; omega
            · go_wp2_with fail
              go_roundw
              case rel =>
                refine ⟨_, 0, p + 1, l2, rfl, by simp, by simp, by omega, by omega, HS2.out, by omega, ?_, HB2.out⟩
                rw [← HG2.out, hstep.out, show (ds.drop (k + 1)).isEmpty = true by simp; omega]
                rfl
              case measure => simp [intOf]; omega
        · obtain rfl : p = 4 := by omega
          go_wp2_with fail
          go_roundw
          case rel =>
            refine ⟨_, k + 1, l2, rfl, by simp, by omega, HS2.out, ?_, ?_, HB.out.trans (HB2.out.mono HB.out.size)⟩
            · have := Rd.inner_len 4 (ds.drop (k + 1)).isEmpty m l
              rw [← HG2.out] at this
              change l2.length ≤ _ at this
              omega
            · rw [← HG.out, drop_cons hkl', Rd.ntxt, HM.out, Int.toNat_natCast, ← HG2.out]
              rfl
          case measure => simp only [intOf]; omega
    · obtain rfl : k = ds.length := by omega
      have HG := hidp hG
      have HS := hidp hS
      have HB := hidp hb
      have r1 : wo.cell? ⟨w.heap.size, 0, none⟩ = some (.bool false) := by
        rw [hb.cell (by simp)]
        exact cell_of_block (cells_new _ _) rfl
      clear hG hS hb hok
      go_wp2_with fail
      go_ret
      refine ⟨_, rfl, HS.out.to ?_, ((Below.refl _ _).alloc (Nat.le_refl _) _).trans (HB.out.mono (by simp))⟩
      have := HG.out
      rw [List.drop_length] at this
      exact this

end Go.Proofs.YtmepffenlgedbaaGreatDoor
