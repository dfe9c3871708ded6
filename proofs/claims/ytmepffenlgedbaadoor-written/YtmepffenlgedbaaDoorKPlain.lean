/-
  PLAIN MATHEMATICS: what a script of realskeep writes is as the grammar has it.
-/
import Derived.Test.YtmepffenlgedbaaDoorRound
import Derived.Test.YtmepffenlgedbaaDoorKConst
import Derived.Test.YtmepffenlgedbaaDoorKSing
set_option linter.unusedSimpArgs false
namespace Go.Proofs.YtmepffenlgedbaaDoor

/-- A text that is written as the grammar has it. -/
def Wr (l : List UInt8) : Prop := ∃ c, Rd.Good c ∧ Rd.toks l = Rd.tw c

open Rd in
theorem wr_num {v : Int} (hv : numOk v) : Wr (dec v) := ⟨leafT 1 v [], ⟨rfl, rfl, Or.inl ⟨rfl, hv, rfl, rfl, rfl⟩⟩, toks_dec hv⟩

open Rd in
theorem wr_ratio {p q : Int} (hp : numOk p) (hq : numOk q) : Wr (dec p ++ 47 :: dec q) := by
  refine ⟨opT 9 (leafT 1 p []) (leafT 1 q []), ⟨rfl, rfl, Or.inr (Or.inr (Or.inr (Or.inr (Or.inr (Or.inr ⟨Or.inr (Or.inr (Or.inr rfl)), rfl, ⟨rfl, rfl, Or.inl ⟨rfl, hp, rfl, rfl, rfl⟩⟩, ⟨rfl, rfl, Or.inl ⟨rfl, hq, rfl, rfl, rfl⟩⟩, ?_, ?_⟩)))))⟩, ?_⟩
  · show (2 : Int) ≤ 4; decide
  · show (2 : Int) + 1 ≤ 4; decide
  · rw [toks_then (by decide), toks_dec hp, toks_sign (by decide) (by decide), toks_dec hq]
    rfl

open Rd in
theorem wr_const {l : List UInt8} (h : ConstTxt l) : Wr l := by
  rcases h with rfl | rfl | ⟨x, y, z, hx, hy1, hy, hz1, hz, rfl⟩
  · exact ⟨leafT 2 0 [], ⟨rfl, rfl, Or.inr (Or.inl ⟨Or.inl rfl, rfl, rfl, rfl⟩)⟩, rfl⟩
  · exact ⟨leafT 3 0 [], ⟨rfl, rfl, Or.inr (Or.inl ⟨Or.inr rfl, rfl, rfl, rfl⟩)⟩, rfl⟩
  · have hc : CfOk [(x : Int), y, z] := by
      refine ⟨x, [(y : Int), z], rfl, ⟨by omega, by omega⟩, ?_, by simp, by simp⟩
      intro v hv
      simp at hv
      rcases hv with rfl | rfl
      · exact ⟨⟨by omega, by omega⟩, by omega⟩
      · exact ⟨⟨by omega, by omega⟩, by omega⟩
    exact ⟨leafT 4 0 [(x : Int), y, z], ⟨rfl, rfl, Or.inr (Or.inr (Or.inl ⟨rfl, rfl, hc, rfl, rfl⟩))⟩, toks_cf hc⟩

open Rd in
theorem good_par {c : Tr} (h : Rd.Good c) : Rd.Good (unT 14 c) := brkT_good (b := true) h

open Rd in
theorem toks_par {l : List UInt8} {c : Tr} (h : toks l = tw c) (r : List UInt8) : toks (40 :: (l ++ 41 :: r)) = tw (unT 14 c) ++ toks r := by
  rw [toks_sign (by decide) (by decide), toks_then (by decide), h, toks_sign (by decide) (by decide), tw_par]
  simp

open Rd in
theorem wr_two {lt lu : List UInt8} {s : UInt8} (hs : s = 43 ∨ s = 45 ∨ s = 42 ∨ s = 47) (h : Wr lt) (h' : Wr lu) : Wr (40 :: (lt ++ [41, 32, s, 32, 40] ++ lu ++ [41])) := by
  obtain ⟨c, hc, ht⟩ := h
  obtain ⟨d, hd, hu⟩ := h'
  have hk : ∃ k : Int, (k = 6 ∨ k = 7 ∨ k = 8 ∨ k = 9) ∧ sym k = [s] ∧ an s = false ∧ (s == 32) = false ∧ rankK k ≤ 4 ∧ rankK k + 1 ≤ 4 := by
    rcases hs with rfl | rfl | rfl | rfl
    · exact ⟨6, by decide, rfl, by decide, by decide, by decide, by decide⟩
    · exact ⟨7, by decide, rfl, by decide, by decide, by decide, by decide⟩
    · exact ⟨8, by decide, rfl, by decide, by decide, by decide, by decide⟩
    · exact ⟨9, by decide, rfl, by decide, by decide, by decide, by decide⟩
  obtain ⟨k, hk, hsym, han, h32, hr1, hr2⟩ := hk
  refine ⟨opT k (unT 14 c) (unT 14 d), ⟨rfl, rfl, Or.inr (Or.inr (Or.inr (Or.inr (Or.inr (Or.inr ⟨hk, rfl, good_par hc, good_par hd, hr1, hr2⟩)))))⟩, ?_⟩
  have e : 40 :: (lt ++ [41, 32, s, 32, 40] ++ lu ++ [41]) = 40 :: (lt ++ 41 :: (32 :: (s :: (32 :: (40 :: (lu ++ 41 :: [])))))) := by simp
  rw [e, toks_par ht, toks_blank, toks_sign han h32, toks_blank, toks_par hu, tw_op hk, hsym, toks_nil]
  simp

open Rd in
theorem wr_single {lt : List UInt8} {i : Nat} (hi : i < 5) (h : Wr lt) : Wr (sgl i ++ 40 :: (lt ++ [41])) := by
  obtain ⟨c, hc, ht⟩ := h
  have hp := toks_par ht []
  rw [toks_nil, List.append_nil] at hp
  have hi5 : i = 0 ∨ i = 1 ∨ i = 2 ∨ i = 3 ∨ i = 4 := by omega
  rcases hi5 with rfl | rfl | rfl | rfl | rfl
  · refine ⟨unT 5 (unT 14 c), ⟨rfl, rfl, Or.inr (Or.inr (Or.inr (Or.inl ⟨rfl, rfl, good_par hc, by show (3 : Int) ≤ 4; decide, rfl⟩)))⟩, ?_⟩
    show toks (45 :: (40 :: (lt ++ [41]))) = _
    rw [toks_sign (by decide) (by decide), hp]
    rfl
  · refine ⟨unT 10 (unT 14 c), ⟨rfl, rfl, Or.inr (Or.inr (Or.inr (Or.inr (Or.inl ⟨Or.inl rfl, rfl, good_par hc, rfl, rfl⟩))))⟩, ?_⟩
    show toks ([115, 113, 114, 116] ++ 40 :: (lt ++ [41])) = _
    rw [toks_then (by decide), hp]
    rfl
  · refine ⟨unT 11 (unT 14 c), ⟨rfl, rfl, Or.inr (Or.inr (Or.inr (Or.inr (Or.inl ⟨Or.inr (Or.inl rfl), rfl, good_par hc, rfl, rfl⟩))))⟩, ?_⟩
    show toks ([101, 120, 112] ++ 40 :: (lt ++ [41])) = _
    rw [toks_then (by decide), hp]
    rfl
  · refine ⟨unT 12 (unT 14 c), ⟨rfl, rfl, Or.inr (Or.inr (Or.inr (Or.inr (Or.inl ⟨Or.inr (Or.inr (Or.inl rfl)), rfl, good_par hc, rfl, rfl⟩))))⟩, ?_⟩
    show toks ([108, 110, 49, 112] ++ 40 :: (lt ++ [41])) = _
    rw [toks_then (by decide), hp]
    rfl
  · refine ⟨unT 13 (unT 14 c), ⟨rfl, rfl, Or.inr (Or.inr (Or.inr (Or.inr (Or.inl ⟨Or.inr (Or.inr (Or.inr rfl)), rfl, good_par hc, rfl, rfl⟩))))⟩, ?_⟩
    show toks ([97, 116, 97, 110] ++ 40 :: (lt ++ [41])) = _
    rw [toks_then (by decide), hp]
    rfl

end Go.Proofs.YtmepffenlgedbaaDoor
