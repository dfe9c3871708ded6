/-
  THE WALKS of realskeep's single.
-/
import Derived.Test.YtmepffenlgedbaaDoorKTwo
import Derived.Test.YtmepffenlgedbaaDoorSpan11
set_option linter.unusedSimpArgs false
namespace Go.Proofs.YtmepffenlgedbaaDoor
open Go.RowKit

set_option maxRecDepth 100000 in
set_option maxHeartbeats 2000000 in
theorem single_0 (xp : Value) (t : ByteArray) (lt : List UInt8) (a b : Int) (k : Bool) (n : Int) (w : World) (hn : pickI n 5 = 0) (h0 : -9223372036854775808 ≤ n) (h1 : n ≤ 9223372036854775807) (ht : Str t lt) (hlt : lt.length ≤ 1000) (h : SpOk a b) :
    Calls Tryd.prog 13 #[itv xp t a b k, .int .i64 n] w (TxtSp w ([45] ++ 40 :: (lt ++ [41]))) := by
  have PK := hideq (fun w => pick_any n 5 w h0 h1 (by decide) (by decide))
  rw [hn] at PK
  obtain ⟨y1, ya1, ys1⟩ := add_namedK (Str.mk' [40]) ht (by simp; omega)
  obtain ⟨y2, ya2, ys2⟩ := add_namedK ys1 (Str.mk' [41]) (by simp; omega)
  obtain ⟨y3, ya3, ys3⟩ := add_namedK (Str.mk' [45]) ys2 (by simp; omega)
  have Y3 := hideq ys3
  have FN := hideq (fun a b k w h => neg_any a b k w h)
  clear ys1 ys2 ys3 ht
  go_enter Tryd.func13, Tryd.ntmps13
  go_wp2_with fail
  refine (PK.out _).mono ?_
  rintro e w1 ⟨rfl, rfl⟩
  go_wp2_with fail
  refine calls_in (fun W => Below w.heap.size w W ∧ W.heap[w.heap.size + 1]? = some (spCells 0 0 false)) ⟨((Below.refl _ _).alloc (Nat.le_refl _) _).alloc (by simp) _, alloc_at (by simp)⟩ ?_
  rintro W ⟨hbW, hRW⟩
  refine (FN.out _ _ _ _ h).mono ?_
  rintro e w2 ⟨rfl, hb⟩
  have hR := (hb.block _ (heap_lt hRW)).trans hRW
  have rr0 := cell_of_block (o := 0) hR rfl
  have rr1 := cell_of_block (o := 1) hR rfl
  have rr2 := cell_of_block (o := 2) hR rfl
  have rg0 := frozen_of_block (o := 0) hR
  have rg1 := frozen_of_block (o := 1) hR
  have rg2 := frozen_of_block (o := 2) hR
  have Q := hideq (set3 hR (-b) (-a) k)
  have HBt := hideq (set3_below (hbW.trans (hb.mono hbW.size)) (show w.heap.size ≤ w.heap.size + 1 by omega) (-b) (-a) k)
  have HOK := hideq (h.neg)
  clear hR hb hbW hRW
  go_wp2_with fail
  obtain ⟨q0, q1, q2⟩ := Q.out
  refine bodyPost_ret (v := .tuple #[.string y3, sv (-b) (-a) k]) (by simp [results, Tryd.results13, go_sem, q0, q1, q2]) rfl ?_
  exact ⟨y3, _, _, _, rfl, Y3.out.to (by simp), HOK.out, HBt.out⟩

set_option maxRecDepth 100000 in
set_option maxHeartbeats 2000000 in
theorem single_1 (xp : Value) (t : ByteArray) (lt : List UInt8) (a b : Int) (k : Bool) (n : Int) (w : World) (hn : pickI n 5 = 1) (h0 : -9223372036854775808 ≤ n) (h1 : n ≤ 9223372036854775807) (ht : Str t lt) (hlt : lt.length ≤ 1000) (h : SpOk a b) :
    Calls Tryd.prog 13 #[itv xp t a b k, .int .i64 n] w (TxtSp w ([115, 113, 114, 116] ++ 40 :: (lt ++ [41]))) := by
  have PK := hideq (fun w => pick_any n 5 w h0 h1 (by decide) (by decide))
  rw [hn] at PK
  obtain ⟨y1, ya1, ys1⟩ := add_namedK (Str.mk' [40]) ht (by simp; omega)
  obtain ⟨y2, ya2, ys2⟩ := add_namedK ys1 (Str.mk' [41]) (by simp; omega)
  obtain ⟨y3, ya3, ys3⟩ := add_namedK (Str.mk' [115, 113, 114, 116]) ys2 (by simp; omega)
  have Y3 := hideq ys3
  have FN := hideq (fun a b k w h => sqrt_any a b k w h)
  clear ys1 ys2 ys3 ht
  go_enter Tryd.func13, Tryd.ntmps13
  go_wp2_with fail
  refine (PK.out _).mono ?_
  rintro e w1 ⟨rfl, rfl⟩
  go_wp2_with fail
  refine calls_in (fun W => Below w.heap.size w W ∧ W.heap[w.heap.size + 1]? = some (spCells 0 0 false)) ⟨((Below.refl _ _).alloc (Nat.le_refl _) _).alloc (by simp) _, alloc_at (by simp)⟩ ?_
  rintro W ⟨hbW, hRW⟩
  refine (FN.out _ _ _ _ h).mono ?_
  rintro e w2 ⟨p0, p1, p2, rfl, pok, hb⟩
  have hR := (hb.block _ (heap_lt hRW)).trans hRW
  have rr0 := cell_of_block (o := 0) hR rfl
  have rr1 := cell_of_block (o := 1) hR rfl
  have rr2 := cell_of_block (o := 2) hR rfl
  have rg0 := frozen_of_block (o := 0) hR
  have rg1 := frozen_of_block (o := 1) hR
  have rg2 := frozen_of_block (o := 2) hR
  have Q := hideq (set3 hR p0 p1 p2)
  have HBt := hideq (set3_below (hbW.trans (hb.mono hbW.size)) (show w.heap.size ≤ w.heap.size + 1 by omega) p0 p1 p2)
  have HOK := hideq (pok)
  clear hR hb hbW hRW
  go_wp2_with fail
  obtain ⟨q0, q1, q2⟩ := Q.out
  refine bodyPost_ret (v := .tuple #[.string y3, sv p0 p1 p2]) (by simp [results, Tryd.results13, go_sem, q0, q1, q2]) rfl ?_
  exact ⟨y3, _, _, _, rfl, Y3.out.to (by simp), HOK.out, HBt.out⟩

set_option maxRecDepth 100000 in
set_option maxHeartbeats 2000000 in
theorem single_2 (xp : Value) (t : ByteArray) (lt : List UInt8) (a b : Int) (k : Bool) (n : Int) (w : World) (hn : pickI n 5 = 2) (h0 : -9223372036854775808 ≤ n) (h1 : n ≤ 9223372036854775807) (ht : Str t lt) (hlt : lt.length ≤ 1000) (h : SpOk a b) :
    Calls Tryd.prog 13 #[itv xp t a b k, .int .i64 n] w (TxtSp w ([101, 120, 112] ++ 40 :: (lt ++ [41]))) := by
  have PK := hideq (fun w => pick_any n 5 w h0 h1 (by decide) (by decide))
  rw [hn] at PK
  obtain ⟨y1, ya1, ys1⟩ := add_namedK (Str.mk' [40]) ht (by simp; omega)
  obtain ⟨y2, ya2, ys2⟩ := add_namedK ys1 (Str.mk' [41]) (by simp; omega)
  obtain ⟨y3, ya3, ys3⟩ := add_namedK (Str.mk' [101, 120, 112]) ys2 (by simp; omega)
  have Y3 := hideq ys3
  have FN := hideq (fun a b k w h => exp_any a b k w h)
  clear ys1 ys2 ys3 ht
  go_enter Tryd.func13, Tryd.ntmps13
  go_wp2_with fail
  refine (PK.out _).mono ?_
  rintro e w1 ⟨rfl, rfl⟩
  go_wp2_with fail
  refine calls_in (fun W => Below w.heap.size w W ∧ W.heap[w.heap.size + 1]? = some (spCells 0 0 false)) ⟨((Below.refl _ _).alloc (Nat.le_refl _) _).alloc (by simp) _, alloc_at (by simp)⟩ ?_
  rintro W ⟨hbW, hRW⟩
  refine (FN.out _ _ _ _ h).mono ?_
  rintro e w2 ⟨p0, p1, p2, rfl, pok, hb⟩
  have hR := (hb.block _ (heap_lt hRW)).trans hRW
  have rr0 := cell_of_block (o := 0) hR rfl
  have rr1 := cell_of_block (o := 1) hR rfl
  have rr2 := cell_of_block (o := 2) hR rfl
  have rg0 := frozen_of_block (o := 0) hR
  have rg1 := frozen_of_block (o := 1) hR
  have rg2 := frozen_of_block (o := 2) hR
  have Q := hideq (set3 hR p0 p1 p2)
  have HBt := hideq (set3_below (hbW.trans (hb.mono hbW.size)) (show w.heap.size ≤ w.heap.size + 1 by omega) p0 p1 p2)
  have HOK := hideq (pok)
  clear hR hb hbW hRW
  go_wp2_with fail
  obtain ⟨q0, q1, q2⟩ := Q.out
  refine bodyPost_ret (v := .tuple #[.string y3, sv p0 p1 p2]) (by simp [results, Tryd.results13, go_sem, q0, q1, q2]) rfl ?_
  exact ⟨y3, _, _, _, rfl, Y3.out.to (by simp), HOK.out, HBt.out⟩

set_option maxRecDepth 100000 in
set_option maxHeartbeats 2000000 in
theorem single_3 (xp : Value) (t : ByteArray) (lt : List UInt8) (a b : Int) (k : Bool) (n : Int) (w : World) (hn : pickI n 5 = 3) (h0 : -9223372036854775808 ≤ n) (h1 : n ≤ 9223372036854775807) (ht : Str t lt) (hlt : lt.length ≤ 1000) (h : SpOk a b) :
    Calls Tryd.prog 13 #[itv xp t a b k, .int .i64 n] w (TxtSp w ([108, 110, 49, 112] ++ 40 :: (lt ++ [41]))) := by
  have PK := hideq (fun w => pick_any n 5 w h0 h1 (by decide) (by decide))
  rw [hn] at PK
  obtain ⟨y1, ya1, ys1⟩ := add_namedK (Str.mk' [40]) ht (by simp; omega)
  obtain ⟨y2, ya2, ys2⟩ := add_namedK ys1 (Str.mk' [41]) (by simp; omega)
  obtain ⟨y3, ya3, ys3⟩ := add_namedK (Str.mk' [108, 110, 49, 112]) ys2 (by simp; omega)
  have Y3 := hideq ys3
  have FN := hideq (fun a b k w h => ln1p_any a b k w h)
  clear ys1 ys2 ys3 ht
  go_enter Tryd.func13, Tryd.ntmps13
  go_wp2_with fail
  refine (PK.out _).mono ?_
  rintro e w1 ⟨rfl, rfl⟩
  go_wp2_with fail
  refine calls_in (fun W => Below w.heap.size w W ∧ W.heap[w.heap.size + 1]? = some (spCells 0 0 false)) ⟨((Below.refl _ _).alloc (Nat.le_refl _) _).alloc (by simp) _, alloc_at (by simp)⟩ ?_
  rintro W ⟨hbW, hRW⟩
  refine (FN.out _ _ _ _ h).mono ?_
  rintro e w2 ⟨p0, p1, p2, rfl, pok, hb⟩
  have hR := (hb.block _ (heap_lt hRW)).trans hRW
  have rr0 := cell_of_block (o := 0) hR rfl
  have rr1 := cell_of_block (o := 1) hR rfl
  have rr2 := cell_of_block (o := 2) hR rfl
  have rg0 := frozen_of_block (o := 0) hR
  have rg1 := frozen_of_block (o := 1) hR
  have rg2 := frozen_of_block (o := 2) hR
  have Q := hideq (set3 hR p0 p1 p2)
  have HBt := hideq (set3_below (hbW.trans (hb.mono hbW.size)) (show w.heap.size ≤ w.heap.size + 1 by omega) p0 p1 p2)
  have HOK := hideq (pok)
  clear hR hb hbW hRW
  go_wp2_with fail
  obtain ⟨q0, q1, q2⟩ := Q.out
  refine bodyPost_ret (v := .tuple #[.string y3, sv p0 p1 p2]) (by simp [results, Tryd.results13, go_sem, q0, q1, q2]) rfl ?_
  exact ⟨y3, _, _, _, rfl, Y3.out.to (by simp), HOK.out, HBt.out⟩

set_option maxRecDepth 100000 in
set_option maxHeartbeats 2000000 in
theorem single_4 (xp : Value) (t : ByteArray) (lt : List UInt8) (a b : Int) (k : Bool) (n : Int) (w : World) (hn : pickI n 5 = 4) (h0 : -9223372036854775808 ≤ n) (h1 : n ≤ 9223372036854775807) (ht : Str t lt) (hlt : lt.length ≤ 1000) (h : SpOk a b) :
    Calls Tryd.prog 13 #[itv xp t a b k, .int .i64 n] w (TxtSp w ([97, 116, 97, 110] ++ 40 :: (lt ++ [41]))) := by
  have PK := hideq (fun w => pick_any n 5 w h0 h1 (by decide) (by decide))
  rw [hn] at PK
  obtain ⟨y1, ya1, ys1⟩ := add_namedK (Str.mk' [40]) ht (by simp; omega)
  obtain ⟨y2, ya2, ys2⟩ := add_namedK ys1 (Str.mk' [41]) (by simp; omega)
  obtain ⟨y3, ya3, ys3⟩ := add_namedK (Str.mk' [97, 116, 97, 110]) ys2 (by simp; omega)
  have Y3 := hideq ys3
  have FN := hideq (fun a b k w h => atan_any a b k w h)
  clear ys1 ys2 ys3 ht
  go_enter Tryd.func13, Tryd.ntmps13
  go_wp2_with fail
  refine (PK.out _).mono ?_
  rintro e w1 ⟨rfl, rfl⟩
  go_wp2_with fail
  refine calls_in (fun W => Below w.heap.size w W ∧ W.heap[w.heap.size + 1]? = some (spCells 0 0 false)) ⟨((Below.refl _ _).alloc (Nat.le_refl _) _).alloc (by simp) _, alloc_at (by simp)⟩ ?_
  rintro W ⟨hbW, hRW⟩
  refine (FN.out _ _ _ _ h).mono ?_
  rintro e w2 ⟨p0, p1, p2, rfl, pok, hb⟩
  have hR := (hb.block _ (heap_lt hRW)).trans hRW
  have rr0 := cell_of_block (o := 0) hR rfl
  have rr1 := cell_of_block (o := 1) hR rfl
  have rr2 := cell_of_block (o := 2) hR rfl
  have rg0 := frozen_of_block (o := 0) hR
  have rg1 := frozen_of_block (o := 1) hR
  have rg2 := frozen_of_block (o := 2) hR
  have Q := hideq (set3 hR p0 p1 p2)
  have HBt := hideq (set3_below (hbW.trans (hb.mono hbW.size)) (show w.heap.size ≤ w.heap.size + 1 by omega) p0 p1 p2)
  have HOK := hideq (pok)
  clear hR hb hbW hRW
  go_wp2_with fail
  obtain ⟨q0, q1, q2⟩ := Q.out
  refine bodyPost_ret (v := .tuple #[.string y3, sv p0 p1 p2]) (by simp [results, Tryd.results13, go_sem, q0, q1, q2]) rfl ?_
  exact ⟨y3, _, _, _, rfl, Y3.out.to (by simp), HOK.out, HBt.out⟩

/-- How a sign or a function is written. -/
def sgl (i : Nat) : List UInt8 := if i = 0 then [45] else if i = 1 then [115, 113, 114, 116] else if i = 2 then [101, 120, 112] else if i = 3 then [108, 110, 49, 112] else [97, 116, 97, 110]

theorem single_any (xp : Value) (t : ByteArray) (lt : List UInt8) (a b : Int) (k : Bool) (n : Int) (w : World) (h0 : -9223372036854775808 ≤ n) (h1 : n ≤ 9223372036854775807) (ht : Str t lt) (hlt : lt.length ≤ 1000) (h : SpOk a b) :
    Calls Tryd.prog 13 #[itv xp t a b k, .int .i64 n] w fun e w' => ∃ i, i < 5 ∧ TxtSp w (sgl i ++ 40 :: (lt ++ [41])) e w' := by
  have hlt5 := pickI_lt n 5 (by decide)
  have hc : pickI n 5 = 0 ∨ pickI n 5 = 1 ∨ pickI n 5 = 2 ∨ pickI n 5 = 3 ∨ pickI n 5 = 4 := by omega
  rcases hc with hn | hn | hn | hn | hn
  · exact (single_0 xp t lt a b k n w hn h0 h1 ht hlt h).mono (fun _ _ x => ⟨0, by decide, x⟩)
  · exact (single_1 xp t lt a b k n w hn h0 h1 ht hlt h).mono (fun _ _ x => ⟨1, by decide, x⟩)
  · exact (single_2 xp t lt a b k n w hn h0 h1 ht hlt h).mono (fun _ _ x => ⟨2, by decide, x⟩)
  · exact (single_3 xp t lt a b k n w hn h0 h1 ht hlt h).mono (fun _ _ x => ⟨3, by decide, x⟩)
  · exact (single_4 xp t lt a b k n w hn h0 h1 ht hlt h).mono (fun _ _ x => ⟨4, by decide, x⟩)

end Go.Proofs.YtmepffenlgedbaaDoor
