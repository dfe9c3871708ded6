/-
  THE WALK of realskeep's (World).step.
-/
import Derived.Test.YtmepffenlgedbaaDoorKPut
import Derived.Test.YtmepffenlgedbaaDoorKPlain
set_option linter.unusedSimpArgs false
namespace Go.Proofs.YtmepffenlgedbaaDoor
open Go.RowKit
open Go.Deep (BT)

/-- A text and an interval are put. -/
theorem put_wr (w0 w : World) (wb : Nat) (ps : List It) (t : ByteArray) (l : List UInt8) (a b : Int) (k : Bool) (ht : Str t l) (hl : l.length ≤ 1000000) (hw : Wr l) (hsp : SpOk a b) (hI : KInv w0 w wb ps) (hT : Tab w0) (hn : ps.length ≤ 3000000) :
    Calls Tryd.prog 7 #[.pointer (some ⟨wb, 0, none⟩), .string t, sv a b k] w (KPost w0 wb ps.length) := by
  obtain ⟨c, hc, he⟩ := hw
  exact put_any w0 w wb ps t c a b k hc (by rw [ht.eq]; exact he) hsp (by have := ht.size; unfold maxLen; omega) hI hT (by omega)

theorem const_len {l : List UInt8} (h : ConstTxt l) : l.length ≤ 1000000 := by
  rcases h with rfl | rfl | ⟨x, y, z, hx, hy1, hy, hz1, hz, rfl⟩
  · decide
  · decide
  · have := Rd.termsTo_len (ts := [(x : Int), y, z]) (by intro v hv; simp at hv; rcases hv with rfl | rfl | rfl <;> exact ⟨by omega, by omega⟩) 3
    unfold Rd.termsTxt
    simp at this ⊢
    omega

theorem cell_ltK {w : World} {a : Addr} {v : Value} (h : w.cell? a = some v) : a.block < w.heap.size := by
  unfold World.cell? at h
  by_cases hlt : a.block < w.heap.size
  · exact hlt
  · simp [Array.getElem?_eq_none (Nat.le_of_not_lt hlt)] at h

abbrev opv (k a b c : Int) : Value := .agg #[.int .i64 k, .int .i64 a, .int .i64 b, .int .i64 c]

set_option maxRecDepth 100000 in
set_option maxHeartbeats 1000000 in
theorem step_const (w0 w : World) (wb : Nat) (ps : List It) (a b c : Int) (hI : KInv w0 w wb ps) (hT : Tab w0) (hn : ps.length ≤ 3000000) (h0 : -9223372036854775808 ≤ a) (h1 : a ≤ 9223372036854775807) (h2 : -9223372036854775808 ≤ b) (h3 : b ≤ 9223372036854775807) :
    Calls Tryd.prog 5 #[.pointer (some ⟨wb, 0, none⟩), opv 2 a b c] w (KPost w0 wb ps.length) := by
  have CO := hidp (fun w => constant_any a b w h0 h1 h2 h3)
  have HI := hidp (hI.below ((Below.refl w.heap.size w).alloc (Nat.le_refl _) (.cells #[.int .i64 2, .int .i64 a, .int .i64 b, .int .i64 c] 32)))
  have HT := hidp hT
  clear hI hT
  go_enter Tryd.func5, Tryd.ntmps5
  go_wp2_with fail
  refine (CO.out _).mono ?_
  rintro e w1 ⟨l, hl, u, p, q, r, rfl, hu, hok, hb1⟩
  have hll : l.length ≤ 1000000 := const_len hl
  have HI1 := hidp (HI.out.below hb1)
  have HU := hidp hu
  have HW := hidp (wr_const hl)
  have HOK := hidp hok
  clear hb1 hu hl hok
  go_wp2_with fail
  refine (put_wr w0 _ wb ps u l p q r HU.out hll HW.out HOK.out (HI1.out.below ((Below.refl _ _).alloc (Nat.le_refl _) _)) HT.out hn).mono ?_
  rintro e w2 ⟨rfl, h⟩
  have H := hidp h
  clear h
  go_wp2_with fail
  go_ret
  exact ⟨rfl, H.out⟩

set_option maxRecDepth 100000 in
set_option maxHeartbeats 1000000 in
theorem step_num (w0 w : World) (wb : Nat) (ps : List It) (a b c : Int) (hI : KInv w0 w wb ps) (hT : Tab w0) (hn : ps.length ≤ 3000000) (h0 : -9223372036854775808 ≤ a) (h1 : a ≤ 9223372036854775807) (h2 : -9223372036854775808 ≤ b) (h3 : b ≤ 9223372036854775807) :
    Calls Tryd.prog 5 #[.pointer (some ⟨wb, 0, none⟩), opv 1 a b c] w (KPost w0 wb ps.length) := by
  have hp := pickI_lt a 40 (by decide)
  have hq := pickI_lt b 12 (by decide)
  have PA := hidp (fun w => pick_any a 40 w h0 h1 (by decide) (by decide))
  have PB := hidp (fun w => pick_any b 12 w h2 h3 (by decide) (by decide))
  generalize pickI a 40 = p at *
  generalize pickI b 12 = q at *
  have HI := hidp (hI.below ((Below.refl w.heap.size w).alloc (Nat.le_refl _) (.cells #[.int .i64 1, .int .i64 a, .int .i64 b, .int .i64 c] 32)))
  have HT := hidp hT
  have NP := hidp (fun w => number_any p w (by omega))
  have NQ : Hid (∀ (v : Int) (w : World), v = ((1 + q : Nat) : Int) → Calls Tryd.prog 8 #[.int .i64 v] w (StrPost w (Rd.dec ((1 + q : Nat) : Int)))) := by
    rintro v w rfl
    exact number_any (1 + q) w (by omega)
  have PT := hidp (fun n w => point_any n w)
  have RT : Hid (∀ (v : Int) (w : World), v = ((1 + q : Nat) : Int) → Calls Tryd.prog 10 #[.int .i64 p, .int .i64 v] w (SpPost w)) := by
    rintro v w rfl
    exact (ratio_any p ((1 + q : Nat) : Int) w (by omega) (by omega) (by omega) (by omega)).mono (fun _ _ h => OfPost.sp (floor_ceil (by omega) (Int.le_refl _)) h)
  have l1 : (Rd.dec (p : Int)).length ≤ 9 := Rd.dec_len ⟨by omega, by omega⟩
  have l2 : (Rd.dec ((1 + q : Nat) : Int)).length ≤ 9 := Rd.dec_len ⟨by omega, by omega⟩
  have WN := hidp (wr_num (v := (p : Int)) ⟨by omega, by omega⟩)
  have WR := hidp (wr_ratio (p := (p : Int)) (q := ((1 + q : Nat) : Int)) ⟨by omega, by omega⟩ ⟨by omega, by omega⟩)
  clear hI hT
  go_enter Tryd.func5, Tryd.ntmps5
  go_wp2_with fail
  refine (PA.out _).mono ?_
  rintro e w1 ⟨rfl, rfl⟩
  go_wp2_with fail
  refine (PB.out _).mono ?_
  rintro e w1 ⟨rfl, rfl⟩
  by_cases hq0 : q = 0
  · subst hq0
    go_wp2_with fail
    refine (NP.out _).mono ?_
    rintro e w1 ⟨u, rfl, hu, hb1⟩
    have HI1 := hidp (HI.out.below hb1)
    have HU := hidp hu
    clear hb1 hu
    go_wp2_with fail
    refine ((PT.out _ _).mono (fun _ _ h => OfPost.sp (Int.le_refl _) h)).mono ?_
    rintro e w2 ⟨x, y, z, rfl, hok, hb2⟩
    have HI2 := hidp (HI1.out.below hb2)
    have HOK := hidp hok
    clear hb2 hok
    go_wp2_with fail
    refine (put_wr w0 _ wb ps u _ x y z HU.out (by omega) WN.out HOK.out HI2.out HT.out hn).mono ?_
    rintro e w4 ⟨rfl, h⟩
    have H := hidp h
    clear h
    go_wp2_with fail
    go_ret
    exact ⟨rfl, H.out⟩
  · have hq1 : ((1 : Int) + q == 1) = false := beq_eq_false_iff_ne.2 (by omega)
    go_wp2_with fail
    refine (NP.out _).mono ?_
    rintro e w1 ⟨u, rfl, hu, hb1⟩
    have HI1 := hidp (HI.out.below hb1)
    obtain ⟨y1, ya1, ys1⟩ := add_namedK hu (Str.mk' [47]) (by simp only [List.length_cons, List.length_nil]; omega)
    clear hb1 hu
    go_wp2_with fail
    refine (NQ.out _ _ (by first | rfl | omega)).mono ?_
    rintro e w2 ⟨u2, rfl, hu2, hb2⟩
    have HI2 := hidp (HI1.out.below hb2)
    obtain ⟨y2, ya2, ys2⟩ := add_namedK ys1 hu2 (by simp only [List.length_append, List.length_cons, List.length_nil]; omega)
    have HY := hidp ys2
    clear hb2 hu2 ys1 ys2
    go_wp2_with fail
    refine (RT.out _ _ (by first | rfl | omega)).mono ?_
    rintro e w3 ⟨x, y, z, rfl, hok, hb3⟩
    have HI3 := hidp (HI2.out.below hb3)
    have HOK := hidp hok
    clear hb3 hok
    go_wp2_with fail
    refine (put_wr w0 _ wb ps y2 _ x y z (HY.out.to (by simp)) (by simp only [List.length_append, List.length_cons]; omega) WR.out HOK.out HI3.out HT.out hn).mono ?_
    rintro e w4 ⟨rfl, h⟩
    have H := hidp h
    clear h
    go_wp2_with fail
    go_ret
    exact ⟨rfl, H.out⟩

set_option maxRecDepth 100000 in
set_option maxHeartbeats 1000000 in
theorem step_none (w0 w : World) (wb : Nat) (k a b c : Int) (hk : k ≠ 1) (hk2 : k ≠ 2) (hI : KInv w0 w wb []) :
    Calls Tryd.prog 5 #[.pointer (some ⟨wb, 0, none⟩), opv k a b c] w (KPost w0 wb 0) := by
  obtain ⟨v, h1, h2⟩ := hI.blk
  have c0 : w.cell? ⟨wb, 0, none⟩ = some v := cell_of_block h1 rfl
  obtain ⟨ao, cp, rfl⟩ : ∃ ao cp, v = .slice ao 0 cp := by
    rcases h2.2 with ⟨e, _⟩ | ⟨g, cap, cur, e, _⟩
    · exact ⟨_, _, e⟩
    · exact ⟨_, _, e⟩
  have R := hidp (hI.below ((Below.refl w.heap.size w).alloc (Nat.le_refl _) (.cells #[.int .i64 k, .int .i64 a, .int .i64 b, .int .i64 c] 32)))
  have hwb := heap_lt h1
  have e1 : (k == 1) = false := by simpa using hk
  have e2 : (k == 2) = false := by simpa using hk2
  clear h1 h2 hI
  go_enter Tryd.func5, Tryd.ntmps5
  go_wp2_with fail
  go_ret
  exact ⟨rfl, [], R.out, by simp⟩

/-- The item that a raw number speaks of. -/
theorem KInv.item {w0 w : World} {wb : Nat} {ps : List It} (h : KInv w0 w wb ps) (n : Nat) (hn : n < ps.length) :
    ∃ g cap, w.cell? ⟨wb, 0, none⟩ = some (.slice (some ⟨g, 0, none⟩) ps.length cap) ∧ (∀ (m : Nat) (hm : m < ps.length), w.cell? ⟨g, m * 5, none⟩ = some (.pointer (some ⟨ps[m].1, 0, none⟩)) ∧ w.cell? ⟨g, m * 5 + 1, none⟩ = some (.string ps[m].2.1) ∧ w.cell? ⟨g, m * 5 + 2, none⟩ = some (.int .i64 ps[m].2.2.1) ∧ w.cell? ⟨g, m * 5 + 3, none⟩ = some (.int .i64 ps[m].2.2.2.1) ∧ w.cell? ⟨g, m * 5 + 4, none⟩ = some (.bool ps[m].2.2.2.2)) := by
  obtain ⟨v, h1, h2⟩ := h.blk
  rcases h2.2 with ⟨_, e⟩ | ⟨g, cap, cur, e, _, hh, _, _, _, h4⟩
  · omega
  · subst e
    have key : ∀ (j : Nat) (u : Value), (icells ps)[j]? = some u → cur[j]? = some u := by
      intro j u hu
      rw [← h4] at hu
      have hj := (List.getElem?_eq_some_iff.1 hu).1
      rw [List.getElem?_take_of_lt (by simp at hj; omega)] at hu
      simpa using hu
    refine ⟨g, cap, cell_of_block h1 rfl, fun m hm => ?_⟩
    obtain ⟨a0, a1, a2, a3, a4⟩ := icells_at ps m hm
    exact ⟨cell_of_block hh (key _ _ a0), cell_of_block hh (key _ _ a1), cell_of_block hh (key _ _ a2), cell_of_block hh (key _ _ a3), cell_of_block hh (key _ _ a4)⟩

theorem it_len {p : It} (h : ItOk p) : p.2.1.data.toList.length ≤ 1000 := by
  have := h.len
  have e : p.2.1.data.toList.length = p.2.1.size := Array.length_toList
  omega
theorem two_len {lt lu : List UInt8} (h : lt.length ≤ 1000) (h' : lu.length ≤ 1000) (s : UInt8) : (40 :: (lt ++ [41, 32, s, 32, 40] ++ lu ++ [41])).length ≤ 1000000 := by
  simp
  omega
theorem one_len {lt : List UInt8} (h : lt.length ≤ 1000) (i : Nat) : (sgl i ++ 40 :: (lt ++ [41])).length ≤ 1000000 := by
  have : (sgl i).length ≤ 4 := by unfold sgl; split; simp; split; simp; split; simp; split <;> simp
  simp
  omega

set_option maxRecDepth 100000 in
set_option maxHeartbeats 1000000 in
theorem step_two (w0 w : World) (wb : Nat) (ps : List It) (a b c : Int) (hI : KInv w0 w wb ps) (hT : Tab w0) (hp : 0 < ps.length) (hn : ps.length ≤ 3000000) (h0 : -9223372036854775808 ≤ a) (h1 : a ≤ 9223372036854775807) (h2 : -9223372036854775808 ≤ b) (h3 : b ≤ 9223372036854775807) (h4 : -9223372036854775808 ≤ c) (h5 : c ≤ 9223372036854775807) :
    Calls Tryd.prog 5 #[.pointer (some ⟨wb, 0, none⟩), opv 3 a b c] w (KPost w0 wb ps.length) := by
  have hx := pickI_lt a ps.length hp
  have hy := pickI_lt b ps.length hp
  have PA := hidp (fun w => pick_any a ps.length w h0 h1 hp (by omega))
  have PB := hidp (fun w => pick_any b ps.length w h2 h3 hp (by omega))
  generalize pickI a ps.length = x at *
  generalize pickI b ps.length = y at *
  obtain ⟨g, cap, c0, hc⟩ := hI.item x hx
  have IX := hI.all ps[x] (List.getElem_mem hx)
  have IY := hI.all ps[y] (List.getElem_mem hy)
  obtain ⟨d0, d1, d2, d3, d4⟩ := hc x hx
  obtain ⟨e0, e1, e2, e3, e4⟩ := hc y hy
  generalize ps[x] = X at *
  generalize ps[y] = Y at *
  obtain ⟨xb, xt, xa, xo, xk⟩ := X
  obtain ⟨yb, yt, ya, yo, yk⟩ := Y
  simp only at d0 d1 d2 d3 d4 e0 e1 e2 e3 e4
  have HI := hidp hI
  have HT := hidp hT
  have HIX := hidp IX
  have HIY := hidp IY
  have hwb := heap_lt (hI.blk.choose_spec.1)
  have hgl := cell_ltK d0
  simp only at hgl
  have nn0 : ¬ wb = w.heap.size := by omega
  have nn1 : ¬ wb = w.heap.size + 1 := by omega
  have nn2 : ¬ wb = w.heap.size + 1 + 1 := by omega
  have nn3 : ¬ wb = w.heap.size + 2 := by omega
  have nn4 : ¬ g = w.heap.size := by omega
  have nn5 : ¬ g = w.heap.size + 1 := by omega
  have nn6 : ¬ g = w.heap.size + 1 + 1 := by omega
  have nn7 : ¬ g = w.heap.size + 2 := by omega
  have hne : ((ps.length : Int) == 0) = false := beq_eq_false_iff_ne.2 (by omega)
  clear hI hT IX IY hc
  go_enter Tryd.func5, Tryd.ntmps5
  go_wp2_with fail
  go_region_held3 (fun w' => w'.cell? ⟨wb, 0, none⟩ = some (.slice (some ⟨g, 0, none⟩) ps.length cap) ∧ w'.cell? ⟨g, x * 5, none⟩ = some (.pointer (some ⟨xb, 0, none⟩)) ∧ w'.cell? ⟨g, x * 5 + 1, none⟩ = some (.string xt) ∧ w'.cell? ⟨g, x * 5 + 2, none⟩ = some (.int .i64 xa) ∧ w'.cell? ⟨g, x * 5 + 3, none⟩ = some (.int .i64 xo) ∧ w'.cell? ⟨g, x * 5 + 4, none⟩ = some (.bool xk) ∧ w'.cell? ⟨w.heap.size, 1, none⟩ = some (.int .i64 a)) (go_keep)
    ((go_at_call 6; refine (PA.out _).mono ?_; rintro e w2 ⟨rfl, rfl⟩))
  all_goals
    go_wp2_with fail
    obtain ⟨V, hV⟩ : ∃ V, V = ((w.alloc (.cells #[.int .i64 3, .int .i64 a, .int .i64 b, .int .i64 c] 32)).alloc (.cells #[.pointer (some ⟨xb, 0, none⟩), .string xt, .int .i64 xa, .int .i64 xo, .bool xk] 44)).drew := ⟨_, rfl⟩
    rw [← hV]
    have hBV : Below w.heap.size w V := by rw [hV]; exact (((Below.refl w.heap.size w).alloc (Nat.le_refl _) _).alloc (by simp) _).trans ((drewS _).mono (by simp; omega))
    have hOV : V.heap[w.heap.size]? = some (.cells #[.int .i64 3, .int .i64 a, .int .i64 b, .int .i64 c] 32 (0, 0)) := by rw [hV]; exact alloc_old (cells_new _ _)
    have hXV : V.heap[w.heap.size + 1]? = some (.cells #[.pointer (some ⟨xb, 0, none⟩), .string xt, .int .i64 xa, .int .i64 xo, .bool xk] 44 (0, 0)) := by rw [hV]; exact alloc_at (by simp)
    have HIV := hidp (HI.out.below hBV)
    have vc0 := (hBV.cell (p := ⟨wb, 0, none⟩) hwb).trans c0
    have ve0 := (hBV.cell (p := ⟨g, y * 5, none⟩) hgl).trans e0
    have ve1 := (hBV.cell (p := ⟨g, y * 5 + 1, none⟩) hgl).trans e1
    have ve2 := (hBV.cell (p := ⟨g, y * 5 + 2, none⟩) hgl).trans e2
    have ve3 := (hBV.cell (p := ⟨g, y * 5 + 3, none⟩) hgl).trans e3
    have ve4 := (hBV.cell (p := ⟨g, y * 5 + 4, none⟩) hgl).trans e4
    have o0 := cell_of_block (o := 0) hOV rfl
    have o2 := cell_of_block (o := 2) hOV rfl
    have o3 := cell_of_block (o := 3) hOV rfl
    have x0 := cell_of_block (o := 0) hXV rfl
    have x1 := cell_of_block (o := 1) hXV rfl
    have x2 := cell_of_block (o := 2) hXV rfl
    have x3 := cell_of_block (o := 3) hXV rfl
    have x4 := cell_of_block (o := 4) hXV rfl
    have vs0 := heap_lt hOV
    have vs1 := heap_lt hXV
    have vs2 := Nat.lt_of_lt_of_le hwb hBV.size
    have vs3 := Nat.lt_of_lt_of_le hgl hBV.size
    clear hV hBV hOV hXV c0 d0 d1 d2 d3 d4 e0 e1 e2 e3 e4 PA
    go_region_held3 (fun w' => w'.cell? ⟨wb, 0, none⟩ = some (.slice (some ⟨g, 0, none⟩) ps.length cap) ∧ w'.cell? ⟨g, y * 5, none⟩ = some (.pointer (some ⟨yb, 0, none⟩)) ∧ w'.cell? ⟨g, y * 5 + 1, none⟩ = some (.string yt) ∧ w'.cell? ⟨g, y * 5 + 2, none⟩ = some (.int .i64 ya) ∧ w'.cell? ⟨g, y * 5 + 3, none⟩ = some (.int .i64 yo) ∧ w'.cell? ⟨g, y * 5 + 4, none⟩ = some (.bool yk) ∧ w'.cell? ⟨w.heap.size, 2, none⟩ = some (.int .i64 b)) (go_keep)
      ((go_at_call 6; refine (PB.out _).mono ?_; rintro e w2 ⟨rfl, rfl⟩))
    all_goals
      obtain ⟨U, hU⟩ : ∃ U, U = (V.alloc (.cells #[.pointer (some ⟨yb, 0, none⟩), .string yt, .int .i64 ya, .int .i64 yo, .bool yk] 44)).drew := ⟨_, rfl⟩
      rw [← hU]
      have hBU : Below V.heap.size V U := by rw [hU]; exact ((Below.refl V.heap.size V).alloc (Nat.le_refl _) _).trans ((drewS _).mono (by simp))
      have hYU : U.heap[V.heap.size]? = some (.cells #[.pointer (some ⟨yb, 0, none⟩), .string yt, .int .i64 ya, .int .i64 yo, .bool yk] 44 (0, 0)) := by rw [hU]; exact cells_new _ _
      have HIU := hidp (HIV.out.below hBU)
      have p0 := (hBU.cell (p := ⟨w.heap.size, 0, none⟩) vs0).trans o0
      have p3 := (hBU.cell (p := ⟨w.heap.size, 3, none⟩) vs0).trans o3
      have u0 := (hBU.cell (p := ⟨w.heap.size + 1, 0, none⟩) vs1).trans x0
      have u1 := (hBU.cell (p := ⟨w.heap.size + 1, 1, none⟩) vs1).trans x1
      have u2 := (hBU.cell (p := ⟨w.heap.size + 1, 2, none⟩) vs1).trans x2
      have u3 := (hBU.cell (p := ⟨w.heap.size + 1, 3, none⟩) vs1).trans x3
      have u4 := (hBU.cell (p := ⟨w.heap.size + 1, 4, none⟩) vs1).trans x4
      have y0 := cell_of_block (o := 0) hYU rfl
      have y1 := cell_of_block (o := 1) hYU rfl
      have y2 := cell_of_block (o := 2) hYU rfl
      have y3 := cell_of_block (o := 3) hYU rfl
      have y4 := cell_of_block (o := 4) hYU rfl
      clear hU hBU hYU o0 o2 o3 x0 x1 x2 x3 x4 vc0 ve0 ve1 ve2 ve3 ve4 PB HI HIV
      generalize V.heap.size = yy at *
      go_wp2_with fail
      refine (two_any _ _ xt yt xt.data.toList yt.data.toList xa xo xk ya yo yk c _ h4 h5 ⟨rfl⟩ ⟨rfl⟩ (it_len HIX.out) (it_len HIY.out) HIX.out.sp HIY.out.sp).mono ?_
      rintro e v1 ⟨sg, hsg, u, p, q, r, rfl, hu, hok, hb1⟩
      have HW := hidp (wr_two hsg HIX.out.txt HIY.out.txt)
      have hll := two_len (it_len HIX.out) (it_len HIY.out) sg
      have HLL := hidp hll
      have HI1 := hidp (HIU.out.below hb1)
      have HU := hidp hu
      have HOK := hidp hok
      clear hb1 hu hok hll
      go_wp2_with fail
      refine (put_wr w0 _ wb ps u _ p q r HU.out HLL.out HW.out HOK.out (HI1.out.below ((Below.refl _ _).alloc (Nat.le_refl _) _)) HT.out hn).mono ?_
      rintro e w2 ⟨rfl, h⟩
      have H := hidp h
      clear h
      go_wp2_with fail
      go_ret
      exact ⟨rfl, H.out⟩

end Go.Proofs.YtmepffenlgedbaaDoor
