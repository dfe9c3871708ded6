/-
  THE WALK of realskeep's (World).step: signs and functions; any step.
-/
import Derived.Test.YtmepffenlgedbaaDoorKStep
set_option linter.unusedSimpArgs false
namespace Go.Proofs.YtmepffenlgedbaaDoor
open Go.RowKit
open Go.Deep (BT)

set_option maxRecDepth 100000 in
set_option maxHeartbeats 1000000 in
theorem step_one (w0 w : World) (wb : Nat) (ps : List It) (a b c : Int) (hI : KInv w0 w wb ps) (hT : Tab w0) (hp : 0 < ps.length) (hn : ps.length ≤ 3000000) (h0 : -9223372036854775808 ≤ a) (h1 : a ≤ 9223372036854775807) (h2 : -9223372036854775808 ≤ b) (h3 : b ≤ 9223372036854775807) (h4 : -9223372036854775808 ≤ c) (h5 : c ≤ 9223372036854775807) :
    Calls Tryd.prog 5 #[.pointer (some ⟨wb, 0, none⟩), opv 4 a b c] w (KPost w0 wb ps.length) := by
  have hx := pickI_lt a ps.length hp
  have hy := pickI_lt b ps.length hp
  have PA := hidp (fun w => pick_any a ps.length w h0 h1 hp (by omega))
  have PB := hidp (fun w => pick_any b ps.length w h2 h3 hp (by omega))
  generalize pickI a ps.length = x at *
  generalize pickI b ps.length = y at *
  obtain ⟨g, cap, c0, hc⟩ := hI.item x hx
  have IX := hI.all ps[x] (List.getElem_mem hx)
  have IY := hI.all ps[y] (List.getElem_mem hy)
  obtain ⟨d0, d1, d2, d3, d4⟩ := hc x hx
  obtain ⟨e0, e1, e2, e3, e4⟩ := hc y hy
  generalize ps[x] = X at *
  generalize ps[y] = Y at *
  obtain ⟨xb, xt, xa, xo, xk⟩ := X
  obtain ⟨yb, yt, ya, yo, yk⟩ := Y
  simp only at d0 d1 d2 d3 d4 e0 e1 e2 e3 e4
  have HI := hidp hI
  have HT := hidp hT
  have HIX := hidp IX
  have HIY := hidp IY
  have hwb := heap_lt (hI.blk.choose_spec.1)
  have hgl := cell_ltK d0
  simp only at hgl
  have nn0 : ¬ wb = w.heap.size := by omega
  have nn1 : ¬ wb = w.heap.size + 1 := by omega
  have nn2 : ¬ wb = w.heap.size + 1 + 1 := by omega
  have nn3 : ¬ wb = w.heap.size + 2 := by omega
  have nn4 : ¬ g = w.heap.size := by omega
  have nn5 : ¬ g = w.heap.size + 1 := by omega
  have nn6 : ¬ g = w.heap.size + 1 + 1 := by omega
  have nn7 : ¬ g = w.heap.size + 2 := by omega
  have hne : ((ps.length : Int) == 0) = false := beq_eq_false_iff_ne.2 (by omega)
  clear hI hT IX IY hc
  go_enter Tryd.func5, Tryd.ntmps5
  go_wp2_with fail
  go_region_held3 (fun w' => w'.cell? ⟨wb, 0, none⟩ = some (.slice (some ⟨g, 0, none⟩) ps.length cap) ∧ w'.cell? ⟨g, x * 5, none⟩ = some (.pointer (some ⟨xb, 0, none⟩)) ∧ w'.cell? ⟨g, x * 5 + 1, none⟩ = some (.string xt) ∧ w'.cell? ⟨g, x * 5 + 2, none⟩ = some (.int .i64 xa) ∧ w'.cell? ⟨g, x * 5 + 3, none⟩ = some (.int .i64 xo) ∧ w'.cell? ⟨g, x * 5 + 4, none⟩ = some (.bool xk) ∧ w'.cell? ⟨w.heap.size, 1, none⟩ = some (.int .i64 a)) (go_keep)
    ((go_at_call 6; refine (PA.out _).mono ?_; rintro e w2 ⟨rfl, rfl⟩))
  all_goals
    go_wp2_with fail
    obtain ⟨V, hV⟩ : ∃ V, V = ((w.alloc (.cells #[.int .i64 4, .int .i64 a, .int .i64 b, .int .i64 c] 32)).alloc (.cells #[.pointer (some ⟨xb, 0, none⟩), .string xt, .int .i64 xa, .int .i64 xo, .bool xk] 44)).drew := ⟨_, rfl⟩
    rw [← hV]
    have hBV : Below w.heap.size w V := by rw [hV]; exact (((Below.refl w.heap.size w).alloc (Nat.le_refl _) _).alloc (by simp) _).trans ((drewS _).mono (by simp; omega))
    have hOV : V.heap[w.heap.size]? = some (.cells #[.int .i64 4, .int .i64 a, .int .i64 b, .int .i64 c] 32 (0, 0)) := by rw [hV]; exact alloc_old (cells_new _ _)
    have hXV : V.heap[w.heap.size + 1]? = some (.cells #[.pointer (some ⟨xb, 0, none⟩), .string xt, .int .i64 xa, .int .i64 xo, .bool xk] 44 (0, 0)) := by rw [hV]; exact alloc_at (by simp)
    have HIV := hidp (HI.out.below hBV)
    have vc0 := (hBV.cell (p := ⟨wb, 0, none⟩) hwb).trans c0
    have ve0 := (hBV.cell (p := ⟨g, y * 5, none⟩) hgl).trans e0
    have ve1 := (hBV.cell (p := ⟨g, y * 5 + 1, none⟩) hgl).trans e1
    have ve2 := (hBV.cell (p := ⟨g, y * 5 + 2, none⟩) hgl).trans e2
    have ve3 := (hBV.cell (p := ⟨g, y * 5 + 3, none⟩) hgl).trans e3
    have ve4 := (hBV.cell (p := ⟨g, y * 5 + 4, none⟩) hgl).trans e4
    have o0 := cell_of_block (o := 0) hOV rfl
    have o2 := cell_of_block (o := 2) hOV rfl
    have o3 := cell_of_block (o := 3) hOV rfl
    have x0 := cell_of_block (o := 0) hXV rfl
    have x1 := cell_of_block (o := 1) hXV rfl
    have x2 := cell_of_block (o := 2) hXV rfl
    have x3 := cell_of_block (o := 3) hXV rfl
    have x4 := cell_of_block (o := 4) hXV rfl
    have vs0 := heap_lt hOV
    have vs1 := heap_lt hXV
    have vs2 := Nat.lt_of_lt_of_le hwb hBV.size
    have vs3 := Nat.lt_of_lt_of_le hgl hBV.size
    clear hV hBV hOV hXV c0 d0 d1 d2 d3 d4 e0 e1 e2 e3 e4 PA
    go_region_held3 (fun w' => w'.cell? ⟨wb, 0, none⟩ = some (.slice (some ⟨g, 0, none⟩) ps.length cap) ∧ w'.cell? ⟨g, y * 5, none⟩ = some (.pointer (some ⟨yb, 0, none⟩)) ∧ w'.cell? ⟨g, y * 5 + 1, none⟩ = some (.string yt) ∧ w'.cell? ⟨g, y * 5 + 2, none⟩ = some (.int .i64 ya) ∧ w'.cell? ⟨g, y * 5 + 3, none⟩ = some (.int .i64 yo) ∧ w'.cell? ⟨g, y * 5 + 4, none⟩ = some (.bool yk) ∧ w'.cell? ⟨w.heap.size, 2, none⟩ = some (.int .i64 b)) (go_keep)
      ((go_at_call 6; refine (PB.out _).mono ?_; rintro e w2 ⟨rfl, rfl⟩))
    all_goals
      obtain ⟨U, hU⟩ : ∃ U, U = (V.alloc (.cells #[.pointer (some ⟨yb, 0, none⟩), .string yt, .int .i64 ya, .int .i64 yo, .bool yk] 44)).drew := ⟨_, rfl⟩
      rw [← hU]
      have hBU : Below V.heap.size V U := by rw [hU]; exact ((Below.refl V.heap.size V).alloc (Nat.le_refl _) _).trans ((drewS _).mono (by simp))
      have hYU : U.heap[V.heap.size]? = some (.cells #[.pointer (some ⟨yb, 0, none⟩), .string yt, .int .i64 ya, .int .i64 yo, .bool yk] 44 (0, 0)) := by rw [hU]; exact cells_new _ _
      have HIU := hidp (HIV.out.below hBU)
      have p0 := (hBU.cell (p := ⟨w.heap.size, 0, none⟩) vs0).trans o0
      have p3 := (hBU.cell (p := ⟨w.heap.size, 3, none⟩) vs0).trans o3
      have u0 := (hBU.cell (p := ⟨w.heap.size + 1, 0, none⟩) vs1).trans x0
      have u1 := (hBU.cell (p := ⟨w.heap.size + 1, 1, none⟩) vs1).trans x1
      have u2 := (hBU.cell (p := ⟨w.heap.size + 1, 2, none⟩) vs1).trans x2
      have u3 := (hBU.cell (p := ⟨w.heap.size + 1, 3, none⟩) vs1).trans x3
      have u4 := (hBU.cell (p := ⟨w.heap.size + 1, 4, none⟩) vs1).trans x4
      have y0 := cell_of_block (o := 0) hYU rfl
      have y1 := cell_of_block (o := 1) hYU rfl
      have y2 := cell_of_block (o := 2) hYU rfl
      have y3 := cell_of_block (o := 3) hYU rfl
      have y4 := cell_of_block (o := 4) hYU rfl
      clear hU hBU hYU o0 o2 o3 x0 x1 x2 x3 x4 vc0 ve0 ve1 ve2 ve3 ve4 PB HI HIV
      generalize V.heap.size = yy at *
      go_wp2_with fail
      refine (single_any _ xt xt.data.toList xa xo xk c _ h4 h5 ⟨rfl⟩ (it_len HIX.out) HIX.out.sp).mono ?_
      rintro e v1 ⟨sg, hsg, u, p, q, r, rfl, hu, hok, hb1⟩
      have HW := hidp (wr_single hsg HIX.out.txt)
      have hll := one_len (it_len HIX.out) sg
      have HLL := hidp hll
      have HI1 := hidp (HIU.out.below hb1)
      have HU := hidp hu
      have HOK := hidp hok
      clear hb1 hu hok hll
      go_wp2_with fail
      refine (put_wr w0 _ wb ps u _ p q r HU.out HLL.out HW.out HOK.out (HI1.out.below ((Below.refl _ _).alloc (Nat.le_refl _) _)) HT.out hn).mono ?_
      rintro e w2 ⟨rfl, h⟩
      have H := hidp h
      clear h
      go_wp2_with fail
      go_ret
      exact ⟨rfl, H.out⟩

set_option maxRecDepth 100000 in
set_option maxHeartbeats 1000000 in
theorem step_other (w0 w : World) (wb : Nat) (ps : List It) (k a b c : Int) (k1 : k ≠ 1) (k2 : k ≠ 2) (k3 : k ≠ 3) (k4 : k ≠ 4) (hI : KInv w0 w wb ps) (hp : 0 < ps.length) (hn : ps.length ≤ 3000000) (h0 : -9223372036854775808 ≤ a) (h1 : a ≤ 9223372036854775807) (h2 : -9223372036854775808 ≤ b) (h3 : b ≤ 9223372036854775807) :
    Calls Tryd.prog 5 #[.pointer (some ⟨wb, 0, none⟩), opv k a b c] w (KPost w0 wb ps.length) := by
  have hx := pickI_lt a ps.length hp
  have hy := pickI_lt b ps.length hp
  have PA := hidp (fun w => pick_any a ps.length w h0 h1 hp (by omega))
  have PB := hidp (fun w => pick_any b ps.length w h2 h3 hp (by omega))
  generalize pickI a ps.length = x at *
  generalize pickI b ps.length = y at *
  obtain ⟨g, cap, c0, hc⟩ := hI.item x hx
  have IX := hI.all ps[x] (List.getElem_mem hx)
  have IY := hI.all ps[y] (List.getElem_mem hy)
  obtain ⟨d0, d1, d2, d3, d4⟩ := hc x hx
  obtain ⟨e0, e1, e2, e3, e4⟩ := hc y hy
  generalize ps[x] = X at *
  generalize ps[y] = Y at *
  obtain ⟨xb, xt, xa, xo, xk⟩ := X
  obtain ⟨yb, yt, ya, yo, yk⟩ := Y
  simp only at d0 d1 d2 d3 d4 e0 e1 e2 e3 e4
  have HI := hidp hI
  have hwb := heap_lt (hI.blk.choose_spec.1)
  have hgl := cell_ltK d0
  simp only at hgl
  have nn0 : ¬ wb = w.heap.size := by omega
  have nn1 : ¬ wb = w.heap.size + 1 := by omega
  have nn2 : ¬ wb = w.heap.size + 1 + 1 := by omega
  have nn3 : ¬ wb = w.heap.size + 2 := by omega
  have nn4 : ¬ g = w.heap.size := by omega
  have nn5 : ¬ g = w.heap.size + 1 := by omega
  have nn6 : ¬ g = w.heap.size + 1 + 1 := by omega
  have nn7 : ¬ g = w.heap.size + 2 := by omega
  have hne : ((ps.length : Int) == 0) = false := beq_eq_false_iff_ne.2 (by omega)
  have f1 : (k == 1) = false := by simpa using k1
  have f2 : (k == 2) = false := by simpa using k2
  have f3 : (k == 3) = false := by simpa using k3
  have f4 : (k == 4) = false := by simpa using k4
  clear hI IX IY hc k1 k2 k3 k4
  go_enter Tryd.func5, Tryd.ntmps5
  go_wp2_with fail
  go_region_held3 (fun w' => w'.cell? ⟨wb, 0, none⟩ = some (.slice (some ⟨g, 0, none⟩) ps.length cap) ∧ w'.cell? ⟨g, x * 5, none⟩ = some (.pointer (some ⟨xb, 0, none⟩)) ∧ w'.cell? ⟨g, x * 5 + 1, none⟩ = some (.string xt) ∧ w'.cell? ⟨g, x * 5 + 2, none⟩ = some (.int .i64 xa) ∧ w'.cell? ⟨g, x * 5 + 3, none⟩ = some (.int .i64 xo) ∧ w'.cell? ⟨g, x * 5 + 4, none⟩ = some (.bool xk) ∧ w'.cell? ⟨w.heap.size, 1, none⟩ = some (.int .i64 a)) (go_keep)
    ((go_at_call 6; refine (PA.out _).mono ?_; rintro e w2 ⟨rfl, rfl⟩))
  all_goals
    go_wp2_with fail
    obtain ⟨V, hV⟩ : ∃ V, V = ((w.alloc (.cells #[.int .i64 k, .int .i64 a, .int .i64 b, .int .i64 c] 32)).alloc (.cells #[.pointer (some ⟨xb, 0, none⟩), .string xt, .int .i64 xa, .int .i64 xo, .bool xk] 44)).drew := ⟨_, rfl⟩
    rw [← hV]
    have hBV : Below w.heap.size w V := by rw [hV]; exact (((Below.refl w.heap.size w).alloc (Nat.le_refl _) _).alloc (by simp) _).trans ((drewS _).mono (by simp; omega))
    have hOV : V.heap[w.heap.size]? = some (.cells #[.int .i64 k, .int .i64 a, .int .i64 b, .int .i64 c] 32 (0, 0)) := by rw [hV]; exact alloc_old (cells_new _ _)
    have hXV : V.heap[w.heap.size + 1]? = some (.cells #[.pointer (some ⟨xb, 0, none⟩), .string xt, .int .i64 xa, .int .i64 xo, .bool xk] 44 (0, 0)) := by rw [hV]; exact alloc_at (by simp)
    have HIV := hidp (HI.out.below hBV)
    have vc0 := (hBV.cell (p := ⟨wb, 0, none⟩) hwb).trans c0
    have ve0 := (hBV.cell (p := ⟨g, y * 5, none⟩) hgl).trans e0
    have ve1 := (hBV.cell (p := ⟨g, y * 5 + 1, none⟩) hgl).trans e1
    have ve2 := (hBV.cell (p := ⟨g, y * 5 + 2, none⟩) hgl).trans e2
    have ve3 := (hBV.cell (p := ⟨g, y * 5 + 3, none⟩) hgl).trans e3
    have ve4 := (hBV.cell (p := ⟨g, y * 5 + 4, none⟩) hgl).trans e4
    have o0 := cell_of_block (o := 0) hOV rfl
    have o2 := cell_of_block (o := 2) hOV rfl
    have o3 := cell_of_block (o := 3) hOV rfl
    have x0 := cell_of_block (o := 0) hXV rfl
    have x1 := cell_of_block (o := 1) hXV rfl
    have x2 := cell_of_block (o := 2) hXV rfl
    have x3 := cell_of_block (o := 3) hXV rfl
    have x4 := cell_of_block (o := 4) hXV rfl
    have vs0 := heap_lt hOV
    have vs1 := heap_lt hXV
    have vs2 := Nat.lt_of_lt_of_le hwb hBV.size
    have vs3 := Nat.lt_of_lt_of_le hgl hBV.size
    clear hV hBV hOV hXV c0 d0 d1 d2 d3 d4 e0 e1 e2 e3 e4 PA
    go_region_held3 (fun w' => w'.cell? ⟨wb, 0, none⟩ = some (.slice (some ⟨g, 0, none⟩) ps.length cap) ∧ w'.cell? ⟨g, y * 5, none⟩ = some (.pointer (some ⟨yb, 0, none⟩)) ∧ w'.cell? ⟨g, y * 5 + 1, none⟩ = some (.string yt) ∧ w'.cell? ⟨g, y * 5 + 2, none⟩ = some (.int .i64 ya) ∧ w'.cell? ⟨g, y * 5 + 3, none⟩ = some (.int .i64 yo) ∧ w'.cell? ⟨g, y * 5 + 4, none⟩ = some (.bool yk) ∧ w'.cell? ⟨w.heap.size, 2, none⟩ = some (.int .i64 b)) (go_keep)
      ((go_at_call 6; refine (PB.out _).mono ?_; rintro e w2 ⟨rfl, rfl⟩))
    all_goals
      obtain ⟨U, hU⟩ : ∃ U, U = (V.alloc (.cells #[.pointer (some ⟨yb, 0, none⟩), .string yt, .int .i64 ya, .int .i64 yo, .bool yk] 44)).drew := ⟨_, rfl⟩
      rw [← hU]
      have hBU : Below V.heap.size V U := by rw [hU]; exact ((Below.refl V.heap.size V).alloc (Nat.le_refl _) _).trans ((drewS _).mono (by simp))
      have hYU : U.heap[V.heap.size]? = some (.cells #[.pointer (some ⟨yb, 0, none⟩), .string yt, .int .i64 ya, .int .i64 yo, .bool yk] 44 (0, 0)) := by rw [hU]; exact cells_new _ _
      have HIU := hidp (HIV.out.below hBU)
      have p0 := (hBU.cell (p := ⟨w.heap.size, 0, none⟩) vs0).trans o0
      have p3 := (hBU.cell (p := ⟨w.heap.size, 3, none⟩) vs0).trans o3
      have u0 := (hBU.cell (p := ⟨w.heap.size + 1, 0, none⟩) vs1).trans x0
      have u1 := (hBU.cell (p := ⟨w.heap.size + 1, 1, none⟩) vs1).trans x1
      have u2 := (hBU.cell (p := ⟨w.heap.size + 1, 2, none⟩) vs1).trans x2
      have u3 := (hBU.cell (p := ⟨w.heap.size + 1, 3, none⟩) vs1).trans x3
      have u4 := (hBU.cell (p := ⟨w.heap.size + 1, 4, none⟩) vs1).trans x4
      have y0 := cell_of_block (o := 0) hYU rfl
      have y1 := cell_of_block (o := 1) hYU rfl
      have y2 := cell_of_block (o := 2) hYU rfl
      have y3 := cell_of_block (o := 3) hYU rfl
      have y4 := cell_of_block (o := 4) hYU rfl
      clear hU hBU hYU o0 o2 o3 x0 x1 x2 x3 x4 vc0 ve0 ve1 ve2 ve3 ve4 PB HI HIV
      generalize V.heap.size = yy at *
      go_wp2_with fail
      go_ret
      exact ⟨rfl, ps, HIU.out, by omega⟩

/-- A step: true, and the world is one. -/
theorem kstep_any (w0 w : World) (wb : Nat) (ps : List It) (k a b c : Int) (hI : KInv w0 w wb ps) (hT : Tab w0) (hn : ps.length ≤ 3000000) (h0 : -9223372036854775808 ≤ a) (h1 : a ≤ 9223372036854775807) (h2 : -9223372036854775808 ≤ b) (h3 : b ≤ 9223372036854775807) (h4 : -9223372036854775808 ≤ c) (h5 : c ≤ 9223372036854775807) :
    Calls Tryd.prog 5 #[.pointer (some ⟨wb, 0, none⟩), opv k a b c] w (KPost w0 wb ps.length) := by
  by_cases k1 : k = 1
  · subst k1
    exact step_num w0 w wb ps a b c hI hT hn h0 h1 h2 h3
  by_cases k2 : k = 2
  · subst k2
    exact step_const w0 w wb ps a b c hI hT hn h0 h1 h2 h3
  cases ps with
  | nil => exact step_none w0 w wb k a b c k1 k2 hI
  | cons p r =>
    by_cases k3 : k = 3
    · subst k3
      exact step_two w0 w wb (p :: r) a b c hI hT (by simp) hn h0 h1 h2 h3 h4 h5
    by_cases k4 : k = 4
    · subst k4
      exact step_one w0 w wb (p :: r) a b c hI hT (by simp) hn h0 h1 h2 h3 h4 h5
    exact step_other w0 w wb (p :: r) k a b c k1 k2 k3 k4 hI (by simp) hn h0 h1 h2 h3
end Go.Proofs.YtmepffenlgedbaaDoor
