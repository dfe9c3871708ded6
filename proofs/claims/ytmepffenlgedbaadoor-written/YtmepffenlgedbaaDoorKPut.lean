/-
  THE WALK of realskeep's (World).put.
-/
import Derived.Test.YtmepffenlgedbaaDoorKBase
import Derived.Deep.AppendLies
set_option linter.unusedSimpArgs false
namespace Go.Proofs.YtmepffenlgedbaaDoor
open Go.RowKit
open Go.Deep (BT)

theorem undrew_grown {w w' : World} {row : Option Nat} (h : w.drew.grownBy w' row) : w.grownBy w' row := ⟨h.os, h.tape, h.output, h.size, h.block⟩

theorem own_keepK {w w3 : World} {b B n : Nat} {v : Value} {ys : Array Value} {T : TypeId} {xs : List Value} {o : Obj}
    (hblk : w.heap[b]? = some (.cells ys T (0, 0))) (hne : T ≠ 44) (hown : w.ownsRow B 44 5 v n xs) (hg : (w.alloc o).grownBy w3 v.ownBlock) :
    w3.heap[b]? = some (.cells ys T (0, 0)) := by
  rw [hg.block b (by simp; have := heap_lt hblk; omega) ?_]
  · rw [Below.heap_alloc _ _ _ (heap_lt hblk)]; exact hblk
  · intro e
    obtain ⟨xs, T', e', hT⟩ := own_row hown b e.symm
    rw [hblk] at e'
    simp only [Option.some.injEq, Obj.cells.injEq] at e'
    exact hne (e'.2.1.trans hT)

set_option maxRecDepth 100000 in
set_option maxHeartbeats 1000000 in
theorem put_long (w0 w : World) (wb : Nat) (ps : List It) (t : ByteArray) (a b : Int) (k : Bool) (hm : t.size ≤ maxLen) (hI : KInv w0 w wb ps) (hr : Rd.read 1300 t = some (none, 1, 0)) (hl : 120 < t.size) :
    Calls Tryd.prog 7 #[.pointer (some ⟨wb, 0, none⟩), .string t, sv a b k] w (KPost w0 wb ps.length) := by
  have X := hidp (fun w => exprRead_any 1300 t w (none, 1, 0) hm hr)
  have HI := hidp (hI.below ((Below.refl w.heap.size w).alloc (Nat.le_refl _) (.cells #[.int .i64 a, .int .i64 b, .bool k] 37)))
  have hl' : (120 : Int) < t.size := by omega
  clear hI hr hm
  go_enter Tryd.func7, Tryd.ntmps7
  go_wp2_with fail
  refine (X.out _).mono ?_
  rintro e w1 ⟨v, rfl, hv, hb1⟩
  rw [show v = Value.pointer none from hv]
  clear hv
  have HB := hidp hb1
  clear hb1
  go_wp2_with fail
  go_ret
  exact ⟨rfl, ps, HI.out.below HB.out, by omega⟩

set_option maxRecDepth 100000 in
set_option maxHeartbeats 1000000 in
theorem put_deep (w0 w : World) (wb : Nat) (ps : List It) (t : ByteArray) (a b : Int) (k : Bool) (hm : t.size ≤ maxLen) (hI : KInv w0 w wb ps) (hr : Rd.read 1300 t = some (none, 3, 0)) (hl : ¬ 120 < t.size) :
    Calls Tryd.prog 7 #[.pointer (some ⟨wb, 0, none⟩), .string t, sv a b k] w (KPost w0 wb ps.length) := by
  have X := hidp (fun w => exprRead_any 1300 t w (none, 3, 0) hm hr)
  have HI := hidp (hI.below ((Below.refl w.heap.size w).alloc (Nat.le_refl _) (.cells #[.int .i64 a, .int .i64 b, .bool k] 37)))
  have hl' : ¬ (120 : Int) < t.size := by omega
  clear hI hr hm
  go_enter Tryd.func7, Tryd.ntmps7
  go_wp2_with fail
  refine (X.out _).mono ?_
  rintro e w1 ⟨v, rfl, hv, hb1⟩
  rw [show v = Value.pointer none from hv]
  clear hv
  have HB := hidp hb1
  clear hb1
  go_wp2_with fail
  go_ret
  exact ⟨rfl, ps, HI.out.below HB.out, by omega⟩

set_option maxRecDepth 100000 in
set_option maxHeartbeats 2000000 in
theorem put_ok (w0 w : World) (wb : Nat) (ps : List It) (t : ByteArray) (c : Rd.Tr) (a b : Int) (k : Bool) (hc : Rd.Good c) (ht : Rd.toks t.data.toList = Rd.tw c) (hsp : SpOk a b) (hm : t.size ≤ maxLen) (hI : KInv w0 w wb ps) (hT : Tab w0) (hn : ps.length ≤ 4000000)
    (hr : Rd.read 1300 t = some (some (Rd.strip c), 0, 0)) (hl : ¬ 120 < t.size) (hd : Rd.dep c ≤ 12) (hnd : Rd.ndc c ≤ 40) :
    Calls Tryd.prog 7 #[.pointer (some ⟨wb, 0, none⟩), .string t, sv a b k] w (KPost w0 wb ps.length) := by
  have X := hidp (fun w => exprRead_any 1300 t w (some (Rd.strip c), 0, 0) hm hr)
  have HWF := hidp (Rd.read_wf (split_ok t (t.size + 1) 0) hr)
  have CCp := (Rd.CC_all c hc).pos
  have RA := hidp (fun (u : ByteArray) (hu : u.data.toList = Rd.text (Rd.strip c)) => Rd.read_again hc hd hnd hu)
  have ITO : Hid (∀ xb, ItOk (xb, t, a, b, k)) := fun xb => ⟨⟨c, hc, ht⟩, by show t.size ≤ 120; omega, hsp⟩
  obtain ⟨i, hi, hz, hsize, hby⟩ := info_parts infoItem
  have HI := hidp (hI.below ((Below.refl w.heap.size w).alloc (Nat.le_refl _) (.cells #[.int .i64 a, .int .i64 b, .bool k] 37)))
  have HT := hidp hT
  have hl' : ¬ (120 : Int) < t.size := by omega
  clear hI hr hm hT hc ht hsp
  generalize Rd.strip c = T at *
  go_enter Tryd.func7, Tryd.ntmps7
  go_wp2_with fail
  refine (X.out _).mono ?_
  rintro e w1 ⟨v, rfl, hv, hb1⟩
  have hvp : ∃ xb, v = .pointer (some ⟨xb, 0, none⟩) := by obtain ⟨rb, xb, rv, h1, _⟩ := hv; exact ⟨xb, h1⟩
  obtain ⟨xb, rfl⟩ := hvp
  have HV := hidp (ExprAt.zero hv)
  have HI1 := hidp (HI.out.below hb1)
  have hbx : w1.heap[w.heap.size]? = some (spCells a b k) := (hb1.block _ (by simp)).trans (cells_new _ _)
  have sx0 := cell_of_block (o := 0) hbx rfl
  have sx1 := cell_of_block (o := 1) hbx rfl
  have sx2 := cell_of_block (o := 2) hbx rfl
  clear hv hb1
  obtain ⟨lv, hblk, hown⟩ := HI1.out.blk
  have c0 : w1.cell? ⟨wb, 0, none⟩ = some lv := cell_of_block hblk rfl
  have f0 : w1.frozen? ⟨wb, 0, none⟩ = false := frozen_of_block hblk
  have hwbl := heap_lt hblk
  have hlo := HI1.out.lo
  have hbs := HI1.out.bel.size
  have HBLK := hidp hblk
  obtain ⟨ao, ln, cp, rfl⟩ := own_sliceK hown
  clear hblk
  go_wp2_with fail
  refine wp_region_E (fun w' : World => w'.cell? ⟨wb, 0, none⟩ = some (.slice ao ln cp) ∧ w'.cell? ⟨w.heap.size, 0, none⟩ = some (.int .i64 a) ∧ w'.cell? ⟨w.heap.size, 1, none⟩ = some (.int .i64 b) ∧ w'.cell? ⟨w.heap.size, 2, none⟩ = some (.bool k)) (fun i => !(i == 13)) (by kernel_rfl) ?_
  have hSh : Shut ((fun w' : World => w'.cell? ⟨wb, 0, none⟩ = some (.slice ao ln cp) ∧ w'.cell? ⟨w.heap.size, 0, none⟩ = some (.int .i64 a) ∧ w'.cell? ⟨w.heap.size, 1, none⟩ = some (.int .i64 b) ∧ w'.cell? ⟨w.heap.size, 2, none⟩ = some (.bool k)) w1.drew) := ⟨c0, sx0, sx1, sx2⟩
  refine wpAnyE_take (i := 0) (v := ?va0) rfl (by kernel_rfl) (by kernel_rfl) (by kernel_rfl) (by kernel_rfl) (fun _ _ _ h => h) (Or.inl ⟨by rfl, ?ya0⟩) hSh.out ?ra0
  case ya0 =>
    intro w hSw
    try dsimp only at hSw
    go_simp
    try with_reducible rfl
  try simp only [Act.put, List.setIfInBounds_toArray, List.set_cons_zero, List.set_cons_succ]
  refine wpAnyE_take (i := 1) (v := ?va1) rfl (by kernel_rfl) (by kernel_rfl) (by kernel_rfl) (by kernel_rfl) (fun _ _ _ h => h) (Or.inl ⟨by rfl, ?ya1⟩) hSh.out ?ra1
  case ya1 =>
    intro w hSw
    try dsimp only at hSw
    go_simp
    try with_reducible rfl
  try simp only [Act.put, List.setIfInBounds_toArray, List.set_cons_zero, List.set_cons_succ]
  refine wpAnyE_take (i := 2) (v := ?va2) rfl (by kernel_rfl) (by kernel_rfl) (by kernel_rfl) (by kernel_rfl) (fun _ _ _ h => h) (Or.inl ⟨by rfl, ?ya2⟩) hSh.out ?ra2
  case ya2 =>
    intro w hSw
    try dsimp only at hSw
    go_simp
    try with_reducible rfl
  try simp only [Act.put, List.setIfInBounds_toArray, List.set_cons_zero, List.set_cons_succ]
  refine wpAnyE_take (i := 3) (v := ?va3) rfl (by kernel_rfl) (by kernel_rfl) (by kernel_rfl) (by kernel_rfl) (fun _ _ _ h => h) (Or.inl ⟨by rfl, ?ya3⟩) hSh.out ?ra3
  case ya3 =>
    intro w hSw
    try dsimp only at hSw
    go_simp
    try with_reducible rfl
  try simp only [Act.put, List.setIfInBounds_toArray, List.set_cons_zero, List.set_cons_succ]
  refine wpAnyE_take (i := 4) (v := ?va4) rfl (by kernel_rfl) (by kernel_rfl) (by kernel_rfl) (by kernel_rfl) (fun _ _ _ h => h) (Or.inl ⟨by rfl, ?ya4⟩) hSh.out ?ra4
  case ya4 =>
    intro w hSw
    try dsimp only at hSw
    go_simp
    try with_reducible rfl
  try simp only [Act.put, List.setIfInBounds_toArray, List.set_cons_zero, List.set_cons_succ]
  refine wpAnyE_take (i := 5) (v := ?va5) rfl (by kernel_rfl) (by kernel_rfl) (by kernel_rfl) (by kernel_rfl) (fun _ _ _ h => h) (Or.inl ⟨by rfl, ?ya5⟩) hSh.out ?ra5
  case ya5 =>
    intro w hSw
    try dsimp only at hSw
    go_simp
    try with_reducible rfl
  try simp only [Act.put, List.setIfInBounds_toArray, List.set_cons_zero, List.set_cons_succ]
  refine wpAnyE_take (i := 6) (v := ?va6) rfl (by kernel_rfl) (by kernel_rfl) (by kernel_rfl) (by kernel_rfl) (fun _ _ _ h => h) (Or.inl ⟨by rfl, ?ya6⟩) hSh.out ?ra6
  case ya6 =>
    intro w hSw
    try dsimp only at hSw
    go_simp
    try with_reducible rfl
  try simp only [Act.put, List.setIfInBounds_toArray, List.set_cons_zero, List.set_cons_succ]
  refine wpAnyE_take (i := 7) (v := ?va7) rfl (by kernel_rfl) (by kernel_rfl) (by kernel_rfl) (by kernel_rfl) (fun _ _ _ h => h) (Or.inl ⟨by rfl, ?ya7⟩) hSh.out ?ra7
  case ya7 =>
    intro w hSw
    try dsimp only at hSw
    go_simp
    try with_reducible rfl
  try simp only [Act.put, List.setIfInBounds_toArray, List.set_cons_zero, List.set_cons_succ]
  refine wpAnyE_take (i := 8) (v := ?va8) rfl (by kernel_rfl) (by kernel_rfl) (by kernel_rfl) (by kernel_rfl) (fun _ _ _ h => h) (Or.inl ⟨by rfl, ?ya8⟩) hSh.out ?ra8
  case ya8 =>
    intro w hSw
    try dsimp only at hSw
    go_simp
    try with_reducible rfl
  try simp only [Act.put, List.setIfInBounds_toArray, List.set_cons_zero, List.set_cons_succ]
  clear hSh
  refine wpAnyE_one (i := 9) (by kernel_rfl) rfl (fun K hK => ?_)
  go_simp
  obtain ⟨X, hX⟩ : ∃ X, X = (w1.alloc (.cells #[.pointer (some ⟨xb, 0, none⟩), .string t, .int .i64 a, .int .i64 b, .bool k] 44)).drew := ⟨_, rfl⟩
  rw [← hX]
  have hblkX : X.heap[wb]? = some (.cells #[.slice ao ln cp] 29 (0, 0)) := by rw [hX]; exact alloc_old HBLK.out
  have hbxX : X.heap[w.heap.size]? = some (spCells a b k) := by rw [hX]; exact alloc_old hbx
  have hownX : X.ownsRow w0.heap.size 44 5 (.slice ao ln cp) ps.length (icells ps) := by rw [hX]; exact hown.alloc _
  have hnewX : ∀ j u, [.pointer (some ⟨xb, 0, none⟩), .string t, .int .i64 a, .int .i64 b, .bool k][j]? = some u → X.cell? ((⟨w1.heap.size, 0, none⟩ : Addr).add j) = some u := by rw [hX]; exact cell_five_new w1 _ _ _ _ _ _
  have hszX : w1.heap.size ≤ X.heap.size := by rw [hX]; show w1.heap.size ≤ (w1.alloc (.cells #[.pointer (some ⟨xb, 0, none⟩), .string t, .int .i64 a, .int .i64 b, .bool k] 44)).heap.size; simp
  have HX := hidp hX
  clear hX
  refine hK.out _ _ (fun _ => ⟨cell_of_block hblkX rfl, cell_of_block (o := 0) hbxX rfl, cell_of_block (o := 1) hbxX rfl, cell_of_block (o := 2) hbxX rfl⟩) ?_
  clear hK K
  try simp only [Act.put, List.setIfInBounds_toArray, List.set_cons_zero, List.set_cons_succ]
  refine wpAnyE_one (i := 10) (by kernel_rfl) rfl (fun K hK => ?_)
  refine step_append_lies _ rfl _ _ 23 rfl w0.heap.size 44 i (.agg #[.pointer none, .string ⟨#[]⟩, .int .i64 0, .int .i64 0, .bool false]) 5 48 Tryd.underlying23 hi hz hsize hby rfl (by decide) _ _ _ rfl hownX ⟨w1.heap.size, 0, none⟩ 1 1 [.pointer (some ⟨xb, 0, none⟩), .string t, .int .i64 a, .int .i64 b, .bool k] rfl rfl hnewX (by intro u hu; simp at hu; rcases hu with rfl | rfl | rfl | rfl | rfl <;> rfl) (by decide) (by unfold maxLen; omega) (by omega) (by omega) _ rfl ?_
  intro g cap w3 hown' hgrow _ _
  have hg1 : (w1.alloc (.cells #[.pointer (some ⟨xb, 0, none⟩), .string t, .int .i64 a, .int .i64 b, .bool k] 44)).grownBy w3 (Value.slice ao ln cp).ownBlock := undrew_grown (by rw [← HX.out]; exact hgrow)
  have hb3 := own_wbK HBLK.out hown hg1
  have q0 := cell_of_block (o := 0) hb3 rfl
  have qf := frozen_of_block (o := 0) hb3
  have hwl3 := heap_lt hb3
  have hbx3 := own_keepK hbx (by decide) hown hg1
  have PU := hidp (KInv.push (p := (xb, t, a, b, k)) HI1.out HBLK.out hown (ITO.out xb) hown' hg1)
  clear hb3 hown' hgrow hg1 hownX hnewX hblkX hbxX hszX
  refine hK.out _ _ (fun _ => ⟨q0, cell_of_block (o := 0) hbx3 rfl, cell_of_block (o := 1) hbx3 rfl, cell_of_block (o := 2) hbx3 rfl⟩) ?_
  clear hK K
  try simp only [Act.put, List.setIfInBounds_toArray, List.set_cons_zero, List.set_cons_succ]
  refine wpAnyE_one (i := 11) (by kernel_rfl) rfl (fun K hK => ?_)
  go_simp
  refine hK.out _ _ (fun _ => ⟨q0, cell_of_block (o := 0) hbx3 rfl, cell_of_block (o := 1) hbx3 rfl, cell_of_block (o := 2) hbx3 rfl⟩) ?_
  clear hK K
  try simp only [Act.put, List.setIfInBounds_toArray, List.set_cons_zero, List.set_cons_succ]
  refine wpAnyE_one (i := 12) (by kernel_rfl) rfl (fun K hK => ?_)
  go_simp
  refine hK.out _ _ (fun _ => ⟨q0, cell_of_block (o := 0) hbx3 rfl, cell_of_block (o := 1) hbx3 rfl, cell_of_block (o := 2) hbx3 rfl⟩) ?_
  clear hK K
  try simp only [Act.put, List.setIfInBounds_toArray, List.set_cons_zero, List.set_cons_succ]
  refine wpAnyE_one (i := 13) (by kernel_rfl) rfl (fun K hK => ?_)
  go_simp
  refine hK.out _ _ (fun h => absurd h (by decide)) ?_
  clear hK K
  refine wpAnyE_done (by kernel_rfl) ?_ _
  go_wp2_with fail
  refine (exprText_any 0 _ T _ (HV.out.oth PU.out.2) HWF.out.1 HWF.out.2 (PU.out.1.tab HT.out)).mono ?_
  rintro e w4 ⟨u, rfl, hu, hb4⟩
  have HI4 := hidp (PU.out.1.below hb4)
  have hus := hu.size
  have RU := hidp (RA.out u hu.eq)
  have HU := hidp hu
  have hum : u.size ≤ maxLen := by have := HWF.out.2; unfold maxLen; omega
  have hu0 : 0 < u.size := by omega
  clear hu hb4 q0 qf hbx3 hbx sx0 sx1 sx2 hown
  by_cases hlu : 120 < u.size
  · have X2 := hidp (fun w => exprRead_any 1300 u w (none, 1, 0) hum (by rw [RU.out, decide_eq_true hlu]; rfl))
    have hlu' : (120 : Int) < u.size := by omega
    go_wp2_with fail
    refine (X2.out _).mono ?_
    rintro e w5 ⟨v5, rfl, hv5, hb5⟩
    rw [show v5 = Value.pointer none from hv5]
    clear hv5
    have HI5 := hidp (HI4.out.below hb5)
    clear hb5
    go_wp2_with fail
    go_ret
    exact ⟨by simp; omega, _, HI5.out, by simp⟩
  · have X2 := hidp (fun w => exprRead_any 1300 u w (some T, 0, 0) hum (by rw [RU.out, decide_eq_false hlu]; rfl))
    have hlu' : ¬ (120 : Int) < u.size := by omega
    have hu0' : (0 : Int) < u.size := by omega
    go_wp2_with fail
    refine (X2.out _).mono ?_
    rintro e w5 ⟨v5, rfl, hv5, hb5⟩
    have hvp5 : ∃ xb, v5 = .pointer (some ⟨xb, 0, none⟩) := by obtain ⟨rb, xb, rv, h1, _⟩ := hv5; exact ⟨xb, h1⟩
    obtain ⟨yb, rfl⟩ := hvp5
    have HV5 := hidp (ExprAt.zero hv5)
    have HI5 := hidp (HI4.out.below hb5)
    clear hv5 hb5
    go_wp2_with fail
    refine (exprText_any 0 _ T _ HV5.out HWF.out.1 HWF.out.2 (HI5.out.tab HT.out)).mono ?_
    rintro e w6 ⟨u6, rfl, hu6, hb6⟩
    obtain rfl := HU.out.same hu6
    have HI6 := hidp (HI5.out.below hb6)
    clear hu6 hb6
    go_wp2_with fail
    go_ret
    exact ⟨rfl, _, HI6.out, by simp⟩

/-- What is written is put: true. -/
theorem put_any (w0 w : World) (wb : Nat) (ps : List It) (t : ByteArray) (c : Rd.Tr) (a b : Int) (k : Bool) (hc : Rd.Good c) (ht : Rd.toks t.data.toList = Rd.tw c) (hsp : SpOk a b) (hm : t.size ≤ maxLen) (hI : KInv w0 w wb ps) (hT : Tab w0) (hn : ps.length ≤ 4000000) :
    Calls Tryd.prog 7 #[.pointer (some ⟨wb, 0, none⟩), .string t, sv a b k] w (KPost w0 wb ps.length) := by
  have hr := Rd.read_good hc ht
  by_cases h1 : 120 < t.size
  · rw [decide_eq_true h1] at hr
    exact put_long w0 w wb ps t a b k hm hI hr h1
  · rw [decide_eq_false h1] at hr
    by_cases h2 : 12 < Rd.dep c
    · rw [decide_eq_true h2] at hr
      exact put_deep w0 w wb ps t a b k hm hI hr h1
    · by_cases h3 : 40 < Rd.ndc c
      · rw [decide_eq_true h3, Bool.or_true] at hr
        exact put_deep w0 w wb ps t a b k hm hI hr h1
      · rw [decide_eq_false h2, decide_eq_false h3] at hr
        exact put_ok w0 w wb ps t c a b k hc ht hsp hm hI hT hn hr h1 (by omega) (by omega)
end Go.Proofs.YtmepffenlgedbaaDoor
