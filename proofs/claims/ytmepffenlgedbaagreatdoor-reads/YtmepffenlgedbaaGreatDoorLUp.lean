/-
  THE SCRIPT'S WORLD IN MEMORY: expressions on both sides, and what keeps them.
-/
import Derived.Test.YtmepffenlgedbaaGreatDoorRRead
import Derived.Test.YtmepffenlgedbaaGreatDoorTWf
import Derived.Test.YtmepffenlgedbaaGreatDoorRText7
import Derived.Test.YtmepffenlgedbaaGreatDoorJoin
import Derived.Test.YtmepffenlgedbaaGreatDoorLScr
import Derived.Deep.RegionHeld3
set_option linter.unusedSimpArgs false
namespace Go.Proofs.YtmepffenlgedbaaGreatDoor
open Go.RowKit
open Go.Deep (BT)

/-- But for blocks of the script's own types nothing old has turned. -/
def Oth (w w' : World) : Prop := ∀ (k : Nat) (xs : Array Value) (T : TypeId), w.heap[k]? = some (.cells xs T (0, 0)) → T ≠ 82 → T ≠ 120 → w'.heap[k]? = w.heap[k]?

theorem Oth.refl (w : World) : Oth w w := fun _ _ _ _ _ _ => rfl
theorem Oth.trans {a b c : World} (h : Oth a b) (k : Oth b c) : Oth a c := fun i xs T e h1 h2 => (k i xs T ((h i xs T e h1 h2).trans e) h1 h2).trans (h i xs T e h1 h2)
theorem Oth.of_below {w w' : World} (h : Below w.heap.size w w') : Oth w w' := fun k _ _ e _ _ => h.block k (heap_lt e)
theorem Oth.of_grown {w w' : World} {row : Option Nat} (h : w.grownBy w' row) (hr : ∀ g, row = some g → ∃ xs T, w.heap[g]? = some (.cells xs T (0, 0)) ∧ (T = 82 ∨ T = 120)) : Oth w w' := by
  intro k xs T e h1 h2
  refine h.block k (heap_lt e) ?_
  intro hk
  obtain ⟨ys, U, e', hU⟩ := hr k hk.symm
  rw [e] at e'
  simp only [Option.some.injEq, Obj.cells.injEq] at e'
  obtain ⟨_, rfl, _⟩ := e'
  rcases hU with h | h
  · exact h1 h
  · exact h2 h
theorem Oth.of_set {w : World} {b o : Nat} {ys : Array Value} (h : w.heap[b]? = some (.cells ys 82 (0, 0))) (u : Value) : Oth w (w.setCell ⟨b, o, none⟩ u) := by
  intro k xs T e h1 _
  refine Below.heap_setCell _ _ _ _ ?_
  intro hk
  simp only at hk
  subst hk
  rw [h] at e
  simp only [Option.some.injEq, Obj.cells.injEq] at e
  exact h1 e.2.1.symm

theorem TermsAt.oth {rb : Nat} {w w' : World} {ts : List Int} {tv : Value} (h : TermsAt rb w ts tv) (hk : Oth w w') : TermsAt rb w' ts tv := by
  rcases h with h | ⟨tb, cap, cur, h1, h2, h3, h4⟩
  · exact Or.inl h
  · exact Or.inr ⟨tb, cap, cur, h1, h2, by rw [hk tb _ _ h3 (by decide) (by decide)]; exact h3, h4⟩

theorem Enc.oth {rb : Nat} {w w' : World} (hk : Oth w w') : ∀ {t : Rd.Tr} {v : Value}, Enc rb w t v → Enc rb w' t v := by
  intro t
  induction t with
  | nil => intro v h; exact h
  | node _ _ a l r ihl ihr =>
    intro v h
    obtain ⟨b, tv, lv, rv, h1, h2, h3, h4, h5, h6⟩ := h
    exact ⟨b, tv, lv, rv, h1, h2, by rw [hk b _ _ h3 (by decide) (by decide)]; exact h3, h4.oth hk, ihl h5, ihr h6⟩

theorem NumAt.oth {sb : Nat} {w w' : World} {k v : Int} {pv qv : Value} (h : NumAt sb w k v pv qv) (hk : Oth w w') : NumAt sb w' k v pv qv := by
  rcases h with ⟨h1, h2, h3⟩ | h
  · exact Or.inl ⟨h1, h2.oth hk, h3.oth hk⟩
  · exact Or.inr h

theorem REnc.oth {sb : Nat} {w w' : World} (hk : Oth w w') : ∀ {t : Rd.Tr} {v : Value}, REnc sb w t v → REnc sb w' t v := by
  intro t
  induction t with
  | nil => intro v h; exact h
  | node _ _ a l r ihl ihr =>
    intro v h
    obtain ⟨b, pv, qv, tv, lv, h1, h2, h3, h4, h5, h6⟩ := h
    refine ⟨b, pv, qv, tv, lv, h1, h2, by rw [hk b _ _ h3 (by decide) (by decide)]; exact h3, h4.oth hk, h5.oth hk, ?_⟩
    rcases h6 with h | ⟨hr, kb, xv, e1, e2, e3, e4⟩ | ⟨kb, xv, yv, e1, e2, e3, e4, e5⟩
    · exact Or.inl h
    · exact Or.inr (Or.inl ⟨hr, kb, xv, e1, e2, by rw [hk kb _ _ e3 (by decide) (by decide)]; exact e3, ihl e4⟩)
    · exact Or.inr (Or.inr ⟨kb, xv, yv, e1, e2, by rw [hk kb _ _ e3 (by decide) (by decide)]; exact e3, ihl e4, ihr e5⟩)

/-- An expression on both sides: the same tree, one that the parser makes. -/
structure PairAt (w : World) (t : Rd.Tr) (xv mv : Value) : Prop where
  wf : Rd.Wf t
  len : (Rd.text t).length ≤ 1000000
  ex : ExprAt 0 w (some t) xv
  rf : ∃ sb, REnc sb w t mv

theorem ExprAt.oth {B : Nat} {w w' : World} {t : Rd.Tr} {v : Value} (h : ExprAt B w (some t) v) (hk : Oth w w') : ExprAt B w' (some t) v := by
  obtain ⟨rb, xb, rv, h1, h2, h3, h4, ⟨b, h5⟩, h6⟩ := h
  exact ⟨rb, xb, rv, h1, h2, h3, by rw [hk xb _ _ h4 (by decide) (by decide)]; exact h4, ⟨b, h5⟩, Enc.oth hk h6⟩

theorem ExprAt.zero {B : Nat} {w : World} {t : Rd.Tr} {v : Value} (h : ExprAt B w (some t) v) : ExprAt 0 w (some t) v := by
  obtain ⟨rb, xb, rv, h1, h2, h3, h4⟩ := h
  exact ⟨rb, xb, rv, h1, Nat.zero_le _, Nat.zero_le _, h4⟩

theorem PairAt.oth {w w' : World} {t : Rd.Tr} {xv mv : Value} (h : PairAt w t xv mv) (hk : Oth w w') : PairAt w' t xv mv :=
  ⟨h.wf, h.len, h.ex.oth hk, by obtain ⟨sb, h⟩ := h.rf; exact ⟨sb, REnc.oth hk h⟩⟩

theorem PairAt.ptrs {w : World} {t : Rd.Tr} {xv mv : Value} (h : PairAt w t xv mv) : ∃ xb mb, xv = .pointer (some ⟨xb, 0, none⟩) ∧ mv = .pointer (some ⟨mb, 0, none⟩) := by
  obtain ⟨rb, xb, rv, h1, _⟩ := h.ex
  obtain ⟨sb, h2⟩ := h.rf
  obtain ⟨mb, h3⟩ := h2.ptr
  exact ⟨xb, mb, h1, h3⟩

abbrev Pr := Value × Value × Rd.Tr

def pcells : List Pr → List Value
  | [] => []
  | p :: r => p.1 :: p.2.1 :: pcells r

theorem pcells_append (a b : List Pr) : pcells (a ++ b) = pcells a ++ pcells b := by
  induction a with
  | nil => rfl
  | cons x r ih => simp [pcells, ih]

theorem pcells_at : ∀ (ps : List Pr) (n : Nat) (h : n < ps.length), (pcells ps)[n * 2]? = some ps[n].1 ∧ (pcells ps)[n * 2 + 1]? = some ps[n].2.1 := by
  intro ps
  induction ps with
  | nil => intro n h; simp at h
  | cons x r ih =>
    intro n h
    cases n with
    | zero => simp [pcells]
    | succ n =>
      have := ih n (by simpa using h)
      simpa [pcells, Nat.add_mul] using this

/-- The script's world at block wb: what was read so far. w0: where the script began. -/
structure WInv (w0 w : World) (wb : Nat) (ps : List Pr) : Prop where
  blk : ∃ esv k f, w.heap[wb]? = some (.cells #[esv, .int .i64 k, .int .i64 f, .slice none 0 0] 82 (0, 0)) ∧ w.ownsRow w0.heap.size 120 2 esv ps.length (pcells ps)
  lo : w0.heap.size ≤ wb
  all : ∀ p ∈ ps, PairAt w p.2.2 p.1 p.2.1
  bel : Below w0.heap.size w0 w

theorem WInv.below {w0 w w' : World} {wb : Nat} {ps : List Pr} (h : WInv w0 w wb ps) (hb : Below w.heap.size w w') : WInv w0 w' wb ps := by
  obtain ⟨esv, k, f, h1, h2⟩ := h.blk
  refine ⟨⟨esv, k, f, by rw [hb.block wb (heap_lt h1)]; exact h1, ?_⟩, h.lo, fun p hp => (h.all p hp).oth (Oth.of_below hb), h.bel.trans (hb.mono h.bel.size)⟩
  exact h2.kept (row := none) ⟨hb.os, hb.tape, hb.output, hb.size, fun k hk _ => hb.block k hk⟩ (by cases esv.ownBlock <;> simp)

theorem WInv.tab {w0 w : World} {wb : Nat} {ps : List Pr} (h : WInv w0 w wb ps) (ht : Tab w0) : Tab w := Lib.tabBelow_of_tabIs ht w h.bel

theorem Str.same {a b : ByteArray} {l : List UInt8} (h : Str a l) (k : Str b l) : a = b := by
  have h1 := h.eq
  rw [← k.eq] at h1
  cases a; cases b
  simp only [ByteArray.mk.injEq]
  exact Array.toList_inj.1 h1

end Go.Proofs.YtmepffenlgedbaaGreatDoor

/-
  THE WALK of realslaw's (World).read.
-/
set_option linter.unusedSimpArgs false
namespace Go.Proofs.YtmepffenlgedbaaGreatDoor
open Go.RowKit
open Go.Deep (BT)

theorem infoPair : (Tryz.prog.info? 120).map (fun i => (i.zero, i.size, i.bytes)) = some (some (.agg #[.pointer none, .pointer none]), 2, 16) := by kernel_rfl

theorem cell_two_new (w : World) (x y : Value) (t : TypeId) : ∀ j u, [x, y][j]? = some u → (w.alloc (.cells #[x, y] t)).cell? ((⟨w.heap.size, 0, none⟩ : Addr).add j) = some u := by
  intro j u hj
  match j, hj with
  | 0, hj => simp at hj; subst hj; simp [Addr.add]
  | 1, hj => simp at hj; subst hj; simp [Addr.add]

/-- The script's world is as it was behind an append onto its row. -/
theorem own_wb {w w3 : World} {wb B n : Nat} {esv : Value} {k f : Int} {xs : List Value} {o : Obj}
    (hblk : w.heap[wb]? = some (.cells #[esv, .int .i64 k, .int .i64 f, .slice none 0 0] 82 (0, 0))) (hown : w.ownsRow B 120 2 esv n xs) (hg : (w.alloc o).grownBy w3 esv.ownBlock) :
    w3.heap[wb]? = some (.cells #[esv, .int .i64 k, .int .i64 f, .slice none 0 0] 82 (0, 0)) := by
  rw [hg.block wb (by simp; have := heap_lt hblk; omega) ?_]
  · rw [Below.heap_alloc _ _ _ (heap_lt hblk)]; exact hblk
  · intro e
    obtain ⟨xs, T, e', hT⟩ := hown.2.elim (fun x => by rw [x.1] at e; cases e) (fun ⟨g', cap, cur, x, _, hh, _⟩ => by
      rw [x] at e
      simp only [Value.ownBlock, Option.some.injEq] at e
      subst e
      exact ⟨cur, _, hh, rfl⟩ : _ → ∃ xs T, w.heap[wb]? = some (.cells xs T (0, 0)) ∧ T = 120)
    rw [hblk] at e'
    simp only [Option.some.injEq, Obj.cells.injEq] at e'
    have := e'.2.1.trans hT
    exact absurd this (by decide)

/-- One pair more. -/
theorem WInv.push {w0 w w3 : World} {wb : Nat} {ps : List Pr} (h : WInv w0 w wb ps) {esv v' : Value} {k f : Int} {p : Pr} {o : Obj}
    (hblk : w.heap[wb]? = some (.cells #[esv, .int .i64 k, .int .i64 f, .slice none 0 0] 82 (0, 0))) (hown : w.ownsRow w0.heap.size 120 2 esv ps.length (pcells ps)) (hp : PairAt w p.2.2 p.1 p.2.1)
    (hown' : w3.ownsRow w0.heap.size 120 2 v' (ps.length + 1) (pcells ps ++ [p.1, p.2.1])) (hg : (w.alloc o).grownBy w3 esv.ownBlock) :
    WInv w0 (w3.setCell ⟨wb, 0, none⟩ v') wb (ps ++ [p]) := by
  have hrow : ∀ g, esv.ownBlock = some g → ∃ xs T, w.heap[g]? = some (.cells xs T (0, 0)) ∧ (T = 82 ∨ T = 120) := by
    intro g hgb
    rcases hown.2 with ⟨e, _⟩ | ⟨g', cap, cur, e, _, hh, _⟩
    · rw [e] at hgb; cases hgb
    · rw [e] at hgb
      simp only [Value.ownBlock, Option.some.injEq] at hgb
      subst hgb
      exact ⟨cur, _, hh, Or.inr rfl⟩
  have ha := (Below.refl w.heap.size w).alloc (Nat.le_refl _) o
  have hoth : Oth w w3 := (Oth.of_below ha).trans (Oth.of_grown hg (fun g hgb => by
    obtain ⟨xs, T, e, hT⟩ := hrow g hgb
    exact ⟨xs, T, by rw [Below.heap_alloc _ _ _ (heap_lt e)]; exact e, hT⟩))
  have hwb := own_wb hblk hown hg
  have hoth2 : Oth w (w3.setCell ⟨wb, 0, none⟩ v') := hoth.trans (Oth.of_set hwb v')
  have hbel3 : Below w0.heap.size w0 w3 := below_own hown h.bel h.bel.size o hg
  refine ⟨⟨v', k, f, by rw [heap_set hwb]; rfl, ?_⟩, h.lo, ?_, hbel3.setCell h.lo _⟩
  · rw [List.length_append, pcells_append]
    refine ⟨hown'.1, ?_⟩
    rcases hown'.2 with e | ⟨g, cap, cur, e, hgB, hh, r⟩
    · exact Or.inl e
    · refine Or.inr ⟨g, cap, cur, e, hgB, ?_, r⟩
      rw [Below.heap_setCell]
      · exact hh
      · simp only
        intro e'
        subst e'
        rw [hwb] at hh
        simp only [Option.some.injEq, Obj.cells.injEq] at hh
        exact absurd hh.2.1 (by decide)
  · intro q hq
    rcases List.mem_append.1 hq with hq | hq
    · exact (h.all q hq).oth hoth2
    · rw [List.mem_singleton.1 hq]; exact hp.oth hoth2

def LPost (w0 : World) (wb : Nat) (n : Nat) (e : Ending) (w' : World) : Prop := e = .returned (.bool true) ∧ ∃ ps', WInv w0 w' wb ps' ∧ ps'.length ≤ n + 1

set_option maxRecDepth 100000 in
set_option maxHeartbeats 1000000 in
theorem lread_no (w0 w : World) (wb : Nat) (ps : List Pr) (s : ByteArray) (er pl : Int) (hm : s.size ≤ maxLen) (hI : WInv w0 w wb ps) (hr : Rd.read 1300 s = some (none, er, pl)) (he : (er != 0) = true) :
    Calls Tryz.prog 59 #[.pointer (some ⟨wb, 0, none⟩), .string s] w (LPost w0 wb ps.length) := by
  have X := hidp (exprRead_any 1300 s w (none, er, pl) hm hr)
  have R : Hid (∀ w1, Calls Tryz.prog 15 #[.string s] w1 (RReadPost w1 (none, er, pl))) := by
    intro w1
    obtain ⟨x, h1, h2⟩ := rread_any s w1 hm
    rw [hr] at h1
    obtain rfl := Option.some.inj h1
    exact h2
  have HI := hidp hI
  clear hI hr hm
  go_enter Tryz.func59, Tryz.ntmps59
  go_wp2_with fail
  refine (X.out).mono ?_
  rintro e w1 ⟨v, rfl, hv, hb1⟩
  rw [show v = Value.pointer none from hv]
  clear hv
  go_wp2_with fail
  refine (R.out w1).mono ?_
  rintro e w2 ⟨sb, v2, rfl, _, hv2, hb2⟩
  rw [show v2 = Value.pointer none from hv2]
  clear hv2
  have HB := hidp (hb1.trans (hb2.mono hb1.size))
  clear hb1 hb2
  go_wp2_with fail
  go_ret
  exact ⟨rfl, ps, HI.out.below HB.out, by omega⟩

set_option maxRecDepth 100000 in
set_option maxHeartbeats 1000000 in
theorem lread_yes (w0 w : World) (wb : Nat) (ps : List Pr) (s : ByteArray) (t : Rd.Tr) (hm : s.size ≤ maxLen) (hI : WInv w0 w wb ps) (hT : Tab w0) (hn : ps.length ≤ 4000000) (hr : Rd.read 1300 s = some (some t, 0, 0)) :
    Calls Tryz.prog 59 #[.pointer (some ⟨wb, 0, none⟩), .string s] w (LPost w0 wb ps.length) := by
  have X := hidp (exprRead_any 1300 s w (some t, 0, 0) hm hr)
  have R : Hid (∀ w1, Calls Tryz.prog 15 #[.string s] w1 (RReadPost w1 (some t, 0, 0))) := by
    intro w1
    obtain ⟨x, h1, h2⟩ := rread_any s w1 hm
    rw [hr] at h1
    obtain rfl := Option.some.inj h1
    exact h2
  obtain ⟨i, hi, hz, hsize, hby⟩ := info_parts infoPair
  have hwf := Rd.read_wf (split_ok s (s.size + 1) 0) hr
  have HWF := hidp hwf
  have HI := hidp hI
  have HT := hidp hT
  clear hI hr hm hwf hT
  go_enter Tryz.func59, Tryz.ntmps59
  go_wp2_with fail
  refine (X.out).mono ?_
  rintro e w1 ⟨v, rfl, hv, hb1⟩
  have hvp : ∃ xb, v = .pointer (some ⟨xb, 0, none⟩) := by obtain ⟨rb, xb, rv, h1, _⟩ := hv; exact ⟨xb, h1⟩
  obtain ⟨xb, rfl⟩ := hvp
  have HV := hidp hv
  clear hv
  go_wp2_with fail
  refine (R.out w1).mono ?_
  rintro e w2 ⟨sb, v2, rfl, _, hv2, hb2⟩
  obtain ⟨mb, rfl⟩ := REnc.ptr hv2
  have HP : Hid (PairAt w2 t (.pointer (some ⟨xb, 0, none⟩)) (.pointer (some ⟨mb, 0, none⟩))) := ⟨HWF.out.1, HWF.out.2, (ExprAt.zero HV.out).oth (Oth.of_below hb2), sb, hv2⟩
  have HI2 := hidp (HI.out.below (hb1.trans (hb2.mono hb1.size)))
  clear hb1 hb2 hv2 HV
  obtain ⟨esv, k, f, hblk, hown⟩ := HI2.out.blk
  have c0 : w2.cell? ⟨wb, 0, none⟩ = some esv := cell_of_block hblk rfl
  have f0 : w2.frozen? ⟨wb, 0, none⟩ = false := frozen_of_block hblk
  have hwbl := heap_lt hblk
  have hlo := HI2.out.lo
  have hbs := HI2.out.bel.size
  have HBLK := hidp hblk
  obtain ⟨ao, ln, cp, rfl⟩ := own_slice hown
  clear hblk
  go_wp2_with (at_builtin; (refine wpList_append_own _ rfl _ _ 79 rfl w0.heap.size 120 i (.agg #[.pointer none, .pointer none]) 2 16 Tryz.underlying79 hi hz hsize hby rfl (by decide) _ _ _ rfl (hown.alloc _) ⟨w2.heap.size, 0, none⟩ 1 1 [.pointer (some ⟨xb, 0, none⟩), .pointer (some ⟨mb, 0, none⟩)] rfl rfl (cell_two_new _ _ _ _) (by intro u hu; simp at hu; rcases hu with rfl | rfl <;> rfl) (by unfold maxLen; omega) (by omega) (by simp; omega) ?_; intro v' w3 hown' hgrow3 hnil3; obtain ⟨ao3, ln3, cp3, hv3⟩ := own_slice hown'; subst hv3; have hb3 := own_wb HBLK.out hown hgrow3; have q0 := cell_of_block (o := 0) hb3 rfl; have qf := frozen_of_block (o := 0) hb3; have hwl3 := heap_lt hb3; have HI3 := hidp (WInv.push (p := (Value.pointer (some ⟨xb, 0, none⟩), Value.pointer (some ⟨mb, 0, none⟩), t)) HI2.out HBLK.out hown HP.out hown' hgrow3); have HP3 := hidp ((HI3.out.all (Value.pointer (some ⟨xb, 0, none⟩), Value.pointer (some ⟨mb, 0, none⟩), t) (by simp))); clear hb3))
  refine (exprText_any 0 _ t _ HP3.out.ex HP3.out.wf HP3.out.len (HI3.out.tab HT.out)).mono ?_
  rintro e w4 ⟨u, rfl, hu, hb4⟩
  have HI4 := hidp (HI3.out.below hb4)
  obtain ⟨sb4, hR4⟩ := (HP3.out.oth (Oth.of_below hb4)).rf
  have HU := hidp hu
  clear hu hb4 q0 qf hown hown' hgrow3 hnil3
  go_wp2_with fail
  refine (rtext_said sb4 t w4 _ HP3.out.wf HP3.out.len hR4).mono ?_
  rintro e w5 ⟨u2, rfl, hu2, hb5⟩
  obtain rfl := HU.out.same hu2
  have HI5 := hidp (HI4.out.below hb5)
  clear hu2 hb5 hR4
  go_wp2_with fail
  go_ret
  exact ⟨rfl, _, HI5.out, by simp⟩

/-- One text on both sides: all is the same. -/
theorem lread_any (w0 w : World) (wb : Nat) (ps : List Pr) (s : ByteArray) (hm : s.size ≤ maxLen) (hI : WInv w0 w wb ps) (hT : Tab w0) (hn : ps.length ≤ 4000000) :
    Calls Tryz.prog 59 #[.pointer (some ⟨wb, 0, none⟩), .string s] w (LPost w0 wb ps.length) := by
  obtain ⟨x, hx, _⟩ := rread_any s w hm
  rcases read_ok hx with ⟨h1, h2⟩ | ⟨t, rfl⟩
  · obtain ⟨t, er, pl⟩ := x
    simp only at h1 h2
    subst h1
    exact lread_no w0 w wb ps s er pl hm hI hx h2
  · exact lread_yes w0 w wb ps s t hm hI hT hn hx

end Go.Proofs.YtmepffenlgedbaaGreatDoor

/-
  THE WALK of realslaw's (World).step, for the steps that Reads plays.
-/
set_option linter.unusedSimpArgs false
namespace Go.Proofs.YtmepffenlgedbaaGreatDoor
open Go.RowKit
open Go.Deep (BT)

set_option maxRecDepth 100000 in
set_option maxHeartbeats 1000000 in
theorem step_read (w0 w : World) (wb : Nat) (ps : List Pr) (a b : Int) (s : ByteArray) (hm : s.size ≤ maxLen) (hI : WInv w0 w wb ps) (hT : Tab w0) (hn : ps.length ≤ 4000000) :
    Calls Tryz.prog 32 #[.pointer (some ⟨wb, 0, none⟩), .agg #[.int .i64 1, .int .i64 a, .int .i64 b, .string s]] w (LPost w0 wb ps.length) := by
  have L := hidp (lread_any w0 _ wb ps s hm (hI.below ((Below.refl w.heap.size w).alloc (Nat.le_refl _) (.cells #[.int .i64 1, .int .i64 a, .int .i64 b, .string s] 27))) hT hn)
  clear hI hT hm hn
  go_enter Tryz.func32, Tryz.ntmps32
  go_wp2_with fail
  refine (L.out).mono ?_
  rintro e w1 ⟨rfl, h⟩
  have H := hidp h
  clear h
  go_wp2_with fail
  go_ret
  exact ⟨rfl, H.out⟩

/-- Behind a store of what is asked for. -/
theorem WInv.ask {w0 w : World} {wb o : Nat} {ps : List Pr} (h : WInv w0 w wb ps) (a : Int) (ho : o = 1 ∨ o = 2) : WInv w0 (w.setCell ⟨wb, o, none⟩ (.int .i64 a)) wb ps := by
  obtain ⟨esv, k, f, h1, h2⟩ := h.blk
  have hoth := Oth.of_set (o := o) h1 (.int .i64 a)
  have hown : (w.setCell ⟨wb, o, none⟩ (.int .i64 a)).ownsRow w0.heap.size 120 2 esv ps.length (pcells ps) := by
    refine ⟨h2.1, ?_⟩
    rcases h2.2 with e | ⟨g, cap, cur, e, hgB, hh, r⟩
    · exact Or.inl e
    · refine Or.inr ⟨g, cap, cur, e, hgB, ?_, r⟩
      rw [Below.heap_setCell]
      · exact hh
      · simp only
        intro e'
        subst e'
        rw [h1] at hh
        simp only [Option.some.injEq, Obj.cells.injEq] at hh
        exact absurd hh.2.1 (by decide)
  refine ⟨?_, h.lo, fun p hp => (h.all p hp).oth hoth, h.bel.setCell h.lo _⟩
  rcases ho with rfl | rfl
  · exact ⟨esv, a, f, by rw [heap_set h1]; rfl, hown⟩
  · exact ⟨esv, k, a, by rw [heap_set h1]; rfl, hown⟩

set_option maxRecDepth 100000 in
set_option maxHeartbeats 1000000 in
theorem step_ask (w0 w : World) (wb : Nat) (ps : List Pr) (a b : Int) (s : ByteArray) (hI : WInv w0 w wb ps) :
    Calls Tryz.prog 32 #[.pointer (some ⟨wb, 0, none⟩), .agg #[.int .i64 3, .int .i64 a, .int .i64 b, .string s]] w (LPost w0 wb ps.length) := by
  obtain ⟨esv, k, f, h1, h2⟩ := hI.blk
  have c1 : w.cell? ⟨wb, 1, none⟩ = some (.int .i64 k) := cell_of_block h1 rfl
  have c2 : w.cell? ⟨wb, 2, none⟩ = some (.int .i64 f) := cell_of_block h1 rfl
  have f1 : w.frozen? ⟨wb, 1, none⟩ = false := frozen_of_block h1
  have f2 : w.frozen? ⟨wb, 2, none⟩ = false := frozen_of_block h1
  have hwb := heap_lt h1
  have R := hidp (((hI.ask a (Or.inl rfl)).ask b (Or.inr rfl)).below ((Below.refl _ _).alloc (Nat.le_refl _) (.cells #[.int .i64 3, .int .i64 a, .int .i64 b, .string s] 27)))
  clear h1 h2 hI
  go_enter Tryz.func32, Tryz.ntmps32
  go_wp2_with fail
  go_ret
  exact ⟨rfl, ps, R.out, by omega⟩

set_option maxRecDepth 100000 in
set_option maxHeartbeats 1000000 in
theorem step_none (w0 w : World) (wb : Nat) (a b : Int) (s : ByteArray) (hI : WInv w0 w wb []) :
    Calls Tryz.prog 32 #[.pointer (some ⟨wb, 0, none⟩), .agg #[.int .i64 2, .int .i64 a, .int .i64 b, .string s]] w (LPost w0 wb 0) := by
  obtain ⟨esv, k, f, h1, h2⟩ := hI.blk
  have c0 : w.cell? ⟨wb, 0, none⟩ = some esv := cell_of_block h1 rfl
  obtain ⟨ao, cp, rfl⟩ : ∃ ao cp, esv = .slice ao 0 cp := by
    rcases h2.2 with ⟨e, _⟩ | ⟨g, cap, cur, e, _⟩
    · exact ⟨_, _, e⟩
    · exact ⟨_, _, e⟩
  have R := hidp (hI.below ((Below.refl w.heap.size w).alloc (Nat.le_refl _) (.cells #[.int .i64 2, .int .i64 a, .int .i64 b, .string s] 27)))
  have hwb := heap_lt h1
  clear h1 h2 hI
  go_enter Tryz.func32, Tryz.ntmps32
  go_wp2_with fail
  go_ret
  exact ⟨rfl, [], R.out, by simp⟩

/-- The pair that a raw number speaks of. -/
theorem WInv.pair {w0 w : World} {wb : Nat} {ps : List Pr} (h : WInv w0 w wb ps) (n : Nat) (hn : n < ps.length) :
    ∃ g cap xb mb t, w.cell? ⟨wb, 0, none⟩ = some (.slice (some ⟨g, 0, none⟩) ps.length cap) ∧ w.cell? ⟨g, n * 2, none⟩ = some (.pointer (some ⟨xb, 0, none⟩)) ∧ w.cell? ⟨g, n * 2 + 1, none⟩ = some (.pointer (some ⟨mb, 0, none⟩)) ∧
      PairAt w t (.pointer (some ⟨xb, 0, none⟩)) (.pointer (some ⟨mb, 0, none⟩)) := by
  obtain ⟨esv, k, f, h1, h2⟩ := h.blk
  have hp := h.all ps[n] (List.getElem_mem hn)
  obtain ⟨xb, mb, hx, hm⟩ := hp.ptrs
  obtain ⟨a0, a1⟩ := pcells_at ps n hn
  rw [hx] at a0 hp
  rw [hm] at a1 hp
  rcases h2.2 with ⟨_, e⟩ | ⟨g, cap, cur, e, _, hh, _, _, _, h4⟩
  · omega
  · subst e
    have key : ∀ (j : Nat) (u : Value), (pcells ps)[j]? = some u → cur[j]? = some u := by
      intro j u hu
      rw [← h4] at hu
      have hj := (List.getElem?_eq_some_iff.1 hu).1
      rw [List.getElem?_take_of_lt (by simp at hj; omega)] at hu
      simpa using hu
    exact ⟨g, cap, xb, mb, _, cell_of_block h1 rfl, cell_of_block hh (key _ _ a0), cell_of_block hh (key _ _ a1), hp⟩

set_option maxRecDepth 100000 in
set_option maxHeartbeats 1000000 in
theorem step_text (w0 w : World) (wb : Nat) (ps : List Pr) (a b : Int) (s : ByteArray) (hI : WInv w0 w wb ps) (hT : Tab w0) (h0 : 0 < ps.length) (hn : ps.length ≤ 3000000) (ha0 : -9223372036854775808 ≤ a) (ha1 : a ≤ 9223372036854775807) :
    Calls Tryz.prog 32 #[.pointer (some ⟨wb, 0, none⟩), .agg #[.int .i64 2, .int .i64 a, .int .i64 b, .string s]] w (LPost w0 wb ps.length) := by
  have hlt := pickI_lt a ps.length h0
  obtain ⟨g, cap, xb, mb, t, c0, p0, p1, hp⟩ := hI.pair (pickI a ps.length) hlt
  have PK := hidp (fun w' => pick_any a ps.length w' ha0 ha1 h0 (by omega))
  generalize pickI a ps.length = q at *
  have hB : Below w.heap.size w ((w.alloc (.cells #[.int .i64 2, .int .i64 a, .int .i64 b, .string s] 27)).alloc (.cells #[.pointer (some ⟨xb, 0, none⟩), .pointer (some ⟨mb, 0, none⟩)] 120)).drew :=
    (((Below.refl w.heap.size w).alloc (Nat.le_refl _) _).alloc (by simp) _).trans ((drew_below _).mono (by simp; omega))
  have HP := hidp (hp.oth (Oth.of_below hB))
  have HI := hidp (hI.below hB)
  clear hB
  have HT := hidp hT
  have hwb := cell_lt c0
  have hgl := cell_lt p0
  simp only at hwb hgl
  have hne : ((ps.length : Int) == 0) = false := beq_eq_false_iff_ne.2 (by omega)
  clear hp hI hT
  go_enter Tryz.func32, Tryz.ntmps32
  go_wp2_with fail
  go_region_held3 (fun w' => w'.cell? ⟨wb, 0, none⟩ = some (.slice (some ⟨g, 0, none⟩) ps.length cap) ∧ w'.cell? ⟨g, q * 2, none⟩ = some (.pointer (some ⟨xb, 0, none⟩)) ∧ w'.cell? ⟨g, q * 2 + 1, none⟩ = some (.pointer (some ⟨mb, 0, none⟩)) ∧ w'.cell? ⟨w.heap.size, 1, none⟩ = some (.int .i64 a)) (go_keep)
    ((go_at_call 60; refine (PK.out _).mono ?_; rintro e w2 ⟨rfl, rfl⟩))
  all_goals
    go_wp2_with fail
    refine (exprText_any 0 _ t _ HP.out.ex HP.out.wf HP.out.len (HI.out.tab HT.out)).mono ?_
    rintro e w4 ⟨u, rfl, hu, hb4⟩
    have HI4 := hidp (HI.out.below hb4)
    have hsz : u.size ≤ maxLen := by
      have := hu.size
      have := HP.out.len
      unfold maxLen
      omega
    clear hu hb4
    go_wp2_with fail
    refine (lread_any w0 w4 wb ps u hsz HI4.out HT.out (by omega)).mono ?_
    rintro e w5 ⟨rfl, h⟩
    have H := hidp h
    clear h
    go_wp2_with fail
    go_ret
    exact ⟨rfl, H.out⟩

/-- A step that is played: true, and the world is one. -/
theorem step_any (w0 w : World) (wb : Nat) (ps : List Pr) (x : Step) (hI : WInv w0 w wb ps) (hT : Tab w0) (hn : ps.length ≤ 3000000) (hx : StepOk x) (hp : Played x) :
    Calls Tryz.prog 32 #[.pointer (some ⟨wb, 0, none⟩), .agg #[.int .i64 x.1, .int .i64 x.2.1, .int .i64 x.2.2.1, .string x.2.2.2]] w (LPost w0 wb ps.length) := by
  obtain ⟨k, a, b, s⟩ := x
  rcases hp with h | h | h
  · simp only at h
    subst h
    exact step_read w0 w wb ps a b s hx.s hI hT (by omega)
  · simp only at h
    subst h
    cases ps with
    | nil => exact step_none w0 w wb a b s hI
    | cons p r => exact step_text w0 w wb (p :: r) a b s hI hT (by simp) hn hx.a0 hx.a1
  · simp only at h
    subst h
    exact step_ask w0 w wb ps a b s hI
end Go.Proofs.YtmepffenlgedbaaGreatDoor

/-
  THE WALKS of looks and upTo.
-/
set_option linter.unusedSimpArgs false
namespace Go.Proofs.YtmepffenlgedbaaGreatDoor
open Go.RowKit
open Go.Deep (BT)

set_option maxRecDepth 100000 in
set_option maxHeartbeats 1000000 in
theorem looks_any (w0 w : World) (wb : Nat) (ps : List Pr) (hI : WInv w0 w wb ps) :
    Calls Tryz.prog 33 #[.pointer (some ⟨wb, 0, none⟩)] w fun e w' => e = .returned (.bool true) ∧ w = w' := by
  obtain ⟨esv, k, f, hblk, hown⟩ := hI.blk
  have c3 : w.cell? ⟨wb, 3, none⟩ = some (.slice none 0 0) := cell_of_block hblk rfl
  clear hblk hown hI
  go_enter Tryz.func33, Tryz.ntmps33
  go_wp2_with fail
  refine wp_loop_rounds 1 ?_
  rw [rounds_succ]
  go_wp2_with fail
  go_ret
  exact ⟨rfl, rfl⟩

theorem WInv.start (w : World) : WInv w (w.alloc (.cells #[.slice none 0 0, .int .i64 0, .int .i64 0, .slice none 0 0] 82)) w.heap.size [] :=
  ⟨⟨_, _, _, cells_new _ _, World.ownsRow_nil _ _ _ _⟩, Nat.le_refl _, (fun p hp => by cases hp), (Below.refl _ _).alloc (Nat.le_refl _) _⟩

def upRel (w : World) (l : List Step) (i : Value) (wr : World) : Prop :=
  ∃ (k : Nat) (ps : List Pr), k ≤ l.length ∧ i = .int .i64 k ∧ ps.length ≤ k ∧ WInv w wr w.heap.size ps

set_option maxRecDepth 100000 in
set_option maxHeartbeats 1000000 in
theorem upto_any (w : World) (v : Value) (l : List Step) (h : ScrAt w v l) (hn : l.length ≤ 1048576) (hpl : ∀ x ∈ l, Played x) (hT : Tab w) :
    Calls Tryz.prog 22 #[v] w fun e w' => e = .returned (.int .i64 (-1)) ∧ Below w.heap.size w w' := by
  obtain ⟨ao, cap, rfl, h1, h2, h3⟩ := h.sl
  have HT := hidp hT
  clear hT
  go_enter Tryz.func22, Tryz.ntmps22
  go_wp2_with fail
  go_loopw [9] (fun i wr => upRel w l i wr) (fun i _ => l.length - (intOf i).toNat)
  case atStart => exact ⟨0, [], Nat.zero_le _, rfl, Nat.le_refl _, WInv.start w⟩
  case round =>
    obtain ⟨k, ps, hk, rfl, hps, hI⟩ := hrel
    by_cases hlt : k < l.length
    · rcases h3 with h3 | ⟨b, off, rfl, h3⟩
      · rw [h3] at hlt; simp at hlt
      have hok := hideq (h.ok l[k] (List.getElem_mem hlt))
      have hpk := hideq (hpl l[k] (List.getElem_mem hlt))
      obtain ⟨c0, c1, c2, c3⟩ := h3 k hlt
      generalize l[k] = x at *
      obtain ⟨kd, A, B, S⟩ := x
      simp only at c0 c1 c2 c3
      have d0 := (hI.bel.cell (cell_lt c0)).trans c0
      have d1 := (hI.bel.cell (cell_lt c1)).trans c1
      have d2 := (hI.bel.cell (cell_lt c2)).trans c2
      have d3 := (hI.bel.cell (cell_lt c3)).trans c3
      have HI := hidp hI
      clear h3 c0 c1 c2 c3 hI
      go_wp2_with fail
      refine (step_any w _ w.heap.size ps (kd, A, B, S) HI.out HT.out (by omega) hok.out hpk.out).mono ?_
      rintro e w1 ⟨rfl, ps1, hI1, hps1⟩
      have HI1 := hidp hI1
      clear hI1 d0 d1 d2 d3
      go_wp2_with fail
      refine (looks_any w w1 w.heap.size ps1 HI1.out).mono ?_
      rintro e w2 ⟨rfl, rfl⟩
      go_wp2_with fail
      go_roundw
      case rel => exact ⟨k + 1, ps1, by omega, by simp, by omega, HI1.out⟩
      case measure => simp [intOf]; omega
    · obtain rfl : k = l.length := by omega
      have HI := hidp hI
      clear hI
      go_wp2_with fail
      go_ret
      exact ⟨rfl, HI.out.bel⟩
end Go.Proofs.YtmepffenlgedbaaGreatDoor
