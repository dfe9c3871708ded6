/-
  THE SCRIPT OPENED: a slice of steps among the arguments.
-/
import Derived.Test.YtmepffenlgedbaaDoorKStep2
import Derived.Deep.Slices
import Derived.ChangeSame
import Derived.ProofKit
import Derived.OpenShut
set_option linter.unusedSimpArgs false
namespace Go.Proofs.YtmepffenlgedbaaDoor
open Go.ChangeShapes Go.WideShapes Go.RowKit
open Go.Deep (open_slice choose_lt add_add)

abbrev KOp := Int × Int × Int × Int

structure KOk (x : KOp) : Prop where
  k0 : -9223372036854775808 ≤ x.1
  k1 : x.1 ≤ 9223372036854775807
  a0 : -9223372036854775808 ≤ x.2.1
  a1 : x.2.1 ≤ 9223372036854775807
  b0 : -9223372036854775808 ≤ x.2.2.1
  b1 : x.2.2.1 ≤ 9223372036854775807
  c0 : -9223372036854775808 ≤ x.2.2.2
  c1 : x.2.2.2 ≤ 9223372036854775807

/-- A slice of steps. -/
structure ScrK (w : World) (v : Value) (l : List KOp) : Prop where
  sl : ∃ ao cap, v = .slice ao l.length cap ∧ l.length ≤ cap ∧ cap ≤ maxLen ∧ (l = [] ∨ ∃ b off, ao = some ⟨b, off, none⟩ ∧ ∀ (i : Nat) (h : i < l.length),
    w.cell? ⟨b, off + i * 4, none⟩ = some (.int .i64 l[i].1) ∧ w.cell? ⟨b, off + i * 4 + 1, none⟩ = some (.int .i64 l[i].2.1) ∧ w.cell? ⟨b, off + i * 4 + 2, none⟩ = some (.int .i64 l[i].2.2.1) ∧ w.cell? ⟨b, off + i * 4 + 3, none⟩ = some (.int .i64 l[i].2.2.2))
  ok : ∀ x ∈ l, KOk x

theorem opFields : (Tryd.prog.underlying 32).map (fun t => match t with | .struct fs => fs.toList.map (fun f => (f.offset, f.type)) | _ => []) = some [(0, 3), (1, 3), (2, 3), (3, 3)] := by kernel_rfl
theorem opCells : Tryd.prog.cellsOf 32 = 4 := by kernel_rfl
theorem intCells : Tryd.prog.cellsOf 3 = 1 := by kernel_rfl

theorem opStruct : ∃ fs, Tryd.prog.underlying 32 = some (.struct fs) ∧ fs.toList.map (fun f => (f.offset, f.type)) = [(0, 3), (1, 3), (2, 3), (3, 3)] := by
  have h := opFields
  cases e : Tryd.prog.underlying 32 with
  | none => rw [e] at h; simp at h
  | some t =>
    rw [e] at h
    cases t <;> simp at h
    exact ⟨_, rfl, h⟩

section
variable {H : Type} {enc : TypeId × Value → H} {w : World} {base : Nat} {spare : Nat → Bool} {held : Bool}

set_option maxRecDepth 100000 in
theorem open_op {n : Nat} {cs : List Value} {x : DataW H × List MemPlace} (h : DataW.trod enc Tryd.prog w base spare held n 32 cs = some x) :
    ∃ s : KOp, cs = [.int .i64 s.1, .int .i64 s.2.1, .int .i64 s.2.2.1, .int .i64 s.2.2.2] ∧ KOk s := by
  obtain ⟨fs, he, hfs⟩ := opStruct
  obtain ⟨xs, k, _, _, hlen, hxl, hf⟩ := DataW.trod_struct he h
  rw [opCells] at hlen
  match cs, hlen with
  | [v0, v1, v2, v3], _ =>
    have hsz : fs.size = 4 := by
      have := congrArg List.length hfs
      simpa using this
    have get : ∀ (j : Nat) (o : Nat) (t : TypeId), [(0, 3), (1, 3), (2, 3), (3, 3)][j]? = some (o, t) → ∃ f, fs[j]? = some f ∧ f.offset = o ∧ f.type = t := by
      intro j o t hj
      rw [← hfs] at hj
      simp only [List.getElem?_map, Option.map_eq_some_iff] at hj
      obtain ⟨f, h1, h2⟩ := hj
      simp only [Prod.mk.injEq] at h2
      exact ⟨f, by simpa using h1, h2.1, h2.2⟩
    have val : ∀ j : Nat, j < 4 → ∃ y, xs[j]? = some y := fun j hj => ⟨xs[j], List.getElem?_eq_getElem (by omega)⟩
    obtain ⟨f0, g0, o0, t0⟩ := get 0 0 3 rfl
    obtain ⟨f1, g1, o1, t1⟩ := get 1 1 3 rfl
    obtain ⟨f2, g2, o2, t2⟩ := get 2 2 3 rfl
    obtain ⟨f3, g3, o3, t3⟩ := get 3 3 3 rfl
    obtain ⟨y0, e0⟩ := val 0 (by omega)
    obtain ⟨y1, e1⟩ := val 1 (by omega)
    obtain ⟨y2, e2⟩ := val 2 (by omega)
    obtain ⟨y3, e3⟩ := val 3 (by omega)
    have k0 := hf 0 f0 g0
    have k1 := hf 1 f1 g1
    have k2 := hf 2 f2 g2
    have k3 := hf 3 f3 g3
    rw [o0, t0, intCells, e0] at k0
    rw [o1, t1, intCells, e1] at k1
    rw [o2, t2, intCells, e2] at k2
    rw [o3, t3, intCells, e3] at k3
    obtain ⟨a, ea, _, wa⟩ := DataW.trod_int Tryd.underlying3 k0
    obtain ⟨b, eb, _, wb⟩ := DataW.trod_int Tryd.underlying3 k1
    obtain ⟨c, ec, _, wc⟩ := DataW.trod_int Tryd.underlying3 k2
    obtain ⟨s, es, _, ws⟩ := DataW.trod_int Tryd.underlying3 k3
    simp at ea eb ec es
    subst ea eb ec es
    have ba := bounds_i64 wa
    have bb := bounds_i64 wb
    have bc := bounds_i64 wc
    have bs := bounds_i64 ws
    exact ⟨(a, b, c, s), rfl, ⟨ba.1, ba.2, bb.1, bb.2, bc.1, bc.2, bs.1, bs.2⟩⟩

theorem open_ops {n : Nat} {v : Value} {x : DataW H × List MemPlace} (h : DataW.trod enc Tryd.prog w base spare held n 22 [v] = some x) : ∃ l, ScrK w v l := by
  rcases open_slice Tryd.underlying22 h with ⟨e, _⟩ | ⟨a, len, cap, m, k, D, Pl, e, hb, hl, hm, hmm, _, hx⟩
  · simp only [List.cons.injEq, and_true] at e
    subst e
    exact ⟨[], ⟨none, 0, rfl, Nat.le_refl _, Nat.zero_le _, Or.inl rfl⟩, fun x hx => by cases hx⟩
  · simp only [List.cons.injEq, and_true] at e
    subst e
    have hlm : len ≤ m := by rw [hmm]; split <;> omega
    have each : ∀ i, i < len → ∃ s : KOp, KOk s ∧ ∀ j u, [Value.int .i64 s.1, .int .i64 s.2.1, .int .i64 s.2.2.1, .int .i64 s.2.2.2][j]? = some u → w.cell? (a.add (i * 4 + j)) = some u := by
      intro i hi
      obtain ⟨cs', h1, h2⟩ := hx i (by omega)
      rw [opCells] at h1
      obtain ⟨_, hlen, hcell⟩ := World.cells?_some h1
      obtain ⟨s, rfl, hok⟩ := open_op h2
      refine ⟨s, hok, fun j u hj => ?_⟩
      have hj4 : j < 4 := (List.getElem?_eq_some_iff.1 hj).1
      rw [← add_add, hcell j hj4]
      exact hj
    obtain ⟨f, hf⟩ := choose_lt each
    have hlen : ((List.range len).map f).length = len := by simp
    refine ⟨(List.range len).map f, ⟨some a, cap, by rw [hlen], by rw [hlen]; exact hl, hm, ?_⟩, ?_⟩
    · rcases Nat.eq_zero_or_pos len with h0 | h0
      · exact Or.inl (by rw [h0]; rfl)
      · right
        obtain ⟨b, off, spot⟩ := a
        have c0 := (hf 0 h0).2 0 _ rfl
        have hspot : spot = none := by simpa [Addr.add] using World.cell?_spot c0
        subst hspot
        refine ⟨b, off, rfl, fun i hi => ?_⟩
        rw [hlen] at hi
        have hg : ((List.range len).map f)[i]'(by rw [hlen]; exact hi) = f i := by simp
        rw [hg]
        have q := (hf i hi).2
        refine ⟨?_, ?_, ?_, ?_⟩
        · simpa [add_plain, Nat.add_assoc] using q 0 _ rfl
        · simpa [add_plain, Nat.add_assoc] using q 1 _ rfl
        · simpa [add_plain, Nat.add_assoc] using q 2 _ rfl
        · simpa [add_plain, Nat.add_assoc] using q 3 _ rfl
    · intro s hs
      obtain ⟨i, hi, rfl⟩ := List.mem_map.1 hs
      exact (hf i (List.mem_range.1 hi)).1
end
end Go.Proofs.YtmepffenlgedbaaDoor

/-
  THE WALKS of realskeep's made and Written.
-/
set_option linter.unusedSimpArgs false
namespace Go.Proofs.YtmepffenlgedbaaDoor
open Go.RowKit
open Go.Deep (BT)

theorem KInv.start (w : World) : KInv w (w.alloc (.cells #[.slice none 0 0] 29)) w.heap.size [] :=
  ⟨⟨_, cells_new _ _, World.ownsRow_nil _ _ _ _⟩, Nat.le_refl _, (fun p hp => by cases hp), (Below.refl _ _).alloc (Nat.le_refl _) _⟩

def madeRel (w : World) (l : List KOp) (i : Value) (wr : World) : Prop :=
  ∃ (k : Nat) (ps : List It), k ≤ l.length ∧ i = .int .i64 k ∧ ps.length ≤ k ∧ KInv w wr w.heap.size ps

def MadePost (w : World) (e : Ending) (w' : World) : Prop := ∃ v, e = .returned (.tuple #[v, .bool true]) ∧ Below w.heap.size w w'

set_option maxRecDepth 100000 in
set_option maxHeartbeats 1000000 in
theorem made_any (w : World) (v : Value) (l : List KOp) (h : ScrK w v l) (hT : Tab w) : Calls Tryd.prog 4 #[v] w (MadePost w) := by
  obtain ⟨ao, cap, rfl, h1, h2, h3⟩ := h.sl
  have HT := hidp hT
  clear hT
  by_cases hbig : (l.length : Int) > 1048576
  · have hb : (1048576 < (l.length : Int)) = True := eq_true hbig
    go_enter Tryd.func4, Tryd.ntmps4
    go_wp2_with fail
    refine bodyPost_ret (v := .tuple #[.slice none 0 0, .bool true]) (by simp [results, Tryd.results4, go_sem]) rfl ?_
    exact ⟨_, rfl, (Below.refl _ _).alloc (Nat.le_refl _) _⟩
  · have hn : l.length ≤ 1048576 := by omega
    go_enter Tryd.func4, Tryd.ntmps4
    go_wp2_with fail
    go_loopw [13] (fun i wr => madeRel w l i wr) (fun i _ => l.length - (intOf i).toNat)
    case atStart => exact ⟨0, [], Nat.zero_le _, rfl, Nat.le_refl _, KInv.start w⟩
    case round =>
      obtain ⟨k, ps, hk, rfl, hps, hI⟩ := hrel
      by_cases hlt : k < l.length
      · rcases h3 with h3 | ⟨b, off, rfl, h3⟩
        · rw [h3] at hlt; simp at hlt
        have hok := hidp (h.ok l[k] (List.getElem_mem hlt))
        obtain ⟨c0, c1, c2, c3⟩ := h3 k hlt
        generalize l[k] = x at *
        obtain ⟨kd, A, B, C⟩ := x
        simp only at c0 c1 c2 c3
        have d0 := (hI.bel.cell (cell_ltK c0)).trans c0
        have d1 := (hI.bel.cell (cell_ltK c1)).trans c1
        have d2 := (hI.bel.cell (cell_ltK c2)).trans c2
        have d3 := (hI.bel.cell (cell_ltK c3)).trans c3
        have HI := hidp hI
        clear h3 c0 c1 c2 c3 hI
        go_wp2_with fail
        refine (kstep_any w _ w.heap.size ps kd A B C HI.out HT.out (by omega) hok.out.a0 hok.out.a1 hok.out.b0 hok.out.b1 hok.out.c0 hok.out.c1).mono ?_
        rintro e w1 ⟨rfl, ps1, hI1, hps1⟩
        have HI1 := hidp hI1
        clear hI1 d0 d1 d2 d3
        go_wp2_with fail
        go_roundw
        case rel => exact ⟨k + 1, ps1, by omega, by simp, by omega, HI1.out⟩
        case measure => simp [intOf]; omega
      · obtain rfl : k = l.length := by omega
        obtain ⟨lv, hblk, hown⟩ := hI.blk
        have c0 : wr.cell? ⟨w.heap.size, 0, none⟩ = some lv := cell_of_block hblk rfl
        have HB := hidp hI.bel
        clear hI hblk hown
        go_wp2_with fail
        refine bodyPost_ret (v := .tuple #[lv, .bool true]) (by simp [results, Tryd.results4, go_sem]) rfl ?_
        exact ⟨_, rfl, HB.out⟩

set_option maxRecDepth 100000 in
set_option maxHeartbeats 1000000 in
theorem written_walk (w : World) (v : Value) (l : List KOp) (h : ScrK w v l) (hT : Tab w) :
    Calls Tryd.prog 3 #[v] w fun e w' => e = .returned (.bool true) ∧ Below w.heap.size w w' := by
  have MA := hidp (made_any w v l h hT)
  obtain ⟨ao, cap, rfl, _⟩ := h.sl
  clear h hT
  go_enter Tryd.func3, Tryd.ntmps3
  go_wp2_with fail
  refine (MA.out).mono ?_
  rintro e w2 ⟨lv, rfl, hb⟩
  have HB := hidp hb
  clear hb
  go_wp2_with fail
  go_ret
  exact ⟨rfl, HB.out⟩
end Go.Proofs.YtmepffenlgedbaaDoor
