/-
  THE SCRIPT: its steps in memory; whether it is small.
-/
import Derived.Test.YtmepffenlgedbaaGreatDoorExpr
import Derived.Test.YtmepffenlgedbaaGreatDoorROf
import Derived.LoopN
import Derived.Deep.Slices
import Derived.ChangeSame
import Derived.ProofKit
import Derived.OpenShut
set_option linter.unusedSimpArgs false
namespace Go.Proofs.YtmepffenlgedbaaGreatDoor
open Go.RowKit
open Go.Deep (BT)

abbrev Step := Int × Int × Int × ByteArray

structure StepOk (x : Step) : Prop where
  k0 : -9223372036854775808 ≤ x.1
  k1 : x.1 ≤ 9223372036854775807
  a0 : -9223372036854775808 ≤ x.2.1
  a1 : x.2.1 ≤ 9223372036854775807
  b0 : -9223372036854775808 ≤ x.2.2.1
  b1 : x.2.2.1 ≤ 9223372036854775807
  s : x.2.2.2.size ≤ maxLen

/-- A slice of steps. -/
structure ScrAt (w : World) (v : Value) (l : List Step) : Prop where
  sl : ∃ ao cap, v = .slice ao l.length cap ∧ l.length ≤ cap ∧ cap ≤ maxLen ∧ (l = [] ∨ ∃ b off, ao = some ⟨b, off, none⟩ ∧ ∀ (i : Nat) (h : i < l.length),
    w.cell? ⟨b, off + i * 4, none⟩ = some (.int .i64 l[i].1) ∧ w.cell? ⟨b, off + i * 4 + 1, none⟩ = some (.int .i64 l[i].2.1) ∧ w.cell? ⟨b, off + i * 4 + 2, none⟩ = some (.int .i64 l[i].2.2.1) ∧ w.cell? ⟨b, off + i * 4 + 3, none⟩ = some (.string l[i].2.2.2))
  ok : ∀ x ∈ l, StepOk x

def SmallPost (l : List Step) (w : World) (e : Ending) (w' : World) : Prop := ∃ b : Bool, e = .returned (.bool b) ∧ (b = true → l.length ≤ 1048576) ∧ w = w'

set_option maxRecDepth 100000 in
set_option maxHeartbeats 1000000 in
theorem small_any (w : World) (v : Value) (l : List Step) (h : ScrAt w v l) :
    Calls Tryz.prog 14 #[v] w (SmallPost l w) := by
  obtain ⟨ao, cap, rfl, h1, h2, h3⟩ := h.sl
  go_enter Tryz.func14, Tryz.ntmps14
  by_cases hn : (l.length : Int) > 1048576
  · have hb : (1048576 < (l.length : Int)) = True := eq_true hn
    go_wp2_with fail
    go_ret
    exact ⟨_, rfl, (fun h => by cases h), rfl⟩
  · have hm : l.length ≤ 1048576 := by omega
    go_wp2_with fail
    go_loop [3, 12] (fun n i => ∃ (k : Nat) (m : Int), k ≤ l.length ∧ i = .int .i64 k ∧ n = .int .i64 m) (fun _ i => l.length - (intOf i).toNat)
    case atStart => exact ⟨0, l.length, Nat.zero_le _, rfl, rfl⟩
    case round =>
      obtain ⟨k, m, hk, rfl, rfl⟩ := hrel
      by_cases hlt : k < l.length
      · rcases h3 with h3 | ⟨b, off, rfl, h3⟩
        · rw [h3] at hlt; simp at hlt
        obtain ⟨c0, c1, c2, c3⟩ := h3 k hlt
        generalize l[k] = x at *
        obtain ⟨kd, A, B, S⟩ := x
        simp only at c0 c1 c2 c3
        clear h3 c0 c1 c2
        go_wp2_with fail
        · go_ret
          exact ⟨_, rfl, (fun h => by cases h), rfl⟩
        · exact ⟨⟨k + 1, _, by omega, by simp, rfl⟩, by simp [intOf]; omega⟩
      · obtain rfl : k = l.length := by omega
        go_wp2_with fail
        go_ret
        exact ⟨_, rfl, fun _ => hm, rfl⟩
end Go.Proofs.YtmepffenlgedbaaGreatDoor

/-
  THE WALK of plays: the steps that are played are gathered.
-/
set_option linter.unusedSimpArgs false
namespace Go.Proofs.YtmepffenlgedbaaGreatDoor
open Go.RowKit
open Go.Deep (BT)

theorem infoOp : (Tryz.prog.info? 27).map (fun i => (i.zero, i.size, i.bytes)) = some (some (.agg #[.int .i64 0, .int .i64 0, .int .i64 0, .string ⟨#[]⟩]), 4, 40) := by kernel_rfl

def scells : List Step → List Value
  | [] => []
  | x :: r => .int .i64 x.1 :: .int .i64 x.2.1 :: .int .i64 x.2.2.1 :: .string x.2.2.2 :: scells r

theorem scells_append (a b : List Step) : scells (a ++ b) = scells a ++ scells b := by
  induction a with
  | nil => rfl
  | cons x r ih => simp [scells, ih]

theorem scells_at : ∀ (l : List Step) (n : Nat) (h : n < l.length), (scells l)[n * 4]? = some (.int .i64 l[n].1) ∧ (scells l)[n * 4 + 1]? = some (.int .i64 l[n].2.1) ∧ (scells l)[n * 4 + 2]? = some (.int .i64 l[n].2.2.1) ∧ (scells l)[n * 4 + 3]? = some (.string l[n].2.2.2) := by
  intro l
  induction l with
  | nil => intro n h; simp at h
  | cons x r ih =>
    intro n h
    cases n with
    | zero => simp [scells]
    | succ n =>
      have := ih n (by simpa using h)
      simpa [scells, Nat.add_mul] using this

/-- A step that is played. -/
def Played (x : Step) : Prop := x.1 = 1 ∨ x.1 = 2 ∨ x.1 = 3

theorem own_scr {w : World} {B : Nat} {v : Value} {l : List Step} (h : w.ownsRow B 27 4 v l.length (scells l)) (hn : l.length ≤ 1048576) (hok : ∀ x ∈ l, StepOk x) : ScrAt w v l := by
  rcases h.2 with ⟨e, hx⟩ | ⟨g, cap, cur, e, _, hh, hr⟩
  · have h0 : l = [] := by
      cases l with
      | nil => rfl
      | cons x r => simp [scells] at hx
    subst h0
    exact ⟨⟨none, 0, e, Nat.le_refl _, by unfold maxLen; omega, Or.inl rfl⟩, hok⟩
  · obtain ⟨h1, h2, _, h4⟩ := hr
    refine ⟨⟨_, cap, e, h1, h2, Or.inr ⟨g, 0, rfl, fun i hi => ?_⟩⟩, hok⟩
    obtain ⟨a0, a1, a2, a3⟩ := scells_at l i hi
    have key : ∀ (j : Nat) (u : Value), (scells l)[j]? = some u → cur[j]? = some u := by
      intro j u hu
      rw [← h4] at hu
      have hj := (List.getElem?_eq_some_iff.1 hu).1
      rw [List.getElem?_take_of_lt (by simp at hj; omega)] at hu
      simpa using hu
    simp only [Nat.zero_add]
    exact ⟨cell_of_block hh (key _ _ a0), cell_of_block hh (key _ _ a1), cell_of_block hh (key _ _ a2), cell_of_block hh (key _ _ a3)⟩

theorem cell_lt {w : World} {a : Addr} {v : Value} (h : w.cell? a = some v) : a.block < w.heap.size := by
  unfold World.cell? at h
  by_cases hlt : a.block < w.heap.size
  · exact hlt
  · simp [Array.getElem?_eq_none (Nat.le_of_not_lt hlt)] at h

theorem cell_four_new (w : World) (x y z u : Value) (t : TypeId) : ∀ j q, [x, y, z, u][j]? = some q → (w.alloc (.cells #[x, y, z, u] t)).cell? ((⟨w.heap.size, 0, none⟩ : Addr).add j) = some q := by
  intro j q hj
  match j, hj with
  | 0, hj => simp at hj; subst hj; simp [Addr.add]
  | 1, hj => simp at hj; subst hj; simp [Addr.add]
  | 2, hj => simp at hj; subst hj; simp [Addr.add]
  | 3, hj => simp at hj; subst hj; simp [Addr.add]

def playRel (w : World) (l : List Step) (v i : Value) (wr : World) : Prop :=
  ∃ (k : Nat) (ls : List Step), k ≤ l.length ∧ i = .int .i64 k ∧ ls.length ≤ k ∧ wr.ownsRow w.heap.size 27 4 v ls.length (scells ls) ∧ (∀ x ∈ ls, StepOk x ∧ Played x) ∧ Below w.heap.size w wr

theorem play_push {w wr w3 : World} {l ls : List Step} {k : Nat} {v v' : Value} {x : Step} {o : Obj} (hls : ls.length ≤ k) (hlt : k < l.length) (hown : wr.ownsRow w.heap.size 27 4 v ls.length (scells ls)) (hall : ∀ x ∈ ls, StepOk x ∧ Played x)
    (hbel : Below w.heap.size w wr) (hok : StepOk x) (hpl : Played x)
    (hown' : w3.ownsRow w.heap.size 27 4 v' (ls.length + 1) (scells ls ++ [.int .i64 x.1, .int .i64 x.2.1, .int .i64 x.2.2.1, .string x.2.2.2])) (hg : (wr.alloc o).grownBy w3 v.ownBlock) :
    playRel w l v' (.int .i64 (k + 1)) w3 := by
  refine ⟨k + 1, ls ++ [x], by omega, by simp, by simp; omega, ?_, ?_, below_own hown hbel hbel.size o hg⟩
  · rw [List.length_append, scells_append]
    exact hown'
  · intro y hy
    rcases List.mem_append.1 hy with hy | hy
    · exact hall y hy
    · rw [List.mem_singleton.1 hy]; exact ⟨hok, hpl⟩

def PlayPost (w : World) (e : Ending) (w' : World) : Prop := e = .returned (.bool true) ∧ Below w.heap.size w w'

set_option maxRecDepth 100000 in
set_option maxHeartbeats 1000000 in
theorem plays_any (w : World) (v : Value) (l : List Step) (kb : Nat) (h : ScrAt w v l) (hkb : w.cell? ⟨kb, 0, none⟩ = some (.int .i64 2))
    (hup : ∀ (w1 : World) (v1 : Value) (ls : List Step), ScrAt w1 v1 ls → ls.length ≤ 1048576 → (∀ x ∈ ls, Played x) → Below w.heap.size w w1 → Calls Tryz.prog 22 #[v1] w1 fun e w' => e = .returned (.int .i64 (-1)) ∧ Below w1.heap.size w1 w') :
    Calls Tryz.prog 13 #[v, .slice (some ⟨kb, 0, none⟩) 1 1] w (PlayPost w) := by
  have S := hideq (small_any w v l h)
  obtain ⟨ao, cap, rfl, h1, h2, h3⟩ := h.sl
  obtain ⟨i, hi, hz, hsize, hby⟩ := info_parts infoOp
  have UP := hideq hup
  clear hup
  go_enter Tryz.func13, Tryz.ntmps13
  go_wp2_with fail
  refine (S.out).mono ?_
  rintro e w1 ⟨b, rfl, hb, rfl⟩
  cases b
  · go_wp2_with fail
    go_ret
    exact ⟨rfl, Below.refl _ _⟩
  · have hn := hb rfl
    clear hb
    go_wp2_with fail
    go_loopw [5, 15] (fun v i wr => playRel w l v i wr) (fun _ i _ => l.length - (intOf i).toNat)
    case atStart => exact ⟨0, [], Nat.zero_le _, rfl, Nat.le_refl _, World.ownsRow_nil _ _ _ _, (fun x hx => by cases hx), Below.refl _ _⟩
    case round =>
      obtain ⟨k, ls, hk, rfl, hls, hown, hall, hbel⟩ := hrel
      obtain ⟨ao3, ln3, cp3, rfl⟩ := own_slice hown
      by_cases hlt : k < l.length
      · rcases h3 with h3 | ⟨b, off, rfl, h3⟩
        · rw [h3] at hlt; simp at hlt
        have hok := hideq (h.ok l[k] (List.getElem_mem hlt))
        obtain ⟨c0, c1, c2, c3⟩ := h3 k hlt
        generalize l[k] = x at *
        obtain ⟨kd, A, B, S⟩ := x
        simp only at c0 c1 c2 c3
        have hbs := hbel.size
        have d0 := (hbel.cell (cell_lt c0)).trans c0
        have d1 := (hbel.cell (cell_lt c1)).trans c1
        have d2 := (hbel.cell (cell_lt c2)).trans c2
        have d3 := (hbel.cell (cell_lt c3)).trans c3
        have dk := (hbel.cell (cell_lt hkb)).trans hkb
        clear h3 c0 c1 c2 c3
        by_cases q1 : kd = 1
        · subst q1
          go_wp2_with fail
          refine wp_loop_rounds 2 ?_
          rw [rounds_succ]
          go_wp2_with fail
          rw [rounds_succ]
          go_wp2_with (at_builtin; (refine wpList_append_own _ rfl _ _ 22 rfl w.heap.size 27 i (.agg #[.int .i64 0, .int .i64 0, .int .i64 0, .string ⟨#[]⟩]) 4 40 Tryz.underlying22 hi hz hsize hby rfl (by decide) _ _ _ rfl (hown.alloc _) ⟨wr.heap.size, 0, none⟩ 1 1 [.int .i64 1, .int .i64 A, .int .i64 B, .string S] rfl rfl (cell_four_new _ _ _ _ _ _) (by intro u hu; simp at hu; rcases hu with rfl | rfl | rfl | rfl <;> rfl) (by unfold maxLen; omega) (by omega) (by simp; omega) ?_; intro v' w3 hown' hgrow3 hnil3; have REL := hideq (play_push hls hlt hown hall hbel hok.out (Or.inl rfl) hown' hgrow3); clear hown' hgrow3 hnil3))
          go_roundw
          case rel => exact REL.out
          case measure => simp [intOf]; omega
        by_cases q2 : kd = 2
        · subst q2
          go_wp2_with fail
          refine wp_loop_rounds 2 ?_
          rw [rounds_succ]
          go_wp2_with fail
          rw [rounds_succ]
          go_wp2_with (at_builtin; (refine wpList_append_own _ rfl _ _ 22 rfl w.heap.size 27 i (.agg #[.int .i64 0, .int .i64 0, .int .i64 0, .string ⟨#[]⟩]) 4 40 Tryz.underlying22 hi hz hsize hby rfl (by decide) _ _ _ rfl (hown.alloc _) ⟨wr.heap.size, 0, none⟩ 1 1 [.int .i64 2, .int .i64 A, .int .i64 B, .string S] rfl rfl (cell_four_new _ _ _ _ _ _) (by intro u hu; simp at hu; rcases hu with rfl | rfl | rfl | rfl <;> rfl) (by unfold maxLen; omega) (by omega) (by simp; omega) ?_; intro v' w3 hown' hgrow3 hnil3; have REL := hideq (play_push hls hlt hown hall hbel hok.out (Or.inr (Or.inl rfl)) hown' hgrow3); clear hown' hgrow3 hnil3))
          go_roundw
          case rel => exact REL.out
          case measure => simp [intOf]; omega
        by_cases q3 : kd = 3
        · subst q3
          go_wp2_with fail
          refine wp_loop_rounds 2 ?_
          rw [rounds_succ]
          go_wp2_with fail
          rw [rounds_succ]
          go_wp2_with (at_builtin; (refine wpList_append_own _ rfl _ _ 22 rfl w.heap.size 27 i (.agg #[.int .i64 0, .int .i64 0, .int .i64 0, .string ⟨#[]⟩]) 4 40 Tryz.underlying22 hi hz hsize hby rfl (by decide) _ _ _ rfl (hown.alloc _) ⟨wr.heap.size, 0, none⟩ 1 1 [.int .i64 3, .int .i64 A, .int .i64 B, .string S] rfl rfl (cell_four_new _ _ _ _ _ _) (by intro u hu; simp at hu; rcases hu with rfl | rfl | rfl | rfl <;> rfl) (by unfold maxLen; omega) (by omega) (by simp; omega) ?_; intro v' w3 hown' hgrow3 hnil3; have REL := hideq (play_push hls hlt hown hall hbel hok.out (Or.inr (Or.inr rfl)) hown' hgrow3); clear hown' hgrow3 hnil3))
          go_roundw
          case rel => exact REL.out
          case measure => simp [intOf]; omega
        have e1 : (kd == 1) = false := by simpa using q1
        have e2 : (kd == 2) = false := by simpa using q2
        have e3 : (kd == 3) = false := by simpa using q3
        go_wp2_with fail
        refine wp_loop_rounds 2 ?_
        rw [rounds_succ]
        go_wp2_with fail
        rw [rounds_succ]
        go_wp2_with fail
        go_roundw
        case rel => exact ⟨k + 1, ls, by omega, by simp, by omega, hown, hall, hbel⟩
        case measure => simp [intOf]; omega
      · obtain rfl : k = l.length := by omega
        have hsc := own_scr hown (by omega) (fun x hx => (hall x hx).1)
        go_wp2_with fail
        refine (UP.out wr _ ls hsc (by omega) (fun x hx => (hall x hx).2) hbel).mono ?_
        rintro e w2 ⟨rfl, hb2⟩
        go_wp2_with fail
        go_ret
        exact ⟨rfl, hbel.trans (hb2.mono hbel.size)⟩
end Go.Proofs.YtmepffenlgedbaaGreatDoor

/-
  pick: which of n things a raw number speaks of.
-/
set_option linter.unusedSimpArgs false
namespace Go.Proofs.YtmepffenlgedbaaGreatDoor
open Go.RowKit
open Go.Deep (BT)

def pickI (c : Int) (n : Nat) : Nat := if c < 0 then ((-(c + 1)) % (n : Int)).toNat else (c % (n : Int)).toNat

theorem pickI_lt (c : Int) (n : Nat) (hn : 0 < n) : pickI c n < n := by
  unfold pickI
  split
  · have := Int.emod_lt_of_pos (-(c + 1)) (show (0 : Int) < n by omega)
    omega
  · have := Int.emod_lt_of_pos c (show (0 : Int) < n by omega)
    omega

set_option maxHeartbeats 400000 in
theorem pick_any (c : Int) (n : Nat) (w : World) (h0 : -9223372036854775808 ≤ c) (h1 : c ≤ 9223372036854775807) (hn : 0 < n) (hm : n ≤ 4000000) :
    Calls Tryz.prog 60 #[.int .i64 c, .int .i64 n] w fun e w' => e = .returned (.int .i64 (pickI c n)) ∧ w = w' := by
  by_cases hc : c < 0
  · have e1 : -(c + 1).tmod (n : Int) = (pickI c n : Int) := by
      rw [pickI, if_pos hc, ← Int.neg_tmod, Int.tmod_eq_emod_of_nonneg (by omega), Int.toNat_of_nonneg (Int.emod_nonneg _ (by omega))]
    generalize pickI c n = i at *
    have E := hideq e1
    clear e1
    go_enter Tryz.func60, Tryz.ntmps60
    go_wp2_with fail
    go_ret
    exact ⟨ret_int E.out, rfl⟩
  · have e1 : c % (n : Int) = (pickI c n : Int) := by
      rw [pickI, if_neg hc, Int.toNat_of_nonneg (Int.emod_nonneg _ (by omega))]
    generalize pickI c n = i at *
    have E := hideq e1
    clear e1
    go_enter Tryz.func60, Tryz.ntmps60
    go_wp2_with fail
    go_ret
    exact ⟨ret_int E.out, rfl⟩
end Go.Proofs.YtmepffenlgedbaaGreatDoor

/-
  THE SCRIPT OPENED: a slice of steps among the arguments.
-/
set_option linter.unusedSimpArgs false
namespace Go.Proofs.YtmepffenlgedbaaGreatDoor
open Go.ChangeShapes Go.WideShapes Go.RowKit
open Go.Deep (open_slice choose_lt add_add)

theorem opFields : (Tryz.prog.underlying 27).map (fun t => match t with | .struct fs => fs.toList.map (fun f => (f.offset, f.type)) | _ => []) = some [(0, 3), (1, 3), (2, 3), (3, 9)] := by kernel_rfl
theorem opCells : Tryz.prog.cellsOf 27 = 4 := by kernel_rfl
theorem intCells : Tryz.prog.cellsOf 3 = 1 := by kernel_rfl
theorem stringCells : Tryz.prog.cellsOf 9 = 1 := by kernel_rfl

theorem opStruct : ∃ fs, Tryz.prog.underlying 27 = some (.struct fs) ∧ fs.toList.map (fun f => (f.offset, f.type)) = [(0, 3), (1, 3), (2, 3), (3, 9)] := by
  have h := opFields
  cases e : Tryz.prog.underlying 27 with
  | none => rw [e] at h; simp at h
  | some t =>
    rw [e] at h
    cases t <;> simp at h
    exact ⟨_, rfl, h⟩

section
variable {H : Type} {enc : TypeId × Value → H} {w : World} {base : Nat} {spare : Nat → Bool} {held : Bool}

set_option maxRecDepth 100000 in
theorem open_op {n : Nat} {cs : List Value} {x : DataW H × List MemPlace} (h : DataW.trod enc Tryz.prog w base spare held n 27 cs = some x) :
    ∃ s : Step, cs = [.int .i64 s.1, .int .i64 s.2.1, .int .i64 s.2.2.1, .string s.2.2.2] ∧ StepOk s := by
  obtain ⟨fs, he, hfs⟩ := opStruct
  obtain ⟨xs, k, _, _, hlen, hxl, hf⟩ := DataW.trod_struct he h
  rw [opCells] at hlen
  match cs, hlen with
  | [v0, v1, v2, v3], _ =>
    have hsz : fs.size = 4 := by
      have := congrArg List.length hfs
      simpa using this
    have get : ∀ (j : Nat) (o : Nat) (t : TypeId), [(0, 3), (1, 3), (2, 3), (3, 9)][j]? = some (o, t) → ∃ f, fs[j]? = some f ∧ f.offset = o ∧ f.type = t := by
      intro j o t hj
      rw [← hfs] at hj
      simp only [List.getElem?_map, Option.map_eq_some_iff] at hj
      obtain ⟨f, h1, h2⟩ := hj
      simp only [Prod.mk.injEq] at h2
      exact ⟨f, by simpa using h1, h2.1, h2.2⟩
    have val : ∀ j : Nat, j < 4 → ∃ y, xs[j]? = some y := fun j hj => ⟨xs[j], List.getElem?_eq_getElem (by omega)⟩
    obtain ⟨f0, g0, o0, t0⟩ := get 0 0 3 rfl
    obtain ⟨f1, g1, o1, t1⟩ := get 1 1 3 rfl
    obtain ⟨f2, g2, o2, t2⟩ := get 2 2 3 rfl
    obtain ⟨f3, g3, o3, t3⟩ := get 3 3 9 rfl
    obtain ⟨y0, e0⟩ := val 0 (by omega)
    obtain ⟨y1, e1⟩ := val 1 (by omega)
    obtain ⟨y2, e2⟩ := val 2 (by omega)
    obtain ⟨y3, e3⟩ := val 3 (by omega)
    have k0 := hf 0 f0 g0
    have k1 := hf 1 f1 g1
    have k2 := hf 2 f2 g2
    have k3 := hf 3 f3 g3
    rw [o0, t0, intCells, e0] at k0
    rw [o1, t1, intCells, e1] at k1
    rw [o2, t2, intCells, e2] at k2
    rw [o3, t3, stringCells, e3] at k3
    obtain ⟨a, ea, _, wa⟩ := DataW.trod_int Tryz.underlying3 k0
    obtain ⟨b, eb, _, wb⟩ := DataW.trod_int Tryz.underlying3 k1
    obtain ⟨c, ec, _, wc⟩ := DataW.trod_int Tryz.underlying3 k2
    obtain ⟨s, es, _, ws⟩ := DataW.trod_string Tryz.underlying9 k3
    simp at ea eb ec es
    subst ea eb ec es
    have ba := bounds_i64 wa
    have bb := bounds_i64 wb
    have bc := bounds_i64 wc
    exact ⟨(a, b, c, s), rfl, ⟨ba.1, ba.2, bb.1, bb.2, bc.1, bc.2, ws⟩⟩

theorem open_ops {n : Nat} {v : Value} {x : DataW H × List MemPlace} (h : DataW.trod enc Tryz.prog w base spare held n 22 [v] = some x) : ∃ l, ScrAt w v l := by
  rcases open_slice Tryz.underlying22 h with ⟨e, _⟩ | ⟨a, len, cap, m, k, D, Pl, e, hb, hl, hm, hmm, _, hx⟩
  · simp only [List.cons.injEq, and_true] at e
    subst e
    exact ⟨[], ⟨none, 0, rfl, Nat.le_refl _, Nat.zero_le _, Or.inl rfl⟩, fun x hx => by cases hx⟩
  · simp only [List.cons.injEq, and_true] at e
    subst e
    have hlm : len ≤ m := by rw [hmm]; split <;> omega
    have each : ∀ i, i < len → ∃ s : Step, StepOk s ∧ ∀ j u, [Value.int .i64 s.1, .int .i64 s.2.1, .int .i64 s.2.2.1, .string s.2.2.2][j]? = some u → w.cell? (a.add (i * 4 + j)) = some u := by
      intro i hi
      obtain ⟨cs', h1, h2⟩ := hx i (by omega)
      rw [opCells] at h1
      obtain ⟨_, hlen, hcell⟩ := World.cells?_some h1
      obtain ⟨s, rfl, hok⟩ := open_op h2
      refine ⟨s, hok, fun j u hj => ?_⟩
      have hj4 : j < 4 := (List.getElem?_eq_some_iff.1 hj).1
      rw [← add_add, hcell j hj4]
      exact hj
    obtain ⟨f, hf⟩ := choose_lt each
    have hlen : ((List.range len).map f).length = len := by simp
    refine ⟨(List.range len).map f, ⟨some a, cap, by rw [hlen], by rw [hlen]; exact hl, hm, ?_⟩, ?_⟩
    · rcases Nat.eq_zero_or_pos len with h0 | h0
      · exact Or.inl (by rw [h0]; rfl)
      · right
        obtain ⟨b, off, spot⟩ := a
        have c0 := (hf 0 h0).2 0 _ rfl
        have hspot : spot = none := by simpa [Addr.add] using World.cell?_spot c0
        subst hspot
        refine ⟨b, off, rfl, fun i hi => ?_⟩
        rw [hlen] at hi
        have hg : ((List.range len).map f)[i]'(by rw [hlen]; exact hi) = f i := by simp
        rw [hg]
        have q := (hf i hi).2
        refine ⟨?_, ?_, ?_, ?_⟩
        · simpa [add_plain, Nat.add_assoc] using q 0 _ rfl
        · simpa [add_plain, Nat.add_assoc] using q 1 _ rfl
        · simpa [add_plain, Nat.add_assoc] using q 2 _ rfl
        · simpa [add_plain, Nat.add_assoc] using q 3 _ rfl
    · intro s hs
      obtain ⟨i, hi, rfl⟩ := List.mem_map.1 hs
      exact (hf i (List.mem_range.1 hi)).1
end
end Go.Proofs.YtmepffenlgedbaaGreatDoor
