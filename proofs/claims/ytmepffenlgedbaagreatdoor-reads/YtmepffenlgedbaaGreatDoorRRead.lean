/-
  THE WALK of realstree.Read: its answer is the parser's.
-/
import Derived.Test.YtmepffenlgedbaaGreatDoorRTree7
import Derived.Test.YtmepffenlgedbaaGreatDoorFacts
import Derived.Test.YtmepffenlgedbaaGreatDoorSame
import Derived.Test.YtmepffenlgedbaaGreatDoorExpr
import Derived.Deep.RegionWith
set_option linter.unusedSimpArgs false
namespace Go.Proofs.YtmepffenlgedbaaGreatDoor
open Go.RowKit

/-- What the plain list of states says, out of the parser's answer. -/
theorem ref_stops {ws : List Rd.Wd} {n f : Nat} (hw : WsAll ws n) {res : Option Rd.Tr} {st : Rd.St} (hp : Rd.parse ws f 0 none ⟨0, 0, 0, 0⟩ = some (res, st)) :
    (res = none → Rd.Stops ws 0 0 true (false, st.next)) ∧ (∀ t, res = some t → (Rd.txt ws st.next == []) = false → Rd.Stops ws 0 0 true (false, st.next)) ∧ (∀ t, res = some t → (Rd.txt ws st.next == []) = true → Rd.Stops ws 0 0 true (true, st.next)) := by
  obtain ⟨g, nop⟩ := (Rd.E1_all hw.kind f).sum none ⟨0, 0, 0, 0⟩ res st hp 0
  refine ⟨fun h => ?_, fun t h hx => ?_, fun t h hx => ?_⟩
  · subst h; exact g
  · subst h
    exact g _ (Rd.stops_bad2 (nop rfl) (by simp) (Or.inr hx))
  · subst h
    exact g _ (Rd.stops_end (Rd.beq_of hx))

theorem kind_zero {ws : List Rd.Wd} (hk : Rd.KindOk ws) (n : Nat) : ((Rd.wordAt ws n).kind == 0) = (Rd.txt ws n == []) := by
  rw [hk]
  cases h : Rd.txt ws n with
  | nil => rfl
  | cons b r =>
    simp only [Rd.kd, Rd.kindOf]
    cases Rd.isDig (b.toNat : Int) <;> cases Rd.isLet (b.toNat : Int) <;> rfl

/-- The tree by last operations, out of the parser's answer. -/
theorem ref_tree {ws : List Rd.Wd} {n f : Nat} (hw : WsAll ws n) {t : Rd.Tr} {st : Rd.St} (hp : Rd.parse ws f 0 none ⟨0, 0, 0, 0⟩ = some (some t, st)) : ∃ g, Rd.rtree ws g 0 st.next 0 (0, 0) = some (t, (st.deepest, st.nodes)) := by
  obtain ⟨M, N, g, e⟩ := (Rd.E2_all hw.kind f).sum none ⟨0, 0, 0, 0⟩ t st hp
  obtain ⟨k, hk⟩ := g.tree 0 0
  refine ⟨k, ?_⟩
  have e1 := e.deepest
  have e2 := e.nodes
  simp only at e1 e2
  rw [e1, e2]
  exact hk

def RReadPost (w : World) (x : Option Rd.Tr × Int × Int) (e : Ending) (w' : World) : Prop :=
  ∃ sb v, e = .returned (.tuple #[v, .int .i64 x.2.1, .int .i64 x.2.2]) ∧ w.heap.size ≤ sb ∧ (match x.1 with | none => v = .pointer none | some t => REnc sb w' t v) ∧ Below w.heap.size w w'

set_option maxRecDepth 100000 in
set_option maxHeartbeats 1000000 in
theorem rread_long (s : ByteArray) (w : World) (hm : s.size ≤ maxLen) (hs : 120 < s.size) : Calls Tryz.prog 15 #[.string s] w (RReadPost w (none, 1, 0)) := by
  unfold maxLen at hm
  go_enter Tryz.func15, Tryz.ntmps15
  go_wp2_with fail
  go_ret3
  exact ⟨_, _, rfl, Nat.le_refl _, rfl, Below.refl _ _⟩

/-- The words in a box, the reader over them. -/
theorem rrd_of {w w1 : World} {ws : List Rd.Wd} {v : Value} (hp : 0 < ws.length) (hown : w1.ownsRow w.heap.size 53 2 v ws.length (Rd.rcells ws)) : ∃ g cap, v = .slice (some ⟨g, 0, none⟩) ws.length cap ∧ w.heap.size ≤ g ∧ RowAt w1 g ws := by
  rcases hown.2 with ⟨_, h⟩ | ⟨g, cap, cur, h1, h2, h3, _, _, _, h4⟩
  · omega
  · exact ⟨g, cap, h1, h2, cur, h3, h4⟩

set_option maxRecDepth 100000 in
set_option maxHeartbeats 1000000 in
theorem rread_no (s : ByteArray) (w : World) (ws : List Rd.Wd) (hws : ws = Rd.split s (s.size + 1) 0) (hs : s.size ≤ 120) (n k m : Nat) (hw : WsAll ws n) (hn : n ≤ 120) (hst : Rd.follows ws k 0 0 true = some (false, m)) (hm : m < ws.length) :
    Calls Tryz.prog 15 #[.string s] w (RReadPost w (none, 2, (Rd.wordAt ws m).pos)) := by
  have WP := hide1 (rwords_any s w hs)
  rw [← hws] at WP
  clear hws
  have hpos := hw.pos
  have hlen : ws.length ≤ 121 := by have := hw.len; omega
  have HW := hide1 hw
  have HST := hide1 hst
  clear hw hst
  go_enter Tryz.func15, Tryz.ntmps15
  go_wp2_with fail
  refine (WP.out).mono ?_
  rintro e w1 ⟨v, rfl, hown, hb⟩
  obtain ⟨g, cap, hv, hg, hRow⟩ := rrd_of hpos hown
  rw [hv]
  clear hv hown
  have hsz := hb.size
  have hgl := RowAt.lt hRow
  have hR2 : RRd (w1.alloc (.cells #[.slice (some ⟨g, 0, none⟩) ws.length cap, .int .i64 0] 50)) w1.heap.size g cap ws 0 := by
    obtain ⟨cur, r1, r2⟩ := hRow
    exact ⟨cells_new _ _, ⟨cur, (Below.heap_alloc _ _ _ hgl).trans r1, r2⟩, by omega⟩
  have hb2 : Below w.heap.size w (w1.alloc (.cells #[.slice (some ⟨g, 0, none⟩) ws.length cap, .int .i64 0] 50)) := hb.alloc hsz _
  go_wp2_with fail
  refine (rfollows_any _ _ g cap ws k (false, m) hR2 hlen HW.out.ends HW.out.dig HST.out).mono ?_
  rintro e w3 ⟨rfl, hR3, hK3⟩
  have d0 := hR3.c0
  have d1 := hR3.c1
  obtain ⟨_, d2⟩ := row_cells hR3.row m hm
  have hb3 := below_keep hb2 hK3 (by omega) hb2.size
  clear hb2 hK3 hR2 hR3 hRow
  go_wp2_with fail
  go_quiet (fail)
  go_wp2_with fail
  go_ret3
  exact ⟨w.heap.size, _, rfl, Nat.le_refl _, rfl, below_drewN hb3 _⟩

theorem keep_undrew {rb : Nat} {w w' : World} (h : Keep rb w.drew w') : Keep rb w w' := ⟨h.os, h.tape, h.output, h.size, h.block⟩

set_option maxRecDepth 100000 in
set_option maxHeartbeats 1000000 in
theorem rread_yes (s : ByteArray) (w : World) (ws : List Rd.Wd) (hws : ws = Rd.split s (s.size + 1) 0) (hs : s.size ≤ 120) (n k f : Nat) (hw : WsAll ws n) (hn : n ≤ 120) (t : Rd.Tr) (dp nd : Nat) (hst : Rd.follows ws k 0 0 true = some (true, ws.length - 1)) (htr : Rd.rtree ws f 0 (ws.length - 1) 0 (0, 0) = some (t, (dp, nd))) (hnd : nd ≤ 1000) (hdp : dp ≤ 1000) :
    Calls Tryz.prog 15 #[.string s] w (RReadPost w (bif decide (12 < dp) || decide (40 < nd) then (none, 3, 0) else (some t, 0, 0))) := by
  have WP := hide1 (rwords_any s w hs)
  rw [← hws] at WP
  clear hws
  have hpos := hw.pos
  have hlen : ws.length ≤ 121 := by have := hw.len; omega
  have HW := hide1 hw
  have HST := hide1 hst
  clear hw hst
  go_enter Tryz.func15, Tryz.ntmps15
  go_wp2_with fail
  refine (WP.out).mono ?_
  rintro e w1 ⟨v, rfl, hown, hb⟩
  obtain ⟨g, cap, hv, hg, hRow⟩ := rrd_of hpos hown
  rw [hv]
  clear hv hown
  have hsz := hb.size
  have hgl := RowAt.lt hRow
  have hR2 : RRd (w1.alloc (.cells #[.slice (some ⟨g, 0, none⟩) ws.length cap, .int .i64 0] 50)) w1.heap.size g cap ws 0 := by
    obtain ⟨cur, r1, r2⟩ := hRow
    exact ⟨cells_new _ _, ⟨cur, (Below.heap_alloc _ _ _ hgl).trans r1, r2⟩, by omega⟩
  have hb2 : Below w.heap.size w (w1.alloc (.cells #[.slice (some ⟨g, 0, none⟩) ws.length cap, .int .i64 0] 50)) := hb.alloc hsz _
  go_wp2_with fail
  refine (rfollows_any _ _ g cap ws k (true, ws.length - 1) hR2 hlen HW.out.ends HW.out.dig HST.out).mono ?_
  rintro e w3 ⟨rfl, hR3, hK3⟩
  have d0 := hR3.c0
  have hl3 := hR3.lt
  have hg3 := hR3.glt
  have hRow3 : RowAt w3 g ws := hR3.row
  have hb3 := below_keep hb2 hK3 (by omega) hb2.size
  have hsz3 := hb3.size
  have HTR := hide1 htr
  have hne : g ≠ w3.heap.size := by omega
  have hS4 : Shp (w3.alloc (.cells #[.int .i64 0, .int .i64 0] 56)) w3.heap.size (0, 0) := cells_new _ _
  have hRow4 : RowAt (w3.alloc (.cells #[.int .i64 0, .int .i64 0] 56)) g ws := hRow3.keep ((Keep.refl w3.heap.size _).alloc _) hne
  have TS := hide1 (tree_said w3.heap.size g cap ws hlen hne HW.out.dig f)
  clear hb2 hK3 hR2 hR3 hRow hRow3 htr
  go_wp2_with fail
  go_region_with (go_at_call 25; refine (TS.out _ 0 (ws.length - 1) 0 (0, 0) t (dp, nd) _ _ _ rfl (by first | omega | (rw [IntKind.wrap_i64]; omega)) rfl ?_ ?_ HTR.out hnd (by omega)).mono ?_; exact hS4; exact hRow4; rintro e w5 ⟨v5, rfl, hE5, hS5, hK5⟩; obtain ⟨b5, hv5⟩ := hE5.ptr; rw [hv5]; rw [hv5] at hE5; clear hv5)
  all_goals
    have x0 : w5.cell? ⟨w3.heap.size, 0, none⟩ = some (.int .i64 dp) := cell_of_block hS5 rfl
    have x1 : w5.cell? ⟨w3.heap.size, 1, none⟩ = some (.int .i64 nd) := cell_of_block hS5 rfl
    have hb5 : Below w.heap.size w w5 := below_keep (hb3.alloc hsz3 _) (keep_undrew hK5) hsz3 (by simp; omega)
    by_cases u1 : (12 : Int) < dp
    · go_wp2_with fail
      go_ret3
      rw [decide_eq_true (show 12 < dp by omega)]
      exact ⟨w3.heap.size, _, rfl, hsz3, rfl, hb5⟩
    · by_cases u2 : (40 : Int) < nd
      · go_wp2_with fail
        go_ret3
        rw [decide_eq_false (show ¬ 12 < dp by omega), decide_eq_true (show 40 < nd by omega)]
        exact ⟨w3.heap.size, _, rfl, hsz3, rfl, hb5⟩
      · go_wp2_with fail
        go_ret3
        rw [decide_eq_false (show ¬ 12 < dp by omega), decide_eq_false (show ¬ 40 < nd by omega)]
        exact ⟨w3.heap.size, _, rfl, hsz3, hE5, hb5⟩

/-- THE DOCUMENT'S ANSWER IS THE PARSER'S: realstree.Read, whatever the text. -/
theorem rread_any (s : ByteArray) (w : World) (hm : s.size ≤ maxLen) : ∃ x, Rd.read 1300 s = some x ∧ Calls Tryz.prog 15 #[.string s] w (RReadPost w x) := by
  by_cases hs : 120 < s.size
  · exact ⟨(none, 1, 0), by unfold Rd.read; rw [decide_eq_true hs]; rfl, rread_long s w hm hs⟩
  · have hw := split_all s
    have hl : (Rd.split s (s.size + 1) 0).length ≤ 121 := by have := hw.len; omega
    obtain ⟨res, st, hp, hr⟩ := Rd.parse_total hw.endk hl hw.pos
    obtain ⟨s1, s2, s3⟩ := ref_stops hw hp
    have hlt := hr.inv.next
    have hrd : Rd.read 1300 s = (match some (res, st) with
      | none => none
      | some (none, st) => some (none, 2, ((Rd.wordAt (Rd.split s (s.size + 1) 0) st.next).pos : Int))
      | some (some t, st) =>
        bif (Rd.wordAt (Rd.split s (s.size + 1) 0) st.next).kind == 0 then
          bif decide (12 < st.deepest) || decide (40 < st.nodes) then some (none, 3, 0) else some (some t, 0, 0)
        else some (none, 2, ((Rd.wordAt (Rd.split s (s.size + 1) 0) st.next).pos : Int))) := by
      unfold Rd.read
      rw [decide_eq_false hs, hp]
      rfl
    cases res with
    | none =>
      obtain ⟨k, hk⟩ := s1 rfl
      exact ⟨_, hrd, rread_no s w _ rfl (by omega) s.size k st.next hw (by omega) hk hlt⟩
    | some t =>
      simp only at hrd
      rw [kind_zero hw.kind] at hrd
      cases hx : (Rd.txt (Rd.split s (s.size + 1) 0) st.next == []) with
      | false =>
        obtain ⟨k, hk⟩ := s2 t rfl hx
        rw [hx] at hrd
        exact ⟨_, hrd, rread_no s w _ rfl (by omega) s.size k st.next hw (by omega) hk hlt⟩
      | true =>
        obtain ⟨k, hk⟩ := s3 t rfl hx
        obtain ⟨f, hf⟩ := ref_tree hw hp
        have hend := hw.end1 st.next hlt (Rd.beq_of hx)
        rw [hend] at hk hf
        rw [hx] at hrd
        simp only [cond_true] at hrd
        have i1 := hr.inv.nodes
        have i2 := hr.inv.deepest
        refine ⟨_, hrd.trans ?_, rread_yes s w _ rfl (by omega) s.size k f hw (by omega) t st.deepest st.nodes hk hf (by omega) (by omega)⟩
        cases decide (12 < st.deepest) || decide (40 < st.nodes) <;> rfl

end Go.Proofs.YtmepffenlgedbaaGreatDoor
