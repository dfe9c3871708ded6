/-
  THE WALKS of the reader's small methods: take, leaf, unary, operation, term.
-/
import Derived.Test.YtmepffenlgedbaaDoorWord
import Derived.Test.YtmepffenlgedbaaDoorParse
namespace Go.Proofs.YtmepffenlgedbaaDoor
open Go.RowKit


set_option maxHeartbeats 400000 in
theorem take_any (w : World) (rb g cap : Nat) (ws : List Rd.Wd) (st : Rd.St) (c : ByteArray) (h : Rdr w rb g cap ws st) (hn : st.next < 1000) :
    Calls Tryd.prog 46 #[.pointer (some ⟨rb, 0, none⟩), .string c] w fun e w' => e = .returned (.bool (Rd.tk ws st c)) ∧ Rdr w' rb g cap ws (bif Rd.tk ws st c then { st with next := st.next + 1 } else st) ∧ Keep rb w w' := by
  have key := word_any w rb g cap ws st h
  unfold wagg at key
  have HT : Hid (Rd.tk ws st c = ((!((Rd.wordAt ws st.next).kind == 0)) && ((Rd.wordAt ws st.next).text.toList == c.toList))) := by
    show _ = _
    rw [Rd.isT_eq, ByteArray.toList_eq]; rfl
  generalize Rd.wordAt ws st.next = x at *
  have KEY : Hid (Calls Tryd.prog 37 #[.pointer (some ⟨rb, 0, none⟩)] w fun e w' => e = .returned (.agg #[.int .i64 x.kind, .string x.text, .int .i64 x.pos]) ∧ Below w.heap.size w w') := key
  clear key
  cases t1 : (x.kind == 0)
  all_goals cases t2 : (x.text.toList == c.toList)
  all_goals
    go_enter Tryd.func46, Tryd.ntmps46
    go_wp2_with fail
    refine (KEY.out).mono ?_
    rintro e w1 ⟨rfl, hb⟩
    have h1 := h.below hb
    have d1 := h1.c1
    have f1 := h1.fz 1
    have l1 := h1.lt
    go_wp2_with fail
    go_ret
    rw [HT.out, t1, t2]
  · exact ⟨rfl, h1.alloc _, (Keep.of_below hb).alloc _⟩
  · exact ⟨rfl, (h1.set1 (st.next + 1) (by simp)).alloc _, ((Keep.of_below hb).setCell 1 _).alloc _⟩
  · exact ⟨rfl, h1.alloc _, (Keep.of_below hb).alloc _⟩
  · exact ⟨rfl, h1.alloc _, (Keep.of_below hb).alloc _⟩


set_option maxHeartbeats 400000 in
theorem leaf_any (w : World) (rb g cap : Nat) (ws : List Rd.Wd) (st : Rd.St) (v : Value) (h : Rdr w rb g cap ws st) (hn : st.ok) :
    Calls Tryd.prog 63 #[.pointer (some ⟨rb, 0, none⟩), v] w fun e w' => e = .returned v ∧ Rdr w' rb g cap ws st.leaf ∧ Keep rb w w' := by
  obtain ⟨b1, b2, b3, b4⟩ := hn
  have d2 := h.c2
  have d3 := h.c3
  have d4 := h.c4
  have f3 := h.fz 3
  have f4 := h.fz 4
  have l1 := h.lt
  by_cases t : (st.deepest : Int) < st.around
  · go_enter Tryd.func63, Tryd.ntmps63
    go_wp2_with fail
    go_quiet (fail)
    go_wp2_with fail
    go_ret
    have e : st.leaf = { { st with nodes := st.nodes + 1 } with deepest := st.around } := by simp [Rd.St.leaf, show st.deepest < st.around by omega]
    rw [e]
    exact ⟨rfl, ((h.set4 (st.nodes + 1) (by simp)).drewN _).set3 st.around rfl, (((Keep.refl _ _).setCell 4 _).drewN _).setCell 3 _⟩
  · go_enter Tryd.func63, Tryd.ntmps63
    go_wp2_with fail
    go_quiet (fail)
    go_wp2_with fail
    go_ret
    have e : st.leaf = { st with nodes := st.nodes + 1 } := by simp [Rd.St.leaf, show ¬ st.deepest < st.around by omega]
    rw [e]
    exact ⟨rfl, (h.set4 (st.nodes + 1) (by simp)).drewN _, ((Keep.refl _ _).setCell 4 _).drewN _⟩

set_option maxHeartbeats 400000 in
theorem unary_nil (w : World) (r : Value) (kd : Int) :
    Calls Tryd.prog 57 #[r, .int .i64 kd, .pointer none] w fun e w' => e = .returned (.pointer none) ∧ w = w' := by
  go_enter Tryd.func57, Tryd.ntmps57
  go_wp2_with fail
  go_ret
  exact ⟨rfl, rfl⟩

theorem cells_new (w : World) (o : Obj) : (w.alloc o).heap[w.heap.size]? = some o := by
  show (w.heap.push o)[w.heap.size]? = some o
  simp

theorem size_set (w : World) (a : Addr) (u : Value) : (w.setCell a u).heap.size = w.heap.size := by simp [World.setCell]

set_option maxHeartbeats 400000 in
theorem unary_some (w : World) (rb g cap : Nat) (ws : List Rd.Wd) (st : Rd.St) (kd : Int) (a : Addr) (h : Rdr w rb g cap ws st) (hn : st.ok) :
    Calls Tryd.prog 57 #[.pointer (some ⟨rb, 0, none⟩), .int .i64 kd, .pointer (some a)] w fun e w' => e = .returned (.pointer (some ⟨w.heap.size, 0, none⟩)) ∧ Rdr w' rb g cap ws st.node ∧ Keep rb w w' ∧
      w'.heap[w.heap.size]? = some (.cells #[.int .i64 kd, .int .i64 0, .slice none 0 0, .pointer (some a), .pointer none] 74 (0, 0)) := by
  obtain ⟨b1, b2, b3, b4⟩ := hn
  have d4 := h.c4
  have f4 := h.fz 4
  have l1 := h.lt
  go_enter Tryd.func57, Tryd.ntmps57
  go_wp2_with fail
  go_ret
  refine ⟨rfl, (h.set4 (st.nodes + 1) (by simp)).alloc _, ((Keep.refl _ _).setCell 4 _).alloc _, ?_⟩
  rw [← size_set w ⟨rb, 4, none⟩ (.int .i64 (st.nodes + 1))]
  exact cells_new _ _

set_option maxHeartbeats 400000 in
theorem operation_nil (w : World) (r l : Value) (kd : Int) :
    Calls Tryd.prog 47 #[r, .int .i64 kd, l, .pointer none] w fun e w' => e = .returned (.pointer none) ∧ w = w' := by
  go_enter Tryd.func47, Tryd.ntmps47
  go_wp2_with fail
  go_ret
  exact ⟨rfl, rfl⟩

set_option maxHeartbeats 400000 in
theorem operation_some (w : World) (rb g cap : Nat) (ws : List Rd.Wd) (st : Rd.St) (kd : Int) (a b : Addr) (h : Rdr w rb g cap ws st) (hn : st.ok) :
    Calls Tryd.prog 47 #[.pointer (some ⟨rb, 0, none⟩), .int .i64 kd, .pointer (some a), .pointer (some b)] w fun e w' => e = .returned (.pointer (some ⟨w.heap.size, 0, none⟩)) ∧ Rdr w' rb g cap ws st.node ∧ Keep rb w w' ∧
      w'.heap[w.heap.size]? = some (.cells #[.int .i64 kd, .int .i64 0, .slice none 0 0, .pointer (some a), .pointer (some b)] 74 (0, 0)) := by
  obtain ⟨b1, b2, b3, b4⟩ := hn
  have d4 := h.c4
  have f4 := h.fz 4
  have l1 := h.lt
  go_enter Tryd.func47, Tryd.ntmps47
  go_wp2_with fail
  go_ret
  refine ⟨rfl, (h.set4 (st.nodes + 1) (by simp)).alloc _, ((Keep.refl _ _).setCell 4 _).alloc _, ?_⟩
  rw [← size_set w ⟨rb, 4, none⟩ (.int .i64 (st.nodes + 1))]
  exact cells_new _ _

end Go.Proofs.YtmepffenlgedbaaDoor
