/-
  THE WALKS of the program's (Node).Text, textOfRank, (Expr).Text.
-/
import Derived.Test.YtmepffenlgedbaaDoorTText2
import Derived.BigQuiet
set_option linter.unusedSimpArgs false
namespace Go.Proofs.YtmepffenlgedbaaDoor
open Go.RowKit
open Go.Deep (BT)

def TxtPost (w : World) (l : List UInt8) (e : Ending) (w' : World) : Prop := ∃ s : ByteArray, e = .returned (.string s) ∧ Str s l ∧ Below w.heap.size w w'

theorem wf_kind {t : Rd.Tr} (h : Rd.Wf t) : 1 ≤ Rd.kindT t ∧ Rd.kindT t ≤ 13 := by
  cases t with
  | nil => exact h.elim
  | node p q a l r =>
    simp only [Rd.kindT]
    rcases h with ⟨h1, _⟩ | ⟨h1, _⟩ | ⟨h1, _⟩ | ⟨h1, _⟩ | ⟨h1, _⟩ <;> omega

theorem enc_head {rb : Nat} {w : World} {t : Rd.Tr} {v : Value} (h : Enc rb w t v) (hw : Rd.Wf t) : ∃ b, v = .pointer (some ⟨b, 0, none⟩) ∧ b < w.heap.size ∧ w.cell? ⟨b, 0, none⟩ = some (.int .i64 (Rd.kindT t)) := by
  cases t with
  | nil => exact hw.elim
  | node p q a l r =>
    obtain ⟨b, tv, lv, rv, h1, h2, h3, _⟩ := h
    exact ⟨b, h1, heap_lt h3, cell_of_block h3 rfl⟩

set_option maxRecDepth 100000 in
set_option maxHeartbeats 1000000 in
theorem ofRank_of (rb : Nat) (t : Rd.Tr) (v : Value) (least : Int) (w : World) (hE : Enc rb w t v) (hw : Rd.Wf t) (hlen : (Rd.text t).length ≤ 1000000) (hT : Calls Tryd.prog 28 #[v] w (TxtPost w (Rd.text t))) :
    Calls Tryd.prog 40 #[v, .int .i64 least] w (TxtPost w (Rd.brk (decide (Rd.rankK (Rd.kindT t) < least)) (Rd.text t))) := by
  obtain ⟨b, rfl, hb, hc⟩ := enc_head hE hw
  have hk := wf_kind hw
  have HT := hidp hT
  clear hT hE hw
  generalize Rd.kindT t = k at *
  generalize Rd.text t = x at *
  have RK := hidp (trank_any k hk)
  generalize hr : Rd.rankK k = r at *
  clear hr hk
  by_cases hrl : r < least
  · rw [decide_eq_true hrl]
    go_enter Tryd.func40, Tryd.ntmps40
    go_wp2_with fail
    refine (HT.out).mono ?_
    rintro e w1 ⟨s, rfl, hS, hb1⟩
    have hc1 : w1.cell? ⟨b, 0, none⟩ = some (.int .i64 k) := by rw [hb1.cell (by exact hb)]; exact hc
    have hsz : s.size ≤ 1000000 := by rw [hS.size]; exact hlen
    have HS := hidp hS
    clear hS
    go_wp2_with (go_at_call 42; refine (RK.out _).mono ?_; rintro e w2 ⟨rfl, rfl⟩)
    go_ret
    exact ⟨_, rfl, (((Str.mk' [40]).app HS.out).app (Str.mk' [41])).to (by simp [Rd.brk]), hb1⟩
  · rw [decide_eq_false hrl]
    go_enter Tryd.func40, Tryd.ntmps40
    go_wp2_with fail
    refine (HT.out).mono ?_
    rintro e w1 ⟨s, rfl, hS, hb1⟩
    have hc1 : w1.cell? ⟨b, 0, none⟩ = some (.int .i64 k) := by rw [hb1.cell (by exact hb)]; exact hc
    have HS := hidp hS
    clear hS
    have hrl' : least ≤ r := by omega
    go_wp2_with (go_at_call 42; refine (RK.out _).mono ?_; rintro e w2 ⟨rfl, rfl⟩)
    go_ret
    exact ⟨_, rfl, HS.out, hb1⟩

set_option maxRecDepth 100000 in
set_option maxHeartbeats 1000000 in
theorem text_num (b : Nat) (w : World) (x : Int) (hx : Rd.numOk x) (tv lv rv : Value) (h : w.heap[b]? = some (.cells #[.int .i64 1, .int .i64 x, tv, lv, rv] 74 (0, 0))) (ht : Tab w) :
    Calls Tryd.prog 28 #[.pointer (some ⟨b, 0, none⟩)] w (TxtPost w (Rd.dec x)) := by
  have c0 : w.cell? ⟨b, 0, none⟩ = some (.int .i64 1) := cell_of_block h rfl
  have c1 : w.cell? ⟨b, 1, none⟩ = some (.int .i64 x) := cell_of_block h rfl
  have HX := hidp hx
  have HT := hidp ht
  clear hx ht h
  go_enter Tryd.func28, Tryd.ntmps28
  go_wp2_with (go_at_call 38; refine (itoa_any _ HX.out _ HT.out).mono ?_; rintro e w1 ⟨u, rfl, hu, husz, hb1⟩)
  go_ret
  exact ⟨_, rfl, ⟨hu⟩, hb1⟩

set_option maxRecDepth 100000 in
set_option maxHeartbeats 1000000 in
theorem text_const (b : Nat) (w : World) (k : Int) (hk : k = 2 ∨ k = 3) (x tv lv rv : Value) (h : w.heap[b]? = some (.cells #[.int .i64 k, x, tv, lv, rv] 74 (0, 0))) :
    Calls Tryd.prog 28 #[.pointer (some ⟨b, 0, none⟩)] w (TxtPost w (Rd.sym k)) := by
  have c0 : w.cell? ⟨b, 0, none⟩ = some (.int .i64 k) := cell_of_block h rfl
  clear h
  rcases hk with rfl | rfl
  all_goals
    go_enter Tryd.func28, Tryd.ntmps28
    go_wp2_with (go_at_call 41; refine (tsymbol_any _ (by decide) _).mono ?_; rintro e w2 ⟨rfl, rfl⟩)
    go_ret
    exact ⟨_, rfl, Str.mk' _, Below.refl _ _⟩

set_option maxRecDepth 100000 in
set_option maxHeartbeats 1000000 in
theorem text_cf (rb b : Nat) (w : World) (ts : List Int) (x tv lv rv : Value) (h : w.heap[b]? = some (.cells #[.int .i64 4, x, tv, lv, rv] 74 (0, 0))) (hts : TermsAt rb w ts tv) (hl : 2 ≤ ts.length) (hl9 : ts.length ≤ 9) (hok : ∀ x ∈ ts, Rd.numOk x) (ht : Tab w) :
    Calls Tryd.prog 28 #[.pointer (some ⟨b, 0, none⟩)] w (TxtPost w (Rd.termsTxt ts)) := by
  have c0 : w.cell? ⟨b, 0, none⟩ = some (.int .i64 4) := cell_of_block h rfl
  have c2 : w.cell? ⟨b, 2, none⟩ = some tv := cell_of_block h rfl
  have TT := hidp (termsText_any rb w ts tv hts hl hl9 hok ht)
  rcases hts with ⟨h, _⟩ | ⟨tb, cap, cur, rfl, _⟩
  · rw [h] at hl; simp at hl
  clear h hok ht
  go_enter Tryd.func28, Tryd.ntmps28
  go_wp2_with (go_at_call 39; refine (TT.out).mono ?_; rintro e w1 ⟨u, rfl, hu, hb1⟩)
  go_ret
  exact ⟨_, rfl, hu, hb1⟩

set_option maxRecDepth 100000 in
set_option maxHeartbeats 1000000 in
theorem text_minus (b lb : Nat) (w : World) (l : List UInt8) (x tv rv : Value) (h : w.heap[b]? = some (.cells #[.int .i64 5, x, tv, .pointer (some ⟨lb, 0, none⟩), rv] 74 (0, 0))) (hlen : l.length ≤ 1000010)
    (hT : Calls Tryd.prog 40 #[.pointer (some ⟨lb, 0, none⟩), .int .i64 3] w (TxtPost w l)) :
    Calls Tryd.prog 28 #[.pointer (some ⟨b, 0, none⟩)] w (TxtPost w (45 :: l)) := by
  have c0 : w.cell? ⟨b, 0, none⟩ = some (.int .i64 5) := cell_of_block h rfl
  have c3 : w.cell? ⟨b, 3, none⟩ = some (.pointer (some ⟨lb, 0, none⟩)) := cell_of_block h rfl
  have HT := hidp hT
  clear h hT
  go_enter Tryd.func28, Tryd.ntmps28
  go_wp2_with (go_at_call 40; refine (HT.out).mono ?_; rintro e w1 ⟨u, rfl, hu, hb1⟩; have hsz : u.size ≤ 1000010 := by (rw [hu.size]; exact hlen))
  go_ret
  exact ⟨_, rfl, (Str.mk' [45]).app hu, hb1⟩

set_option maxRecDepth 100000 in
set_option maxHeartbeats 1000000 in
theorem text_fn (b lb : Nat) (w : World) (k : Int) (hk : k = 10 ∨ k = 11 ∨ k = 12 ∨ k = 13) (l : List UInt8) (x tv rv : Value) (h : w.heap[b]? = some (.cells #[.int .i64 k, x, tv, .pointer (some ⟨lb, 0, none⟩), rv] 74 (0, 0))) (hlen : l.length ≤ 1000010)
    (hT : Calls Tryd.prog 28 #[.pointer (some ⟨lb, 0, none⟩)] w (TxtPost w l)) :
    Calls Tryd.prog 28 #[.pointer (some ⟨b, 0, none⟩)] w (TxtPost w (Rd.sym k ++ 40 :: (l ++ [41]))) := by
  have c0 : w.cell? ⟨b, 0, none⟩ = some (.int .i64 k) := cell_of_block h rfl
  have c3 : w.cell? ⟨b, 3, none⟩ = some (.pointer (some ⟨lb, 0, none⟩)) := cell_of_block h rfl
  have hbl := heap_lt h
  have HT := hidp hT
  clear h hT
  have hk' : 2 ≤ k ∧ k ≤ 13 := by omega
  have SY := hidp (tsymbol_any k hk')
  generalize hsy : (⟨(Rd.sym k).toArray⟩ : ByteArray) = sy at SY
  have hS : Str sy (Rd.sym k) := by rw [← hsy]; exact Str.mk' _
  have hsysz : sy.size ≤ 4 := by rw [hS.size]; exact Rd.sym_len k
  have HS := hidp hS
  clear hS hsy hk'
  rcases hk with rfl | rfl | rfl | rfl
  all_goals
    go_enter Tryd.func28, Tryd.ntmps28
    go_wp2_with fail
    refine (HT.out).mono ?_
    rintro e w1 ⟨u, rfl, hu, hb1⟩
    have hsz : u.size ≤ 1000010 := by rw [hu.size]; exact hlen
    rw [← hb1.cell (p := ⟨b, 0, none⟩) hbl] at c0
    have HU := hidp hu
    clear hu
    go_wp2_with (go_at_call 41; refine (SY.out _).mono ?_; rintro e w2 ⟨rfl, rfl⟩)
    go_ret
    exact ⟨_, rfl, (((HS.out.app (Str.mk' [40])).app HU.out).app (Str.mk' [41])).to (by simp), hb1⟩

set_option maxRecDepth 100000 in
set_option maxHeartbeats 1000000 in
theorem text_op (b lb qb : Nat) (w : World) (k r : Int) (hr : Rd.rankK k = r) (hk : k = 6 ∨ k = 7 ∨ k = 8 ∨ k = 9) (l m : List UInt8) (x tv : Value) (h : w.heap[b]? = some (.cells #[.int .i64 k, x, tv, .pointer (some ⟨lb, 0, none⟩), .pointer (some ⟨qb, 0, none⟩)] 74 (0, 0))) (hl : l.length ≤ 1000010) (hm : m.length ≤ 1000010)
    (hL : Calls Tryd.prog 40 #[.pointer (some ⟨lb, 0, none⟩), .int .i64 r] w (TxtPost w l))
    (hR : ∀ w1, Below w.heap.size w w1 → Calls Tryd.prog 40 #[.pointer (some ⟨qb, 0, none⟩), .int .i64 (r + 1)] w1 (TxtPost w1 m)) :
    Calls Tryd.prog 28 #[.pointer (some ⟨b, 0, none⟩)] w (TxtPost w (l ++ 32 :: (Rd.sym k ++ 32 :: m))) := by
  have c0 : w.cell? ⟨b, 0, none⟩ = some (.int .i64 k) := cell_of_block h rfl
  have c3 : w.cell? ⟨b, 3, none⟩ = some (.pointer (some ⟨lb, 0, none⟩)) := cell_of_block h rfl
  have c4 : w.cell? ⟨b, 4, none⟩ = some (.pointer (some ⟨qb, 0, none⟩)) := cell_of_block h rfl
  have hbl := heap_lt h
  have HL := hidp hL
  have HR := hidp hR
  clear h hL hR
  have hk' : 2 ≤ k ∧ k ≤ 13 := by omega
  have SY := hidp (tsymbol_any k hk')
  have RK := hidp (trank_any k (by omega))
  rw [hr] at RK
  have hr2 : 1 ≤ r ∧ r ≤ 2 := by rw [← hr]; rcases hk with rfl | rfl | rfl | rfl <;> decide
  obtain ⟨hr3, hr4⟩ := hr2
  clear hr
  generalize hsy : (⟨(Rd.sym k).toArray⟩ : ByteArray) = sy at SY
  have hS : Str sy (Rd.sym k) := by rw [← hsy]; exact Str.mk' _
  have hsysz : sy.size ≤ 4 := by rw [hS.size]; exact Rd.sym_len k
  have HS := hidp hS
  clear hS hsy hk'
  rcases hk with rfl | rfl | rfl | rfl
  all_goals
    go_enter Tryd.func28, Tryd.ntmps28
    go_wp2_with (go_at_call 42; refine (RK.out _).mono ?_; rintro e w2 ⟨rfl, rfl⟩)
    refine (HL.out).mono ?_
    rintro e w1 ⟨u, rfl, hu, hb1⟩
    have hsz : u.size ≤ 1000010 := by rw [hu.size]; exact hl
    have d4 := (hb1.cell (p := ⟨b, 4, none⟩) hbl).trans c4
    have HU := hidp hu
    clear hu
    go_wp2_with fail
    refine (HR.out w1 hb1).mono ?_
    rintro e w3 ⟨u3, rfl, hu3, hb3⟩
    have hsz3 : u3.size ≤ 1000010 := by rw [hu3.size]; exact hm
    have hb4 : Below w.heap.size w w3 := hb1.trans (hb3.mono hb1.size)
    have d0 := (hb4.cell (p := ⟨b, 0, none⟩) hbl).trans c0
    have HU3 := hidp hu3
    clear hu3
    go_wp2_with (go_at_call 41; refine (SY.out _).mono ?_; rintro e w2 ⟨rfl, rfl⟩)
    go_ret
    exact ⟨_, rfl, ((((HU.out.app (Str.mk' [32])).app HS.out).app (Str.mk' [32])).app HU3.out).to (by simp), hb4⟩

end Go.Proofs.YtmepffenlgedbaaDoor
