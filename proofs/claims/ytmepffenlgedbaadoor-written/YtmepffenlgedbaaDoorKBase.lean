/-
  THE WORLD OF realskeep IN MEMORY: the expressions that a script has made.
-/
import Derived.Test.YtmepffenlgedbaaDoorTWf
import Derived.Test.YtmepffenlgedbaaDoorTText4
import Derived.Test.YtmepffenlgedbaaDoorRound
import Derived.Test.YtmepffenlgedbaaDoorKTwo
set_option linter.unusedSimpArgs false
namespace Go.Proofs.YtmepffenlgedbaaDoor
open Go.RowKit
open Go.Deep (BT)

/-- But for blocks of the script's own types nothing old has turned. -/
def Oth (w w' : World) : Prop := ∀ (k : Nat) (xs : Array Value) (T : TypeId), w.heap[k]? = some (.cells xs T (0, 0)) → T ≠ 29 → T ≠ 44 → w'.heap[k]? = w.heap[k]?

theorem Oth.refl (w : World) : Oth w w := fun _ _ _ _ _ _ => rfl
theorem Oth.trans {a b c : World} (h : Oth a b) (k : Oth b c) : Oth a c := fun i xs T e h1 h2 => (k i xs T ((h i xs T e h1 h2).trans e) h1 h2).trans (h i xs T e h1 h2)
theorem Oth.of_below {w w' : World} (h : Below w.heap.size w w') : Oth w w' := fun k _ _ e _ _ => h.block k (heap_lt e)
theorem Oth.of_grown {w w' : World} {row : Option Nat} (h : w.grownBy w' row) (hr : ∀ g, row = some g → ∃ xs T, w.heap[g]? = some (.cells xs T (0, 0)) ∧ (T = 29 ∨ T = 44)) : Oth w w' := by
  intro k xs T e h1 h2
  refine h.block k (heap_lt e) ?_
  intro hk
  obtain ⟨ys, U, e', hU⟩ := hr k hk.symm
  rw [e] at e'
  simp only [Option.some.injEq, Obj.cells.injEq] at e'
  obtain ⟨_, rfl, _⟩ := e'
  rcases hU with h | h
  · exact h1 h
  · exact h2 h
theorem Oth.of_set {w : World} {b o : Nat} {ys : Array Value} (h : w.heap[b]? = some (.cells ys 29 (0, 0))) (u : Value) : Oth w (w.setCell ⟨b, o, none⟩ u) := by
  intro k xs T e h1 _
  refine Below.heap_setCell _ _ _ _ ?_
  intro hk
  simp only at hk
  subst hk
  rw [h] at e
  simp only [Option.some.injEq, Obj.cells.injEq] at e
  exact h1 e.2.1.symm

theorem TermsAt.oth {rb : Nat} {w w' : World} {ts : List Int} {tv : Value} (h : TermsAt rb w ts tv) (hk : Oth w w') : TermsAt rb w' ts tv := by
  rcases h with h | ⟨tb, cap, cur, h1, h2, h3, h4⟩
  · exact Or.inl h
  · exact Or.inr ⟨tb, cap, cur, h1, h2, by rw [hk tb _ _ h3 (by decide) (by decide)]; exact h3, h4⟩

theorem Enc.oth {rb : Nat} {w w' : World} (hk : Oth w w') : ∀ {t : Rd.Tr} {v : Value}, Enc rb w t v → Enc rb w' t v := by
  intro t
  induction t with
  | nil => intro v h; exact h
  | node _ _ a l r ihl ihr =>
    intro v h
    obtain ⟨b, tv, lv, rv, h1, h2, h3, h4, h5, h6⟩ := h
    exact ⟨b, tv, lv, rv, h1, h2, by rw [hk b _ _ h3 (by decide) (by decide)]; exact h3, h4.oth hk, ihl h5, ihr h6⟩

theorem ExprAt.oth {B : Nat} {w w' : World} {t : Rd.Tr} {v : Value} (h : ExprAt B w (some t) v) (hk : Oth w w') : ExprAt B w' (some t) v := by
  obtain ⟨rb, xb, rv, h1, h2, h3, h4, ⟨b, h5⟩, h6⟩ := h
  exact ⟨rb, xb, rv, h1, h2, h3, by rw [hk xb _ _ h4 (by decide) (by decide)]; exact h4, ⟨b, h5⟩, Enc.oth hk h6⟩

theorem ExprAt.zero {B : Nat} {w : World} {t : Rd.Tr} {v : Value} (h : ExprAt B w (some t) v) : ExprAt 0 w (some t) v := by
  obtain ⟨rb, xb, rv, h1, h2, h3, h4⟩ := h
  exact ⟨rb, xb, rv, h1, Nat.zero_le _, Nat.zero_le _, h4⟩

theorem Str.same {a b : ByteArray} {l : List UInt8} (h : Str a l) (k : Str b l) : a = b := by
  have h1 := h.eq
  rw [← k.eq] at h1
  cases a; cases b
  simp only [ByteArray.mk.injEq]
  exact Array.toList_inj.1 h1


/-- An item: its expression's block, its text, its interval. -/
abbrev It := Nat × ByteArray × Int × Int × Bool

structure ItOk (p : It) : Prop where
  txt : ∃ c, Rd.Good c ∧ Rd.toks p.2.1.data.toList = Rd.tw c
  len : p.2.1.size ≤ 120
  sp : SpOk p.2.2.1 p.2.2.2.1

def icells : List It → List Value
  | [] => []
  | p :: r => .pointer (some ⟨p.1, 0, none⟩) :: .string p.2.1 :: .int .i64 p.2.2.1 :: .int .i64 p.2.2.2.1 :: .bool p.2.2.2.2 :: icells r

theorem icells_append (a b : List It) : icells (a ++ b) = icells a ++ icells b := by
  induction a with
  | nil => rfl
  | cons x r ih => simp [icells, ih]

theorem icells_at : ∀ (ps : List It) (n : Nat) (h : n < ps.length), (icells ps)[n * 5]? = some (.pointer (some ⟨ps[n].1, 0, none⟩)) ∧ (icells ps)[n * 5 + 1]? = some (.string ps[n].2.1) ∧ (icells ps)[n * 5 + 2]? = some (.int .i64 ps[n].2.2.1) ∧ (icells ps)[n * 5 + 3]? = some (.int .i64 ps[n].2.2.2.1) ∧ (icells ps)[n * 5 + 4]? = some (.bool ps[n].2.2.2.2) := by
  intro ps
  induction ps with
  | nil => intro n h; simp at h
  | cons x r ih =>
    intro n h
    cases n with
    | zero => simp [icells]
    | succ n =>
      have := ih n (by simpa using h)
      simpa [icells, Nat.add_mul] using this

structure KInv (w0 w : World) (wb : Nat) (ps : List It) : Prop where
  blk : ∃ v, w.heap[wb]? = some (.cells #[v] 29 (0, 0)) ∧ w.ownsRow w0.heap.size 44 5 v ps.length (icells ps)
  lo : w0.heap.size ≤ wb
  all : ∀ p ∈ ps, ItOk p
  bel : Below w0.heap.size w0 w

theorem KInv.below {w0 w w' : World} {wb : Nat} {ps : List It} (h : KInv w0 w wb ps) (hb : Below w.heap.size w w') : KInv w0 w' wb ps := by
  obtain ⟨v, h1, h2⟩ := h.blk
  refine ⟨⟨v, by rw [hb.block wb (heap_lt h1)]; exact h1, ?_⟩, h.lo, h.all, h.bel.trans (hb.mono h.bel.size)⟩
  exact h2.kept (row := none) ⟨hb.os, hb.tape, hb.output, hb.size, fun k hk _ => hb.block k hk⟩ (by cases v.ownBlock <;> simp)

theorem KInv.tab {w0 w : World} {wb : Nat} {ps : List It} (h : KInv w0 w wb ps) (ht : Tab w0) : Tab w := Lib.tabBelow_of_tabIs ht w h.bel

theorem infoItem : (Tryd.prog.info? 44).map (fun i => (i.zero, i.size, i.bytes)) = some (some (.agg #[.pointer none, .string ⟨#[]⟩, .int .i64 0, .int .i64 0, .bool false]), 5, 48) := by kernel_rfl

theorem cell_five_new (w : World) (x y z u v : Value) (t : TypeId) : ∀ j q, [x, y, z, u, v][j]? = some q → (w.alloc (.cells #[x, y, z, u, v] t)).cell? ((⟨w.heap.size, 0, none⟩ : Addr).add j) = some q := by
  intro j q hj
  match j, hj with
  | 0, hj => simp at hj; subst hj; simp [Addr.add]
  | 1, hj => simp at hj; subst hj; simp [Addr.add]
  | 2, hj => simp at hj; subst hj; simp [Addr.add]
  | 3, hj => simp at hj; subst hj; simp [Addr.add]
  | 4, hj => simp at hj; subst hj; simp [Addr.add]

theorem own_sliceK {w : World} {B e size n : Nat} {v : Value} {xs : List Value} (h : w.ownsRow B e size v n xs) : ∃ ao ln cp, v = .slice ao ln cp := by
  rcases h.2 with ⟨h, _⟩ | ⟨g, cap, cur, h, _⟩
  · exact ⟨_, _, _, h⟩
  · exact ⟨_, _, _, h⟩

theorem own_row {w : World} {B n : Nat} {v : Value} {xs : List Value} (hown : w.ownsRow B 44 5 v n xs) : ∀ g, v.ownBlock = some g → ∃ xs T, w.heap[g]? = some (.cells xs T (0, 0)) ∧ T = 44 := by
  intro g hgb
  rcases hown.2 with ⟨e, _⟩ | ⟨g', cap, cur, e, _, hh, _⟩
  · rw [e] at hgb; cases hgb
  · rw [e] at hgb
    simp only [Value.ownBlock, Option.some.injEq] at hgb
    subst hgb
    exact ⟨cur, _, hh, rfl⟩

theorem own_wbK {w w3 : World} {wb B n : Nat} {v : Value} {xs : List Value} {o : Obj}
    (hblk : w.heap[wb]? = some (.cells #[v] 29 (0, 0))) (hown : w.ownsRow B 44 5 v n xs) (hg : (w.alloc o).grownBy w3 v.ownBlock) :
    w3.heap[wb]? = some (.cells #[v] 29 (0, 0)) := by
  rw [hg.block wb (by simp; have := heap_lt hblk; omega) ?_]
  · rw [Below.heap_alloc _ _ _ (heap_lt hblk)]; exact hblk
  · intro e
    obtain ⟨xs, T, e', hT⟩ := own_row hown wb e.symm
    rw [hblk] at e'
    simp only [Option.some.injEq, Obj.cells.injEq] at e'
    have := e'.2.1.trans hT
    exact absurd this (by decide)

/-- One item more. -/
theorem KInv.push {w0 w w3 : World} {wb : Nat} {ps : List It} (h : KInv w0 w wb ps) {v v' : Value} {p : It} {o : Obj}
    (hblk : w.heap[wb]? = some (.cells #[v] 29 (0, 0))) (hown : w.ownsRow w0.heap.size 44 5 v ps.length (icells ps)) (hp : ItOk p)
    (hown' : w3.ownsRow w0.heap.size 44 5 v' (ps.length + 1) (icells ps ++ [.pointer (some ⟨p.1, 0, none⟩), .string p.2.1, .int .i64 p.2.2.1, .int .i64 p.2.2.2.1, .bool p.2.2.2.2])) (hg : (w.alloc o).grownBy w3 v.ownBlock) :
    KInv w0 (w3.setCell ⟨wb, 0, none⟩ v') wb (ps ++ [p]) ∧ Oth w (w3.setCell ⟨wb, 0, none⟩ v') := by
  have hrow := own_row hown
  have ha := (Below.refl w.heap.size w).alloc (Nat.le_refl _) o
  have hoth : Oth w w3 := (Oth.of_below ha).trans (Oth.of_grown hg (fun g hgb => by
    obtain ⟨xs, T, e, hT⟩ := hrow g hgb
    exact ⟨xs, T, by rw [Below.heap_alloc _ _ _ (heap_lt e)]; exact e, Or.inr hT⟩))
  have hwb := own_wbK hblk hown hg
  have hoth2 : Oth w (w3.setCell ⟨wb, 0, none⟩ v') := hoth.trans (Oth.of_set hwb v')
  have hbel3 : Below w0.heap.size w0 w3 := below_own hown h.bel h.bel.size o hg
  refine ⟨⟨⟨v', by rw [heap_set hwb]; rfl, ?_⟩, h.lo, ?_, hbel3.setCell h.lo _⟩, hoth2⟩
  · rw [List.length_append, icells_append]
    refine ⟨hown'.1, ?_⟩
    rcases hown'.2 with e | ⟨g, cap, cur, e, hgB, hh, r⟩
    · exact Or.inl e
    · refine Or.inr ⟨g, cap, cur, e, hgB, ?_, r⟩
      rw [Below.heap_setCell]
      · exact hh
      · simp only
        intro e'
        subst e'
        rw [hwb] at hh
        simp only [Option.some.injEq, Obj.cells.injEq] at hh
        exact absurd hh.2.1 (by decide)
  · intro q hq
    rcases List.mem_append.1 hq with hq | hq
    · exact h.all q hq
    · rw [List.mem_singleton.1 hq]; exact hp

def KPost (w0 : World) (wb : Nat) (n : Nat) (e : Ending) (w' : World) : Prop := e = .returned (.bool true) ∧ ∃ ps', KInv w0 w' wb ps' ∧ ps'.length ≤ n + 1

end Go.Proofs.YtmepffenlgedbaaDoor
