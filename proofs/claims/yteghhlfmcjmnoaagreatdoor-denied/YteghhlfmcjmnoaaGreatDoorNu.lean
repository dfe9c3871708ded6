import Derived.Test.YteghhlfmcjmnoaaGreatDoorRfSt
set_option linter.unusedSimpArgs false
set_option linter.unusedVariables false
namespace Go.Proofs.YteghhlfmcjmnoaaGreatDoor
open Go.RowKit
namespace Ab
open Rf (Nd Inv NInv)
theorem Chg.alloc (w : World) (o : Obj) : Chg w (w.alloc o) [] := Chg.of_below ((Below.refl _ _).alloc (Nat.le_refl _) o)
set_option maxHeartbeats 400000 in
theorem unread_calls {w : World} {k fb : Nat} {r : Int} {R : Ending → World → Prop} (H : ∀ w1, Chg w w1 [] → Calls Tryz.prog 161 #[ptrB k, .int .i64 r, ptrB fb] w1 fun e w' => ∃ z, e = .returned (.int .i64 z) ∧ R (.returned (.int .i64 z)) w') : Calls Tryz.prog 125 #[.agg #[ptrB k, .int .i64 r], ptrB fb] w R := by
  have H1 := hid (H _ (Chg.alloc w (.cells #[ptrB k, .int .i64 r] 192)))
  clear H
  unfold ptrB at *
  go_enter Tryz.func125, Tryz.ntmps125
  go_wp2_with fail
  refine (H1.out).mono ?_
  rintro e w' ⟨z, rfl, hR⟩
  have HR := hid hR
  clear hR
  go_wp2_with fail
  exact HR.out
theorem NodeAt.cell {w : World} {k : Nat} {zs : List Int} {hs : Bool} {uns mt lr rr pl : Int} {lp rp gv cv nv : Value} (h : NodeAt w k zs hs uns mt lr rr pl lp rp gv cv nv) (h8 : zs.length = 8) : w.cell? ⟨k, 17, none⟩ = some cv ∧ w.cell? ⟨k, 23, none⟩ = some gv := by
  obtain ⟨xs, h1, h2⟩ := h.ex
  have hl := hold_len zs xs h2
  rw [h8] at hl
  have e : ∀ j v, ([cv, .int .i64 mt, lp, .int .i64 lr, rp, .int .i64 rr, gv, .int .i64 uns, nv, .int .i64 pl] : List Value)[j]? = some v → (Value.bool hs :: xs ++ [cv, .int .i64 mt, lp, .int .i64 lr, rp, .int .i64 rr, gv, .int .i64 uns, nv, .int .i64 pl]).toArray[17 + j]? = some v := by
    intro j v hj
    rw [List.getElem?_toArray, List.getElem?_append_right (by simp; omega)]
    rw [show 17 + j - (Value.bool hs :: xs).length = j by simp; omega]
    exact hj
  exact ⟨cell_of_block h1 (e 0 cv rfl), cell_of_block h1 (e 6 gv rfl)⟩
set_option maxHeartbeats 400000 in
theorem readMore_con {w : World} {k fb cb : Nat} {R : Ending → World → Prop} (hc : w.cell? ⟨k, 17, none⟩ = some (ptrB cb)) (H : Calls Tryz.prog 207 #[ptrB k, ptrB fb] w fun e w' => ∃ b, e = .returned (.bool b) ∧ R (.returned (.bool b)) w') : Calls Tryz.prog 197 #[ptrB k, ptrB fb] w R := by
  have H1 := hid H
  clear H
  unfold ptrB at *
  go_enter Tryz.func197, Tryz.ntmps197
  go_wp2_with fail
  refine (H1.out).mono ?_
  rintro e w' ⟨z, rfl, hR⟩
  have HR := hid hR
  clear hR
  go_wp2_with fail
  exact HR.out
set_option maxHeartbeats 400000 in
theorem readMore_arg {w : World} {k fb : Nat} {b : Bool} {R : Ending → World → Prop} (hc : w.cell? ⟨k, 17, none⟩ = some nilP) (H : Calls Tryz.prog 208 #[ptrB k] w fun e w' => e = .returned (.bool b) ∧ (b = true → Calls Tryz.prog 209 #[ptrB k, ptrB fb] w' fun e w' => ∃ b, e = .returned (.bool b) ∧ R (.returned (.bool b)) w') ∧ (b = false → Calls Tryz.prog 210 #[ptrB k, ptrB fb] w' fun e w' => ∃ b, e = .returned (.bool b) ∧ R (.returned (.bool b)) w')) : Calls Tryz.prog 197 #[ptrB k, ptrB fb] w R := by
  have H1 := hid H
  clear H
  unfold ptrB nilP at *
  go_enter Tryz.func197, Tryz.ntmps197
  go_wp2_with fail
  refine (H1.out).mono ?_
  rintro e w' ⟨rfl, hL, hR⟩
  cases b with
  | true =>
    have HL := hid (hL rfl)
    clear hL hR
    go_wp2_with fail
    refine (HL.out).mono ?_
    rintro e w' ⟨z, rfl, hR⟩
    have HR := hid hR
    clear hR
    go_wp2_with fail
    exact HR.out
  | false =>
    have HL := hid (hR rfl)
    clear hL hR
    go_wp2_with fail
    refine (HL.out).mono ?_
    rintro e w' ⟨z, rfl, hR⟩
    have HR := hid hR
    clear hR
    go_wp2_with fail
    exact HR.out
structure SymStep (k fb : Nat) (j : Nat) (R : Ending → World → Prop) (J : Nat → World → Prop) : Prop where
  ex : ∀ m w, J m w → ∃ gb len cap, (∃ gv, w.cell? ⟨k, 23, none⟩ = some gv ∧ (gv = .slice gb len cap)) ∧ len ≤ 1000000 ∧
    ((len ≤ j ∧ Calls Tryz.prog 182 #[ptrB k, ptrB fb] w fun e w' => ∃ b, e = .returned (.bool b) ∧ (b = true → ∃ m', m' < m ∧ J m' w') ∧ (b = false → R (.returned (.int .i64 0)) w')) ∨
     (j < len ∧ ∃ g c, gb = some ⟨g, 0, none⟩ ∧ w.cell? ⟨g, j, none⟩ = some (.int .i64 c) ∧ R (.returned (.int .i64 c)) w))
set_option maxHeartbeats 800000 in
theorem symbol_calls {w : World} {k fb j : Nat} {R : Ending → World → Prop} {J : Nat → World → Prop} {m : Nat} (hj : j ≤ 1000000) (hS : SymStep k fb j R J) (hJ : J m w) : Calls Tryz.prog 161 #[ptrB k, .int .i64 j, ptrB fb] w R := by
  have HS := hid hS
  have HJ := hid hJ
  clear hS hJ
  unfold ptrB
  go_enter Tryz.func161, Tryz.ntmps161
  go_wp2_with fail
  go_loopg [] m (fun gk wr => J gk wr)
  case atStart => exact HJ.out
  case round =>
    obtain ⟨gb, len, cap, ⟨gv, g1, g2⟩, hl, hor⟩ := HS.out.ex _ _ hrel
    subst g2
    have HR := hid hrel
    clear hrel HJ
    rcases hor with ⟨hle, hc⟩ | ⟨hlt, g, c, rfl, g3, g4⟩
    · have HC := hid hc
      clear hc
      have n1 : ((len : Int) ≤ (j : Int)) := by omega
      go_wp2_with fail
      refine (HC.out).mono ?_
      rintro e w' ⟨b, rfl, hb1, hb2⟩
      cases b with
      | true =>
        obtain ⟨m', k1, k2⟩ := hb1 rfl
        have K1 := hid k1
        have K2 := hid k2
        clear k1 k2 hb1 hb2
        go_wp2_with fail
        go_roundg m'
        case measure => exact K1.out
        case rel => exact K2.out
      | false =>
        have HB := hid (hb2 rfl)
        clear hb1 hb2
        go_wp2_with fail
        exact HB.out
    · have G4 := hid g4
      clear g4
      have n1 : ¬ ((len : Int) ≤ (j : Int)) := by omega
      have n2 : ¬ ((j : Int) < 0) := by omega
      have n3 : ((j : Int) < (len : Int)) := by omega
      go_wp2_with fail
      exact G4.out
end Ab
end Go.Proofs.YteghhlfmcjmnoaaGreatDoor
set_option linter.unusedSimpArgs false
set_option linter.unusedVariables false
namespace Go.Proofs.YteghhlfmcjmnoaaGreatDoor
open Go.RowKit
namespace Ab
open Rf (Nd Inv NInv)
section
variable {w w' : World} {b0 fb : Nat} {own own' : Nat → Option Own} {at1 at2 : Nat → Nat} {D : List Nat} {i : Nat} {n n' : Nd} {s : Rf.St} {rho : Nat → Nat} {c : Nat}
theorem bits_up {N u : Nat} (hN : N ≤ 10000000 * u) {z : Int} (h : z.natAbs < 2 ^ N) : Bits u z := Nat.lt_of_lt_of_le h (Nat.pow_le_pow_right (by decide) hN)
theorem bits10 {p0 q0 p1 q1 p2 q2 p3 q3 : Int} {l : List Rf.V} (hI : Inv s.nodes rho c) (hn : s.nodes[i]? = some n) (hl : Rf.corners s.nodes n = some l) (hc : Pg.Cof l [(p0, q0), (p1, q1), (p2, q2), (p3, q3)]) : ∀ z ∈ [p0, q0, p1, q1, p2, q2, p3, q3], Bits 10 z := by
  have h := hc.bits (Rf.corner_bits hI (hI.at' i n hn) hl)
  have key : ∀ z : Int, z.natAbs < 2 ^ 70000000 → Bits 10 z := fun z hz => bits_up (N := 70000000) (by decide) hz
  have h0 := h (p0, q0) (by simp)
  have h1 := h (p1, q1) (by simp)
  have h2 := h (p2, q2) (by simp)
  have h3 := h (p3, q3) (by simp)
  intro z hz
  simp at hz
  rcases hz with rfl | rfl | rfl | rfl | rfl | rfl | rfl | rfl
  · exact key _ h0.1
  · exact key _ h0.2
  · exact key _ h1.1
  · exact key _ h1.2
  · exact key _ h2.1
  · exact key _ h2.2
  · exact key _ h3.1
  · exact key _ h3.2
theorem one_ptrV (o : Option Nat) : One (ptrV at1 o) := by cases o <;> rfl
theorem GivOk.one {out : List Int} {gv : Value} (h : GivOk w b0 own i out gv) : One gv := by
  rcases h with ⟨rfl, _⟩ | ⟨g, cap, rest, rfl, _⟩ <;> rfl
theorem Blk.ones {p0 q0 p1 q1 p2 q2 p3 q3 mt pl : Int} {gv cv nv : Value} (h : Blk w b0 own at1 i n p0 q0 p1 q1 p2 q2 p3 q3 mt pl gv cv nv) : One gv ∧ One cv ∧ One nv := by
  refine ⟨h.giv.one, ?_, ?_⟩
  · by_cases ht : n.t = []
    · obtain ⟨_, cb, rfl, _⟩ := h.con ht
      rfl
    · rw [h.nocon ht]; rfl
  · cases hne : n.nest with
    | false => rw [h.nst.1 hne]; rfl
    | true => obtain ⟨nb, rfl, _⟩ := h.nst.2 hne; rfl
theorem NodeAt.arg {k : Nat} {zs : List Int} {hs : Bool} {uns mt lr rr pl : Int} {lp rp gv cv nv : Value} (h : NodeAt w k zs hs uns mt lr rr pl lp rp gv cv nv) (h8 : zs.length = 8) (hb : ∀ z ∈ zs, Bits 10 z) (o1 : One lp) (o2 : One rp) (o3 : One gv) (o4 : One cv) (o5 : One nv) : ArgAt w (some (k, hs)) (ptrB k) := by
  obtain ⟨xs, h1, h2⟩ := h.ex
  have hl := hold_len zs xs h2
  refine ⟨rfl, xs ++ [cv, .int .i64 mt, lp, .int .i64 lr, rp, .int .i64 rr, gv, .int .i64 uns, nv, .int .i64 pl], by simpa using h1, by simp; omega, ?_⟩
  have hx : ∀ y ∈ xs, One y := all_ones (C := Z) (φ := fun _ => none) (ν := zs.map fun z => (z, 10)) (w := w) (hold_cs zs xs 0 _ h2 hb fun j z hz => by rw [Nat.zero_add, List.getElem?_map, hz]; rfl)
  intro y hy
  rw [List.mem_append] at hy
  rcases hy with hy | hy
  · exact hx y hy
  · simp only [List.mem_cons, List.not_mem_nil, or_false] at hy
    rcases hy with rfl | rfl | rfl | rfl | rfl | rfl | rfl | rfl | rfl | rfl <;> first | assumption | rfl
def sgO (ns : List Nd) (o : Option Nat) : Option Bool := o.map fun a => match ns[a]? with | some x => !x.pos | none => false
def argO (ns : List Nd) (at' : Nat → Nat) (o : Option Nat) : Option (Nat × Bool) := o.map fun a => (at' a, match ns[a]? with | some x => !x.pos | none => false)
theorem argO_sg (ns : List Nd) (at' : Nat → Nat) (o : Option Nat) : (argO ns at' o).map (·.2) = sgO ns o := by cases o <;> rfl
theorem Net.argAt (h : Net w b0 own at1 fb s) (hI : Inv s.nodes rho c) {o : Option Nat} (ho : ∀ a, o = some a → a < s.nodes.length) : ArgAt w (argO s.nodes at1 o) (ptrV at1 o) := by
  cases o with
  | none => rfl
  | some a =>
    have ha := ho a rfl
    have hx : s.nodes[a]? = some s.nodes[a] := List.getElem?_eq_getElem ha
    obtain ⟨p0, q0, p1, q1, p2, q2, p3, q3, mt, pl, gv, cv, nv, hb, l, hl1, hl2⟩ := (h.nd a _ hx).ex
    obtain ⟨o1, o2, o3⟩ := hb.ones
    have e : argO s.nodes at1 (some a) = some (at1 a, !(s.nodes[a]).pos) := by unfold argO; simp [hx]
    rw [e]
    exact hb.nd.arg rfl (bits10 hI hx hl1 hl2) (one_ptrV _) (one_ptrV _) o1 o2 o3
theorem lArg_lt (hN : NInv s.nodes rho c i n) : ∀ a, lArg n = some a → a < s.nodes.length := by
  intro a h
  unfold lArg at h
  split at h
  · exact (hN.arg 0 a h).1
  · cases h
theorem rArg_lt (hN : NInv s.nodes rho c i n) : ∀ a, rArg n = some a → a < s.nodes.length := by
  intro a h
  unfold rArg at h
  split at h
  · exact (hN.arg 1 a h).1
  · split at h
    · exact (hN.arg 0 a h).1
    · cases h
structure Seen (w : World) (b0 : Nat) (own : Nat → Option Own) (at1 : Nat → Nat) (ns : List Nd) (i : Nat) (n : Nd) (p0 q0 p1 q1 p2 q2 p3 q3 mt pl : Int) (gv cv nv : Value) (l : List Rf.V) (g : Option (Nat × Nat)) (cc nn : Option Nat) : Prop where
  blk : Blk w b0 own at1 i n p0 q0 p1 q1 p2 q2 p3 q3 mt pl gv cv nv
  cor : Rf.corners ns n = some l
  cof : Pg.Cof l [(p0, q0), (p1, q1), (p2, q2), (p3, q3)]
  bits : ∀ z ∈ [p0, q0, p1, q1, p2, q2, p3, q3], Bits 10 z
  la : ArgAt w (argO ns at1 (lArg n)) (ptrV at1 (lArg n))
  ra : ArgAt w (argO ns at1 (rArg n)) (ptrV at1 (rArg n))
  gat : GivAt w g gv
  glen : (g.map (·.2)).getD 0 = n.out.length
  cat : ExtAt w 224 cc cv
  nat : ExtAt w 273 nn nv
  nsm : nn.isSome = n.nest
theorem Net.seen (h : Net w b0 own at1 fb s) (hI : Inv s.nodes rho c) (hn : s.nodes[i]? = some n) : ∃ p0 q0 p1 q1 p2 q2 p3 q3 mt pl gv cv nv l g cc nn, Seen w b0 own at1 s.nodes i n p0 q0 p1 q1 p2 q2 p3 q3 mt pl gv cv nv l g cc nn := by
  obtain ⟨p0, q0, p1, q1, p2, q2, p3, q3, mt, pl, gv, cv, nv, hb, l, hl1, hl2⟩ := (h.nd i n hn).ex
  have hN := hI.at' i n hn
  obtain ⟨g, hg, hgl⟩ : ∃ g, GivAt w g gv ∧ (g.map (·.2)).getD 0 = n.out.length := by
    rcases hb.giv with ⟨rfl, h2⟩ | ⟨g, cap, rest, rfl, h2, h3, h4, h5, h6⟩
    · exact ⟨none, rfl, by rw [h2]; rfl⟩
    · exact ⟨some (g, n.out.length), ⟨cap, rfl, _, h2⟩, rfl⟩
  obtain ⟨cc, hcc⟩ : ∃ cc, ExtAt w 224 cc cv := by
    by_cases ht : n.t = []
    · obtain ⟨_, cb, rfl, h2⟩ := hb.con ht
      exact ⟨some cb, rfl, h2.blk⟩
    · exact ⟨none, hb.nocon ht⟩
  obtain ⟨nn, hnn, hns⟩ : ∃ nn, ExtAt w 273 nn nv ∧ nn.isSome = n.nest := by
    cases hne : n.nest with
    | false => exact ⟨none, hb.nst.1 hne, rfl⟩
    | true =>
      obtain ⟨nb, rfl, h2, _⟩ := hb.nst.2 hne
      exact ⟨some nb, ⟨rfl, h2⟩, rfl⟩
  exact ⟨p0, q0, p1, q1, p2, q2, p3, q3, mt, pl, gv, cv, nv, l, g, cc, nn, hb, hl1, hl2, bits10 hI hn hl1 hl2, h.argAt hI (lArg_lt hN), h.argAt hI (rArg_lt hN), hg, hgl, hcc, hnn, hns⟩
theorem waits_eq (hN : NInv s.nodes rho c i n) : (argWants (sgO s.nodes (lArg n)) (lRd n) || argWants (sgO s.nodes (rArg n)) (rRd n)) = Rf.waits s.nodes n.args n.read := by
  have hx : ∀ a, a ∈ n.args → ∃ x, s.nodes[a]? = some x := by
    intro a ha
    obtain ⟨j, hj, e⟩ := List.getElem_of_mem ha
    exact ⟨_, List.getElem?_eq_getElem (hN.arg j a (by rw [List.getElem?_eq_getElem hj, e])).1⟩
  have key : ∀ (a r : Nat) (x : Nd), s.nodes[a]? = some x → argWants (sgO s.nodes (some a)) (r : Int) = (!x.pos && r == 0) := by
    intro a r x e
    unfold sgO argWants
    simp only [Option.map_some, e]
    congr 1
    rw [Bool.eq_iff_iff]
    simp
  cases hN.shp with
  | con ht ha _ _ =>
    unfold lArg rArg lRd rRd
    rw [ht, ha]
    simp [sgO, argWants, Rf.waits]
  | frac v ht ha _ _ =>
    unfold lArg rArg lRd rRd
    rw [ht, ha]
    simp [sgO, argWants, Rf.waits]
  | una v u a ht ha _ =>
    obtain ⟨r, hr⟩ : ∃ r, n.read = [r] := List.length_eq_one_iff.1 (by rw [hN.len, ha]; rfl)
    obtain ⟨x, e⟩ := hx a (by rw [ha]; simp)
    have h1 : lArg n = none := by unfold lArg; rw [ht]; rfl
    have h2 : rArg n = some a := by unfold rArg; rw [ht, ha]; rfl
    have h3 : rRd n = r := by unfold rRd; rw [ht, hr]; rfl
    rw [h1, h2, h3, key a r x e, ha, hr]
    simp [sgO, argWants, Rf.waits, e]
  | bin a b v u x y ht ha _ =>
    obtain ⟨r, r', hr⟩ : ∃ r r', n.read = [r, r'] := by
      have := hN.len
      rw [ha] at this
      match hh : n.read, this with
      | [r, r'], _ => exact ⟨r, r', rfl⟩
    obtain ⟨x1, e1⟩ := hx a (by rw [ha]; simp)
    obtain ⟨x2, e2⟩ := hx b (by rw [ha]; simp)
    have h1 : lArg n = some a := by unfold lArg; rw [ht, ha]; rfl
    have h2 : rArg n = some b := by unfold rArg; rw [ht, ha]; rfl
    have h3 : lRd n = r := by unfold lRd; rw [ht, hr]; rfl
    have h4 : rRd n = r' := by unfold rRd; rw [ht, hr]; rfl
    rw [h1, h2, h3, h4, key a r x1 e1, key b r' x2 e2, ha, hr]
    simp [Rf.waits, e1, e2]
  | nest a v u x y ht ha _ _ _ =>
    obtain ⟨r, hr⟩ : ∃ r, n.read = [r] := List.length_eq_one_iff.1 (by rw [hN.len, ha]; rfl)
    obtain ⟨x1, e1⟩ := hx a (by rw [ha]; simp)
    have h1 : lArg n = some a := by unfold lArg; rw [ht, ha]; rfl
    have h2 : rArg n = none := by unfold rArg; rw [ht, ha]; rfl
    have h3 : lRd n = r := by unfold lRd; rw [ht, hr]; rfl
    rw [h1, h2, h3, key a r x1 e1, ha, hr]
    simp [sgO, argWants, Rf.waits, e1]
theorem Seen.next {p0 q0 p1 q1 p2 q2 p3 q3 mt pl : Int} {gv cv nv : Value} {l : List Rf.V} {g : Option (Nat × Nat)} {cc nn : Option Nat} (h : Seen w b0 own at1 s.nodes i n p0 q0 p1 q1 p2 q2 p3 q3 mt pl gv cv nv l g cc nn) (hN : NInv s.nodes rho c i n) {o : Option Int} (ho : Rf.nextP s.nodes n = some o) : Calls Tryz.prog 196 #[ptrB (at1 i)] w fun e w' => e = .returned (.int .i64 (codeO o)) ∧ Chg w w' [] := by
  refine (next_calls h.blk.nd h.bits h.la h.ra h.gat h.cat h.nat).mono ?_
  rintro e w' ⟨rfl, hb⟩
  refine ⟨?_, Chg.of_below hb⟩
  congr 2
  unfold Rf.nextP at ho
  cases hp : n.probe with
  | true =>
    rw [hp] at ho
    simp only [if_true, Option.some.injEq] at ho
    subst ho
    have hu : unsZ n ≠ 0 := by
      unfold unsZ
      rw [hp, if_pos rfl]
      have hop : Rf.fn n.op := by
        cases hN.shp with
        | con ht ha hp' hc => rw [hp] at hp'; cases hp'
        | frac v ht ha hp' hv => rw [hp] at hp'; cases hp'
        | una v w a' ht ha' hp' => exact (hp' hp).2.1
        | bin a' b v w x y ht ha' hp' => rw [hp] at hp'; cases hp'
        | nest a' v w x y ht ha' hp' hn' ok => rw [hp] at hp'; cases hp'
      rcases hop with e | e | e | e <;> rw [e] <;> decide
    unfold nextZ
    rw [show (unsZ n != 0) = true from by simpa using hu]
    rfl
  | false =>
    rw [hp] at ho
    simp only [Bool.false_eq_true, if_false] at ho
    have hu : unsZ n = 0 := by unfold unsZ; rw [hp]; rfl
    rw [hu, argO_sg, argO_sg]
    exact next_eq h.cor h.cof (by simp) h.glen (waits_eq hN) ho
theorem digits_eq {sd : Nat} {o : Option Nat} {r : Nat} (h1 : n.args[sd]? = o) (h2 : o = none → r = 0) (h3 : ∀ a, o = some a → n.read[sd]? = some r ∧ ∃ x, s.nodes[a]? = some x) : Rf.digits s.nodes n sd = some (dgR (sgO s.nodes o) r) := by
  unfold Rf.digits
  cases o with
  | none =>
    rw [if_neg (by have := List.getElem?_eq_none_iff.1 h1; omega)]
    rfl
  | some a =>
    obtain ⟨g1, x, g2⟩ := h3 a rfl
    rw [if_pos (List.getElem?_eq_some_iff.1 h1).1, h1]
    simp only [Option.bind_some, g2, g1, Option.map_some, sgO, dgR]
    cases x.pos <;> simp
theorem Seen.reads {p0 q0 p1 q1 p2 q2 p3 q3 mt pl : Int} {gv cv nv : Value} {l : List Rf.V} {g : Option (Nat × Nat)} {cc nn : Option Nat} (h : Seen w b0 own at1 s.nodes i n p0 q0 p1 q1 p2 q2 p3 q3 mt pl gv cv nv l g cc nn) (hN : NInv s.nodes rho c i n) {sd : Nat} (hsd : Rf.side s.nodes n = some sd) : Calls Tryz.prog 208 #[ptrB (at1 i)] w fun e w' => e = .returned (.bool (decide (n.t.length = 4 ∧ sd = 0))) ∧ Chg w w' [] := by
  refine (reads_calls h.blk.nd h.bits h.la h.ra h.gat h.cat h.nat).mono ?_
  rintro e w' ⟨rfl, hb⟩
  refine ⟨?_, Chg.of_below hb⟩
  congr 2
  rw [argO_sg, argO_sg, h.nsm]
  by_cases h4 : n.t.length = 4
  · have hx : ∀ a, a ∈ n.args → ∃ x, s.nodes[a]? = some x := by
      intro a ha
      obtain ⟨j, hj, e⟩ := List.getElem_of_mem ha
      exact ⟨_, List.getElem?_eq_getElem (hN.arg j a (by rw [List.getElem?_eq_getElem hj, e])).1⟩
    have hl : lArg n = n.args[0]? := by unfold lArg; rw [if_pos h4]
    have hr : rArg n = n.args[1]? := by unfold rArg; rw [if_pos h4]
    have hlr : lRd n = n.read.getD 0 0 := by unfold lRd; rw [if_pos h4]
    have hrr : rRd n = n.read.getD 1 0 := by unfold rRd; rw [if_pos h4]
    have hu : ∀ j, n.read.getD j 0 ≤ 1000000 := by
      intro j
      rw [List.getD_eq_getElem?_getD]
      cases e : n.read[j]? with
      | none => simp
      | some r => have := hN.readu r (List.mem_of_getElem? e); simp; omega
    have hget : ∀ (j a : Nat), n.args[j]? = some a → n.read[j]? = some (n.read.getD j 0) := by
      intro j a e
      have hj := (List.getElem?_eq_some_iff.1 e).1
      rw [List.getD_eq_getElem?_getD, List.getElem?_eq_getElem (by rw [hN.len]; exact hj)]
      rfl
    obtain ⟨a0, ha0⟩ : ∃ a0, n.args[0]? = some a0 := by
      cases hN.shp with
      | con ht ha _ _ => rw [ht] at h4; simp at h4
      | frac v ht ha _ _ => rw [ht] at h4; simp at h4
      | una v u a ht ha _ => rw [ht] at h4; simp at h4
      | bin a b v u x y ht ha _ => exact ⟨a, by rw [ha]; rfl⟩
      | nest a v u x y ht ha _ _ _ => exact ⟨a, by rw [ha]; rfl⟩
    have hnone : n.args[1]? = none → n.read.getD 1 0 = 0 := by
      intro e
      have := List.getElem?_eq_none_iff.1 e
      rw [List.getD_eq_getElem?_getD, List.getElem?_eq_none_iff.2 (by rw [hN.len]; exact this)]
      rfl
    have d0 := digits_eq (s := s) (n := n) (sd := 0) (o := some a0) (r := n.read.getD 0 0) ha0 (fun e => by cases e) fun a e => ⟨hget 0 a0 ha0, hx a (by cases e; exact List.mem_of_getElem? ha0)⟩
    have d1 := digits_eq (s := s) (n := n) (sd := 1) (o := n.args[1]?) (r := n.read.getD 1 0) rfl hnone fun a e => ⟨hget 1 a e, hx a (List.mem_of_getElem? e)⟩
    have hs0 : ∃ ls, sgO s.nodes (some a0) = some ls := ⟨_, rfl⟩
    obtain ⟨ls, hls⟩ := hs0
    rw [hl, hr, hlr, hrr, ha0, hls]
    rw [hls] at d0
    rw [reads_eq h4 h.cor (Pg.corners_len4 h4 h.cor) h.cof (hu 0) (hu 1) ?_ d0 d1 hsd]
    · simp [h4]
    · intro e
      refine hnone ?_
      cases e2 : n.args[1]? with
      | none => rfl
      | some a => rw [e2] at e; simp [sgO] at e
  · have hl : lArg n = none := by unfold lArg; rw [if_neg h4]
    rw [hl]
    simp [h4, sgO, readsZ]
end
end Ab
end Go.Proofs.YteghhlfmcjmnoaaGreatDoor
set_option linter.unusedSimpArgs false
set_option linter.unusedVariables false
namespace Go.Proofs.YteghhlfmcjmnoaaGreatDoor
open Go.RowKit
namespace Ab
noncomputable def hvL : List Int → List Int
  | [a, b, c, d, e, f, g, h] => let t := tw8 a b c d e f g h
    [hv t a, hv t b, hv t c, hv t d, hv t e, hv t f, hv t g, hv t h]
  | _ => []
noncomputable def givL (cd p0 q0 p1 q1 p2 q2 p3 q3 : Int) : List Int := [symD cd * p0 - symB cd * q0, symA cd * q0 - symC cd * p0, symD cd * p1 - symB cd * q1, symA cd * q1 - symC cd * p1, symD cd * p2 - symB cd * q2, symA cd * q2 - symC cd * p2, symD cd * p3 - symB cd * q3, symA cd * q3 - symC cd * p3]
section
variable (p0 q0 p1 q1 p2 q2 p3 q3 : Int) (hs : Bool) (uns mt lr rr pl c cd : Int) (lp rp cst nst gv gv2 : Value)
def goS (tm : List AT) : AS := sW [p0, q0, p1, q1, p2, q2, p3, q3] hs uns mt lr rr pl c (.lit lp) (.lit rp) (.lit cst) (.lit nst) (.lit gv) [] tm
noncomputable def goS3 : AS := ⟨slot [(27, P0), (31, litT gv), (33, .val (.one (.slc 19 0 1 1)))] 0 37, [(0, ndW hs uns mt lr rr pl (.lit lp) (.lit rp) (.lit cst) (.lit nst) (.lit gv)), (6, fuW (IntKind.i64.wrap (c - 1))), (19, ⟨[.sint .i64 cd], 100, true, true, true⟩)], 20, (hvL (givL cd p0 q0 p1 q1 p2 q2 p3 q3)).map fun z => (z, 19), [6, 0]⟩
set_option maxRecDepth 100000 in
theorem goOn_1 : (run Z (tabSp tN) bW (drawA Z (tabSp tN)) (atOp (opCalls 196)) 400 [.code (bodyOf Tryz.f182), .top Tryz.f182] (goS p0 q0 p1 q1 p2 q2 p3 q3 hs uns mt lr rr pl c lp rp cst nst gv (argT 35))).bind (outX (nrm [0, 6] [] 7 []) (nrm [0, 6] [0, 1, 6] 7 []))
    = some (.stp (bef (opCalls 196) Tryz.f182) (goS p0 q0 p1 q1 p2 q2 p3 q3 hs uns mt lr rr pl c lp rp cst nst gv (slot [(0, P0), (1, P6), (6, P0)] 0 37))) := by kernel_rfl
set_option maxRecDepth 100000 in
theorem goOn_2 : (run Z (tabSp tN) bW (drawA Z (tabSp tN)) (atOp (fun o => opCalls 197 o || opApp o)) 400 (aft (opCalls 196) Tryz.f182) (goS p0 q0 p1 q1 p2 q2 p3 q3 hs uns mt lr rr pl c lp rp cst nst gv (slot [(0, P0), (1, P6), (7, sintT cd)] 0 37))).bind (outX (nrm [0, 6] [] 7 []) (nrmE [0, 6, 19] [27, 31, 33] 20 [0, 6] [10, 11] 7))
    = some (.br (decide (cd = 0)) (.stp (bef (opCalls 197) Tryz.f182) (goS p0 q0 p1 q1 p2 q2 p3 q3 hs uns mt lr rr pl c lp rp cst nst gv (slot [(10, P0), (11, P6)] 0 37))) (.br (decide (c < 1)) (.ret (.val (.one (.bool false))) (goS p0 q0 p1 q1 p2 q2 p3 q3 hs uns mt lr rr pl c lp rp cst nst gv (slot [] 0 37))) (.stp (bef opApp Tryz.f182) (goS3 p0 q0 p1 q1 p2 q2 p3 q3 hs uns mt lr rr pl c cd lp rp cst nst gv)))) := by kernel_rfl
set_option maxRecDepth 100000 in
theorem goOn_3 : (run Z (tabSp tN) bW (drawA Z (tabSp tN)) (fun _ => false) 400 (aft opApp Tryz.f182) (goS p0 q0 p1 q1 p2 q2 p3 q3 hs uns mt lr rr pl c lp rp cst nst gv (slot [(27, P0), (34, litT gv2)] 0 37))).bind (outX (nrm [0, 6] [] 7 []) (nrm [0, 6] [] 7 []))
    = some (.ret (.val (.one (.bool true))) ⟨slot [] 0 37, [(0, ndW hs uns mt lr rr pl (.lit lp) (.lit rp) (.lit cst) (.lit nst) (.lit gv2)), (6, fuW c)], 7, [(p0, 10), (q0, 10), (p1, 10), (q1, 10), (p2, 10), (q2, 10), (p3, 10), (q3, 10)], [0]⟩) := by kernel_rfl
set_option maxRecDepth 100000 in
theorem goOn_4 (b : Bool) : (run Z (tabSp tN) bW (drawA Z (tabSp tN)) (fun _ => false) 400 (aft (opCalls 197) Tryz.f182) ⟨slot [(12, .val (.one (.sbool b)))] 0 37, [], 0, [], []⟩).bind (outX (nrm [] [] 0 []) (nrm [] [] 0 []))
    = some (.ret (.val (.one (.sbool b))) ⟨slot [] 0 37, [], 0, [], []⟩) := by kernel_rfl
end
theorem phN_kb {k fb : Nat} {kb : List Nat} (h0 : kb.contains 0 = true) (h6 : kb.contains 6 = true) : ∀ b x, phW k fb (fun _ => none) b = some x → kb.contains b = true := by
  intro b x h
  unfold phW at h
  split at h
  · subst_vars; exact h0
  · split at h
    · subst_vars; exact h6
    · split at h <;> cases h
theorem rep_chg0 {w w' : World} {ψ φ' : Nat → Option (Nat × Nat)} {s : AS} (hw : RepW Z w ψ φ' s w') (hd : s.dirty = []) : Chg w w' [] := ⟨hw.on, fun j hj _ => hw.low j hj fun b hb => by rw [hd] at hb; cases hb⟩
theorem rep_none {w : World} (tm : List AT) : RepW Z w (fun _ => none) (fun _ => none) ⟨tm, [], 0, [], []⟩ w :=
  rep_wr rfl (fun b B h => by simp [look] at h) (fun b b' B B' k o o' h => by simp [look] at h) (fun _ _ => rfl) (fun b k o h => by cases h)
structure Pos2 (w : World) (k fb : Nat) (zs : List Int) (hs : Bool) (uns mt lr rr pl c : Int) (lp rp gv cv nv : Value) : Prop where
  nd : NodeAt w k zs hs uns mt lr rr pl lp rp gv cv nv
  fu : w.heap[fb]? = some (.cells #[.int .i64 c] 195 (0, 0))
  bits : ∀ z ∈ zs, Bits 10 z
  h8 : zs.length = 8
  o1 : One lp
  o2 : One rp
  o3 : One gv
  o4 : One cv
  o5 : One nv
section
variable {w w' : World} {k fb : Nat} {zs : List Int} {hs : Bool} {uns mt lr rr pl c : Int} {lp rp gv cv nv : Value}
theorem Pos2.rep (h : Pos2 w k fb zs hs uns mt lr rr pl c lp rp gv cv nv) (tm : List AT) : RepW Z w (phW k fb fun _ => none) (phW k fb fun _ => none) (sW zs hs uns mt lr rr pl c (.lit lp) (.lit rp) (.lit cv) (.lit nv) (.lit gv) [] tm) w :=
  sW_rep (lpC := .lit lp) (rpC := .lit rp) (gvC := .lit gv) (cvC := .lit cv) (nvC := .lit nv) h.nd h.h8 h.bits h.fu ⟨rfl, h.o1⟩ ⟨rfl, h.o2⟩ ⟨rfl, h.o3⟩ ⟨rfl, h.o4⟩ ⟨rfl, h.o5⟩ (fun b B e => by simp [look] at e) (fun b k' o e => by cases e) tm
theorem Pos2.ne (h : Pos2 w k fb zs hs uns mt lr rr pl c lp rp gv cv nv) : k ≠ fb := by
  intro e
  subst e
  obtain ⟨xs, h1, _⟩ := h.nd.ex
  have := h.fu
  rw [h1] at this
  exact absurd (Obj.cells.inj (Option.some.inj this)).2.1 (by decide)
theorem Pos2.keep (h : Pos2 w k fb zs hs uns mt lr rr pl c lp rp gv cv nv) (hc : Chg w w' []) : Pos2 w' k fb zs hs uns mt lr rr pl c lp rp gv cv nv :=
  ⟨h.nd.keep hc.on (hc.low _ h.nd.lt (by simp)), hc.at h.fu (by simp), h.bits, h.h8, h.o1, h.o2, h.o3, h.o4, h.o5⟩
theorem Pos2.out (h : Pos2 w k fb zs hs uns mt lr rr pl c lp rp gv cv nv) {φ' : Nat → Option (Nat × Nat)} {s : AS} (hw : RepW Z w (phW k fb fun _ => none) φ' s w') {zs' : List Int} {hs' : Bool} {uns' mt' lr' rr' pl' c' : Int} {lp' rp' gv' cv' nv' : Value} (h0 : look s.boxes 0 = some (ndW hs' uns' mt' lr' rr' pl' (.lit lp') (.lit rp') (.lit cv') (.lit nv') (.lit gv'))) (h6 : look s.boxes 6 = some (fuW c')) (h8 : zs'.length = 8) (hz : ∀ (j : Nat) (z : Int), zs'[j]? = some z → ∃ b, s.nums[j]? = some (z, b)) (hb : ∀ z ∈ zs', Bits 10 z) : Pos2 w' k fb zs' hs' uns' mt' lr' rr' pl' c' lp' rp' gv' cv' nv' := by
  obtain ⟨⟨lp2, rp2, gv2, cv2, nv2, g1, ⟨rfl, g2⟩, ⟨rfl, g3⟩, ⟨rfl, g4⟩, ⟨rfl, g5⟩, ⟨rfl, g6⟩⟩, g7⟩ := sW_out (ns := []) hw h0 h6 (h.nd.shape h.h8) (fuel_shape h.fu) h8 hz
  exact ⟨g1, g7, hb, h8, g2, g3, g4, g5, g6⟩
end
theorem map_nums {zs : List Int} {u : Nat} : ∀ (j : Nat) (z : Int), zs[j]? = some z → ∃ b, (zs.map fun z => (z, u))[j]? = some (z, b) := fun j z h => ⟨u, by rw [List.getElem?_map, h]; rfl⟩
theorem RowOf.keep {w w' : World} {e : TypeId} {xs : List Value} {v : Value} {g : Option Nat} {D : List Nat} (h : RowOf w e xs v g) (hc : Chg w w' D) (hD : ∀ b, g = some b → b ∉ D) : RowOf w' e xs v g := by
  rcases h with h | ⟨b, cap, rest, h1, h2, h3, h4, h5⟩
  · exact Or.inl h
  · exact Or.inr ⟨b, cap, rest, h1, h2, hc.at h3 (hD b h1), h4, h5⟩
theorem RowOf.ty {w : World} {e : TypeId} {xs : List Value} {v : Value} {b : Nat} (h : RowOf w e xs v (some b)) : ∃ cs : List Value, w.heap[b]? = some (.cells cs.toArray e (0, 0)) := by
  rcases h with ⟨_, _, e⟩ | ⟨b', cap, rest, h1, h2, h3, h4, h5⟩
  · cases e
  · cases h1
    exact ⟨_, h3⟩
theorem RowOf.one {w : World} {e : TypeId} {xs : List Value} {v : Value} {g : Option Nat} (h : RowOf w e xs v g) : One v := by
  rcases h with ⟨rfl, _⟩ | ⟨b', cap, rest, h1, rfl, h3, h4, h5⟩ <;> rfl
theorem sym_info : ∃ i zv, Z.P.info? 100 = some i ∧ i.bytes ≤ 1000000 ∧ (∀ w, (zeroValue 100).run Z.P w = .ok zv w) ∧ zv.cells.size = 1 := by
  have h : (Z.P.info? 100).map (fun i => (i.bytes, i.zero)) = some (8, some (.int .i64 0)) := by kernel_rfl
  obtain ⟨i, h1, h'⟩ := Option.map_eq_some_iff.1 h
  simp only [Prod.mk.injEq] at h'
  obtain ⟨h2, h3⟩ := h'
  exact ⟨i, .int .i64 0, h1, by rw [h2]; decide, fun w => by simp [zeroValue, typeInfo, h1, h3], rfl⟩
set_option maxRecDepth 100000 in
set_option maxHeartbeats 800000 in
theorem goOn_calls {w : World} {k fb : Nat} {p0 q0 p1 q1 p2 q2 p3 q3 : Int} {hs : Bool} {uns mt lr rr pl c cd : Int} {lp rp gv cv nv : Value} {xs : List Value} {g : Option Nat} {R : Ending → World → Prop} (h : Pos2 w k fb [p0, q0, p1, q1, p2, q2, p3, q3] hs uns mt lr rr pl c lp rp gv cv nv) (hc3 : c ≤ 3000) (hrow : RowOf w 100 xs gv g) (hlen : xs.length ≤ 99999)
    (hnext : ∀ w1, Chg w w1 [] → Calls Tryz.prog 196 #[ptrB k] w1 fun e w' => e = .returned (.int .i64 cd) ∧ Chg w1 w' [])
    (hmore : cd = 0 → ∀ w1, Chg w w1 [] → Calls Tryz.prog 197 #[ptrB k, ptrB fb] w1 fun e w' => ∃ b, e = .returned (.bool b) ∧ ∀ w2, Chg w' w2 [] → R (.returned (.bool b)) w2)
    (hno : cd ≠ 0 → c < 1 → ∀ w1, Chg w w1 [] → R (.returned (.bool false)) w1)
    (hbits : cd ≠ 0 → 1 ≤ c → ∀ z ∈ hvL (givL cd p0 q0 p1 q1 p2 q2 p3 q3), Bits 10 z)
    (hyes : cd ≠ 0 → 1 ≤ c → ∀ w1 gv' b, Chg w w1 [k, fb, b] → Pos2 w1 k fb (hvL (givL cd p0 q0 p1 q1 p2 q2 p3 q3)) hs uns mt lr rr pl (c - 1) lp rp gv' cv nv → RowOf w1 100 (xs ++ [.int .i64 cd]) gv' (some b) → (g = some b ∨ w.heap.size ≤ b) → R (.returned (.bool true)) w1) :
    Calls Tryz.prog 182 #[ptrB k, ptrB fb] w R := by
  have F := fn_of Tryz.func182 rfl rfl
  refine calls_x F (φ := phW k fb fun _ => none) (vs := [.one (.ptr 0 0), .one (.ptr 6 0)]) (args := [ptrB k, ptrB fb]) (s := goS p0 q0 p1 q1 p2 q2 p3 q3 hs uns mt lr rr pl c lp rp cv nv gv (argT 35)) (by kernel_rfl) ⟨⟨k, 0, rfl, rfl⟩, ⟨fb, 0, rfl, rfl⟩, trivial⟩ (h.rep _) ?_
  refine xrun' (tabSp_ok tN_ok) bW_ok (phN_kb rfl rfl) (nrm_R (phN_kb rfl rfl)) (goOn_1 p0 q0 p1 q1 p2 q2 p3 q3 hs uns mt lr rr pl c lp rp cv nv gv) (fun _ _ => False) (fun ks s => ks = bef (opCalls 196) Tryz.f182 ∧ s = goS p0 q0 p1 q1 p2 q2 p3 q3 hs uns mt lr rr pl c lp rp cv nv gv (slot [(0, P0), (1, P6), (6, P0)] 0 37)) ⟨rfl, rfl⟩ (fun _ _ _ _ _ h => h.elim) ?_
  rintro ks s ⟨rfl, rfl⟩
  refine ⟨by kernel_rfl, fun kcs φ1 a1 w1 hsr1 hr1 => ?_⟩
  have c1 := rep_chg0 hr1.wd rfl
  refine callAt_ok (f := 196) (vs := [.one (.ptr 0 0)]) (dst := some 7) (ks2 := aft (opCalls 196) Tryz.f182) (by kernel_rfl) (fn_of Tryz.func196 rfl rfl).en (by kernel_rfl) (hsr1 φ1 [] w1) hr1 ?_
  intro ys hys
  match ys, hys with
  | [y], ⟨hy, _⟩ =>
  rw [ptr_val (hr1.wd.base 0 (k, 0) rfl) hy]
  refine (hnext w1 c1).mono ?_
  rintro e w2 ⟨rfl, c2⟩
  refine ⟨_, rfl, fun kcs2 hf2 hsr2 => ?_⟩
  have c12 := c1.trans c2
  have h2 := h.keep c12
  have hr2 : Rep Z w2 (phW k fb fun _ => none) (phW k fb fun _ => none) (goS p0 q0 p1 q1 p2 q2 p3 q3 hs uns mt lr rr pl c lp rp cv nv gv (slot [(0, P0), (1, P6), (7, sintT cd)] 0 37)) (a1.put (some 7) (.int .i64 cd)) w2 := by
    refine rep_aft (kb := [0, 6]) (kt := [0, 1]) (dst := some 7) (r := sintT cd) hr1 (h2.rep _) (by kernel_rfl) ?_ rfl
    intro b hb
    have hb' : b = 0 ∨ b = 6 := by simpa using hb
    rcases hb' with rfl | rfl
    · rw [hr1.wd.base 0 (k, 0) rfl]; rfl
    · rw [hr1.wd.base 6 (fb, 0) rfl]; rfl
  refine xrun' (tabSp_ok tN_ok) bW_ok (phN_kb rfl rfl) (nrmE_R (phN_kb rfl rfl) (phN_kb rfl rfl)) (goOn_2 p0 q0 p1 q1 p2 q2 p3 q3 hs uns mt lr rr pl c cd lp rp cv nv gv)
    (fun r s => r = .val (.one (.bool false)) ∧ s.dirty = [] ∧ cd ≠ 0 ∧ c < 1)
    (fun ks s => (cd = 0 ∧ ks = bef (opCalls 197) Tryz.f182 ∧ s = goS p0 q0 p1 q1 p2 q2 p3 q3 hs uns mt lr rr pl c lp rp cv nv gv (slot [(10, P0), (11, P6)] 0 37)) ∨ (cd ≠ 0 ∧ ¬ c < 1 ∧ ks = bef opApp Tryz.f182 ∧ s = goS3 p0 q0 p1 q1 p2 q2 p3 q3 hs uns mt lr rr pl c cd lp rp cv nv gv))
    ⟨fun e => Or.inl ⟨of_decide_eq_true e, rfl, rfl⟩, fun e => ⟨fun e2 => ⟨rfl, rfl, of_decide_eq_false e, of_decide_eq_true e2⟩, fun e2 => Or.inr ⟨of_decide_eq_false e, of_decide_eq_false e2, rfl, rfl⟩⟩⟩ ?_ ?_ kcs2 _ _ _ (hsr2 _ _ _) hr2
  · rintro r s φ3 v w3 ⟨rfl, hd, h0, h1⟩ hv _ hw3
    rw [hv false (Or.inl rfl)]
    exact hno h0 h1 w3 (c12.trans (rep_chg0 hw3 hd))
  · rintro ks s (⟨h0, rfl, rfl⟩ | ⟨h0, h1, rfl, rfl⟩)
    · refine ⟨by kernel_rfl, fun kcs3 φ3 a3 w3 hsr3 hr3 => ?_⟩
      have c3 := c12.trans (rep_chg0 hr3.wd rfl)
      refine callAt_ok (f := 197) (vs := [.one (.ptr 0 0), .one (.ptr 6 0)]) (dst := some 12) (ks2 := aft (opCalls 197) Tryz.f182) (by kernel_rfl) (fn_of Tryz.func197 rfl rfl).en (by kernel_rfl) (hsr3 φ3 [] w3) hr3 ?_
      intro ys hys
      match ys, hys with
      | [y, z], ⟨hy, hz, _⟩ =>
      rw [ptr_val (hr3.wd.base 0 (k, 0) rfl) hy, ptr_val (hr3.wd.base 6 (fb, 0) rfl) hz]
      refine (hmore h0 w3 c3).mono ?_
      rintro e w4 ⟨b, rfl, hR⟩
      refine ⟨_, rfl, fun kcs4 hf4 hsr4 => ?_⟩
      have hr4 : Rep Z w4 (fun _ => none) (fun _ => none) ⟨slot [(12, .val (.one (.sbool b)))] 0 37, [], 0, [], []⟩ (a3.put (some 12) (.bool b)) w4 := rep_aft (kb := []) (kt := []) (dst := some 12) (r := .val (.one (.sbool b))) hr3 (rep_none _) (by kernel_rfl) (fun b hb => by simp at hb) rfl
      refine xrun' (tabSp_ok tN_ok) bW_ok (fun b x e => by cases e) (nrm_R (fun b x e => by cases e)) (goOn_4 b) (fun r s => r = .val (.one (.sbool b)) ∧ s.dirty = []) (fun _ _ => False) ⟨rfl, rfl⟩ ?_ (fun _ _ h => h.elim) kcs4 _ _ _ (hsr4 _ _ _) hr4
      rintro r s φ5 v w5 ⟨rfl, hd⟩ hv _ hw5
      rw [hv b (Or.inr rfl)]
      exact hR w5 (rep_chg0 hw5 hd)
    · refine ⟨by kernel_rfl, fun kcs3 φ3 a3 w3 hsr3 hr3 => ?_⟩
      have hc1 : 1 ≤ c := by omega
      have hB := hbits h0 hc1
      have hwr : IntKind.i64.wrap (c - 1) = c - 1 := by
        unfold IntKind.wrap
        simp [IntKind.bits, IntKind.signed]
        omega
      have hc23 : Chg w2 w3 [k, fb] := sW_chg hr3.wd rfl
      have hp3 : Pos2 w3 k fb (hvL (givL cd p0 q0 p1 q1 p2 q2 p3 q3)) hs uns mt lr rr pl (c - 1) lp rp gv cv nv := by
        have := h2.out hr3.wd (zs' := hvL (givL cd p0 q0 p1 q1 p2 q2 p3 q3)) (hs' := hs) (uns' := uns) (mt' := mt) (lr' := lr) (rr' := rr) (pl' := pl) (c' := IntKind.i64.wrap (c - 1)) (lp' := lp) (rp' := rp) (gv' := gv) (cv' := cv) (nv' := nv) rfl rfl rfl map_nums hB
        rw [hwr] at this
        exact this
      have hkn : ∀ b, g = some b → b ∉ [k, fb] := by
        intro b hb hm
        subst hb
        obtain ⟨cs, hcs⟩ := hrow.ty
        simp at hm
        rcases hm with rfl | rfl
        · obtain ⟨ys, hy, _⟩ := h.nd.ex
          rw [hcs] at hy
          exact absurd (Obj.cells.inj (Option.some.inj hy)).2.1 (by decide)
        · have hy := h.fu
          rw [hcs] at hy
          exact absurd (Obj.cells.inj (Option.some.inj hy)).2.1 (by decide)
      have hrow3 : RowOf w3 100 xs gv g := (hrow.keep c12 (fun _ _ => by simp)).keep hc23 hkn
      refine appAt_ok (t := 97) (t' := 97) (ty := 97) (sv := litT gv) (xv := .val (.one (.slc 19 0 1 1))) (dst := some 34) (ks2 := aft opApp Tryz.f182) (by kernel_rfl) (by kernel_rfl) (hsr3 φ3 [] w3) hr3 ?_
      rintro v1 v2 ⟨hv1, _⟩ ⟨k', o, cap, e', m, x1, x2, x3, x4, x5⟩
      rw [hv1]
      obtain ⟨k2, o2, pre, ys, post, y1, y2, y3, y4⟩ := hr3.wd.box 19 ⟨[.sint .i64 cd], 100, true, true, true⟩ rfl
      rw [x1] at y1
      cases y1
      subst y3
      match ys, y4 with
      | [y], ⟨hy, _⟩ =>
      have hy : y = .int .i64 cd := hy
      subst hy
      obtain ⟨i, zv, i1, i2, i3, i4⟩ := sym_info
      obtain ⟨v', w4, b, a1, a2, a3', a4, a5⟩ := app_row (bt := Z.bt) (P := Z.P) (t := 97) (t' := 97) (ty := 97) (e := 100) rfl rfl (by kernel_rfl) i1 i2 i3 i4 (by decide) hrow3 (xv := v2) (xc := cap) y2 (by rw [x2]; simp) rfl hlen
      refine ⟨v', w4, a1, fun kcs4 hf4 hsr4 => ?_⟩
      have hbk : b ∉ [k, fb] := by
        rcases a3' with e | e
        · exact hkn b e
        · intro hm
          simp at hm
          have l1 := hp3.nd.lt
          have l2 := lt_of_heap hp3.fu
          rcases hm with rfl | rfl <;> omega
      have hc34 : Chg w3 w4 [b] := ⟨a4, fun j hj hn => a5 j hj (by simpa using hn)⟩
      have hp4 : Pos2 w4 k fb (hvL (givL cd p0 q0 p1 q1 p2 q2 p3 q3)) hs uns mt lr rr pl (c - 1) lp rp gv cv nv := by
        refine ⟨hp3.nd.keep a4 (hc34.low _ hp3.nd.lt ?_), hc34.at hp3.fu ?_, hp3.bits, hp3.h8, hp3.o1, hp3.o2, hp3.o3, hp3.o4, hp3.o5⟩
        · intro hm; simp at hm; exact hbk (by simp [hm])
        · intro hm; simp at hm; exact hbk (by simp [hm])
      have hr4 : Rep Z w4 (phW k fb fun _ => none) (phW k fb fun _ => none) (sW (hvL (givL cd p0 q0 p1 q1 p2 q2 p3 q3)) hs uns mt lr rr pl (c - 1) (.lit lp) (.lit rp) (.lit cv) (.lit nv) (.lit gv) [] (slot [(27, P0), (34, litT v')] 0 37)) (a3.put (some 34) v') w4 := by
        refine rep_aft (kb := [0, 6]) (kt := [27]) (dst := some 34) (r := litT v') hr3 (hp4.rep _) (by kernel_rfl) ?_ ⟨rfl, a2.one⟩
        intro b hb
        have hb' : b = 0 ∨ b = 6 := by simpa using hb
        rcases hb' with rfl | rfl
        · rw [hr3.wd.base 0 (k, 0) rfl]; rfl
        · rw [hr3.wd.base 6 (fb, 0) rfl]; rfl
      refine xrun' (tabSp_ok tN_ok) bW_ok (phN_kb rfl rfl) (nrm_R (phN_kb rfl rfl)) (goOn_3 _ _ _ _ _ _ _ _ hs uns mt lr rr pl (c - 1) lp rp cv nv gv v') (fun r s => r = .val (.one (.bool true)) ∧ s.dirty = [0] ∧ look s.boxes 0 = some (ndW hs uns mt lr rr pl (.lit lp) (.lit rp) (.lit cv) (.lit nv) (.lit v')) ∧ look s.boxes 6 = some (fuW (c - 1)) ∧ s.nums = (hvL (givL cd p0 q0 p1 q1 p2 q2 p3 q3)).map fun z => (z, 10)) (fun _ _ => False) ⟨rfl, rfl, rfl, rfl, rfl⟩ ?_ (fun _ _ h => h.elim) kcs4 _ _ _ (hsr4 _ _ _) hr4
      rintro r s φ5 v w5 ⟨rfl, hd, l0, l6, ln⟩ hv _ hw5
      rw [hv true (Or.inl rfl)]
      have hc45 : Chg w4 w5 [k, fb] := sW_chg hw5 (by rw [hd]; rfl)
      have hp5 := hp4.out hw5 l0 l6 rfl (by rw [ln]; exact map_nums) hB
      have wk : ∀ {u v : World} {D : List Nat}, Chg u v D → (∀ x ∈ D, x ∈ [k, fb, b]) → Chg u v [k, fb, b] := fun h hh => h.weak hh
      refine hyes h0 hc1 w5 v' b ((((wk c12 (by simp)).trans (wk hc23 (by simp)))).trans ((wk hc34 (by simp)).trans (wk hc45 (by simp)))) hp5 (a2.keep hc45 ?_) ?_
      · intro b' e
        cases e
        exact hbk
      · rcases a3' with e | e
        · exact Or.inl e
        · exact Or.inr (Nat.le_trans (Nat.le_trans c12.on.size hc23.on.size) e)
end Ab
end Go.Proofs.YteghhlfmcjmnoaaGreatDoor
