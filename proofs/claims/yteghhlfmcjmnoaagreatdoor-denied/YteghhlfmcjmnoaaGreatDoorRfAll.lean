import Derived.Test.YteghhlfmcjmnoaaGreatDoorRfInv
set_option linter.unusedSimpArgs false
set_option linter.unusedVariables false
namespace Go.Proofs.YteghhlfmcjmnoaaGreatDoor
namespace Rf
open Nw
section
variable {ns : List Nd} {rho : Nat → Nat} {c i : Nat} {n : Nd}
theorem ends_some (h : Inv ns rho c) (hN : NInv ns rho c i n) {sd a : Nat} (ha : n.args[sd]? = some a) : ∃ m x r, ns[a]? = some x ∧ n.read[sd]? = some r ∧ x.had[r]? = some m ∧ ends ns n sd = some (vat m (1, 0), vat m (0, 1)) := by
  obtain ⟨h1, _⟩ := hN.arg sd a ha
  have hx : ns[a]? = some ns[a] := List.getElem?_eq_getElem h1
  have hlt : sd < n.read.length := by rw [hN.len]; exact (List.getElem?_eq_some_iff.1 ha).1
  have hr : n.read[sd]? = some n.read[sd] := List.getElem?_eq_getElem hlt
  have hle := hN.rd sd a _ _ ha hr hx
  have hl := (h.at' a _ hx).hadl
  have hm : ns[a].had[n.read[sd]]? = some (ns[a].had[n.read[sd]]'(by omega)) := List.getElem?_eq_getElem _
  refine ⟨_, _, _, hx, hr, hm, ?_⟩
  unfold ends
  simp only [ha, hx, hr, hm, Option.bind_some, Option.map_some]
theorem bare_some (h : Inv ns rho c) (hN : NInv ns rho c i n) : ∃ l, bare ns n = some l := by
  cases hN.shp with
  | con ht ha hp hc => exact ⟨_, by unfold bare; rw [ht]⟩
  | frac v ht ha hp hv => exact ⟨_, by unfold bare; rw [ht]⟩
  | una v w a ht ha hp =>
    obtain ⟨m, x, r, _, _, _, he⟩ := ends_some h hN (sd := 0) (a := a) (by rw [ha]; rfl)
    exact ⟨_, by unfold bare; rw [ht]; simp only [he]; rfl⟩
  | bin a b v w x y ht ha hp =>
    obtain ⟨m, x, r, _, _, _, he⟩ := ends_some h hN (sd := 0) (a := a) (by rw [ha]; rfl)
    obtain ⟨m', x', r', _, _, _, he'⟩ := ends_some h hN (sd := 1) (a := b) (by rw [ha]; rfl)
    exact ⟨_, by unfold bare; rw [ht]; simp only [he, he', ha]; rfl⟩
  | nest a v w x y ht ha hp hn ok =>
    obtain ⟨m, x, r, _, _, _, he⟩ := ends_some h hN (sd := 0) (a := a) (by rw [ha]; rfl)
    exact ⟨_, by unfold bare; rw [ht]; simp only [he, ha]; rfl⟩
theorem next_some (h : Inv ns rho c) (hN : NInv ns rho c i n) : ∃ o, next ns n = some o := by
  obtain ⟨l, hl⟩ := bare_some h hN
  unfold next corners
  rw [hl]
  split
  · exact ⟨_, rfl⟩
  · exact ⟨_, rfl⟩
theorem next_gives {o : Int} (h : next ns n = some (some o)) : ∃ l, bare ns n = some l ∧ o ∈ tries n ∧ can (l.map (vag n.told)) o = true := by
  unfold next at h
  split at h
  · simp at h
  · unfold corners at h
    cases hb : bare ns n with
    | none => rw [hb] at h; simp at h
    | some l =>
      rw [hb] at h
      simp only [Option.map_some, Option.some.injEq] at h
      obtain ⟨h1, h2⟩ := find_can h
      exact ⟨l, rfl, h2, h1⟩
theorem frac_gives {v : V} (ht : n.t = [v]) (ha : n.args = []) (h1 : n.out = [] → n.told = one) (hv : fits [vag n.told v] = true ∨ (n.pos = false ∧ n.out = [] ∧ v.1 < 0 ∧ 0 < v.2)) : next ns n ≠ some none := by
  unfold next corners bare
  rw [ht, ha]
  simp only [waits, Bool.false_eq_true, if_false, Option.map_some, List.map_cons, List.map_nil]
  unfold tries
  intro h
  simp only [Option.some.injEq] at h
  split at h
  · rename_i hc
    rcases hv with hv | ⟨_, _, v1, v2⟩
    · rw [h1 hc.2, vag_one] at h hv
      have h' := List.find?_eq_none.1 h
      rcases (fits1 v).1 hv with ⟨k1, k2, k3⟩ | ⟨k1, k2, k3⟩
      · refine absurd ?_ (h' 43 (by simp))
        unfold can
        simp only [List.map_cons, List.map_nil]
        rw [fits1]
        simp [vag, Mt.sym, Mt.ag1, Mt.ag2]
        omega
      · refine absurd ?_ (h' 43 (by simp))
        unfold can
        simp only [List.map_cons, List.map_nil]
        rw [fits1]
        simp [vag, Mt.sym, Mt.ag1, Mt.ag2]
        omega
    · rw [h1 hc.2, vag_one] at h
      obtain ⟨s, hs⟩ := can_sign v1 v2
      rw [hs] at h
      cases h
  · rename_i hc
    rcases hv with hv | ⟨v1, v2, _, _⟩
    · obtain ⟨s, hs⟩ := can_digit hv
      rw [hs] at h
      cases h
    · exact hc ⟨v1, v2⟩
theorem give_inv (h : Inv ns rho (c + 1)) (hn : ns[i]? = some n) (hp : n.probe = false) {o : Int} (ho : next ns n = some (some o)) :
    ∃ n', put ns i { n with out := n.out ++ [o], told := n.told.mul (Mt.sym o), had := n.had ++ [n.told.mul (Mt.sym o)] } = some (ns.set i n') ∧ Inv (ns.set i n') rho c ∧ Le ns (ns.set i n') ∧ n'.out.length = n.out.length + 1 := by
  have hN := h.at' i n hn
  obtain ⟨l, hl, ht, hc⟩ := next_gives ho
  have hi := (List.getElem?_eq_some_iff.1 hn).1
  have hlen : n.had.length = n.out.length + 1 := hN.hadl
  have htold : MBits (2 * (n.out.length + 1) + 1) (n.told.mul (Mt.sym o)) := by
    have := mul_sym_bits hN.toldb o
    exact MBits.mono this (by omega)
  have hup : n.pos = true → Up (n.told.mul (Mt.sym o)) := by
    intro hpos
    refine up_sym (hN.up hpos).1 ?_
    unfold tries at ht
    rw [if_neg (by rw [hpos]; simp)] at ht
    exact ht
  have hN' : NInv ns rho c i { n with out := n.out ++ [o], told := n.told.mul (Mt.sym o), had := n.had ++ [n.told.mul (Mt.sym o)] } := by
    have hM := hN.mono (c' := c) (Le.refl _) (fun _ _ => rfl) hi (by omega)
    refine ⟨hN.len, hM.arg, hM.rd, by simp [hlen], ?_, fun e => by simp at e, ?_, hM.ku, hM.readu, ?_, ?_, ?_, hM.tb, hM.pb, hM.qb, hM.partb, ?_⟩
    · show (n.had ++ _)[0]? = _
      rw [List.getElem?_append_left (by omega)]
      exact hN.had0
    · have := hN.outu
      simp
      omega
    · simpa using htold
    · intro j m hm
      simp only at hm
      by_cases hj : j < n.had.length
      · rw [List.getElem?_append_left hj] at hm
        exact hN.hadb j m hm
      · rw [List.getElem?_append_right (by omega)] at hm
        have hj' : j = n.had.length := by
          have := (List.getElem?_eq_some_iff.1 hm).1
          simp at this
          omega
        subst hj'
        simp at hm
        subst hm
        rw [hlen]
        exact htold
    · intro hpos
      refine ⟨hup hpos, fun m hm => ?_⟩
      simp at hm
      rcases hm with hm | rfl
      · exact (hN.up hpos).2 m hm
      · exact hup hpos
    · cases hM.shp with
      | con ht ha hp hc => exact .con ht ha hp hc
      | frac v ht ha hp hv =>
        refine .frac v ht ha hp (Or.inl ?_)
        have hb : bare ns n = some [v] := by unfold bare; rw [ht]
        rw [hb] at hl
        cases hl
        show fits [vag (n.told.mul (Mt.sym o)) v] = true
        rw [vag_mul]
        exact hc
      | una v w a ht ha hp' => exact .una v w a ht ha fun e => by simp only at e; rw [hp] at e; cases e
      | bin a b v w x y ht ha hp => exact .bin a b v w x y ht ha hp
      | nest a v w x y ht ha hp hn ok =>
        refine .nest a v w x y ht ha hp hn ?_
        have ok0 : NestOk ns rho (c + 1) i n a := by
          cases hN.shp with
          | con ht' ha' hp' hc' => rw [ht] at ht'; cases ht'
          | frac v' ht' ha' hp' hv' => rw [ht] at ht'; cases ht'
          | una v' w' a' ht' ha' hp' => rw [ht] at ht'; cases ht'
          | bin a' b' v' w' x' y' ht' ha' hp' => rw [ha] at ha'; cases ha'
          | nest a' v' w' x' y' ht' ha' hp' hn' ok' => rw [ha] at ha'; cases ha'; exact ok'
        obtain ⟨⟨base, ck, h1, h2, h3, h4, h5, h6⟩, h7, h8, h9⟩ := ok
        obtain ⟨⟨base', ck', k1, k2, k3, k4, k5, k6⟩, _, _, _⟩ := ok0
        exact ⟨⟨base', ck', k1, by omega, k3, k4, fun _ => by omega, k6⟩, h7, h8, h9⟩
  obtain ⟨h1, h2, h3⟩ := (h.tick (show c ≤ c + 1 by omega)).put hn (n' := { n with out := n.out ++ [o], told := n.told.mul (Mt.sym o), had := n.had ++ [n.told.mul (Mt.sym o)] }) rfl (by simp) hN'
  exact ⟨_, h1, h2, h3, by simp⟩
theorem mul_bits {a b : Nat} {x y : Mt} (hx : MBits a x) (hy : MBits b y) : MBits (a + b + 1) (x.mul y) :=
  ⟨bits_add (bits_mul hx.a hy.a) (bits_mul hx.b hy.c), bits_add (bits_mul hx.a hy.b) (bits_mul hx.b hy.d), bits_add (bits_mul hx.c hy.a) (bits_mul hx.d hy.c), bits_add (bits_mul hx.c hy.b) (bits_mul hx.d hy.d)⟩
theorem bits_nat {k m : Nat} (h : k < 2 ^ m) : Bits m (k : Int) := by unfold Bits; simpa using h
theorem bits_small {k : Nat} (h : k < 16777216) : Bits 24 (k : Int) := bits_nat (by simpa using h)
theorem shape_bits (op : Op) {k : Nat} (hk : k ≤ 3001) : Bits 24 (shape op k).1 ∧ Bits 24 (shape op k).2 ∧ 0 < (shape op k).1 ∧ 0 < (shape op k).2 := by
  have hsq : k * k ≤ 3001 * 3001 := Nat.mul_le_mul hk hk
  unfold shape
  split
  · split
    · exact ⟨bits_nat (k := 1) (by decide), bits_nat (k := 1) (by decide), by decide, by decide⟩
    · have h2 : (k + 1) / 2 * ((k + 1) / 2) ≤ 3001 * 3001 := Nat.mul_le_mul (by omega) (by omega)
      have h3 : 0 < (k + 1) / 2 * ((k + 1) / 2) := Nat.mul_pos (by omega) (by omega)
      exact ⟨bits_small (by omega), bits_small (by omega), by simp only; omega, by simp only; omega⟩
  · split
    · split
      · exact ⟨bits_nat (k := 1) (by decide), bits_nat (k := 1) (by decide), by decide, by decide⟩
      · have h3 : 0 < k * k := Nat.mul_pos (by omega) (by omega)
        exact ⟨bits_small (by omega), bits_small (by omega), by simp only; omega, by simp only; omega⟩
    · exact ⟨bits_nat (k := 1) (by decide), bits_small (by omega), by simp, by simp only; omega⟩
theorem const_ok (h : ConOk n) {k : Nat} (hk : k ≤ 3000) (pb : Bits 6100 n.p) (qb : Bits 6100 n.q) : ∃ m, constant n k = some m ∧ MBits 18400 m := by
  have one : ∀ z : Int, z.natAbs ≤ 4 → Bits 18400 z := fun z hz => bits_mono (n := 3) (by unfold Bits; omega) (by decide)
  have hsq : k * k ≤ 3000 * 3000 := Nat.mul_le_mul hk hk
  obtain ⟨s1, s2, _, _⟩ := shape_bits n.op (k := k) (by omega)
  have rest : n.op = .exp ∨ n.op = .ln1p ∨ n.op = .atan → ∃ m, constant n k = some m ∧ MBits 18400 m := by
    intro ho
    have e : constant n k = some (if n.op ≠ .ln1p ∧ 0 < k then ⟨0, (shape n.op k).1 * (n.p * n.p), n.q * n.q, (shape n.op k).2 * (n.q * n.q)⟩ else ⟨0, (shape n.op k).1 * n.p, n.q, (shape n.op k).2 * n.q⟩) := by
      unfold constant
      rcases ho with ho | ho | ho <;> simp only [ho]
    refine ⟨_, e, ?_⟩
    split
    · exact ⟨one 0 (by decide), bits_mono (bits_mul s1 (bits_mul pb pb)) (by decide), bits_mono (bits_mul qb qb) (by decide), bits_mono (bits_mul s2 (bits_mul qb qb)) (by decide)⟩
    · exact ⟨one 0 (by decide), bits_mono (bits_mul s1 pb) (by decide), bits_mono qb (by decide), bits_mono (bits_mul s2 qb) (by decide)⟩
  rcases h with h | h | ⟨h, h1, h2⟩ | ⟨h, h1, h2⟩
  · refine ⟨_, by unfold constant; rw [h], ?_⟩
    split
    · exact ⟨one 0 (by decide), one 4 (by decide), one 1 (by decide), one 1 (by decide)⟩
    · exact ⟨one 0 (by decide), bits_mono (bits_small (by omega)) (by decide), one 1 (by decide), bits_mono (bits_small (by omega)) (by decide)⟩
  · refine ⟨_, by unfold constant; rw [h], ?_⟩
    refine ⟨?_, one 1 (by decide), one 1 (by decide), one 0 (by decide)⟩
    show Bits 18400 (eterm k)
    unfold eterm
    split
    · exact one 2 (by decide)
    · split
      · exact bits_mono (bits_small (by omega)) (by decide)
      · exact one 1 (by decide)
  · have hlt : (if k = 0 then 0 else 1 + (k - 1) % (n.terms.length - 1)) < n.terms.length := by
      split
      · omega
      · have := Nat.mod_lt (k - 1) (show 0 < n.terms.length - 1 by omega)
        omega
    refine ⟨_, by unfold constant; rw [h]; simp only; rw [List.getElem?_eq_getElem hlt]; rfl, ?_⟩
    exact ⟨bits_mono (h2 _ (List.getElem_mem hlt)) (by decide), one 1 (by decide), one 1 (by decide), one 0 (by decide)⟩
  · rcases h with h | h
    · obtain ⟨a, b, e1, e2, e3, e4, e5⟩ := near_ok h1 h2 pb qb
      refine ⟨_, by unfold constant; rw [h]; simp only; rw [e1]; rfl, ?_⟩
      exact ⟨bits_mono (bits_mul e4 qb) (by decide), bits_mono (bits_mul e5 pb) (by decide), bits_mono (bits_mul e5 qb) (by decide), bits_mono (bits_mul e4 qb) (by decide)⟩
    · exact rest h
theorem con_inv (h : Inv ns rho (c + 1)) (hn : ns[i]? = some n) (ht : n.t = []) : ∃ m n', constant n n.k = some m ∧ put ns i { n with part := n.part.mul m, k := n.k + 1 } = some (ns.set i n') ∧ Inv (ns.set i n') rho c ∧ Le ns (ns.set i n') ∧ n'.out = n.out := by
  have hN := h.at' i n hn
  have hi := (List.getElem?_eq_some_iff.1 hn).1
  have hM := hN.mono (c' := c) (Le.refl _) (fun _ _ => rfl) hi (by omega)
  have hs : n.args = [] ∧ n.probe = false ∧ ConOk n := by
    cases hN.shp with
    | con ht ha hp hc => exact ⟨ha, hp, hc⟩
    | frac v ht' ha hp hv => rw [ht] at ht'; cases ht'
    | una v w a ht' ha hp => rw [ht] at ht'; cases ht'
    | bin a b v w x y ht' ha hp => rw [ht] at ht'; cases ht'
    | nest a v w x y ht' ha hp hn ok => rw [ht] at ht'; cases ht'
  obtain ⟨ha, hp, hc⟩ := hs
  have hku := hN.ku
  obtain ⟨m, e, hb⟩ := const_ok hc (k := n.k) (by omega) hN.pb hN.qb
  have hN' : NInv ns rho c i { n with part := n.part.mul m, k := n.k + 1 } := by
    refine ⟨hN.len, hM.arg, hM.rd, hN.hadl, hN.had0, hN.fst, hM.outu, by simp only; omega, hM.readu, hN.toldb, hN.hadb, hN.up, hM.tb, hM.pb, hM.qb, ?_, .con ht ha hp ?_⟩
    · refine MBits.mono (mul_bits hN.partb hb) ?_
      simp only
      rw [Nat.add_mul]
      omega
    · exact hc
  obtain ⟨h1, h2, h3⟩ := (h.tick (show c ≤ c + 1 by omega)).put hn (n' := { n with part := n.part.mul m, k := n.k + 1 }) rfl (Nat.le_refl _) hN'
  exact ⟨m, _, e, h1, h2, h3, rfl⟩
end
end Rf
end Go.Proofs.YteghhlfmcjmnoaaGreatDoor
set_option linter.unusedSimpArgs false
set_option linter.unusedVariables false
namespace Go.Proofs.YteghhlfmcjmnoaaGreatDoor
namespace Rf
open Nw
section
variable {ns : List Nd} {rho : Nat → Nat} {c i : Nat} {n : Nd}
theorem digits_some (hN : NInv ns rho c i n) (sd : Nat) : ∃ o, digits ns n sd = some o := by
  unfold digits
  split
  · rename_i hlt
    obtain ⟨h1, _⟩ := hN.arg sd _ (List.getElem?_eq_getElem hlt)
    rw [List.getElem?_eq_getElem hlt, Option.bind_some, List.getElem?_eq_getElem h1, Option.bind_some, List.getElem?_eq_getElem (by rw [hN.len]; exact hlt)]
    exact ⟨_, rfl⟩
  · exact ⟨_, rfl⟩
theorem side_two {v w : V} (ht : n.t = [v, w]) : side ns n = some 0 := by
  unfold side
  rw [if_pos (by rw [ht]; simp)]
theorem side_some (h : Inv ns rho c) (hN : NInv ns rho c i n) : ∃ sd, side ns n = some sd ∧ sd ≤ 1 := by
  unfold side
  split
  · exact ⟨0, rfl, by decide⟩
  · obtain ⟨a, ha⟩ := digits_some hN 0
    rw [ha, Option.bind_some]
    cases a with
    | none => exact ⟨0, rfl, by decide⟩
    | some a =>
      obtain ⟨b, hb⟩ := digits_some hN 1
      simp only
      rw [hb, Option.bind_some]
      cases b with
      | none => exact ⟨1, rfl, by decide⟩
      | some b =>
        obtain ⟨l, hl⟩ := bare_some h hN
        simp only
        unfold corners
        rw [hl]
        refine ⟨_, rfl, ?_⟩
        simp only
        generalize (if fits (List.map (vag n.told) l) = true then wider (if n.nest = true then 8 else 1) (List.map (vag n.told) l) else 0) = z
        split
        · omega
        · split
          · omega
          · split <;> omega
theorem side_first (h : Inv ns rho c) (hN : NInv ns rho c i n) {a : Nat} {v w x y : V} (ht : n.t = [v, w, x, y]) (ha : n.args = [a]) (hn : n.nest = true) (hf : first n.t) (hp : Pos ns a) (hr : n.read = [0]) (ho : n.out = []) : side ns n = some 0 := by
  obtain ⟨nx, hx, hpx⟩ := hp
  have h0 := (h.at' a nx hx).had0
  have he : ends ns n 0 = some ((1, 0), (0, 1)) := by
    unfold ends
    rw [ha, hr]
    simp only [List.getElem?_cons_zero, Option.bind_some, hx, h0, Option.map_some]
    rfl
  have hb : bare ns n = some [v, w, x, y] := by
    unfold bare
    rw [ht]
    simp only [he, ha, Option.bind_some, Option.map_some, List.length_cons, List.length_nil]
    simp [tensor]
  unfold side
  rw [if_neg (by rw [ht]; simp)]
  have hd0 : digits ns n 0 = some (some 0) := by
    unfold digits
    rw [ha, hr]
    simp [hx, hpx]
  have hd1 : digits ns n 1 = some (some 0) := by
    unfold digits
    rw [ha]
    simp
  rw [hd0, hd1]
  simp only [Option.bind_some]
  unfold corners
  rw [hb, hN.fst ho]
  have e : List.map (vag one) [v, w, x, y] = n.t := by rw [ht]; simp [vag_one]
  simp only [Option.map_some, e, hn, if_true]
  unfold first at hf
  by_cases hft : fits n.t = true
  · rw [if_pos hft, if_neg (hf hft)]
    simp
  · rw [if_neg hft]
    simp
theorem cmp_gt' {x y : Int} (h : y < x) : Nm.cmp x y = 1 := by
  unfold Nm.cmp
  rw [decide_eq_false (by omega), decide_eq_false (by omega)]
  rfl
theorem apart_none (b : V) : apart (0, 0) b = (0, 1) := by unfold apart; simp
theorem apart_ends {c d : Int} (hc : 0 < c) (hd : 0 < d) : apart (c, 0) (0, d) = (2 * (c * d), c * d) := by
  unfold apart
  simp only
  rw [if_neg (by omega)]
  have h : 0 < c * d := Int.mul_pos hc hd
  have e1 : (c - 0) * (0 + d) - (0 - d) * (c + 0) = 2 * (c * d) := by grind
  have e2 : (c + 0) * (0 + d) = c * d := by grind
  rw [e1, e2]
  ext <;> (simp only; omega)
theorem first_nest {c d : Int} (hc : 0 < c) (hd : 0 < d) : first [(0, 0), (c, 0), (0, 1), (0, d)] := by
  intro _
  have h : 0 < c * d := Int.mul_pos hc hd
  unfold wider
  simp only [apart_none, apart_ends hc hd]
  have e1 : apart (0, 1) (0, d) = (0, d) := by
    unfold apart
    simp only
    rw [if_neg (by omega)]
    ext <;> simp <;> omega
  have e2 : greater (0, 1) (2 * (c * d), c * d) = (2 * (c * d), c * d) := by
    unfold greater
    rw [if_neg (by simp; omega)]
  have e3 : greater (0, 1) (0, d) = (0, 1) := by
    unfold greater
    rw [if_pos (by simp)]
  rw [e1, e2, e3]
  simp only
  rw [cmp_gt' (by omega)]
  decide
theorem first_root {a b : Int} (ha : 0 < a) (hb : 0 < b) : first [(0, 0), (b, 0), (a, b), (0, a)] := by
  intro _
  have h : 0 < b * a := Int.mul_pos hb ha
  have haa : 0 < a * a := Int.mul_pos ha ha
  unfold wider
  simp only [apart_none, apart_ends hb ha]
  have e1 : apart (a, b) (0, a) = (2 * (a * a), a * a + b * a) := by
    unfold apart
    simp only
    rw [if_neg (by omega)]
    have k1 : (a - b) * (0 + a) - (0 - a) * (a + b) = 2 * (a * a) := by grind
    have k2 : (a + b) * (0 + a) = a * a + b * a := by grind
    rw [k1, k2]
    ext <;> (simp only; omega)
  have e2 : greater (0, 1) (2 * (b * a), b * a) = (2 * (b * a), b * a) := by
    unfold greater
    rw [if_neg (by simp; omega)]
  have e3 : greater (0, 1) (2 * (a * a), a * a + b * a) = (2 * (a * a), a * a + b * a) := by
    unfold greater
    rw [if_neg (by simp; omega)]
  rw [e1, e2, e3]
  simp only
  have k1 : 8 * (2 * (b * a)) * (a * a + b * a) = 16 * ((b * a) * (a * a)) + 16 * ((b * a) * (b * a)) := by grind
  have k2 : 2 * (a * a) * (b * a) = 2 * ((b * a) * (a * a)) := by grind
  have p1 : 0 < (b * a) * (a * a) := Int.mul_pos h haa
  have p2 : 0 < (b * a) * (b * a) := Int.mul_pos h h
  rw [k1, k2, cmp_gt' (by omega)]
  decide
theorem fresh_inv (hc : c ≤ 3000) (h1 : n.read = n.args.map (fun _ => 0)) (h2 : n.out = []) (h3 : n.told = one) (h4 : n.had = [one]) (h5 : n.part = one) (hk : n.k + c ≤ 3000) (tb : ∀ v ∈ n.t, Bits 13000 v.1 ∧ Bits 13000 v.2) (pb : Bits 6100 n.p) (qb : Bits 6100 n.q)
    (arg : ∀ (j a : Nat), n.args[j]? = some a → a < ns.length ∧ rho a < rho i) (shp : Shp ns rho c i n) : NInv ns rho c i n := by
  have b1 : MBits 1 one := ⟨by unfold Bits one; decide, by unfold Bits one; decide, by unfold Bits one; decide, by unfold Bits one; decide⟩
  refine ⟨by rw [h1]; simp, arg, ?_, by rw [h4, h2]; rfl, by rw [h4]; rfl, fun _ => h3, by rw [h2]; simpa using hc, hk, ?_, by rw [h3, h2]; exact b1, ?_, fun _ => ⟨by rw [h3]; exact up_one, fun m hm => ?_⟩, tb, pb, qb, ?_, shp⟩
  · intro j a r x ha hr hx
    rw [h1, List.getElem?_map, ha] at hr
    simp at hr
    omega
  · intro r hr
    rw [h1] at hr
    simp at hr
    omega
  · intro j m hm
    rw [h4] at hm
    have : j = 0 := by
      have := (List.getElem?_eq_some_iff.1 hm).1
      simp at this
      exact this
    subst this
    simp at hm
    rw [← hm]
    exact b1
  · rw [h4] at hm
    simp at hm
    rw [hm]
    exact up_one
  · rw [h5]
    exact MBits.mono b1 (by omega)
theorem bits0 {m : Nat} : Bits m 0 := by unfold Bits; simp; exact Nat.pow_pos (by decide)
theorem bits1 {m : Nat} (h : 1 ≤ m) : Bits m 1 := by
  unfold Bits
  exact Nat.lt_of_lt_of_le (show 1 < 2 ^ 1 by decide) (Nat.pow_le_pow_right (by decide) h)
structure Grown (ns : List Nd) (rho : Nat → Nat) (c R : Nat) (ns' : List Nd) (rho' : Nat → Nat) : Prop where
  inv : Inv ns' rho' c
  ext : ∃ ms, ns' = ns ++ ms
  agree : ∀ k, k < ns.length → rho' k = rho k
  ranks : ∀ k, ns.length ≤ k → k < ns'.length → rho' k ≤ R
theorem Grown.le {ns' : List Nd} {rho' : Nat → Nat} {R : Nat} (h : Grown ns rho c R ns' rho') : Le ns ns' := by
  obtain ⟨ms, rfl⟩ := h.ext
  exact Le.more _ _
theorem Grown.refl (h : Inv ns rho c) (R : Nat) : Grown ns rho c R ns rho := ⟨h, ⟨[], by simp⟩, fun _ _ => rfl, fun k h1 h2 => by omega⟩
theorem Grown.trans {ns' ns'' : List Nd} {rho' rho'' : Nat → Nat} {R : Nat} (h : Grown ns rho c R ns' rho') (h' : Grown ns' rho' c R ns'' rho'') : Grown ns rho c R ns'' rho'' := by
  have hl := h.le.len
  obtain ⟨ms, e⟩ := h.ext
  obtain ⟨ms', e'⟩ := h'.ext
  refine ⟨h'.inv, ⟨ms ++ ms', by rw [e', e, List.append_assoc]⟩, fun k hk => by rw [h'.agree k (by omega), h.agree k hk], fun k h1 h2 => ?_⟩
  by_cases hk : k < ns'.length
  · rw [h'.agree k hk]; exact h.ranks k h1 hk
  · exact h'.ranks k (by omega) h2
theorem Grown.weak {ns' : List Nd} {rho' : Nat → Nat} {R R' : Nat} (h : Grown ns rho c R ns' rho') (hR : R ≤ R') : Grown ns rho c R' ns' rho' := ⟨h.inv, h.ext, h.agree, fun k h1 h2 => Nat.le_trans (h.ranks k h1 h2) hR⟩
theorem one_more (h : Inv ns rho c) {r : Nat} {n' : Nd} (hN : NInv ns (rank rho ns.length r) c ns.length n') : more ns n' = some (ns ++ [n']) ∧ Grown ns rho c r (ns ++ [n']) (rank rho ns.length r) ∧ rank rho ns.length r ns.length = r := by
  obtain ⟨h1, h2, h3, h4, h5⟩ := h.more hN
  refine ⟨h1, ⟨h2, ⟨_, rfl⟩, h4, fun k k1 k2 => ?_⟩, h5⟩
  have : k = ns.length := by simp at k2; omega
  rw [this, h5]
  exact Nat.le_refl _
theorem rank_lt {k r j : Nat} (h : j < k) : rank rho k r j = rho j := by unfold rank; rw [if_neg (by omega)]
theorem rank_self {k r : Nat} : rank rho k r k = r := by unfold rank; rw [if_pos rfl]
theorem pos_last {n' : Nd} (h : n'.pos = true) : Pos (ns ++ [n']) ns.length := ⟨n', by simp, h⟩
theorem nestNd_inv (hc : c ≤ 3000) {op : Op} {k a x base : Nat} {sq : Option Nat} (hop : fn op) (hs : op ≠ .sqrt) (hk : k + c ≤ 3000) (pa : Pos ns a) (px : Pos ns x) (ra : rho a < base) (rx : rho x + 1 < base) (hsq : ∀ s, sq = some s → s < ns.length ∧ rho s < base ∧ Pos ns s) :
    NInv ns (rank rho ns.length (base + c + 1)) c ns.length (nestNd op k a x sq) := by
  obtain ⟨s1, s2, s3, s4⟩ := shape_bits op (k := k) (by omega)
  refine fresh_inv hc rfl rfl rfl rfl rfl hk ?_ bits0 bits0 ?_ ?_
  · intro v hv
    simp [nestNd, fresh] at hv
    rcases hv with rfl | rfl | rfl | rfl
    · exact ⟨bits0, bits0⟩
    · exact ⟨bits_mono s1 (by decide), bits0⟩
    · exact ⟨bits0, bits1 (by decide)⟩
    · exact ⟨bits0, bits_mono s2 (by decide)⟩
  · intro j b hb
    have : b = a := by
      simp only [nestNd, fresh] at hb
      cases j with
      | zero => simpa using hb.symm
      | succ j => simp at hb
    subst this
    have := pa.lt
    rw [rank_lt this, rank_self]
    exact ⟨this, by omega⟩
  · refine .nest a _ _ _ _ rfl rfl rfl rfl ⟨⟨base, c, rank_self, Nat.le_refl _, hk, by rw [rank_lt pa.lt]; exact ra, fun e => absurd ⟨rfl, rfl⟩ e, fun _ => ⟨x, rfl, px.lt, by rw [rank_lt px.lt]; exact rx, px, fun s hs' => ?_⟩⟩, hop, first_nest s3 s4, pa⟩
    obtain ⟨h1, h2, h3⟩ := hsq s hs'
    exact ⟨h1, by rw [rank_lt h1]; exact h2, h3⟩
theorem two_mul_inv (hc : c ≤ 3000) {x r : Nat} {p : Bool} (lx : x < ns.length) (rx : rho x < r) : NInv ns (rank rho ns.length r) c ns.length (two .mul p p x x) := by
  refine fresh_inv hc rfl rfl rfl rfl rfl (by simpa [two, fresh] using hc) ?_ bits0 bits0 ?_ (.bin x x _ _ _ _ rfl rfl rfl)
  · intro v hv
    simp [two, fresh, Kind.cols] at hv
    rcases hv with rfl | rfl | rfl
    · exact ⟨bits1 (by decide), bits0⟩
    · exact ⟨bits0, bits0⟩
    · exact ⟨bits0, bits1 (by decide)⟩
  · intro j b hb
    have : b = x := by
      simp only [two, fresh] at hb
      cases j with
      | zero => simpa using hb.symm
      | succ j => cases j with
        | zero => simpa using hb.symm
        | succ j => simp at hb
    subst this
    rw [rank_lt lx, rank_self]
    exact ⟨lx, rx⟩
theorem nest_inv (h : Inv ns rho c) (hc : c ≤ 3000) {op : Op} {k x base : Nat} {sq : Option Nat} (hop : fn op) (hs : op ≠ .sqrt) (hk : k + c ≤ 3000) (px : Pos ns x) (rx : rho x + 1 < base) (hsq : ∀ s, sq = some s → s < ns.length ∧ rho s < base ∧ Pos ns s) :
    ∃ ns' rho' d, nest ns op k x sq = some (ns', d) ∧ Grown ns rho c (base + c + 1) ns' rho' ∧ ns.length ≤ d ∧ Pos ns' d := by
  unfold nest
  split
  · cases sq with
    | some s =>
      obtain ⟨h1, h2, h3⟩ := hsq s rfl
      obtain ⟨k1, k2, k3⟩ := one_more h (nestNd_inv hc hop hs hk (a := s) h3 px h2 rx (sq := some s) hsq)
      simp only
      rw [k1]
      exact ⟨_, _, _, rfl, k2, Nat.le_refl _, pos_last rfl⟩
    | none =>
      obtain ⟨nx, hx, hpx⟩ := px
      have px : Pos ns x := ⟨nx, hx, hpx⟩
      obtain ⟨k1, k2, k3⟩ := one_more h (two_mul_inv (p := nx.pos) hc px.lt (r := base - 1) (by omega))
      simp only
      rw [hx, Option.bind_some, k1, Option.bind_some]
      have ps : Pos (ns ++ [two .mul nx.pos nx.pos x x]) ns.length := pos_last (by rw [hpx]; rfl)
      obtain ⟨m1, m2, m3⟩ := one_more k2.inv (nestNd_inv (rho := rank rho ns.length (base - 1)) hc hop hs hk (a := ns.length) (base := base) ps (px.le k2.le) (by rw [k3]; omega) (by rw [rank_lt px.lt]; exact rx) (sq := some ns.length) (fun s e => by cases e; exact ⟨by simp, by rw [k3]; omega, ps⟩))
      rw [m1]
      exact ⟨_, _, _, rfl, (k2.weak (by omega)).trans m2, by simp, by have := pos_last (ns := ns ++ [two .mul nx.pos nx.pos x x]) (n' := nestNd op k ns.length x (some ns.length)) rfl; simpa using this⟩
  · obtain ⟨k1, k2, k3⟩ := one_more h (nestNd_inv hc hop hs hk (a := x) px px (by omega) rx (sq := sq) hsq)
    rw [k1]
    exact ⟨_, _, _, rfl, k2, Nat.le_refl _, pos_last rfl⟩
end
end Rf
end Go.Proofs.YteghhlfmcjmnoaaGreatDoor
set_option linter.unusedSimpArgs false
set_option linter.unusedVariables false
namespace Go.Proofs.YteghhlfmcjmnoaaGreatDoor
namespace Rf
open Nw
section
variable {ns : List Nd} {rho : Nat → Nat} {c i : Nat} {n : Nd}
theorem set_at {k : Nat} {n' : Nd} (hk : k ≠ i) : (ns.set i n')[k]? = ns[k]? := List.getElem?_set_ne (fun e => hk e.symm)
structure Mid (ns : List Nd) (rho : Nat → Nat) (i : Nat) (ns' : List Nd) (rho' : Nat → Nat) : Prop where
  le : Le ns ns'
  agree : ∀ k, k < ns.length → rho' k = rho k
  ranks : ∀ k, ns.length ≤ k → k < ns'.length → rho' k < rho i
  same : ∀ (k : Nat) (n : Nd), ns[k]? = some n → rho i < rho k → ns'[k]? = some n
theorem Mid.refl (ns : List Nd) (rho : Nat → Nat) (i : Nat) : Mid ns rho i ns rho := ⟨Le.refl _, fun _ _ => rfl, fun k h1 h2 => by omega, fun k n h _ => h⟩
theorem Mid.trans {ns' ns'' : List Nd} {rho' rho'' : Nat → Nat} (hi : i < ns.length) (h : Mid ns rho i ns' rho') (h' : Mid ns' rho' i ns'' rho'') : Mid ns rho i ns'' rho'' := by
  have hl := h.le.len
  refine ⟨h.le.trans h'.le, fun k hk => by rw [h'.agree k (by omega), h.agree k hk], fun k h1 h2 => ?_, fun k n hn hr => ?_⟩
  · by_cases hk : k < ns'.length
    · rw [h'.agree k hk]; exact h.ranks k h1 hk
    · have := h'.ranks k (by omega) h2
      rw [h.agree i hi] at this
      exact this
  · have hk := (List.getElem?_eq_some_iff.1 hn).1
    refine h'.same k n (h.same k n hn hr) ?_
    rw [h.agree i hi, h.agree k hk]
    exact hr
theorem Mid.set {n' : Nd} (hn : ns[i]? = some n) (hp : n'.pos = n.pos) (ho : n.out.length ≤ n'.out.length) : Mid ns rho i (ns.set i n') rho :=
  ⟨Le.set hn hp ho, fun _ _ => rfl, fun k h1 h2 => by simp at h2; omega, fun k m hm hr => by rw [set_at (by intro e; subst e; omega)]; exact hm⟩
theorem Mid.up {a : Nat} {ns' : List Nd} {rho' : Nat → Nat} (h : Mid ns rho a ns' rho') (hr : rho a < rho i) : Mid ns rho i ns' rho' :=
  ⟨h.le, h.agree, fun k h1 h2 => Nat.lt_trans (h.ranks k h1 h2) hr, fun k n hn hk => h.same k n hn (Nat.lt_trans hr hk)⟩
theorem Mid.grown {ns' : List Nd} {rho' : Nat → Nat} {R : Nat} (h : Grown ns rho c R ns' rho') (hR : R < rho i) : Mid ns rho i ns' rho' := by
  refine ⟨h.le, h.agree, fun k h1 h2 => Nat.lt_of_le_of_lt (h.ranks k h1 h2) hR, fun k n hn _ => ?_⟩
  obtain ⟨ms, rfl⟩ := h.ext
  rw [List.getElem?_append_left (List.getElem?_eq_some_iff.1 hn).1]
  exact hn
theorem Grown.at' {ns' : List Nd} {rho' : Nat → Nat} {R k : Nat} {m : Nd} (h : Grown ns rho c R ns' rho') (hm : ns[k]? = some m) : ns'[k]? = some m := by
  obtain ⟨ms, rfl⟩ := h.ext
  rw [List.getElem?_append_left (List.getElem?_eq_some_iff.1 hm).1]
  exact hm
theorem wide_inv {cl : Int} (h : Inv ns rho c) (hc : c ≤ 3000) (hn : ns[i]? = some n) {a : Nat} {v w x y : V} (ht : n.t = [v, w, x, y]) (ha : n.args = [a]) (hp : n.probe = false) (ok : NestOk ns rho c i n a) (hto : ¬ (n.read = [0] ∧ n.out = [])) :
    ∃ ns' rho' d n', wide ⟨ns, cl⟩ i n 1 = some ⟨ns', cl⟩ ∧ Inv ns' rho' c ∧ Mid ns rho i ns' rho' ∧ ns'[i]? = some n' ∧ n' = { n with args := n.args ++ [d], read := n.read ++ [0] } := by
  have hN := h.at' i n hn
  have hi := (List.getElem?_eq_some_iff.1 hn).1
  obtain ⟨⟨base, ck, h1, h2, h3, h4, h5, h6⟩, h7, h8, h9⟩ := ok
  have hlt := h5 hto
  have key : ∃ ns' rho' d, deeper ns n = some (ns', d) ∧ Grown ns rho c (base + c + 1) ns' rho' ∧ ns.length ≤ d ∧ Pos ns' d := by
    unfold deeper
    by_cases hs : n.op = .sqrt
    · rw [if_pos hs, ha]
      simp only [List.getElem?_cons_zero, Option.bind_some]
      obtain ⟨k1, k2, k3⟩ := one_more h (r := base + c + 1) (n' := { fresh true n.t [a] with op := n.op, nest := true }) (by
        refine fresh_inv hc rfl rfl rfl rfl rfl (by simpa [fresh] using hc) hN.tb bits0 bits0 ?_ (.nest a v w x y ht rfl rfl rfl ⟨⟨base, c, rank_self, Nat.le_refl _, by simpa [fresh] using hc, by rw [rank_lt h9.lt]; exact h4, fun e => absurd ⟨rfl, rfl⟩ e, fun e => absurd hs e⟩, h7, h8, h9⟩)
        intro j b hb
        have : b = a := by
          simp only [fresh] at hb
          cases j with
          | zero => simpa using hb.symm
          | succ j => simp at hb
        subst this
        rw [rank_lt h9.lt, rank_self]
        exact ⟨h9.lt, by omega⟩)
      rw [k1]
      exact ⟨_, _, _, rfl, k2, Nat.le_refl _, pos_last rfl⟩
    · rw [if_neg hs]
      obtain ⟨x', k1, k2, k3, k4, k5⟩ := h6 hs
      rw [k1, Option.bind_some]
      exact nest_inv h hc h7 hs (by omega) k4 k3 k5
  obtain ⟨ns1, rho1, d, e1, g, hd, pd⟩ := key
  have hi1 := g.at' hn
  have hN1 := g.inv.at' i n hi1
  have hr1 : rho1 i = rho i := g.agree i hi
  obtain ⟨r, hr⟩ : ∃ r, n.read = [r] := by
    have := hN.len
    rw [ha] at this
    exact List.length_eq_one_iff.1 this
  have hN' : NInv ns1 rho1 c i { n with args := n.args ++ [d], read := n.read ++ [0] } := by
    refine ⟨by simp [hN.len], ?_, ?_, hN1.hadl, hN1.had0, hN1.fst, hN1.outu, hN1.ku, ?_, hN1.toldb, hN1.hadb, hN1.up, hN1.tb, hN1.pb, hN1.qb, hN1.partb, .bin a d v w x y ht (by simp [ha]) hp⟩
    · intro j b hb
      simp only [ha] at hb
      cases j with
      | zero => exact hN1.arg 0 b (by rw [ha]; simpa using hb)
      | succ j => cases j with
        | zero =>
          have : b = d := by simpa using hb.symm
          subst this
          have := g.ranks b hd pd.lt
          exact ⟨pd.lt, by rw [hr1]; omega⟩
        | succ j => simp at hb
    · intro j b r' x' hb hr' hx'
      simp only [ha, hr] at hb hr'
      cases j with
      | zero => exact hN1.rd 0 b r' x' (by rw [ha]; simpa using hb) (by rw [hr]; simpa using hr') hx'
      | succ j => cases j with
        | zero =>
          have : r' = 0 := by simpa using hr'.symm
          omega
        | succ j => simp at hb
    · intro r' hr'
      simp only [List.mem_append, List.mem_singleton] at hr'
      rcases hr' with hr' | rfl
      · exact hN1.readu r' hr'
      · omega
  obtain ⟨p1, p2, p3⟩ := g.inv.put hi1 (n' := { n with args := n.args ++ [d], read := n.read ++ [0] }) rfl (Nat.le_refl _) hN'
  refine ⟨_, rho1, d, _, ?_, p2, ?_, by rw [List.getElem?_set_self (by have := g.le.len; omega)], rfl⟩
  · unfold wide
    rw [if_pos (by simp [ha]), e1, Option.bind_some, p1]
    rfl
  · exact (Mid.grown g (by omega)).trans hi (Mid.set hi1 rfl (Nat.le_refl _))
theorem lo_bits {m : Mt} {j : Nat} (hb : MBits (2 * j + 1) m) (hj : j ≤ 3000) : Bits 6100 (vat m (0, 1)).1 ∧ Bits 6100 (vat m (0, 1)).2 := by
  have e1 : (vat m (0, 1)).1 = m.b := by simp [vat, Mt.at1]
  have e2 : (vat m (0, 1)).2 = m.d := by simp [vat, Mt.at2]
  rw [e1, e2]
  exact ⟨bits_mono hb.b (by omega), bits_mono hb.d (by omega)⟩
theorem lo_up {m : Mt} (h : Up m) : 0 ≤ (vat m (0, 1)).1 ∧ 0 < (vat m (0, 1)).2 ∧ (known .sqrt (vat m (0, 1)) (vat m (1, 0)) = true → 0 < (vat m (0, 1)).1) := by
  have e1 : vat m (0, 1) = (m.b, m.d) := by simp [vat, Mt.at1, Mt.at2]
  have e2 : vat m (1, 0) = (m.a, m.c) := by simp [vat, Mt.at1, Mt.at2]
  obtain ⟨h1, h2, h3, h4, h5⟩ := h
  have hbc : 0 ≤ m.b * m.c := Int.mul_nonneg h2 h3
  rw [e1, e2]
  refine ⟨h2, ?_, ?_⟩
  · show 0 < m.d
    rcases Int.lt_or_le 0 m.d with h | h
    · exact h
    · have : m.d = 0 := by omega
      rw [this] at h5
      omega
  · intro hk
    unfold known at hk
    simp at hk
    show 0 < m.b
    rcases Int.lt_or_le 0 m.b with h | h
    · exact h
    · have : m.b = 0 := by omega
      rw [this] at h5 hk
      omega
theorem args1 {a b j : Nat} (h : ([a] : List Nat)[j]? = some b) : b = a := by
  cases j with
  | zero => simpa using h.symm
  | succ j => simp at h
theorem args2 {a b d j : Nat} (h : ([a, d] : List Nat)[j]? = some b) : b = a ∨ b = d := by
  cases j with
  | zero => exact Or.inl (by simpa using h.symm)
  | succ j => cases j with
    | zero => exact Or.inr (by simpa using h.symm)
    | succ j => simp at h
theorem outright_inv (h : Inv ns rho c) (hc : c ≤ 3000) {op : Op} {p q : Int} (hop : fn op) (hp : 0 < p) (hq : 0 < q) (pb : Bits 6100 p) (qb : Bits 6100 q) : ∃ ns' rho' d, outright ns op p q = some (ns', d) ∧ Grown ns rho c 1 ns' rho' ∧ ns.length ≤ d ∧ Pos ns' d := by
  unfold outright
  obtain ⟨k1, k2, k3⟩ := one_more h (r := 0) (n' := row op p q) (fresh_inv hc rfl rfl rfl rfl rfl (by simpa [row, fresh] using hc) (fun v hv => by simp [row, fresh] at hv) pb qb (fun j a ha => by simp [row, fresh] at ha) (.con rfl rfl rfl (Or.inr (Or.inr (Or.inr ⟨hop, hp, hq⟩)))))
  rw [k1, Option.bind_some]
  split
  · obtain ⟨m1, m2, m3⟩ := one_more k2.inv (r := 1) (n' := raised ns.length) (by
      refine fresh_inv hc rfl rfl rfl rfl rfl (by simpa [raised, fresh] using hc) ?_ bits0 bits0 ?_ (.una _ _ ns.length rfl rfl (fun e => by cases e))
      · intro v hv
        simp [raised, fresh] at hv
        rcases hv with rfl | rfl
        · exact ⟨bits1 (by decide), bits_neg (bits1 (by decide))⟩
        · exact ⟨bits1 (by decide), bits1 (by decide)⟩
      · intro j a ha
        have := args1 ha
        subst this
        rw [rank_lt (by simp), rank_self, rank_self]
        exact ⟨by simp, by decide⟩)
    rw [m1]
    exact ⟨_, _, _, rfl, (k2.weak (by decide)).trans m2, by simp, by have := pos_last (ns := ns ++ [row op p q]) (n' := raised ns.length) rfl; simpa using this⟩
  · exact ⟨_, _, _, rfl, k2.weak (by decide), Nat.le_refl _, pos_last rfl⟩
theorem turn_inv (h : Inv ns rho c) (hc : c ≤ 3000) (hn : ns[i]? = some n) {v w : V} {x : Nat} (ht : n.t = [v, w]) (ha : n.args = [x]) (hr : n.read = [0]) (hp : n.probe = false) (hpos : n.pos = true) (hop : fn n.op) (ho : n.out = []) (px : Pos ns x) (rx : rho x + 3100 ≤ rho i) (hk : n.k = 0)
    {lo : V} (b1 : Bits 6100 lo.1) (b2 : Bits 6100 lo.2) (l1 : 0 ≤ lo.1) (l2 : 0 < lo.2) (l3 : n.op = .sqrt → 0 < lo.1) :
    ∃ ns' rho', turn ns i n lo = some ns' ∧ Inv ns' rho' c ∧ Mid ns rho i ns' rho' ∧ (∃ n', ns'[i]? = some n' ∧ n'.out = []) := by
  have hN := h.at' i n hn
  have hi := (List.getElem?_eq_some_iff.1 hn).1
  have ha0 : n.args[0]? = some x := by rw [ha]; rfl
  unfold turn
  rw [ha0, Option.bind_some]
  by_cases hs : n.op = .sqrt
  · rw [if_pos hs]
    obtain ⟨a, b, e1, e2, e3, e4, e5⟩ := near_ok (l3 hs) l2 b1 b2
    rw [e1, Option.bind_some]
    have hN' : NInv ns rho c i { n with t := [(0, 0), (b, 0), (a, b), (0, a)], nest := true } := by
      refine ⟨hN.len, hN.arg, hN.rd, hN.hadl, hN.had0, hN.fst, hN.outu, hN.ku, hN.readu, hN.toldb, hN.hadb, hN.up, ?_, hN.pb, hN.qb, hN.partb, .nest x _ _ _ _ rfl ha hp rfl ⟨⟨rho i - c - 1, c, by omega, Nat.le_refl _, by simp only; omega, by omega, fun e => absurd ⟨hr, ho⟩ e, fun e => absurd hs e⟩, hop, first_root (by omega) e3, px⟩⟩
      intro v hv
      simp at hv
      rcases hv with rfl | rfl | rfl | rfl
      · exact ⟨bits0, bits0⟩
      · exact ⟨bits_mono e5 (by decide), bits0⟩
      · exact ⟨bits_mono e4 (by decide), bits_mono e5 (by decide)⟩
      · exact ⟨bits0, bits_mono e4 (by decide)⟩
    obtain ⟨p1, p2, p3⟩ := h.put hn (n' := { n with t := [(0, 0), (b, 0), (a, b), (0, a)], nest := true }) rfl (Nat.le_refl _) hN'
    exact ⟨_, rho, p1, p2, Mid.set hn rfl (Nat.le_refl _), _, List.getElem?_set_self hi, ho⟩
  · rw [if_neg hs]
    -- z
    have Z : ∃ ns1 rho1 z, (if 0 < lo.1 then (more ns (fresh true (restCols n.op lo) [x])).map fun ns1 => (ns1, ns.length) else some (ns, x)) = some (ns1, z) ∧ Grown ns rho c (rho x + 1) ns1 rho1 ∧ Pos ns1 z ∧ rho1 z ≤ rho x + 1 := by
      by_cases hl : 0 < lo.1
      · rw [if_pos hl]
        obtain ⟨k1, k2, k3⟩ := one_more h (r := rho x + 1) (n' := fresh true (restCols n.op lo) [x]) (by
          refine fresh_inv hc rfl rfl rfl rfl rfl (by simpa [fresh] using hc) ?_ bits0 bits0 ?_ (.una _ _ x rfl rfl (fun e => by cases e))
          · intro v hv
            simp [fresh, restCols] at hv
            rcases hv with rfl | rfl
            · refine ⟨bits_mono b2 (by decide), ?_⟩
              simp only
              split
              · exact bits_mono b1 (by decide)
              · exact bits0
            · refine ⟨bits_mono (bits_neg b1) (by decide), ?_⟩
              simp only
              split
              · exact bits_mono (bits_add b1 b2) (by decide)
              · exact bits_mono b2 (by decide)
          · intro j b hb
            have := args1 hb
            subst this
            rw [rank_lt px.lt, rank_self]
            exact ⟨px.lt, by omega⟩)
        rw [k1]
        exact ⟨_, _, _, rfl, k2, pos_last rfl, by rw [k3]; exact Nat.le_refl _⟩
      · rw [if_neg hl]
        exact ⟨_, _, _, rfl, Grown.refl h _, px, by omega⟩
    obtain ⟨ns1, rho1, z, e1, g1, pz, rz⟩ := Z
    rw [e1, Option.bind_some]
    -- the nest
    obtain ⟨ns2, rho2, d, e2, g2, hd, pd⟩ := nest_inv (base := rho x + 3) g1.inv hc (k := 0) (sq := none) hop hs (by omega) pz (by omega) (fun s e => by cases e)
    simp only
    rw [e2, Option.bind_some]
    have rd : rho2 d ≤ rho x + 3 + c + 1 := g2.ranks d hd pd.lt
    have G2 : Grown ns rho c (rho x + 3 + c + 1) ns2 rho2 := (g1.weak (by omega)).trans g2
    -- raised
    have T : ∃ ns3 rho3 t, (if n.op = .exp then (more ns2 (raised d)).map fun ns3 => (ns3, ns2.length) else some (ns2, d)) = some (ns3, t) ∧ Grown ns rho c (rho x + 3 + c + 2) ns3 rho3 ∧ Pos ns3 t ∧ rho3 t ≤ rho x + 3 + c + 2 := by
      by_cases he : n.op = .exp
      · rw [if_pos he]
        obtain ⟨k1, k2, k3⟩ := one_more G2.inv (r := rho x + 3 + c + 2) (n' := raised d) (by
          refine fresh_inv hc rfl rfl rfl rfl rfl (by simpa [raised, fresh] using hc) ?_ bits0 bits0 ?_ (.una _ _ d rfl rfl (fun e => by cases e))
          · intro v hv
            simp [raised, fresh] at hv
            rcases hv with rfl | rfl
            · exact ⟨bits1 (by decide), bits_neg (bits1 (by decide))⟩
            · exact ⟨bits1 (by decide), bits1 (by decide)⟩
          · intro j b hb
            have := args1 hb
            subst this
            rw [rank_lt pd.lt, rank_self]
            exact ⟨pd.lt, by omega⟩)
        rw [k1]
        exact ⟨_, _, _, rfl, (G2.weak (by omega)).trans k2, pos_last rfl, by rw [k3]; exact Nat.le_refl _⟩
      · rw [if_neg he]
        exact ⟨_, _, _, rfl, G2.weak (by omega), pd, by omega⟩
    obtain ⟨ns3, rho3, t, e3, g3, pt, rt⟩ := T
    simp only
    rw [e3, Option.bind_some]
    simp only
    have hi3 := g3.at' hn
    have hN3 := g3.inv.at' i n hi3
    have hr3 : rho3 i = rho i := g3.agree i hi
    by_cases hl : lo.1 = 0
    · rw [if_pos hl]
      have hN' : NInv ns3 rho3 c i { n with args := [t] } := by
        refine ⟨by simp [hr], ?_, ?_, hN3.hadl, hN3.had0, hN3.fst, hN3.outu, hN3.ku, hN3.readu, hN3.toldb, hN3.hadb, hN3.up, hN3.tb, hN3.pb, hN3.qb, hN3.partb, .una v w t ht rfl (fun e => by simp only at e; rw [hp] at e; cases e)⟩
        · intro j b hb
          have := args1 hb
          subst this
          exact ⟨pt.lt, by rw [hr3]; omega⟩
        · intro j b r' x' hb hr' hx'
          simp only [hr] at hr'
          have := args1 hr'
          omega
      obtain ⟨p1, p2, p3⟩ := g3.inv.put hi3 (n' := { n with args := [t] }) rfl (Nat.le_refl _) hN'
      exact ⟨_, rho3, p1, p2, (Mid.grown g3 (by omega)).trans hi (Mid.set hi3 rfl (Nat.le_refl _)), _, List.getElem?_set_self (List.getElem?_eq_some_iff.1 hi3).1, ho⟩
    · rw [if_neg hl]
      obtain ⟨ns4, rho4, f, e4, g4, hf, pf⟩ := outright_inv g3.inv hc hop (show 0 < lo.1 by omega) l2 b1 b2
      rw [e4, Option.bind_some]
      simp only
      have G4 : Grown ns rho c (rho x + 3 + c + 2) ns4 rho4 := g3.trans (g4.weak (by omega))
      have hi4 := G4.at' hn
      have hN4 := G4.inv.at' i n hi4
      have hr4 : rho4 i = rho i := G4.agree i hi
      have rf : rho4 f ≤ 1 := g4.ranks f hf pf.lt
      have rt4 : rho4 t = rho3 t := g4.agree t pt.lt
      have pt4 : Pos ns4 t := pt.le g4.le
      have hN' : NInv ns4 rho4 c i { n with t := (if n.op = .exp then Kind.mul else Kind.add).cols, args := [f, t], read := [0, 0] } := by
        refine ⟨rfl, ?_, ?_, hN4.hadl, hN4.had0, hN4.fst, hN4.outu, hN4.ku, ?_, hN4.toldb, hN4.hadb, hN4.up, ?_, hN4.pb, hN4.qb, hN4.partb, ?_⟩
        · intro j b hb
          rcases args2 hb with rfl | rfl
          · exact ⟨pf.lt, by rw [hr4]; omega⟩
          · exact ⟨pt4.lt, by rw [hr4, rt4]; omega⟩
        · intro j b r' x' hb hr' hx'
          rcases args2 hr' with e | e <;> omega
        · intro r' hr'
          simp at hr'
          omega
        · intro v hv
          simp only at hv
          split at hv
          · simp [Kind.cols] at hv
            rcases hv with rfl | rfl | rfl
            · exact ⟨bits1 (by decide), bits0⟩
            · exact ⟨bits0, bits0⟩
            · exact ⟨bits0, bits1 (by decide)⟩
          · simp [Kind.cols] at hv
            rcases hv with rfl | rfl | rfl
            · exact ⟨bits0, bits0⟩
            · exact ⟨bits1 (by decide), bits0⟩
            · exact ⟨bits0, bits1 (by decide)⟩
        · by_cases he : n.op = .exp
          · exact .bin f t _ _ _ _ (by simp only [he, if_true]; rfl) rfl hp
          · exact .bin f t _ _ _ _ (by simp only [he, if_false]; rfl) rfl hp
      obtain ⟨p1, p2, p3⟩ := G4.inv.put hi4 (n' := { n with t := (if n.op = .exp then Kind.mul else Kind.add).cols, args := [f, t], read := [0, 0] }) rfl (Nat.le_refl _) hN'
      exact ⟨_, rho4, p1, p2, (Mid.grown G4 (by omega)).trans hi (Mid.set hi4 rfl (Nat.le_refl _)), _, List.getElem?_set_self (List.getElem?_eq_some_iff.1 hi4).1, ho⟩
end
end Rf
end Go.Proofs.YteghhlfmcjmnoaaGreatDoor
