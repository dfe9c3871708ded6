import Derived.Test.YteghhlfmcjmnoaaGreatDoorQg
set_option linter.unusedSimpArgs false
set_option linter.unusedVariables false
namespace Go.Proofs.YteghhlfmcjmnoaaGreatDoor
open Go.RowKit
namespace Ab
open Rf (Nd Inv NInv Wt)
theorem more_app {ns r : List Nd} {n : Nd} (h : Rf.more ns n = some r) : r = ns ++ [n] := by
  unfold Rf.more at h
  split at h
  · exact (Option.some.inj h).symm
  · cases h
structure Grew (w : World) (b0 : Nat) (own : Nat → Option Own) (at1 : Nat → Nat) (ns : List Nd) (w' : World) (ns' : List Nd) (own' : Nat → Option Own) (at2 : Nat → Nat) : Prop where
  chg : Chg w w' []
  own : ∀ k, k < w.heap.size → own' k = own k
  nod : Nod w' b0 own' at2 ns'
  at' : ∀ a, a < ns.length → at2 a = at1 a
section
variable {w w2 w3 : World} {b0 : Nat} {own own2 : Nat → Option Own} {at1 at2 : Nat → Nat} {ns ns2 : List Nd} {rho : Nat → Nat} {c : Nat}
theorem Grew.one (g : Grew w b0 own at1 ns w2 ns2 own2 at2) (hI : Inv ns2 rho c) (hle : ns.length ≤ ns2.length) (hb : b0 ≤ w.heap.size) {zs : List Int} {hs : Bool} {uns : Int} {lp rp cv : Value} {e : Ending} (hnd : NewNd w2 zs hs uns lp rp cv e w3) {n : Nd}
    (hn : ∀ own3 at3, (∀ a, a < ns2.length → at3 a = at2 a) → own3 (at3 ns2.length) = some (.nd ns2.length) → b0 ≤ at3 ns2.length → NodeAt w3 (at3 ns2.length) zs hs uns 0 0 0 0 lp rp nilS' cv nilP → NodeOk w3 b0 own3 at3 (ns2 ++ [n]) ns2.length n) :
    ∃ own3 at3, e = .returned (ptrB (at3 ns2.length)) ∧ Grew w b0 own at1 ns w3 (ns2 ++ [n]) own3 at3 := by
  obtain ⟨m, he, hch, hm, hnode⟩ := hnd
  have em : atL ns2.length [m] at2 ns2.length = m := atL_ge (j := 0) rfl
  obtain ⟨k1, k2, k3⟩ := nod_add (blks := [m]) (new := [n]) g.nod hI hch (fun x hx => by simp at hx; rw [hx]; exact hm) (by
    intro j mm hj
    match j, hj with
    | 0, hj =>
      cases hj
      refine hn _ _ (fun a ha => atL_lt ha) ?_ ?_ ?_
      · rw [em]; exact ownL_at (j := 0) (by simp) rfl
      · rw [em]; exact Nat.le_trans hb (Nat.le_trans g.chg.on.size hm)
      · rw [em]; exact hnode
    | j + 1, hj => simp at hj)
  exact ⟨_, _, by rw [em]; exact he, g.chg.trans hch, fun k hk => by rw [k1 k (Nat.lt_of_lt_of_le hk g.chg.on.size), g.own k hk], k2, fun a ha => by rw [k3 a (by omega), g.at' a ha]⟩
theorem Grew.two (g : Grew w b0 own at1 ns w2 ns2 own2 at2) (hI : Inv ns2 rho c) (hle : ns.length ≤ ns2.length) (hb : b0 ≤ w.heap.size) {far : Nat} {zs1 zs : List Int} {hs : Bool} {uns : Int} {lp1 rp1 cv1 : Value} {e : Ending} (hnd : NewNd w2 zs hs uns nilP (ptrB far) nilP e w3) (hf : w2.heap.size ≤ far) (hfar : NodeAt w3 far zs1 false 0 0 0 0 0 lp1 rp1 nilS' cv1 nilP) (hne : e ≠ .returned (ptrB far)) {n1 n : Nd}
    (hn1 : ∀ own3 at3, (∀ a, a < ns2.length → at3 a = at2 a) → own3 (at3 ns2.length) = some (.nd ns2.length) → b0 ≤ at3 ns2.length → NodeAt w3 (at3 ns2.length) zs1 false 0 0 0 0 0 lp1 rp1 nilS' cv1 nilP → NodeOk w3 b0 own3 at3 (ns2 ++ [n1, n]) ns2.length n1)
    (hn : ∀ own3 at3, own3 (at3 (ns2.length + 1)) = some (.nd (ns2.length + 1)) → b0 ≤ at3 (ns2.length + 1) → NodeAt w3 (at3 (ns2.length + 1)) zs hs uns 0 0 0 0 nilP (ptrB (at3 ns2.length)) nilS' nilP nilP → NodeOk w3 b0 own3 at3 (ns2 ++ [n1, n]) (ns2.length + 1) n) :
    ∃ own3 at3, e = .returned (ptrB (at3 (ns2.length + 1))) ∧ Grew w b0 own at1 ns w3 (ns2 ++ [n1, n]) own3 at3 := by
  obtain ⟨m, he, hch, hm, hnode⟩ := hnd
  have hmf : far ≠ m := by
    rintro rfl
    exact hne he
  have e0 : atL ns2.length [far, m] at2 ns2.length = far := atL_ge (j := 0) rfl
  have e1 : atL ns2.length [far, m] at2 (ns2.length + 1) = m := atL_ge (j := 1) rfl
  have hnd2 : [far, m].Nodup := by simp [hmf]
  obtain ⟨k1, k2, k3⟩ := nod_add (blks := [far, m]) (new := [n1, n]) g.nod hI hch (fun x hx => by
    simp at hx
    rcases hx with rfl | rfl
    · exact hf
    · exact hm) (by
    intro j mm hj
    match j, hj with
    | 0, hj =>
      cases hj
      refine hn1 _ _ (fun a ha => atL_lt ha) ?_ ?_ ?_
      · rw [e0]; exact ownL_at (j := 0) hnd2 rfl
      · rw [e0]; exact Nat.le_trans hb (Nat.le_trans g.chg.on.size hf)
      · rw [e0]; exact hfar
    | 1, hj =>
      cases hj
      refine hn _ _ ?_ ?_ ?_
      · rw [e1]; exact ownL_at (j := 1) hnd2 rfl
      · rw [e1]; exact Nat.le_trans hb (Nat.le_trans g.chg.on.size hm)
      · rw [e0, e1]; exact hnode
    | j + 2, hj => simp at hj)
  exact ⟨_, _, by rw [e1]; exact he, g.chg.trans hch, fun k hk => by rw [k1 k (Nat.lt_of_lt_of_le hk g.chg.on.size), g.own k hk], k2, fun a ha => by rw [k3 a (by omega), g.at' a ha]⟩
theorem Grew.refl (h : Nod w b0 own at1 ns) (hI : Inv ns rho c) (hch : Chg w w2 []) : Grew w b0 own at1 ns w2 ns own at1 := ⟨hch, fun _ _ => rfl, h.still hI hch, fun _ _ => rfl⟩
theorem Grew.on (g : Grew w b0 own at1 ns w2 ns2 own2 at2) (hI : Inv ns2 rho c) (hch : Chg w2 w3 []) : Grew w b0 own at1 ns w3 ns2 own2 at2 := ⟨g.chg.trans hch, g.own, g.nod.still hI hch, g.at'⟩
theorem Grew.trans {own3 : Nat → Option Own} {at3 : Nat → Nat} {ns3 : List Nd} (g : Grew w b0 own at1 ns w2 ns2 own2 at2) (hle : ns.length ≤ ns2.length) (g' : Grew w2 b0 own2 at2 ns2 w3 ns3 own3 at3) : Grew w b0 own at1 ns w3 ns3 own3 at3 := ⟨g.chg.trans g'.chg, fun k hk => by rw [g'.own k (Nat.lt_of_lt_of_le hk g.chg.on.size), g.own k hk], g'.nod, fun a ha => by rw [g'.at' a (by omega), g.at' a ha]⟩
theorem nod_blk (h : Nod w b0 own at1 ns) {d : Nat} {n : Nd} (hd : ns[d]? = some n) : (∃ ys : List Value, w.heap[at1 d]? = some (.cells (.bool (!n.pos) :: ys).toArray 205 (0, 0))) ∧ n.had[0]? = some Rf.one := by
  have hk := h d n hd
  obtain ⟨p0, q0, p1, q1, p2, q2, p3, q3, mt, pl, gv, cv, nv, hB, _⟩ := hk.ex
  obtain ⟨xs, h1, _⟩ := hB.nd.ex
  exact ⟨⟨_, h1⟩, hk.hc.fst⟩
end
def MadeR (t : Wt) (w : World) (b0 : Nat) (own : Nat → Option Own) (at1 : Nat → Nat) (ns : List Nd) (e : Ending) (w' : World) : Prop := ∃ ns' d own' at2, Rf.of t ns = some (ns', d) ∧ e = .returned (ptrB (at2 d)) ∧ Grew w b0 own at1 ns w' ns' own' at2
def MadeG (t : Wt) : Prop := ∀ (w : World) (b0 : Nat) (own : Nat → Option Own) (at1 : Nat → Nat) (ns : List Nd) (rho : Nat → Nat) (c : Nat) (v : Value), Nod w b0 own at1 ns → b0 ≤ w.heap.size → c ≤ 3000 → Inv ns rho c → t.Ok → PartAt w t v → Calls Tryz.prog 124 #[v] w (MadeR t w b0 own at1 ns)
theorem hold_xs {w : World} {zs : List Int} {xs : List Value} (h : Hold true w zs xs) (h2 : zs.length = 2) (hb : ∀ z ∈ zs, Bits 1 z) : xs.length = 4 ∧ ∀ x ∈ xs, One x := by
  have := hold_cs zs xs 0 (φ := fun _ => none) (zs.map fun z => (z, 1)) h hb fun j z hz => by rw [Nat.zero_add, List.getElem?_map, hz]; rfl
  rw [h2] at this
  exact ⟨this.len.symm, all_ones this⟩
theorem bit1 {z : Int} (h : RB 6100 z) : Bits 1 z := bits_up (N := 6100) (by decide) h
theorem made_fr (p q : Int) : MadeG (.fr p q) := by
  rintro w b0 own at1 ns rho c v hN hb hc hI hok ⟨k, xs, tv, lv, rv, rfl, hB, hH, o1, o2, o3⟩
  obtain ⟨ns', rho', d, hof, _⟩ := Rf.of_inv (.fr p q) ns rho hok hc hI
  have hof2 := hof
  unfold Rf.of at hof
  obtain ⟨ns1, h1, h2⟩ := mpd hof
  cases h2
  have h3 := more_app h1
  subst h3
  refine (made_N hB hH (by
    intro z hz
    simp at hz
    rcases hz with rfl | rfl
    · exact bit1 hok.2.1
    · exact bit1 hok.2.2) o1 o2 o3).mono ?_
  intro e w' hnd
  obtain ⟨own3, at3, g1, g2⟩ := (Grew.refl hN hI (Chg.refl w)).one hI (Nat.le_refl _) hb (n := Rf.fresh (decide (0 ≤ p)) [(p, q)] []) hnd (by
    intro own3 at3 _ h4 h5 h6
    refine leaf_ok ?_ h4 h5
    have : (!decide (0 ≤ p)) = decide (p < 0) := by
      by_cases hp : 0 ≤ p
      · simp [hp]
      · simp [hp]; omega
    rw [this]
    exact h6)
  exact ⟨_, _, own3, at3, hof2, g1, g2⟩
theorem made_con (op : Rf.Op) (ts : List Int) : MadeG (.con op ts) := by
  rintro w b0 own at1 ns rho c v hN hb hc hI hok ⟨k, xs, zs, tv, lv, rv, rfl, hB, hH, z2, zb, o1, o2, o3, hcf⟩
  obtain ⟨ns', rho', d, hof, _⟩ := Rf.of_inv (.con op ts) ns rho hok hc hI
  have hof2 := hof
  unfold Rf.of at hof
  obtain ⟨ns1, h1, h2⟩ := mpd hof
  cases h2
  have h3 := more_app h1
  subst h3
  obtain ⟨x4, x1⟩ := hold_xs hH z2 zb
  have hkd : kindZ op = 2 ∨ kindZ op = 3 ∨ kindZ op = 4 := by
    rcases hok with rfl | rfl | ⟨rfl, _⟩
    · exact Or.inl rfl
    · exact Or.inr (Or.inl rfl)
    · exact Or.inr (Or.inr rfl)
  refine (made_C hkd hB x4 x1 o1 o2 o3).mono ?_
  rintro e w' ⟨cb, cs, hnd, hblk, hold, _⟩
  have hch : Chg w w' [] := by obtain ⟨m, _, h, _⟩ := hnd; exact h
  obtain ⟨own3, at3, g1, g2⟩ := (Grew.refl hN hI (Chg.refl w)).one hI (Nat.le_refl _) hb (n := { Rf.fresh true [] [] with op := op, terms := ts }) hnd (by
    intro own3 at3 _ h4 h5 h6
    refine con_okG h6 ?_ h4 h5
    rcases hok with rfl | rfl | ⟨rfl, l2, lb⟩
    · exact con_pi o1 hblk hold
    · exact con_e o1 hblk hold
    · refine con_cf ?_ l2 lb hblk
      obtain ⟨g, cap, rest, e1, e0, e2⟩ := hcf rfl
      exact ⟨g, cap, rest, e1, e0, on_frozen hch.on e2 (by decide)⟩)
  exact ⟨_, _, own3, at3, hof2, g1, g2⟩
theorem one_ptr {w : World} {t : Wt} {v : Value} (h : PartAt w t v) : One v := by
  obtain ⟨k, rfl⟩ := PartAt.ptr t v h
  rfl
theorem made_neg {t : Wt} (ih : MadeG t) : MadeG (.neg t) := by
  rintro w b0 own at1 ns rho c v hN hb hc hI hok ⟨k, xs, zs, tv, lv, rv, rfl, hB, hH, z2, zb, o1, o3, hl⟩
  obtain ⟨ns', rho', d, hof, _⟩ := Rf.of_inv (.neg t) ns rho hok hc hI
  have hof2 := hof
  unfold Rf.of at hof
  obtain ⟨⟨ns1, d1⟩, h1, h2⟩ := bnd hof
  obtain ⟨ns2, h3, h4⟩ := mpd h2
  cases h4
  have h5 := more_app h3
  subst h5
  obtain ⟨ns1', rho1, d1', e1, gr, hd1, _, _⟩ := Rf.of_inv t ns rho hok hc hI
  rw [h1] at e1
  cases e1
  obtain ⟨x4, x1⟩ := hold_xs hH z2 zb
  refine made_M hB x4 x1 o1 (one_ptr hl) o3 fun w1 c1 => ?_
  refine (ih w1 b0 own at1 ns rho c lv (hN.still hI c1) (Nat.le_trans hb c1.on.size) hc hI hok (PartAt.keep c1.on t lv hl)).mono ?_
  rintro e w2 ⟨ns1', d1', own2, at2, e2, rfl, g⟩
  rw [h1] at e2
  cases e2
  have hn1 : ns1[d1]? = some ns1[d1] := List.getElem?_eq_getElem hd1
  obtain ⟨hblk, hhad⟩ := nod_blk g.nod hn1
  refine ⟨at2 d1, rfl, ⟨_, hblk⟩, fun e3 w3 hnd => ?_⟩
  have g0 := (Grew.refl hN hI c1).trans (Nat.le_refl _) g
  obtain ⟨own3, at3, k1, k2⟩ := g0.one gr.inv gr.le.len hb (n := Rf.fresh false [(-1, 0), (0, 1)] [d1]) hnd (by
    intro own3 at3 ha h4 h5 h6
    rw [← ha d1 hd1] at h6
    exact una_ok h6 rfl rfl rfl rfl rfl rfl rfl rfl (fun e => by cases e) (by rw [List.getElem?_append_left hd1]; exact hn1) hhad cof_neg h4 h5)
  exact ⟨_, _, own3, at3, hof2, k1, k2⟩
theorem made_two (kk : Rf.Kind) {a b : Wt} (iha : MadeG a) (ihb : MadeG b) : MadeG (.two kk a b) := by
  rintro w b0 own at1 ns rho c v hN hb hc hI hok ⟨k, xs, zs, tv, lv, rv, rfl, hB, hH, z2, zb, o1, hl, hr⟩
  obtain ⟨ns', rho', d, hof, _⟩ := Rf.of_inv (.two kk a b) ns rho hok hc hI
  have hof2 := hof
  unfold Rf.of at hof
  obtain ⟨⟨ns1, d1⟩, h1, h2⟩ := bnd hof
  obtain ⟨⟨ns2, d2⟩, h3, h4⟩ := bnd h2
  obtain ⟨nx, h5, h6⟩ := bnd h4
  obtain ⟨ny, h7, h8⟩ := bnd h6
  obtain ⟨ns3, h9, h10⟩ := mpd h8
  cases h10
  have h11 := more_app h9
  subst h11
  obtain ⟨ns1', rho1, d1', e1, gr, hd1, _, _⟩ := Rf.of_inv a ns rho hok.1 hc hI
  rw [h1] at e1
  cases e1
  obtain ⟨ns2', rho2, d2', e2, gr2, hd2, _, _⟩ := Rf.of_inv b ns1 rho1 hok.2 hc gr.inv
  have h3' : Rf.of b ns1 = some (ns2, d2) := h3
  rw [h3'] at e2
  cases e2
  obtain ⟨x4, x1⟩ := hold_xs hH z2 zb
  refine made_B kk hB x4 x1 o1 (one_ptr hl) (one_ptr hr) fun w1 c1 => ?_
  refine (iha w1 b0 own at1 ns rho c lv (hN.still hI c1) (Nat.le_trans hb c1.on.size) hc hI hok.1 (PartAt.keep c1.on a lv hl)).mono ?_
  rintro e w2 ⟨ns1', d1', own2, at2, e2, rfl, g⟩
  rw [h1] at e2
  cases e2
  refine ⟨at2 d1, rfl, g.chg, fun w3 c3 => ?_⟩
  have g0 := (Grew.refl hN hI c1).trans (Nat.le_refl _) g
  have gc := g0.on gr.inv c3
  refine (ihb w3 b0 own2 at2 ns1 rho1 c rv gc.nod (Nat.le_trans hb gc.chg.on.size) hc gr.inv hok.2 (PartAt.keep gc.chg.on b rv hr)).mono ?_
  rintro e w4 ⟨ns2', d2', own4, at4, e4, rfl, g4⟩
  rw [h3'] at e4
  cases e4
  refine ⟨at4 d2, rfl, g4.chg, fun w5 c5 => ?_⟩
  have g5 := (gc.trans gr.le.len g4).on gr2.inv c5
  have hd12 : d1 < ns2.length := Nat.lt_of_lt_of_le hd1 gr2.le.len
  have ex1 : ns2[d1]? = some nx := h5
  have ey1 : ns2[d2]? = some ny := h7
  obtain ⟨hblk1, hh1⟩ := nod_blk g5.nod ex1
  obtain ⟨hblk2, hh2⟩ := nod_blk g5.nod ey1
  have e14 : at4 d1 = at2 d1 := g4.at' d1 hd1
  rw [e14] at hblk1
  refine ⟨_, _, hblk1, hblk2, fun e6 w6 hnd => ?_⟩
  obtain ⟨own3, at3, k1, k2⟩ := g5.one gr2.inv (Nat.le_trans gr.le.len gr2.le.len) hb (n := Rf.two kk nx.pos ny.pos d1 d2) hnd (by
    intro own3 at3 ha h4 h5 h6
    have a1 : at3 d1 = at2 d1 := by rw [ha d1 hd12, e14]
    rw [← a1, ← ha d2 hd2] at h6
    have hp : opS kk (!nx.pos) (!ny.pos) = !(Rf.two kk nx.pos ny.pos d1 d2).pos := by
      cases kk <;> cases nx.pos <;> cases ny.pos <;> rfl
    rw [hp] at h6
    refine bin_ok h6 (by cases kk <;> rfl) (by rw [List.getElem?_append_left hd12]; exact ex1) hh1 (by rw [List.getElem?_append_left hd2]; exact ey1) hh2 (cof_op kk) h4 h5)
  exact ⟨_, _, own3, at3, hof2, k1, k2⟩
theorem NewC.on {w w2 w3 : World} {kd : Int} {zs : List Int} {e : Ending} (h : NewC w kd zs e w2) (hc : Chg w2 w3 []) : NewC w kd zs e w3 := by
  obtain ⟨cb, cs, h1, h2, h3⟩ := h
  exact ⟨cb, cs, h1.on hc, hc.at h2 (by simp), hold_on hc.on h3⟩
theorem NewX.on {w w2 w3 : World} {zs : List Int} {e : Ending} (h : NewX w zs e w2) (hc : Chg w2 w3 []) : NewX w zs e w3 := by
  obtain ⟨far, cb, cs, h1, h2, h3, h4, h5, h6⟩ := h
  exact ⟨far, cb, cs, h1.on hc, h2, h3.keep hc.on (hc.low far h3.lt (by simp)), hc.at h4 (by simp), hold_on hc.on h5, h6⟩
theorem con_row {w : World} {cb : Nat} {op : Rf.Op} (hop : Rf.fn op) (hsq : op ≠ .sqrt) {p q : Int} {cs : List Value} (hp : 0 < p) (hq : 0 < q) (bp : RB 6100 p) (bq : RB 6100 q) (hblk : w.heap[cb]? = some (.cells (.int .i64 (kindZ op) :: nilS' :: cs).toArray 224 (0, 0))) (hold : Hold true w [p, q, T2 p q, B2 p q, 0, 0, 0, 0] cs) : ConAt w (Rf.row op p q) cb := by
  obtain ⟨g, hg, e0, e1, e2, _⟩ := low_eq (p := p * p) (q := q * q) (Int.le_of_lt (Int.mul_pos hp hp)) (Int.mul_pos hq hq)
  have := con_new (w := w) (cb := cb) hop hsq (T := p) (B := q) (T2 := T2 p q) (B2 := B2 p q) (G := 1) (g2 := g) (cs := cs) (by decide) hp hq hg e1 e2 ⟨(by show RB 6100 (1 * p); rw [Int.one_mul]; exact bp), (by show RB 6100 (1 * q); rw [Int.one_mul]; exact bq)⟩ hblk hold
  rw [Int.one_mul, Int.one_mul] at this
  exact this
theorem gcd_sq {p q : Int} (hp : 0 < p) (hq : 0 < q) : 0 < gcdZ (p * p) (q * q) := by
  obtain ⟨g, hg, e0, _⟩ := low_eq (p := p * p) (q := q * q) (Int.le_of_lt (Int.mul_pos hp hp)) (Int.mul_pos hq hq)
  rw [e0]
  exact hg
theorem made_ff {op : Rf.Op} {p q : Int} : MadeG (.fn op (.fr p q)) := by
  rintro w b0 own at1 ns rho c v hN hb hc hI hok ⟨k, xs, zs, tv, lv, rv, rfl, hB, hH, z2, zb, o1, o3, hl⟩
  obtain ⟨ns', rho', d, hof, _⟩ := Rf.of_inv (.fn op (.fr p q)) ns rho hok hc hI
  have hof2 := hof
  obtain ⟨hop, ⟨hq, bp, bq⟩, hpos⟩ := hok
  have hp : 0 < p := hpos p q rfl
  obtain ⟨x4, x1⟩ := hold_xs hH z2 zb
  refine made_F (kind_uns hop) hB x4 x1 o1 (one_ptr hl) o3 fun w1 c1 => ?_
  obtain ⟨k2, ys, tv2, lv2, rv2, rfl, hB2, hH2, p1, p2, p3⟩ := PartAt.keep c1.on (.fr p q) lv hl
  have hb2 : ∀ z ∈ [p, q], Bits 1 z := by
    intro z hz
    simp at hz
    rcases hz with rfl | rfl
    · exact bit1 bp
    · exact bit1 bq
  have hg := gcd_sq hp hq
  have g0 := Grew.refl hN hI c1
  have hout : Rf.outright ns op p q = some (ns', d) := by
    unfold Rf.of at hof
    exact hof
  unfold Rf.outright at hout
  obtain ⟨ns1, h1, h2⟩ := bnd hout
  have h3 := more_app h1
  subst h3
  have single : op ≠ .exp → ∀ zs, (∀ w3 cb cs, w3.heap[cb]? = some (.cells (.int .i64 (kindZ op) :: nilS' :: cs).toArray 224 (0, 0)) → Hold true w3 zs cs → ConAt w3 (Rf.row op p q) cb) → ∀ e w2, NewC w1 (kindZ op) zs e w2 → ∃ v, e = .returned v ∧ One v ∧ ∀ w3, Chg w2 w3 [] → MadeR (.fn op (.fr p q)) w b0 own at1 ns (.returned v) w3 := by
    intro hne zs hcon e w2 hnc
    rw [if_neg hne] at h2
    cases h2
    obtain ⟨m, he⟩ : ∃ m, e = .returned (ptrB m) := by
      obtain ⟨_, _, ⟨m, he, _⟩, _⟩ := hnc
      exact ⟨m, he⟩
    refine ⟨ptrB m, he, rfl, fun w3 c3 => ?_⟩
    obtain ⟨cb, cs, hnd, hblk, hold⟩ := hnc.on c3
    rw [he] at hnd
    obtain ⟨own3, at3, k1, k2⟩ := g0.one hI (Nat.le_refl _) hb (n := Rf.row op p q) hnd (by
      intro own3 at3 ha h4 h5 h6
      exact con_nodeOk h6 (hcon w3 cb cs hblk hold) h4 h5)
    exact ⟨_, _, own3, at3, hof2, k1, k2⟩
  rcases hop with rfl | rfl | rfl | rfl
  · obtain ⟨a, b, hn, _⟩ := Rf.near_ok hp hq bp bq
    refine (fn_10 hB2 hH2 hb2 p1 p2 p3 hp hq (by rw [hn]; rfl)).mono (single (by decide) _ fun w3 cb cs hblk hold => ?_)
    exact con_root hp hq bp bq hblk hold
  · refine (fn_11 hB2 hH2 hb2 p1 p2 p3 hg).mono ?_
    intro e w2 hnx
    rw [if_pos rfl] at h2
    obtain ⟨ns2, h4, h5⟩ := mpd h2
    cases h5
    have h6 := more_app h4
    obtain ⟨m, he⟩ : ∃ m, e = .returned (ptrB m) := by
      obtain ⟨_, _, _, ⟨m, he, _⟩, _⟩ := hnx
      exact ⟨m, he⟩
    refine ⟨ptrB m, he, rfl, fun w3 c3 => ?_⟩
    obtain ⟨far, cb, cs, hnd, hf, hfar, hblk, hold, hne⟩ := hnx.on c3
    rw [he] at hnd hne
    obtain ⟨own3, at3, k1, k2⟩ := g0.two hI (Nat.le_refl _) hb (n1 := Rf.row .exp p q) (n := Rf.raised ns.length) hnd hf hfar hne (by
      intro own3 at3 ha h4 h5 h6
      exact con_nodeOk h6 (con_row (Or.inr (Or.inl rfl)) (by decide) hp hq bp bq hblk hold) h4 h5) (by
      intro own3 at3 h4 h5 h6
      exact una_ok (mN := Rf.raised ns.length) (xa := Rf.row .exp p q) h6 rfl rfl rfl rfl rfl rfl rfl rfl (fun e => by cases e) (by simp) rfl cof_raised h4 h5)
    refine ⟨_, _, own3, at3, hof2, k1, ?_⟩
    rw [h6, List.append_assoc]
    exact k2
  · exact (fn_12 hB2 hH2 hb2 p1 p2 p3 hg).mono (single (by decide) _ fun w3 cb cs hblk hold => con_row (Or.inr (Or.inr (Or.inl rfl))) (by decide) hp hq bp bq hblk hold)
  · exact (fn_13 hB2 hH2 hb2 p1 p2 p3 hg).mono (single (by decide) _ fun w3 cb cs hblk hold => con_row (Or.inr (Or.inr (Or.inr rfl))) (by decide) hp hq bp bq hblk hold)
theorem of_fn {op : Rf.Op} {t : Wt} {ns : List Nd} (h : ∀ p q, t ≠ .fr p q) : Rf.of (.fn op t) ns = (Rf.of t ns).bind fun x => (x.1[x.2]?).bind fun nx =>
      (if nx.pos then some x else (Rf.more x.1 (Rf.fresh true [(1, 0), (0, 1)] [x.2])).map fun ns1 => (ns1, x.1.length)).bind fun y =>
      (Rf.more y.1 { Rf.fresh true [(1, 0), (0, 1)] [y.2] with op := op, probe := true }).map fun ns1 => (ns1, y.1.length) := by
  cases t with
  | fr p q => exact absurd rfl (h p q)
  | con _ _ =>
    conv => lhs; unfold Rf.of
  | neg _ =>
    conv => lhs; unfold Rf.of
  | two _ _ _ =>
    conv => lhs; unfold Rf.of
  | fn _ _ =>
    conv => lhs; unfold Rf.of
theorem part_kd {w : World} {t : Wt} {v : Value} (h : ∀ p q, t ≠ .fr p q) (hok : t.Ok) (hp : PartAt w t v) : ∃ k, v = ptrB k ∧ ∃ kd' ∈ kds, ∃ zs : List Value, w.heap[k]? = some (.cells (.int .i64 kd' :: zs).toArray 93 (0, 0)) := by
  cases t with
  | fr p q => exact absurd rfl (h p q)
  | con op ts =>
    obtain ⟨k, xs, zs, tv, lv, rv, rfl, hB, _⟩ := hp
    exact ⟨k, rfl, kindZ op, by rcases hok with rfl | rfl | ⟨rfl, _⟩ <;> decide, _, hB⟩
  | neg t =>
    obtain ⟨k, xs, zs, tv, lv, rv, rfl, hB, _⟩ := hp
    exact ⟨k, rfl, 5, by decide, _, hB⟩
  | two kk a b =>
    obtain ⟨k, xs, zs, tv, lv, rv, rfl, hB, _⟩ := hp
    exact ⟨k, rfl, kdK kk, by cases kk <;> decide, _, hB⟩
  | fn op t =>
    obtain ⟨k, xs, zs, tv, lv, rv, rfl, hB, _⟩ := hp
    exact ⟨k, rfl, kindZ op, by rcases hok.1 with rfl | rfl | rfl | rfl <;> decide, _, hB⟩
theorem made_fn {op : Rf.Op} {t : Wt} (hnf : ∀ p q, t ≠ .fr p q) (ih : MadeG t) : MadeG (.fn op t) := by
  rintro w b0 own at1 ns rho c v hN hb hc hI hok ⟨k, xs, zs, tv, lv, rv, rfl, hB, hH, z2, zb, o1, o3, hl⟩
  obtain ⟨ns', rho', d, hof, _⟩ := Rf.of_inv (.fn op t) ns rho hok hc hI
  have hof2 := hof
  rw [of_fn hnf] at hof
  obtain ⟨hop, hokt, _⟩ := hok
  obtain ⟨x4, x1⟩ := hold_xs hH z2 zb
  obtain ⟨⟨ns1, d1⟩, h1, h2⟩ := bnd hof
  obtain ⟨nx, h3, h4⟩ := bnd h2
  obtain ⟨⟨ns2, y⟩, h5, h6⟩ := bnd h4
  obtain ⟨ns3, h7, h8⟩ := mpd h6
  cases h8
  have h9 := more_app h7
  obtain ⟨ns1', rho1, d1', e1, gr, hd1, _, _⟩ := Rf.of_inv t ns rho hokt hc hI
  rw [h1] at e1
  cases e1
  refine made_F (kind_uns hop) hB x4 x1 o1 (one_ptr hl) o3 fun w1 c1 => ?_
  have hl1 := PartAt.keep c1.on t lv hl
  obtain ⟨k2, rfl, kd', hkd', zs2, hblk2⟩ := part_kd hnf hokt hl1
  refine fn_gen hkd' hblk2 fun w2 c2 => ?_
  have c12 := c1.trans c2
  refine (ih w2 b0 own at1 ns rho c _ (hN.still hI c12) (Nat.le_trans hb c12.on.size) hc hI hokt (PartAt.keep c2.on t _ hl1)).mono ?_
  rintro e w3 ⟨ns1', d1', own2, at2, e2, rfl, g⟩
  rw [h1] at e2
  cases e2
  have ex1 : ns1[d1]? = some nx := h3
  obtain ⟨hblk, hhad⟩ := nod_blk g.nod ex1
  have g0 := (Grew.refl hN hI c12).trans (Nat.le_refl _) g
  refine ⟨at2 d1, !nx.pos, rfl, hblk, fun e4 w4 => ⟨fun hp hnd => ?_, fun hp x hx hxn hnd hne => ?_⟩⟩
  · have hp' : nx.pos = true := by simpa using hp
    have h5' : (ns1, d1) = (ns2, y) := by simpa [hp'] using h5
    cases h5'
    obtain ⟨m, he⟩ : ∃ m, e4 = .returned (ptrB m) := by obtain ⟨m, he, _⟩ := hnd; exact ⟨m, he⟩
    refine ⟨ptrB m, he, rfl, fun w5 c5 => ?_⟩
    have hnd5 := hnd.on c5
    rw [he] at hnd5
    obtain ⟨own3, at3, j1, j2⟩ := g0.one gr.inv gr.le.len hb (n := { Rf.fresh true [(1, 0), (0, 1)] [d1] with op := op, probe := true }) hnd5 (by
      intro own3 at3 ha h4 h5 h6
      rw [← ha d1 hd1] at h6
      exact una_ok (xa := nx) h6 rfl rfl rfl rfl rfl rfl rfl rfl (fun _ => rfl) (by rw [List.getElem?_append_left hd1]; exact ex1) hhad cof_plain h4 h5)
    refine ⟨_, _, own3, at3, hof2, j1, ?_⟩
    rw [h9]
    exact j2
  · have hp' : nx.pos = false := by simpa using hp
    have h5' : (Rf.more ns1 (Rf.fresh true [(1, 0), (0, 1)] [d1])).map (fun ns1' => (ns1', ns1.length)) = some (ns2, y) := by simpa [hp'] using h5
    obtain ⟨ns2', h10, h11⟩ := mpd h5'
    cases h11
    have h12 := more_app h10
    subst h12
    obtain ⟨m, he⟩ : ∃ m, e4 = .returned (ptrB m) := by obtain ⟨m, he, _⟩ := hnd; exact ⟨m, he⟩
    refine ⟨ptrB m, he, rfl, fun w5 c5 => ?_⟩
    have hnd5 := hnd.on c5
    rw [he] at hnd5 hne
    obtain ⟨own3, at3, j1, j2⟩ := g0.two gr.inv gr.le.len hb (n1 := Rf.fresh true [(1, 0), (0, 1)] [d1]) (n := { Rf.fresh true [(1, 0), (0, 1)] [ns1.length] with op := op, probe := true }) hnd5 hx (hxn.keep c5.on (c5.low x hxn.lt (by simp))) hne (by
      intro own3 at3 ha h4 h5 h6
      rw [← ha d1 hd1] at h6
      exact una_ok (xa := nx) h6 rfl rfl rfl rfl rfl rfl rfl rfl (fun e => by cases e) (by rw [List.getElem?_append_left hd1]; exact ex1) hhad cof_plain h4 h5) (by
      intro own3 at3 h4 h5 h6
      exact una_ok (xa := Rf.fresh true [(1, 0), (0, 1)] [d1]) h6 rfl rfl rfl rfl rfl rfl rfl rfl (fun _ => rfl) (by simp) rfl cof_plain h4 h5)
    refine ⟨_, _, own3, at3, hof2, ?_, ?_⟩
    · rw [j1]; simp
    · rw [h9, List.append_assoc]
      exact j2
theorem made_ok : ∀ t : Wt, MadeG t
  | .fr p q => made_fr p q
  | .con op ts => made_con op ts
  | .neg t => made_neg (made_ok t)
  | .two kk a b => made_two kk (made_ok a) (made_ok b)
  | .fn op (.fr p q) => made_ff
  | .fn op (.con o ts) => made_fn (fun _ _ e => by cases e) (made_ok (.con o ts))
  | .fn op (.neg t) => made_fn (fun _ _ e => by cases e) (made_ok (.neg t))
  | .fn op (.two kk a b) => made_fn (fun _ _ e => by cases e) (made_ok (.two kk a b))
  | .fn op (.fn o t) => made_fn (fun _ _ e => by cases e) (made_ok (.fn o t))
end Ab
end Go.Proofs.YteghhlfmcjmnoaaGreatDoor
set_option linter.unusedSimpArgs false
set_option linter.unusedVariables false
namespace Go.Proofs.YteghhlfmcjmnoaaGreatDoor
open Go.RowKit
namespace Ab
open Rf (Nd Inv NInv Wt)
theorem Net.aside {w w' : World} {b0 fb nb : Nat} {own : Nat → Option Own} {at1 : Nat → Nat} {s : Rf.St} (h : Net w b0 own at1 fb s) (hc : Chg w w' [nb]) (hq : ∃ cs : Array Value, w.heap[nb]? = some (.cells cs 197 (0, 0))) : Net w' b0 own at1 fb s := by
  obtain ⟨cs0, hq⟩ := hq
  have ne : ∀ {k : Nat} {cs : Array Value} {ty : TypeId}, w.heap[k]? = some (.cells cs ty (0, 0)) → ty ≠ 197 → k ∉ [nb] := by
    intro k cs ty hk hty hm
    simp at hm
    subst hm
    rw [hq] at hk
    cases hk
    exact hty rfl
  have keepN : ∀ {k : Nat} {zs : List Int} {hs : Bool} {uns mt lr rr pl : Int} {lp rp gv cv nv : Value}, NodeAt w k zs hs uns mt lr rr pl lp rp gv cv nv → NodeAt w' k zs hs uns mt lr rr pl lp rp gv cv nv := by
    intro k zs hs uns mt lr rr pl lp rp gv cv nv hn
    obtain ⟨xs, h1, _⟩ := hn.ex
    exact hn.keep hc.on (hc.low _ hn.lt (ne h1 (by decide)))
  refine ⟨fun i n hi => ?_, hc.at h.fuel (ne h.fuel (by decide)), h.fb0⟩
  have hk := h.nd i n hi
  obtain ⟨p0, q0, p1, q1, p2, q2, p3, q3, mt, pl, gv, cv, nv, hb, l, hl1, hl2⟩ := hk.ex
  refine ⟨⟨p0, q0, p1, q1, p2, q2, p3, q3, mt, pl, gv, cv, nv, ⟨keepN hb.nd, ?_, ?_, hb.nocon, ?_⟩, l, hl1, hl2⟩, hk.hc, hk.own, hk.lo, hk.prb⟩
  · rcases hb.giv with h | ⟨g, cap, rest, h1, h2, h3⟩
    · exact Or.inl h
    · exact Or.inr ⟨g, cap, rest, h1, hc.at h2 (ne h2 (by decide)), h3⟩
  · intro ht
    obtain ⟨h1, cb, h2, h3⟩ := hb.con ht
    exact ⟨h1, cb, h2, h3.keep hc.on⟩
  · refine ⟨hb.nst.1, fun hne => ?_⟩
    obtain ⟨nb', h1, ⟨cs, h2⟩, h3⟩ := hb.nst.2 hne
    refine ⟨nb', h1, ⟨cs, hc.at h2 (ne h2 (by decide))⟩, fun ht ha => ?_⟩
    obtain ⟨xs, zs, fst, fur, k1, k2, k3, k4, k5, k6⟩ := h3 ht ha
    refine ⟨xs, zs, fst, fur, hc.at k1 (ne k1 (by decide)), hold_on hc.on k2, k3, k4, k5, fun hop => ?_⟩
    obtain ⟨m1, x, m2, m3, m4, m5⟩ := k6 hop
    refine ⟨m1, x, m2, m3, m4, fun hl => ⟨(m5 hl).1, fun e => ?_⟩⟩
    obtain ⟨pb, r1, r2, r3, r4⟩ := (m5 hl).2 e
    exact ⟨pb, r1, r2, r3, keepN r4⟩
noncomputable def nwK : List (K (List AT)) := [.code (bodyOf Tryz.f76), .top Tryz.f76]
noncomputable def nxK : List (K (List AT)) := [.code (bodyOf Tryz.f78), .top Tryz.f78]
def sNw (v : Value) (n : Int) (tm : List AT) : AS := ⟨tm, [], 0, [], []⟩
def sNx (k : Value) (r : Int) (f : Value) (tm : List AT) : AS := ⟨tm, [(0, wrt [.lit k, .sint .i64 r, .lit f] 197)], 1, [], []⟩
noncomputable def rX : Nat × Array Oper × List (K (List AT)) := drwR (opCalls 125) Tryz.f78
def stX (ks : List (K (List AT))) : Bool := atOp (opCalls 124) ks || atDrw (opCalls 125) ks
noncomputable def nwA (n : Int) (hs : Bool) : Option Tr := run Z (tabSp tN) bT (drawA Z (tabSp tN)) (fun _ => false) 100 (aft (pD 7) Tryz.f76) (sG3 hs (slot [(1, sintT n), (7, .val (.one (.ptr 1 0)))] 0 17))
noncomputable def nwS (n : Int) (hs : Bool) : AS := (((nwA n hs).bind (leafT [])).map (·.2)).getD ⟨[], [], 0, [], []⟩
section
variable (v k f : Value) (n r z : Int) (hs : Bool)
set_option maxRecDepth 100000 in
theorem nw_w : (run Z (tabSp tN) bT (drawA Z (tabSp tN)) stX 100 nwK (sNw v n (litT v :: sintT n :: List.replicate 15 .und))).bind (outX (nrm [] [] 0 []) (nrm [] [1, 6] 0 [])) = some (.stp (bef (pD 7) Tryz.f76) (sNw v n (slot [(1, sintT n), (6, litT v)] 0 17))) := by kernel_rfl
set_option maxRecDepth 100000 in
theorem nw_c : callAt Z (sNw v n (slot [(1, sintT n), (6, litT v)] 0 17)) (bef (pD 7) Tryz.f76) = some (124, [.one (.lit v)], some 7, aft (pD 7) Tryz.f76) := by kernel_rfl
set_option maxRecDepth 100000 in
theorem nw_f : noFr (bef (pD 7) Tryz.f76) = true := by kernel_rfl
set_option maxRecDepth 100000 in
theorem nw_t : nwA n hs = some (.ret (.val (.one (.ptr 3 0))) (nwS n hs)) := by kernel_rfl
set_option maxRecDepth 100000 in
theorem nw_3 : look (nwS n hs).boxes 3 = some ⟨[.ptr 1 0, .int .i64 0, .ptr 2 0], 197, true, false, false⟩ := by kernel_rfl
set_option maxRecDepth 100000 in
theorem nw_2 : look (nwS n hs).boxes 2 = some ⟨[.sint .i64 n], 195, true, false, false⟩ := by kernel_rfl
set_option maxRecDepth 100000 in
theorem nw_l : clean (nwS n hs) = true := by kernel_rfl
set_option maxRecDepth 100000 in
theorem nx_w : (run Z (tabSp tN) bT (drawA Z (tabSp tN)) stX 100 nxK (sNx k r f (P0 :: List.replicate 24 .und))).bind (outX (nrm [0] [] 1 []) (nrm [0] [0] 1 [])) = some (.stp (.code (.region rX.1 rX.2.1 true) :: rX.2.2) (sNx k r f (slot [(0, P0)] 0 25))) := by kernel_rfl
noncomputable def nxD : AS := ((drawA Z (tabSp tN) (rX.2.1.extract 0 8) (sNx k r f (slot [(0, P0)] 0 25))).getD (⟨[], [], 0, [], []⟩, [])).1
set_option maxRecDepth 100000 in
theorem nx_d : drawA Z (tabSp tN) (rX.2.1.extract 0 8) (sNx k r f (slot [(0, P0)] 0 25)) = some (nxD k f r, []) := by kernel_rfl
set_option maxRecDepth 100000 in
theorem nx_bar : barB rX.2.1 8 = true ∧ 8 < rX.2.1.size ∧ (List.range rX.2.1.size).drop 8 = [8, 9] := ⟨by kernel_rfl, Nat.lt_of_lt_of_eq (by decide : 8 < 10) (by kernel_rfl), by kernel_rfl⟩
set_option maxRecDepth 100000 in
theorem nx_c : callAt Z (nxD k f r) (.ops rX.2.1 [8, 9] :: rX.2.2) = some (125, [.agg [.lit k, .sint .i64 r], .one (.lit f)], some 12, .ops rX.2.1 [9] :: rX.2.2) := by kernel_rfl
set_option maxRecDepth 100000 in
theorem nx_f : noFr rX.2.2 = true := by kernel_rfl
theorem nx_dd : (nxD k f r).dirty = [] := by kernel_rfl
theorem nx_dt : putT (keepT [0] [0] 0 (nxD k f r).tmps) (some 12) (sintT z) = slot [(0, P0), (12, sintT z)] 0 25 := by kernel_rfl
set_option maxRecDepth 100000 in
theorem nx_t : (run Z (tabSp tN) bT (drawA Z (tabSp tN)) (fun _ => false) 100 (.ops rX.2.1 [9] :: rX.2.2) (sNx k r f (slot [(0, P0), (12, sintT z)] 0 25))).bind (outX (nrm [0] [] 1 []) (nrm [0] [] 1 [])) = some (.br (z != 0) (.ret (sintT z) ⟨sl0 25, [(0, wrt [.lit k, .sint .i64 (Wr (r + 1)), .lit f] 197)], 1, [], [0]⟩) (.ret (sintT z) ⟨sl0 25, [(0, wrt [.lit k, .sint .i64 r, .lit f] 197)], 1, [], []⟩)) := by kernel_rfl
end
end Ab
end Go.Proofs.YteghhlfmcjmnoaaGreatDoor
set_option linter.unusedSimpArgs false
set_option linter.unusedVariables false
namespace Go.Proofs.YteghhlfmcjmnoaaGreatDoor
open Go.RowKit
namespace Ab
open Rf (Nd Inv NInv Wt)
structure NbAt (w : World) (b0 nb fb : Nat) (own : Nat → Option Own) (at1 : Nat → Nat) (s : Rf.St) (top r : Nat) : Prop where
  net : Net w b0 own at1 fb s
  blk : w.heap[nb]? = some (.cells #[ptrB (at1 top), .int .i64 r, ptrB fb] 197 (0, 0))
  ow : own nb = none
  bs : b0 ≤ w.heap.size
  nlo : b0 ≤ nb
  nw : ∀ k, k < b0 → own k = none
theorem new_ok {t : Wt} {w : World} {v : Value} {c : Nat} (hok : t.Ok) (hp : PartAt w t v) (hc : c ≤ 3000) : Calls Tryz.prog 76 #[v, .int .i64 c] w fun e w' => ∃ ns d own at1 nb fb, Rf.of t [] = some (ns, d) ∧ e = .returned (ptrB nb) ∧ Chg w w' [] ∧ NbAt w' w.heap.size nb fb own at1 ⟨ns, c⟩ d 0 := by
  have F := fn_of Tryz.func76 rfl rfl
  refine calls_x F (φ := fun _ => none) (vs := [.one (.lit v), .one (.sint .i64 c)]) (args := [v, .int .i64 c]) (s := sNw v c (litT v :: sintT c :: List.replicate 15 .und)) (by kernel_rfl) ⟨⟨rfl, one_ptr hp⟩, rfl, trivial⟩ rep_emp ?_
  have hkb : ∀ b x, (fun _ : Nat => (none : Option (Nat × Nat))) b = some x → ([] : List Nat).contains b = true := fun b x e => by cases e
  refine xrun' (tabSp_ok tN_ok) bT_ok hkb (nrm_R hkb) (nw_w v c) (fun _ _ => False) (fun ks s => ks = bef (pD 7) Tryz.f76 ∧ s = sNw v c (slot [(1, sintT c), (6, litT v)] 0 17)) ⟨rfl, rfl⟩ (fun _ _ _ _ _ h => h.elim) ?_
  rintro ks s ⟨rfl, rfl⟩
  refine ⟨nw_f, fun kcs φ1 a1 w1 hsr1 hr1 => ?_⟩
  have c1 : Chg w w1 [] := Chg.of_below (RepF.below hr1.wd rfl)
  refine callAt_ok (nw_c v c) (fn_of Tryz.func124 rfl rfl).en nw_f (hsr1 φ1 [] w1) hr1 fun us hus => ?_
  match us, hus with
  | [u1], ⟨hu1, _⟩ =>
  have hu1 : u1 = v := hu1.1
  rw [hu1]
  obtain ⟨ns', rho', d, hof, gr, hd, _⟩ := Rf.of_inv t [] (fun _ => 0) hok hc (Rf.inv_nil _ c)
  refine (made_ok t w1 w.heap.size (fun _ => none) (fun _ => 0) [] (fun _ => 0) c v (fun i n h => by simp at h) c1.on.size hc (Rf.inv_nil _ c) hok (PartAt.keep c1.on t v hp)).mono ?_
  rintro e w2 ⟨ns1, d1, own2, at2, e2, rfl, g⟩
  rw [hof] at e2
  cases e2
  have hn1 : ns'[d]? = some ns'[d] := List.getElem?_eq_getElem hd
  obtain ⟨⟨ys, hblk⟩, hhad⟩ := nod_blk g.nod hn1
  refine ⟨ptrB (at2 d), rfl, fun kcs2 hf2 hsr2 => ?_⟩
  generalize (!ns'[d].pos) = b at hblk
  have hr2 : Rep Z w2 (ph1 1 (at2 d)) (ph1 1 (at2 d)) (sG3 b (slot [(1, sintT c), (7, .val (.one (.ptr 1 0)))] 0 17)) (a1.put (some 7) (ptrB (at2 d))) w2 := rep_aft (kb := []) (kt := [1]) (r := .val (.one (.ptr 1 0))) hr1 (head_rep hblk rfl) (by kernel_rfl) (fun b hb => by simp at hb) ⟨at2 d, 0, rfl, rfl⟩
  refine run_ok (tabSp_ok tN_ok) bT_ok (drawA_ok mixed (tabSp_ok tN_ok)) (fun r s => r = .val (.one (.ptr 3 0)) ∧ look s.boxes 3 = some ⟨[.ptr 1 0, .int .i64 0, .ptr 2 0], 197, true, false, false⟩ ∧ look s.boxes 2 = some ⟨[.sint .i64 c], 195, true, false, false⟩ ∧ clean s = true) (fun _ _ => False) (fun _ _ h => h.elim) ?_ _ _ _ _ (nw_t c b) ⟨rfl, nw_3 c b, nw_2 c b, nw_l c b⟩ kcs2 _ _ w2 (hsr2 _ _ _) hr2
  rintro r s φ x w3 ⟨rfl, l3, l2, hcl⟩ hrel hw
  have c3 : Chg w2 w3 [] := Chg.of_below (RepF.below hw hcl)
  obtain ⟨nb, y3, j1, j2, j3, j4⟩ := own_blk hw l3 rfl rfl
  obtain ⟨fb, y2, i1, i2, i3, i4⟩ := own_blk hw l2 rfl rfl
  have hx1 : φ 1 = some (at2 d, 0) := hw.base 1 (at2 d, 0) rfl
  have hv : x = ptrB nb := ptr_v (ν := s.nums) (w := w3) j1 x hrel
  have e3 : y3 = [ptrB (at2 d), .int .i64 0, ptrB fb] := by
    match y3, j3 with
    | [a, b, c], ⟨h1, h2, h3, _⟩ =>
      have h1 : a = ptrB (at2 d) := ptr_v (ν := s.nums) (w := w3) hx1 a h1
      have h2 : b = .int .i64 0 := h2
      have h3 : c = ptrB fb := ptr_v (ν := s.nums) (w := w3) i1 c h3
      rw [h1, h2, h3]
  have e2 : y2 = [.int .i64 c] := by
    match y2, i3 with
    | [a], ⟨h1, _⟩ =>
      have h1 : a = .int .i64 c := h1
      rw [h1]
  rw [e3] at j2
  rw [e2] at i2
  have hsz : w.heap.size ≤ w2.heap.size := Nat.le_trans c1.on.size g.chg.on.size
  have hN := g.nod.more (own' := fun k => if k < w2.heap.size then own2 k else none) (at2 := at2) (new := []) gr.inv c3 (fun k hk => if_pos hk) (fun _ _ => rfl) (fun j mm hj => by simp at hj)
  rw [List.append_nil] at hN
  refine ⟨ns', d, _, at2, nb, fb, hof, by rw [hv], (c1.trans g.chg).trans c3, ⟨⟨hN, i2, Nat.le_trans hsz i4⟩, j2, ?_, Nat.le_trans hsz c3.on.size, Nat.le_trans hsz j4, fun k hk => ?_⟩⟩
  · exact if_neg (by omega)
  · show (if k < w2.heap.size then own2 k else none) = none
    rw [if_pos (by omega), g.own k (Nat.lt_of_lt_of_le hk c1.on.size)]
structure NextR (w : World) (b0 nb fb : Nat) (own : Nat → Option Own) (at1 : Nat → Nat) (s : Rf.St) (top r : Nat) (x : Rf.St × Option Int) (w' : World) : Prop where
  on : On Z.bt w w'
  low : ∀ k, k < b0 → w'.heap[k]? = w.heap[k]?
  kept : ∀ k, k < w.heap.size → own k = none → k ≠ fb → k ≠ nb → w'.heap[k]? = w.heap[k]?
  some : x.2.isSome = true → ∃ own' at2, NbAt w' b0 nb fb own' at2 x.1 top (r + 1) ∧ ∀ k, k < w.heap.size → own k = none → own' k = none
theorem sNx_rep {w : World} {nb r : Nat} {k f : Value} (ok : One k) (of : One f) (h : w.heap[nb]? = some (.cells #[k, .int .i64 r, f] 197 (0, 0))) (tm : List AT) : RepW Z w (ph1 0 nb) (ph1 0 nb) (sNx k r f tm) w := by
  refine rep_wr rfl ?_ ?_ ?_ ?_
  · intro b B hB
    have := look_mem hB
    simp only [sNx, List.mem_singleton, Prod.mk.injEq] at this
    obtain ⟨rfl, rfl⟩ := this
    exact ⟨rfl, rfl, nb, 0, rfl, [], [k, .int .i64 r, f], [], h, rfl, ⟨rfl, ok⟩, rfl, ⟨rfl, of⟩, trivial⟩
  · intro b b' B B' k1 o o' h1 h2 h3 h4
    have e1 := look_mem h1
    have e2 := look_mem h2
    simp only [sNx, List.mem_singleton, Prod.mk.injEq] at e1 e2
    exact Or.inl (by rw [e1.1, e2.1])
  · intro b hb
    have : 1 ≤ b := hb
    unfold ph1
    rw [if_neg (by omega)]
  · intro b k' o hb'
    unfold ph1 at hb'
    split at hb'
    · cases hb'; exact lt_of_heap h
    · cases hb'
set_option maxRecDepth 100000 in
theorem next_ok {w : World} {b0 nb fb : Nat} {own : Nat → Option Own} {at1 : Nat → Nat} {s : Rf.St} {top r c f : Nat} {rho : Nat → Nat} {n : Nd} {x : Rf.St × Option Int} (h : NbAt w b0 nb fb own at1 s top r) (hcl : s.clock = (c : Int)) (hc : c ≤ 3000) (hI : Inv s.nodes rho c) (hn : s.nodes[top]? = some n) (hr : r ≤ n.out.length) (hr1 : r ≤ 1000000) (hf : c + rho top + 2 ≤ f) (hx : Rf.sym f s top r = some x) (hxI : x.2.isSome = true → ∃ rho c, Inv x.1.nodes rho c) :
    Calls Tryz.prog 78 #[ptrB nb] w fun e w' => e = .returned (.int .i64 (codeO x.2)) ∧ NextR w b0 nb fb own at1 s top r x w' := by
  have F := fn_of Tryz.func78 rfl rfl
  have hlen := (List.getElem?_eq_some_iff.1 hn).1
  have hne : nb ≠ fb := by
    rintro rfl
    have := h.blk
    rw [h.net.fuel] at this
    exact absurd (Obj.cells.inj (Option.some.inj this)).2.1 (by decide)
  refine calls_x F (φ := ph1 0 nb) (vs := [.one (.ptr 0 0)]) (args := [ptrB nb]) (s := sNx (ptrB (at1 top)) r (ptrB fb) (P0 :: List.replicate 24 .und)) (by kernel_rfl) ⟨⟨nb, 0, rfl, rfl⟩, trivial⟩ (sNx_rep rfl rfl h.blk _) ?_
  refine xrun' (tabSp_ok tN_ok) bT_ok ph1_kb (nrm_R ph1_kb) (nx_w (ptrB (at1 top)) (ptrB fb) r) (fun _ _ => False) (fun ks s => ks = .code (.region rX.1 rX.2.1 true) :: rX.2.2 ∧ s = sNx (ptrB (at1 top)) r (ptrB fb) (slot [(0, P0)] 0 25)) ⟨rfl, rfl⟩ (fun _ _ _ _ _ h => h.elim) ?_
  rintro ks s0 ⟨rfl, rfl⟩
  have hfr : noFr rX.2.2 = true := nx_f
  refine ⟨by simpa [noFr] using hfr, fun kcs φ1 a1 w1 hsr1 hr1' => ?_⟩
  obtain ⟨bb, bj, bd⟩ := nx_bar
  match kcs, hsr1 φ1 [] w1 with
  | .code cc :: kcs', ⟨hcc, hsr2⟩ =>
  subst hcc
  show (Code.region rX.1 rX.2.1 true).wp Z.P _ a1 w1
  refine draw_bar mixed (tabSp_ok tN_ok) bj bb (nx_d (ptrB (at1 top)) (ptrB fb) r) holds_nil hr1' ?_
  intro φ2 a2 w2 hr2
  rw [bd]
  have c2 : Chg w w2 [] := rep_chg0 hr2.wd (nx_dd _ _ _)
  show sem Z.P _ (.ops rX.2.1 [8, 9] :: kcs') .normal a2 w2
  refine callAt_ok (nx_c (ptrB (at1 top)) (ptrB fb) r) (fn_of Tryz.func125 rfl rfl).en (by simpa [noFr] using hfr) (φ1 := φ2) (ν1 := []) (w1 := w2) ⟨rfl, rfl, SR.any hfr hsr2⟩ hr2 fun us hus => ?_
  match us, hus with
  | [u1, u2], ⟨⟨xs, hu1, hxs⟩, hu2, _⟩ =>
  have hu2 : u2 = ptrB fb := hu2.1
  have e1 : xs = [ptrB (at1 top), .int .i64 r] := by
    match xs, hxs with
    | [a, b], ⟨h1, h2, _⟩ =>
      have h1 : a = ptrB (at1 top) := h1.1
      have h2 : b = .int .i64 r := h2
      rw [h1, h2]
  rw [hu1, hu2, e1]
  have hN2 := h.net.still hI c2
  have key : ∀ w3, Chg w2 w3 [] → Calls Tryz.prog 161 #[ptrB (at1 top), .int .i64 r, ptrB fb] w3 fun e w' => e = .returned (.int .i64 (codeO x.2)) ∧ Res w3 b0 own at1 fb s.nodes.length x.2.isSome x.1 w' := fun w3 c3 =>
    symbol_ok f w3 b0 fb own at1 s rho c top r n x (hN2.still hI c3) (Nat.le_trans h.bs (Nat.le_trans c2.on.size c3.on.size)) hcl hc hI hn hr hf hx
  refine unread_calls (R := fun e w' => ∃ v, e = .returned v ∧ ∀ kcs2, noFr (.ops rX.2.1 [9] :: rX.2.2) = true → (∀ φ' ν' w'', SR Z φ' ν' w'' (.ops rX.2.1 [9] :: rX.2.2) kcs2) → sem Z.P _ kcs2 .normal (a2.put (some 12) v) w') fun w3 c3 => (key w3 c3).mono ?_
  rintro e w4 ⟨rfl, own', hk, hok⟩
  have c23 := c2.trans c3
  have hblk4 : w4.heap[nb]? = some (.cells #[ptrB (at1 top), .int .i64 r, ptrB fb] 197 (0, 0)) := by
    rw [hk.low nb (lt_of_heap (c23.at h.blk (by simp))) h.ow hne]
    exact c23.at h.blk (by simp)
  have on4 : On Z.bt w w4 := c23.on.trans hk.on
  have kept4 : ∀ j, j < w.heap.size → own j = none → j ≠ fb → w4.heap[j]? = w.heap[j]? := by
    intro j h1 ho hjf
    rw [hk.low j (Nat.lt_of_lt_of_le h1 c23.on.size) ho hjf, c23.low j h1 (by simp)]
  have low4 : ∀ j, j < b0 → w4.heap[j]? = w.heap[j]? := by
    intro j hj
    have h1 : j < w.heap.size := Nat.lt_of_lt_of_le hj h.bs
    have hjf : j ≠ fb := by have := h.net.fb0; omega
    exact kept4 j h1 (h.nw j hj) hjf
  refine ⟨codeO x.2, rfl, _, rfl, fun kcs2 hf2 hsr3 => ?_⟩
  have hr3 : Rep Z w4 (ph1 0 nb) (ph1 0 nb) (sNx (ptrB (at1 top)) r (ptrB fb) (slot [(0, P0), (12, sintT (codeO x.2))] 0 25)) (a2.put (some 12) (.int .i64 (codeO x.2))) w4 := rep_aft (kb := [0]) (kt := [0]) (r := sintT (codeO x.2)) hr2 (sNx_rep rfl rfl hblk4 _) (nx_dt _ _ _ _).symm (fun b hb => by
    have : b = 0 := by simpa using hb
    subst this
    exact (hr2.wd.base 0 (nb, 0) rfl).symm) rfl
  refine xrun' (tabSp_ok tN_ok) bT_ok ph1_kb (nrm_R ph1_kb) (nx_t (ptrB (at1 top)) (ptrB fb) r (codeO x.2)) (fun rr st => rr = sintT (codeO x.2) ∧ (x.2.isSome = true → st.dirty = [0] ∧ look st.boxes 0 = some (wrt [.lit (ptrB (at1 top)), .sint .i64 (Wr ((r : Int) + 1)), .lit (ptrB fb)] 197)) ∧ (x.2.isSome = false → st.dirty = [])) (fun _ _ => False) ?_ ?_ (fun _ _ h => h.elim) kcs2 _ _ _ (hsr3 _ _ _) hr3
  · cases hx2 : x.2 with
    | none => exact ⟨fun e => (by simp [codeO] at e), fun _ => ⟨rfl, fun e => (by cases e), fun _ => rfl⟩⟩
    | some v => exact ⟨fun _ => ⟨rfl, fun _ => ⟨rfl, rfl⟩, fun e => (by cases e)⟩, fun e => absurd (by simpa [codeO] using e) (code_ne v)⟩
  · rintro rr st φ5 v w5 ⟨rfl, hy, hno⟩ _ hv hw5
    have hv' : v = .int .i64 (codeO x.2) := hv _ _ (Or.inl rfl)
    rw [hv']
    have hd : st.dirty = [0] ∨ st.dirty = [] := by
      cases hs : x.2.isSome with
      | true => exact Or.inl (hy hs).1
      | false => exact Or.inr (hno hs)
    have low5 : ∀ j, j < w4.heap.size → j ≠ nb → w5.heap[j]? = w4.heap[j]? := by
      intro j hjs hjn
      refine hw5.low j hjs fun b hb o e => ?_
      rcases hd with hd | hd
      · rw [hd] at hb
        simp only [List.mem_singleton] at hb
        subst hb
        rw [hw5.base 0 (nb, 0) rfl] at e
        cases e
        exact hjn rfl
      · rw [hd] at hb; cases hb
    refine ⟨rfl, on4.trans hw5.on, fun j hj => ?_, fun j hj ho hf hn => ?_, fun hs => ?_⟩
    · rw [← low4 j hj]
      exact low5 j (Nat.lt_of_lt_of_le hj (Nat.le_trans h.bs on4.size)) (by have := h.nlo; omega)
    · rw [← kept4 j hj ho hf]
      exact low5 j (Nat.lt_of_lt_of_le hj on4.size) hn
    · obtain ⟨hd, l0⟩ := hy hs
      obtain ⟨at2, hN4, hat⟩ := hok hs
      have c5 : Chg w4 w5 [nb] := ⟨hw5.on, fun j hj hm => hw5.low j hj fun b hb o e => by
        rw [hd] at hb
        simp only [List.mem_singleton] at hb
        subst hb
        rw [hw5.base 0 (nb, 0) rfl] at e
        cases e
        exact hm (by simp)⟩
      obtain ⟨k', o, pre, zs, post, g1, g2, g3, g4⟩ := hw5.box 0 _ l0
      rw [hw5.base 0 (nb, 0) rfl] at g1
      cases g1
      have hpre : pre = [] := List.length_eq_zero_iff.1 g3
      subst hpre
      have hz : zs = [ptrB (at1 top), .int .i64 ((r + 1 : Nat) : Int), ptrB fb] := by
        match zs, g4 with
        | [a, b, c], ⟨h1, h2, h3, _⟩ =>
          have h1 : a = ptrB (at1 top) := h1.1
          have h2 : b = .int .i64 (Wr ((r : Int) + 1)) := h2
          have h3 : c = ptrB fb := h3.1
          have h4 : Wr ((r : Int) + 1) = ((r + 1 : Nat) : Int) := by
            rw [wr_small (by omega) (by omega)]
            omega
          rw [h1, h2, h3, h4]
      subst hz
      have hsh4 : w4.shape? nb = some (197, 3) := by
        unfold World.shape?
        rw [hblk4]
        rfl
      have hsh := hw5.on.shape hsh4
      unfold World.shape? at hsh
      rw [g2] at hsh
      simp only [Option.some.injEq, Prod.mk.injEq, List.size_toArray, List.nil_append, List.length_append] at hsh
      have hpost : post = [] := List.length_eq_zero_iff.1 (by have := hsh.2; simpa using this)
      subst hpost
      have hlt4 : nb < (w3).heap.size := lt_of_heap (c23.at h.blk (by simp))
      refine ⟨own', at2, ⟨hN4.aside c5 ⟨_, hblk4⟩, ?_, hk.own nb hlt4 h.ow, Nat.le_trans h.bs (on4.trans hw5.on).size, h.nlo, fun j hj => hk.own j (Nat.lt_of_lt_of_le hj (Nat.le_trans h.bs c23.on.size)) (h.nw j hj)⟩, fun j hj ho => hk.own j (Nat.lt_of_lt_of_le hj c23.on.size) ho⟩
      rw [hat top hlen, g2]
      rfl
end Ab
end Go.Proofs.YteghhlfmcjmnoaaGreatDoor
