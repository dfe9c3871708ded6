import Derived.Test.YteghhlfmcjmnoaaGreatDoorRfAlg
set_option linter.unusedSimpArgs false
set_option linter.unusedVariables false
namespace Go.Proofs.YteghhlfmcjmnoaaGreatDoor
open Go.RowKit
namespace Ab
def gcdZ (x y : Int) : Int := (Nat.gcd x.natAbs y.natAbs : Nat)
theorem gcd_te : TEok Z 138 (teG true (f2 gcdZ) noNd (fun ns => ns.foldr max 0) [90, 90]) := by
  refine f2_ok (fn_of Tryz.func138 rfl rfl).en (fun x y n m hx hy => ?_) (fun w x y u v h1 h2 h3 h4 => common_any w x y u v (10000000 * 90) h1 h2 h3 h4 (by decide))
  have hx' : Bits (max n (max m 0)) x := bits_mono hx (by omega)
  have hy' : Bits (max n (max m 0)) y := bits_mono hy (by omega)
  show ((Nat.gcd x.natAbs y.natAbs : Nat) : Int).natAbs < 2 ^ (10000000 * max n (max m 0))
  have e : ((Nat.gcd x.natAbs y.natAbs : Nat) : Int).natAbs = Nat.gcd x.natAbs y.natAbs := by omega
  rw [e]
  rcases Nat.eq_zero_or_pos x.natAbs with h | h
  · rw [h, Nat.gcd_zero_left]; exact hy'
  · exact Nat.lt_of_le_of_lt (Nat.gcd_le_left _ h) hx'
noncomputable def tW1 : List (FuncId × TE) := (226, teG true (f4i cp) noNd (fun _ => 0) [40, 40, 40, 40]) :: (138, teG true (f2 gcdZ) noNd (fun ns => ns.foldr max 0) [90, 90]) :: tW0
theorem tW1_ok : AllTE Z tW1 := ⟨cp_te, gcd_te, tW0_ok⟩
def sPow (base times i p : Int) : AS :=
  ⟨[.top, .val (.one (.sint .i64 times)), .top, .top, .val (.one (.ptr 0 0)), .val (.one (.ptr 1 0)), .val (.one (.ptr 2 0)), .val (.one (.sint .i64 i)), .top, .top, .top, .top, .top, .top, .top, .top, .top, .top, .top, .top],
   [(0, ⟨[.bool false, .lit (.slice none 0 0)], 80, true, false, false⟩), (1, ⟨[.sg 0, .dg true 0], 80, true, false, false⟩), (2, ⟨[.sg 1, .dg true 1], 80, true, false, false⟩)], 3, [(p, 80), (base, 1)], []⟩
set_option maxRecDepth 100000 in
theorem pow_walk0 (base times : Int) : (run Z (orSp spL (tabSp tW0)) (fun _ => none) (drawA Z (orSp spL (tabSp tW0))) atLoop 300 [.code (bodyOf Tryz.f110), .top Tryz.f110] (start Tryz.f110 (tokGs true [.i .i64 base, .i .i64 times] [0, 0]))).bind (outL true [0, 1, 2] [1, 4, 5, 6, 1007] 3 [80, 1]) =
    some (.need [base.natAbs < 1000000000000000000] (.need [Bits 80 1, Bits 1 base] (.again (.code (.loop (lpB (bodyOf Tryz.f110) Tryz.f110)) :: lpK (bodyOf Tryz.f110) Tryz.f110) (sPow base times 0 1)))) := by kernel_rfl
set_option maxRecDepth 100000 in
theorem pow_walk1 (base times i p : Int) (n : Nat) : (run Z (orSp spL (tabSp tW0)) (fun _ => none) (drawA Z (orSp spL (tabSp tW0))) atRound 300 (.code (lpB (bodyOf Tryz.f110) Tryz.f110) :: .lp (lpB (bodyOf Tryz.f110) Tryz.f110) n :: lpK (bodyOf Tryz.f110) Tryz.f110) (sPow base times i p)).bind (outL true [0, 1, 2] [1, 4, 5, 6, 1007] 3 [80, 1]) =
    some (.br (decide (i < times)) (.need [Bits 80 (p * base), Bits 1 base] (.again (.lp (lpB (bodyOf Tryz.f110) Tryz.f110) n :: lpK (bodyOf Tryz.f110) Tryz.f110) (sPow base times (Wr (i + 1)) (p * base)))) (.ret (.one (.ns [p])))) := by kernel_rfl
def fPow : List G → Option RG
  | [.i .i64 b, .i .i64 t] => some (.one (.ns [b ^ t.toNat]))
  | _ => none
def ndPow : List G → List Prop
  | [.i .i64 b, .i .i64 t] => [b.natAbs ≤ 16 ∧ 0 ≤ t ∧ t ≤ 100000]
  | _ => []
theorem pow_bits {b : Int} (hb : b.natAbs ≤ 16) (k : Nat) : Go.Proofs.YteghhlfmcjmnoaaGreatDoor.Bits (4 * k + 1) (b ^ k) := by
  show (b ^ k).natAbs < 2 ^ (4 * k + 1)
  rw [Int.natAbs_pow]
  have : b.natAbs ^ k ≤ 16 ^ k := Nat.pow_le_pow_left hb k
  have e : (2 : Nat) ^ (4 * k + 1) = 2 * 16 ^ k := by rw [Nat.pow_succ, Nat.pow_mul, show (2 : Nat) ^ 4 = 16 from rfl, Nat.mul_comm]
  have : 0 < 16 ^ k := Nat.pow_pos (by decide)
  omega
theorem pow_te : TEok Z 110 (teG true fPow ndPow (fun _ => 1) [0, 0]) := by
  refine walkL (l := tW0) tW0_ok spL_ok (fn_of Tryz.func110 rfl rfl) (kb := [0, 1, 2]) (kt := [1, 4, 5, 6, 1007]) (nx := 3) (rb := [80, 1]) ?_ (by kernel_rfl) ?_
  · intro gs ns out h hn h3 h4
    unfold fPow at h
    split at h
    · rename_i b t
      cases h
      have hn : b.natAbs ≤ 16 ∧ 0 ≤ t ∧ t ≤ 100000 := hn.one
      intro z hz
      simp at hz
      subst hz
      exact bits_in (pow_bits hn.1 _) (by omega)
    · cases h
  · intro gs out h hn h3
    unfold fPow at h
    split at h
    · rename_i b t
      cases h
      have hn : b.natAbs ≤ 16 ∧ 0 ≤ t ∧ t ≤ 100000 := hn.one
      have hb60 : Bits 1 b := bits60 (by omega)
      refine ⟨fun m s => ∃ i : Nat, s = sPow b t i (b ^ i) ∧ (i : Int) ≤ t ∧ m = t.toNat - i, ⟨300, _, pow_walk0 b t, ?_⟩, ?_⟩
      · refine ⟨holds_cons (by omega) holds_nil, holds_cons ?_ (holds_cons hb60 holds_nil), rfl, _, 0, by simp, by omega, rfl⟩
        exact bits_in (pow_bits (b := 1) (by decide) 0) (by decide)
      · rintro m s ⟨i, rfl, hi, rfl⟩ n
        refine ⟨300, _, pow_walk1 b t i (b ^ i) n, ?_, ?_⟩
        · intro hlt
          have hlt : (i : Int) < t := by simpa using hlt
          have e : b ^ i * b = b ^ (i + 1) := by rw [Int.pow_succ]
          refine ⟨holds_cons ?_ (holds_cons hb60 holds_nil), rfl, t.toNat - (i + 1), by omega, i + 1, ?_, by omega, rfl⟩
          · rw [e]
            exact bits_in (pow_bits hn.1 _) (by omega)
          · rw [e, wr_small (by omega) (by omega)]
            simp
        · intro hge
          have hge : ¬ (i : Int) < t := by simpa using hge
          show RG.one (.ns [b ^ i]) = _
          have : t.toNat = i := by omega
          rw [this]
    · cases h
theorem newt {z r : Int} (hz : 0 < z) (hr : 0 < r) : 0 < (r + z / r) / 2 ∧ z < ((r + z / r) / 2 + 1) * ((r + z / r) / 2 + 1) ∧ (r ≤ (r + z / r) / 2 → r * r ≤ z) := by
  have q0 : 0 ≤ z / r := Int.ediv_nonneg (by omega) (by omega)
  have q1 : r * (z / r) ≤ z := Int.mul_ediv_self_le (by omega)
  have q2 : z < r * (z / r + 1) := by
    have := Int.lt_mul_ediv_self_add (x := z) hr
    rw [Int.mul_add]
    omega
  generalize z / r = q at *
  have b0 : 0 ≤ (r + q) / 2 := Int.ediv_nonneg (by omega) (by omega)
  have b1 : r + q + 1 ≤ 2 * ((r + q) / 2 + 1) := by omega
  have b2 : (r ≤ (r + q) / 2) → r ≤ q := by omega
  generalize (r + q) / 2 = b at *
  have s1 : 4 * (r * (q + 1)) ≤ (r + q + 1) * (r + q + 1) := by
    have : 0 ≤ (r - (q + 1)) * (r - (q + 1)) := by
      rcases Int.le_total 0 (r - (q + 1)) with h | h
      · exact Int.mul_nonneg h h
      · exact Int.mul_nonneg_of_nonpos_of_nonpos h h
    have e : (r + q + 1) * (r + q + 1) = 4 * (r * (q + 1)) + (r - (q + 1)) * (r - (q + 1)) := by grind
    omega
  have s2 : (r + q + 1) * (r + q + 1) ≤ (2 * (b + 1)) * (2 * (b + 1)) := Int.mul_le_mul b1 b1 (by omega) (by omega)
  have s3 : (2 * (b + 1)) * (2 * (b + 1)) = 4 * ((b + 1) * (b + 1)) := by grind
  have key : z < (b + 1) * (b + 1) := by omega
  refine ⟨?_, key, fun h => ?_⟩
  · rcases Int.lt_or_le 0 b with h | h
    · exact h
    · have : b = 0 := by omega
      subst this
      omega
  · have := b2 h
    have : r * r ≤ r * q := Int.mul_le_mul_of_nonneg_left this (by omega)
    omega
theorem half1 {x : Int} (h : 0 ≤ x) : halfZ x 1 = x / 2 := by
  unfold halfZ Nm.half
  rw [show decide ((1 : Int) < 1) = false from rfl, cond_false, if_neg (by omega)]
  have e1 : (x.natAbs : Int) = x := by omega
  have e2 : (2 : Int) ^ ((1 : Int).toNat) = 2 := rfl
  rw [e1, e2]
theorem root_eq {z r : Int} (hz : 0 ≤ z) (hr : 0 ≤ r) (h1 : r * r ≤ z) (h2 : z < (r + 1) * (r + 1)) : Rf.root z = r := by
  obtain ⟨g0, g1, g2⟩ := Rf.root_spec hz
  rcases Int.lt_trichotomy (Rf.root z) r with h | h | h
  · have : (Rf.root z + 1) * (Rf.root z + 1) ≤ r * r := Int.mul_le_mul (by omega) (by omega) (by omega) (by omega)
    omega
  · exact h
  · have : (r + 1) * (r + 1) ≤ Rf.root z * Rf.root z := Int.mul_le_mul (by omega) (by omega) (by omega) (by omega)
    omega
theorem pow2_bits (k : Nat) : Go.Proofs.YteghhlfmcjmnoaaGreatDoor.Bits (k + 1) ((2 : Int) ^ k) := by
  show ((2 : Int) ^ k).natAbs < 2 ^ (k + 1)
  rw [Int.natAbs_pow]
  exact Nat.pow_lt_pow_right (by decide) (by omega)
def sRoot (z r : Int) : AS :=
  ⟨[.top, .val (.one (.ptr 0 0)), .val (.one (.ptr 1 0)), .top, .val (.one (.ptr 10 0))] ++ List.replicate 36 .top,
   [(0, ⟨[.sg 0, .dg true 0], 80, true, false, false⟩), (1, ⟨[.bool false, .lit (.slice none 0 0)], 80, true, false, false⟩), (10, ⟨[.sg 1, .dg true 1], 80, true, false, false⟩)], 11, [(z, 10), (r, 11)], []⟩
def rootT (z : Int) : Int := Wr ((Wr ((Nm.bl z : Int) + 1)).tdiv 2)
set_option maxRecDepth 100000 in
theorem root_walk0 (z : Int) : (run Z (orSp spL (tabSp tW1)) (fun _ => none) (drawA Z (orSp spL (tabSp tW1))) atLoop 300 [.code (bodyOf Tryz.f214), .top Tryz.f214] (start Tryz.f214 (tokGs true [.ns [z]] [10]))).bind (outL true [0, 1, 10] [1, 2, 4] 11 [10, 11]) =
    some (.br (decide (Nm.cmp z 0 ≤ 0)) (.ret (.one (.ns [0]))) (.need [0 ≤ rootT z ∧ rootT z ≤ 900000000 ∧ 10000000 * 1 + (rootT z).toNat ≤ 1000000000] (.need [0 ≤ ((1 : Int).natAbs : Int) * 2 ^ (rootT z).toNat, Bits 10 z, Bits 11 (((1 : Int).natAbs : Int) * 2 ^ (rootT z).toNat)] (.again (.code (.loop (lpB (bodyOf Tryz.f214) Tryz.f214)) :: lpK (bodyOf Tryz.f214) Tryz.f214) (sRoot z (((1 : Int).natAbs : Int) * 2 ^ (rootT z).toNat)))))) := by kernel_rfl
set_option maxRecDepth 100000 in
theorem root_walk1 (z r : Int) (n : Nat) : (run Z (orSp spL (tabSp tW1)) (fun _ => none) (drawA Z (orSp spL (tabSp tW1))) atRound 300 (.code (lpB (bodyOf Tryz.f214) Tryz.f214) :: .lp (lpB (bodyOf Tryz.f214) Tryz.f214) n :: lpK (bodyOf Tryz.f214) Tryz.f214) (sRoot z r)).bind (outL true [0, 1, 10] [1, 2, 4] 11 [10, 11]) =
    some (.br (decide (0 < Nm.cmp r 0)) (.need [0 < r] (.need [(1 : Int) ≤ 1 ∧ (1 : Int) ≤ 1000000000] (.br (decide (0 ≤ Nm.cmp (halfZ (r + z / r) 1) r)) (.ret (.one (.ns [r]))) (.need [Bits 10 z, Bits 11 (halfZ (r + z / r) 1)] (.again (.lp (lpB (bodyOf Tryz.f214) Tryz.f214) n :: lpK (bodyOf Tryz.f214) Tryz.f214) (sRoot z (halfZ (r + z / r) 1))))))) (.ret (.one (.ns [r])))) := by kernel_rfl
def fRoot : List G → Option RG
  | [.ns [z]] => some (.one (.ns [Rf.root z]))
  | _ => none
def ndRoot : List G → List Prop
  | [.ns [z]] => [0 ≤ z]
  | _ => []
theorem root_te : TEok Z 214 (teG true fRoot ndRoot (fun ns => ns.headD 0) [10]) := by
  refine walkL (l := tW1) tW1_ok spL_ok (fn_of Tryz.func214 rfl rfl) (kb := [0, 1, 10]) (kt := [1, 2, 4]) (nx := 11) (rb := [10, 11]) ?_ (by kernel_rfl) ?_
  · intro gs ns out h hn h3 h4
    unfold fRoot at h
    split at h
    · rename_i z
      cases h
      have hn : 0 ≤ z := hn.one
      match ns, h3 with
      | [n], ⟨h3, _⟩ =>
        intro y hy
        simp at hy
        subst hy
        have h5 := h3 z (by simp)
        have h6 := Rf.root_le hn
        have h7 := (Rf.root_spec hn).1
        exact bits_of h5 (by omega) (Nat.le_refl _)
    · cases h
  · intro gs out h hn h3
    unfold fRoot at h
    split at h
    · rename_i z
      cases h
      have hn : 0 ≤ z := hn.one
      have bz : Bits 10 z := h3.1 z (by simp)
      have hbl := bl_le bz
      have hT : rootT z = (((Nm.bl z + 1) / 2 : Nat) : Int) := by
        have w1 : Wr ((Nm.bl z : Int) + 1) = (Nm.bl z : Int) + 1 := wr_small (by omega) (by omega)
        unfold rootT
        rw [w1]
        have : ((Nm.bl z : Int) + 1).tdiv 2 = (((Nm.bl z + 1) / 2 : Nat) : Int) := by
          rw [Int.tdiv_eq_ediv_of_nonneg (by omega)]
          omega
        rw [this]
        exact wr_small (by omega) (by omega)
      have e1 : ((1 : Int).natAbs : Int) * 2 ^ (rootT z).toNat = 2 ^ ((Nm.bl z + 1) / 2) := by
        rw [hT, Int.toNat_natCast]
        show (1 : Int) * _ = _
        rw [Int.one_mul]
      have hp : (0 : Int) < 2 ^ ((Nm.bl z + 1) / 2) := Nm.pow_pos' (by decide) _
      have b2 : Bits 11 (2 ^ ((Nm.bl z + 1) / 2) : Int) := bits_in (pow2_bits ((Nm.bl z + 1) / 2)) (by omega)
      refine ⟨fun m s => ∃ r : Int, s = sRoot z r ∧ 0 < r ∧ 0 < z ∧ z < (r + 1) * (r + 1) ∧ Bits 11 r ∧ m = r.toNat, ⟨300, _, root_walk0 z, ?_, ?_⟩, ?_⟩
      · intro h0
        have h0 : Nm.cmp z 0 ≤ 0 := by simpa using h0
        have : z = 0 := by
          rcases Int.lt_or_eq_of_le hn with h | h
          · rw [Nm.cmp_gt h] at h0; omega
          · exact h.symm
        subst this
        rw [root_eq (r := 0) (by decide) (by decide) (by decide) (by decide)]
        exact rfl
      · intro h0
        have h0 : ¬ Nm.cmp z 0 ≤ 0 := by simpa using h0
        have hz : 0 < z := by
          rcases Int.lt_or_eq_of_le hn with h | h
          · exact h
          · exfalso; apply h0; rw [Nm.cmp_eq h.symm]; decide
        rw [e1]
        refine ⟨holds_cons ⟨by omega, by omega, by omega⟩ holds_nil, holds_cons (by omega) (holds_cons bz (holds_cons b2 holds_nil)), rfl, _, _, rfl, hp, hz, ?_, b2, rfl⟩
        have h5 := (bl_lo (z := z) (by omega)).2.2
        have h6 : (2 : Int) ^ Nm.bl z ≤ 2 ^ ((Nm.bl z + 1) / 2) * 2 ^ ((Nm.bl z + 1) / 2) := by
          rw [← Int.pow_add]
          exact Nm.pow_mono (by decide) (by omega)
        have h7 : z < (2 : Int) ^ Nm.bl z := by
          have : ((z.natAbs : Nat) : Int) < ((2 ^ Nm.bl z : Nat) : Int) := Int.ofNat_lt.2 h5
          rw [Int.natCast_pow] at this
          have e : ((2 : Nat) : Int) = 2 := rfl
          rw [e] at this
          omega
        generalize (2 : Int) ^ ((Nm.bl z + 1) / 2) = P at *
        have e : (P + 1) * (P + 1) = P * P + 2 * P + 1 := by grind
        omega
      · rintro m s ⟨r, rfl, hr, hz, hlt, br, rfl⟩ n
        obtain ⟨n1, n2, n3⟩ := newt hz hr
        have hq : 0 ≤ z / r := Int.ediv_nonneg (by omega) (by omega)
        have eh : halfZ (r + z / r) 1 = (r + z / r) / 2 := half1 (by omega)
        refine ⟨300, _, root_walk1 z r n, ?_, ?_⟩
        · intro _
          refine ⟨holds_cons hr holds_nil, holds_cons (by decide) holds_nil, ?_, ?_⟩
          · intro hge
            have hge : 0 ≤ Nm.cmp (halfZ (r + z / r) 1) r := by simpa using hge
            rw [eh] at hge
            have h8 : r ≤ (r + z / r) / 2 := by
              rcases Int.lt_or_le ((r + z / r) / 2) r with h | h
              · rw [Nm.cmp_lt h] at hge; omega
              · exact h
            rw [root_eq hn (by omega) (n3 h8) hlt]
            exact rfl
          · intro hge
            have hge : ¬ 0 ≤ Nm.cmp (halfZ (r + z / r) 1) r := by simpa using hge
            rw [eh] at hge ⊢
            have h8 : (r + z / r) / 2 < r := by
              rcases Int.lt_or_le ((r + z / r) / 2) r with h | h
              · exact h
              · exfalso
                apply hge
                rcases Int.lt_or_eq_of_le h with h | h
                · rw [Nm.cmp_gt h]; decide
                · rw [Nm.cmp_eq h.symm]; decide
            have b3 : Bits 11 ((r + z / r) / 2) := bits_of br (by omega) (Nat.le_refl _)
            exact ⟨holds_cons bz (holds_cons b3 holds_nil), rfl, ((r + z / r) / 2).toNat, by omega, _, rfl, n1, hz, n2, b3, rfl⟩
        · intro hle
          have hle : ¬ 0 < Nm.cmp r 0 := by simpa using hle
          exfalso
          apply hle
          rw [Nm.cmp_gt hr]
          decide
    · cases h
noncomputable def tW : List (FuncId × TE) := (214, teG true fRoot ndRoot (fun ns => ns.headD 0) [10]) :: (110, teG true fPow ndPow (fun _ => 1) [0, 0]) :: tW1
theorem tW_ok : AllTE Z tW := ⟨root_te, pow_te, tW1_ok⟩
end Ab
end Go.Proofs.YteghhlfmcjmnoaaGreatDoor
set_option linter.unusedSimpArgs false
set_option linter.unusedVariables false
namespace Go.Proofs.YteghhlfmcjmnoaaGreatDoor
open Go.RowKit
namespace Ab
def outN (k : Bool) : Out → Option (List Prop × RG × Nat)
  | .ret (.val v) => (gT k v).map fun g => ([], .one g.1, g.2)
  | .ret (.tup vs) => (mapO (gT k) vs).map fun gs => ([], .tup (gs.map (·.1)), (gs.map (·.2)).foldr max 0)
  | .br t x y => (outN k x).bind fun a => (outN k y).bind fun b => (mrgR t a.2.1 b.2.1).map fun c => (a.1.map (fun p => t = true → p) ++ b.1.map (fun p => t = false → p), c, max a.2.2 b.2.2)
  | .need p o => (outN k o).map fun a => (p ++ a.1, a.2)
theorem gTs_ok {k : Bool} {n : Nat} {w : World} : ∀ {vs : List VT} {gs : List (G × Nat)} {xs : List Value}, mapO (gT k) vs = some gs → (gs.map (·.2)).foldr max 0 ≤ n → All2 (RVT Z w) vs xs → All2 (RVT Z w) ((gs.map (·.1)).map (tokG k n)) xs
  | [], gs, [], h, _, _ => by simp [mapO] at h; subst h; trivial
  | v :: vs, gs, x :: xs, h, hb, ⟨r1, r2⟩ => by
    unfold mapO at h
    obtain ⟨y, h1, h2⟩ := bnd h
    obtain ⟨ys, h3, rfl⟩ := mpd h2
    simp only [List.map_cons, List.foldr_cons] at hb
    obtain ⟨k1, k2⟩ := gT_ok h1 r1
    exact ⟨k2 n (k1.mono (by omega)), gTs_ok h3 (by omega) r2⟩
  | [], _, _ :: _, _, _, h => h.elim
  | _ :: _, _, [], _, _, h => h.elim
theorem outN_ok {k : Bool} {n : Nat} : ∀ {o : Out} {ps : List Prop} {out : RG} {m : Nat}, outN k o = some (ps, out, m) → Holds ps → m ≤ n → o.ok fun r' => ∀ w v, RRV Z w r' v → RRV Z w (rvG k n out) v
  | .ret (.val t), ps, out, m, h, _, hb => by
    simp only [outN] at h
    obtain ⟨⟨g, m'⟩, h1, h2⟩ := mpd h
    cases h2
    intro w v hv
    obtain ⟨k1, k2⟩ := gT_ok h1 hv
    exact k2 n (k1.mono hb)
  | .ret (.tup vs), ps, out, m, h, _, hb => by
    simp only [outN] at h
    obtain ⟨gs, h1, h2⟩ := mpd h
    cases h2
    rintro w v ⟨xs, e, hv⟩
    exact ⟨xs, e, gTs_ok h1 hb hv⟩
  | .br t x y, ps, out, m, h, hp, hb => by
    simp only [outN] at h
    obtain ⟨⟨p1, a, m1⟩, h1, h2⟩ := bnd h
    obtain ⟨⟨p2, b, m2⟩, h3, h4⟩ := bnd h2
    obtain ⟨c, h5, h6⟩ := mpd h4
    cases h6
    have h7 := mrgR_ok h5
    refine ⟨fun e => ?_, fun e => ?_⟩
    · subst e; subst h7
      exact outN_ok h1 (fun q hq => hp (true = true → q) (List.mem_append_left _ (List.mem_map.2 ⟨q, hq, rfl⟩)) rfl) (by simp only at hb ⊢; omega)
    · subst e; subst h7
      exact outN_ok h3 (fun q hq => hp (false = false → q) (List.mem_append_right _ (List.mem_map.2 ⟨q, hq, rfl⟩)) rfl) (by simp only at hb ⊢; omega)
  | .need p o, ps, out, m, h, hp, hb => by
    simp only [outN] at h
    obtain ⟨⟨p1, a, m1⟩, h1, h2⟩ := mpd h
    cases h2
    exact ⟨fun q hq => hp q (by simp [hq]), outN_ok h1 (fun q hq => hp q (by simp [hq])) hb⟩
abbrev teN (k : Bool) (F : List G → Option RG) (nd : List G → List Prop) (N : Nat) (lim : List Nat) : TE := teG k F nd (fun _ => N) lim
theorem walkN {l : List (FuncId × TE)} (hl : AllTE Z l) {bodies : FuncId → Option Func} (hbo : BodiesOk Z bodies) {f : FuncId} {fn : Func} (Fn' : Fn f fn) {k : Bool} {F : List G → Option RG} {nd : List G → List Prop} {N : Nat} {lim : List Nat}
    (h : ∀ gs out, F gs = some out → ∃ ps m, ((run Z (tabSp l) bodies (drawA Z (tabSp l)) (fun _ => false) 2000 [.code (bodyOf fn), .top fn] (start fn (tokGs k gs lim))).bind outcome).bind (outN k) = some (ps, out, m) ∧ m ≤ N ∧ (Holds (nd gs) → GBs gs lim → Holds ps)) : TEok Z f (teN k F nd N lim) := by
  refine ⟨Fn'.en, fun ts r p hts hp w vs hvs => ?_⟩
  unfold teN teG at hts
  obtain ⟨xs, h1, h2⟩ := bnd hts
  cases hle : leAll (xs.map (·.2)) lim with
  | false => rw [hle] at h2; cases h2
  | true =>
    rw [hle] at h2
    simp only [cond_true] at h2
    obtain ⟨out, h3, h4⟩ := mpd h2
    cases h4
    obtain ⟨g1, g2, g3⟩ := argsG_ok ts xs lim vs h1 hle hvs
    obtain ⟨ps, m, k1, k2, k3⟩ := h _ out h3
    have k3' := k3 hp g3
    clear k3
    generalize xs.map (·.1) = gs at *
    obtain ⟨o, k4, k5⟩ := bnd k1
    obtain ⟨tr, k6, k7⟩ := bnd k4
    have hA : At (avsOf 0 (tokGs k gs lim)).2 0 (avsOf 0 (tokGs k gs lim)).2 := fun i y hy => by rw [Nat.zero_add]; exact hy
    refine engine (w0 := w) (ψ := fun _ => none) (φ := fun _ => none) (s := start fn (tokGs k gs lim)) (vs := (avsOf 0 (tokGs k gs lim)).1) (tabSp_ok hl) hbo (drawA_ok mixed (tabSp_ok hl)) Fn'.at' Fn'.body rfl (avsOf_ok _ 0 vs hA g1) (rep_start fn _ w) 2000 k6 _ (fun _ _ => False) (fun _ _ h => h.elim) (outcome_ok k7 (outN_ok k5 k3' k2)) ?_
    rintro r0 s φ v w' ⟨hc, r', h7, h8⟩ hr hw
    exact ⟨v, rfl, h8 w' v (rvOf_ok h7 hr), RepF.below hw hc⟩
theorem te_congr' {f : FuncId} {k : Bool} {F F' : List G → Option RG} {nd nd' : List G → List Prop} {bo : List Nat → Nat} {lim : List Nat} (h : TEok Z f (teG k F nd bo lim)) (hF : ∀ gs out, F' gs = some out → Holds (nd' gs) → GBs gs lim → F gs = some out ∧ Holds (nd gs)) : TEok Z f (teG k F' nd' bo lim) := by
  refine ⟨h.1, fun ts r p hts hp w vs hvs => ?_⟩
  unfold teG at hts
  obtain ⟨xs, h1, h2⟩ := bnd hts
  cases hle : leAll (xs.map (·.2)) lim with
  | false => rw [hle] at h2; cases h2
  | true =>
    rw [hle] at h2
    simp only [cond_true] at h2
    obtain ⟨out, h3, h4⟩ := mpd h2
    cases h4
    obtain ⟨g1, g2, g3⟩ := argsG_ok ts xs lim vs h1 hle hvs
    obtain ⟨k1, k2⟩ := hF _ out h3 hp g3
    exact h.2 ts (rvG k (bo (xs.map (·.2))) out) (nd (xs.map (·.1))) (by unfold teG; rw [h1]; simp only [Option.bind_some, hle, cond_true, k1, Option.map_some]) k2 w vs hvs
end Ab
end Go.Proofs.YteghhlfmcjmnoaaGreatDoor
set_option linter.unusedSimpArgs false
set_option linter.unusedVariables false
namespace Go.Proofs.YteghhlfmcjmnoaaGreatDoor
open Go.RowKit
namespace Ab
def lowT (t b : Int) : Int := bif decide (Nm.cmp b 0 < 0) then -t / gcdZ t b else bif Nm.cmp b 0 == 0 then (bif decide (Nm.cmp t 0 < 0) then -t / gcdZ t b else t / gcdZ t b) else t / gcdZ t b
def lowB (t b : Int) : Int := bif decide (Nm.cmp b 0 < 0) then -b / gcdZ t b else bif Nm.cmp b 0 == 0 then (bif decide (Nm.cmp t 0 < 0) then -b / gcdZ t b else b / gcdZ t b) else b / gcdZ t b
def fLow : List G → Option RG
  | [.ns [t], .ns [b]] => some (.one (.ns [lowT t b, lowB t b]))
  | _ => none
def ndLow : List G → List Prop
  | [.ns [t], .ns [b]] => [0 < gcdZ t b]
  | _ => []
set_option maxRecDepth 100000 in
theorem low_te : TEok Z 96 (teN true fLow ndLow 41 [40, 40]) := by
  refine walkN (l := tW) tW_ok nobody (fn_of Tryz.func96 rfl rfl) ?_
  intro gs out h
  unfold fLow at h
  split at h
  · rename_i t b
    cases h
    refine ⟨[decide (Nm.cmp b 0 < 0) = true → 0 < gcdZ t b, decide (Nm.cmp b 0 < 0) = true → 0 < gcdZ t b, decide (Nm.cmp b 0 < 0) = false → (Nm.cmp b 0 == 0) = true → decide (Nm.cmp t 0 < 0) = true → 0 < gcdZ t b, decide (Nm.cmp b 0 < 0) = false → (Nm.cmp b 0 == 0) = true → decide (Nm.cmp t 0 < 0) = true → 0 < gcdZ t b, decide (Nm.cmp b 0 < 0) = false → (Nm.cmp b 0 == 0) = true → decide (Nm.cmp t 0 < 0) = false → 0 < gcdZ t b, decide (Nm.cmp b 0 < 0) = false → (Nm.cmp b 0 == 0) = true → decide (Nm.cmp t 0 < 0) = false → 0 < gcdZ t b, decide (Nm.cmp b 0 < 0) = false → (Nm.cmp b 0 == 0) = false → 0 < gcdZ t b, decide (Nm.cmp b 0 < 0) = false → (Nm.cmp b 0 == 0) = false → 0 < gcdZ t b], 41, by kernel_rfl, by decide, fun hn hg => ?_⟩
    have hn : 0 < gcdZ t b := hn.one
    exact holds_cons (fun _ => hn) (holds_cons (fun _ => hn) (holds_cons (fun _ _ _ => hn) (holds_cons (fun _ _ _ => hn) (holds_cons (fun _ _ _ => hn) (holds_cons (fun _ _ _ => hn) (holds_cons (fun _ _ => hn) (holds_cons (fun _ _ => hn) holds_nil)))))))
  · cases h
def fFrOf : List Int → Option (List Int)
  | [n] => some [n, 1]
  | _ => none
set_option maxRecDepth 100000 in
theorem frOf_te : TEok Z 102 (teI true fFrOf) := by
  refine walkI tW_ok (fn_of Tryz.func102 rfl rfl) ?_ ?_
  · intro zs out h
    unfold fFrOf at h
    split at h
    · rename_i n
      cases h
      exact ⟨[n.natAbs < 1000000000000000000], by kernel_rfl, fun h => holds_cons (h n (by simp)) holds_nil⟩
    · cases h
  · intro zs out h hz
    unfold fFrOf at h
    split at h
    · rename_i n
      cases h
      intro z hz'
      simp at hz'
      rcases hz' with rfl | rfl
      · exact bits60 (hz _ (by simp))
      · exact bits60 (by decide)
    · cases h
def fFrSign : List G → Option RG
  | [.ns [t, b]] => some (.one (.i .i64 (Nm.cmp t 0)))
  | _ => none
set_option maxRecDepth 100000 in
theorem frSign_te : TEok Z 80 (teN true fFrSign noNd 0 [90]) := by
  refine walkN (l := tW) tW_ok nobody (fn_of Tryz.func80 rfl rfl) ?_
  intro gs out h
  unfold fFrSign at h
  split at h
  · cases h
    exact ⟨[], 0, by kernel_rfl, by decide, fun _ _ => holds_nil⟩
  · cases h
def fFrNeg : List G → Option RG
  | [.ns [t, b]] => some (.one (.ns [-t, b]))
  | _ => none
set_option maxRecDepth 100000 in
theorem frNeg_te : TEok Z 127 (teN true fFrNeg noNd 10 [10]) := by
  refine walkN (l := tW) tW_ok nobody (fn_of Tryz.func127 rfl rfl) ?_
  intro gs out h
  unfold fFrNeg at h
  split at h
  · cases h
    exact ⟨[], 10, by kernel_rfl, by decide, fun _ _ => holds_nil⟩
  · cases h
noncomputable def tF0 : List (FuncId × TE) := (96, teN true fLow ndLow 41 [40, 40]) :: (102, teI true fFrOf) :: (80, teN true fFrSign noNd 0 [90]) :: (127, teN true fFrNeg noNd 10 [10]) :: tW
theorem tF0_ok : AllTE Z tF0 := ⟨low_te, frOf_te, frSign_te, frNeg_te, tW_ok⟩
def fFr2 (top bot : Int → Int → Int → Int → Int) : List G → Option RG
  | [.ns [a, b], .ns [c, d]] => some (.one (.ns [lowT (top a b c d) (bot a b c d), lowB (top a b c d) (bot a b c d)]))
  | _ => none
def ndFr2 (top bot : Int → Int → Int → Int → Int) : List G → List Prop
  | [.ns [a, b], .ns [c, d]] => [0 < gcdZ (top a b c d) (bot a b c d)]
  | _ => []
set_option maxRecDepth 100000 in
theorem frPlus_te : TEok Z 126 (teN true (fFr2 (fun a b c d => a * d + c * b) (fun a b c d => b * d)) (ndFr2 (fun a b c d => a * d + c * b) (fun a b c d => b * d)) 41 [10, 10]) := by
  refine walkN (l := tF0) tF0_ok nobody (fn_of Tryz.func126 rfl rfl) ?_
  intro gs out h
  unfold fFr2 at h
  split at h
  · rename_i a b c d
    cases h
    exact ⟨[0 < gcdZ (a * d + c * b) (b * d)], 41, by kernel_rfl, by decide, fun hn _ => holds_cons hn.one holds_nil⟩
  · cases h
set_option maxRecDepth 100000 in
theorem frTimes_te : TEok Z 172 (teN true (fFr2 (fun a b c d => a * c) (fun a b c d => b * d)) (ndFr2 (fun a b c d => a * c) (fun a b c d => b * d)) 41 [10, 10]) := by
  refine walkN (l := tF0) tF0_ok nobody (fn_of Tryz.func172 rfl rfl) ?_
  intro gs out h
  unfold fFr2 at h
  split at h
  · rename_i a b c d
    cases h
    exact ⟨[0 < gcdZ (a * c) (b * d)], 41, by kernel_rfl, by decide, fun hn _ => holds_cons hn.one holds_nil⟩
  · cases h
set_option maxRecDepth 100000 in
theorem frOver_te : TEok Z 173 (teN true (fFr2 (fun a b c d => a * d) (fun a b c d => b * c)) (ndFr2 (fun a b c d => a * d) (fun a b c d => b * c)) 41 [10, 10]) := by
  refine walkN (l := tF0) tF0_ok nobody (fn_of Tryz.func173 rfl rfl) ?_
  intro gs out h
  unfold fFr2 at h
  split at h
  · rename_i a b c d
    cases h
    exact ⟨[0 < gcdZ (a * d) (b * c)], 41, by kernel_rfl, by decide, fun hn _ => holds_cons hn.one holds_nil⟩
  · cases h
noncomputable def tF1 : List (FuncId × TE) := (126, teN true (fFr2 (fun a b c d => a * d + c * b) (fun a b c d => b * d)) (ndFr2 (fun a b c d => a * d + c * b) (fun a b c d => b * d)) 41 [10, 10]) :: (172, teN true (fFr2 (fun a b c d => a * c) (fun a b c d => b * d)) (ndFr2 (fun a b c d => a * c) (fun a b c d => b * d)) 41 [10, 10]) :: (173, teN true (fFr2 (fun a b c d => a * d) (fun a b c d => b * c)) (ndFr2 (fun a b c d => a * d) (fun a b c d => b * c)) 41 [10, 10]) :: tF0
theorem tF1_ok : AllTE Z tF1 := ⟨frPlus_te, frTimes_te, frOver_te, tF0_ok⟩
set_option maxRecDepth 100000 in
theorem frMinus_te : TEok Z 79 (teN true (fFr2 (fun a b c d => a * d + -c * b) (fun a b c d => b * d)) (ndFr2 (fun a b c d => a * d + -c * b) (fun a b c d => b * d)) 41 [10, 10]) := by
  refine walkN (l := tF1) tF1_ok nobody (fn_of Tryz.func79 rfl rfl) ?_
  intro gs out h
  unfold fFr2 at h
  split at h
  · rename_i a b c d
    cases h
    exact ⟨[0 < gcdZ (a * d + -c * b) (b * d)], 41, by kernel_rfl, by decide, fun hn _ => holds_cons hn.one holds_nil⟩
  · cases h
noncomputable def tF : List (FuncId × TE) := (79, teN true (fFr2 (fun a b c d => a * d + -c * b) (fun a b c d => b * d)) (ndFr2 (fun a b c d => a * d + -c * b) (fun a b c d => b * d)) 41 [10, 10]) :: tF1
theorem tF_ok : AllTE Z tF := ⟨frMinus_te, tF1_ok⟩
def fMOf : List Int → Option (List Int)
  | [a, b, c, d] => some [a, b, c, d]
  | _ => none
set_option maxRecDepth 100000 in
theorem mOf_te : TEok Z 56 (teI true fMOf) := by
  refine walkI tW_ok (fn_of Tryz.func56 rfl rfl) ?_ ?_
  · intro zs out h
    unfold fMOf at h
    split at h
    · rename_i a b c d
      cases h
      exact ⟨[a.natAbs < 1000000000000000000, b.natAbs < 1000000000000000000, c.natAbs < 1000000000000000000, d.natAbs < 1000000000000000000], by kernel_rfl, fun h => by simp at h; exact holds_cons h.1 (holds_cons h.2.1 (holds_cons h.2.2.1 (holds_cons h.2.2.2 holds_nil)))⟩
    · cases h
  · intro zs out h hz
    unfold fMOf at h
    split at h
    · cases h
      exact fun z hz' => bits60 (hz z hz')
    · cases h
def fPairs : List G → Option RG
  | [.ns [a], .ns [x], .ns [b], .ns [y]] => some (.one (.ns [a * x + b * y]))
  | _ => none
set_option maxRecDepth 100000 in
theorem pairs_te : TEok Z 95 (teN true fPairs noNd 7 [3, 3, 3, 3]) := by
  refine walkN (l := tW) tW_ok nobody (fn_of Tryz.func95 rfl rfl) ?_
  intro gs out h
  unfold fPairs at h
  split at h
  · cases h
    exact ⟨[], 7, by kernel_rfl, by decide, fun _ _ => holds_nil⟩
  · cases h
noncomputable def tM0 : List (FuncId × TE) := (56, teI true fMOf) :: (95, teN true fPairs noNd 7 [3, 3, 3, 3]) :: tF
theorem tM0_ok : AllTE Z tM0 := ⟨mOf_te, pairs_te, tF_ok⟩
end Ab
end Go.Proofs.YteghhlfmcjmnoaaGreatDoor
