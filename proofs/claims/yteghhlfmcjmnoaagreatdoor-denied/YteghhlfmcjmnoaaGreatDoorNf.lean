import Derived.Test.YteghhlfmcjmnoaaGreatDoorPg3
set_option linter.unusedSimpArgs false
set_option linter.unusedVariables false
namespace Go.Proofs.YteghhlfmcjmnoaaGreatDoor
open Go.RowKit
namespace Ab
theorem few_inv {t z : Int} {S : List Int} (h : ∀ y ∈ S, y = 0 ∨ (0 ≤ t ∧ t ≤ (Nm.tz y : Int))) : ∀ y ∈ z :: S, y = 0 ∨ (0 ≤ fewer t z ∧ fewer t z ≤ (Nm.tz y : Int)) := by
  intro y hy
  have key : fewer t z = (if z = 0 then t else if t < 0 ∨ (Nm.tz z : Int) < t then (Nm.tz z : Int) else t) := by
    unfold fewer
    by_cases hz : z = 0
    · rw [Nm.cmp_eq hz, if_pos hz]; rfl
    · have : (Nm.cmp z 0 == 0) = false := by
        rw [beq_eq_false_iff_ne]
        rcases Int.lt_or_gt_of_ne hz with g | g
        · rw [Nm.cmp_lt g]; decide
        · rw [Nm.cmp_gt g]; decide
      rw [this, if_neg hz, cond_false]
      by_cases h1 : t < 0
      · rw [decide_eq_true h1, if_pos (Or.inl h1)]; rfl
      · rw [decide_eq_false h1, cond_false]
        by_cases h2 : (Nm.tz z : Int) < t
        · rw [decide_eq_true h2, if_pos (Or.inr h2)]; rfl
        · rw [decide_eq_false h2, if_neg (by omega)]; rfl
  rw [key]
  simp only [List.mem_cons] at hy
  rcases hy with rfl | hy
  · by_cases hz : y = 0
    · exact Or.inl hz
    · right
      rw [if_neg hz]
      split <;> omega
  · rcases h y hy with h1 | ⟨h1, h2⟩
    · exact Or.inl h1
    · right
      split
      · exact ⟨h1, h2⟩
      · split <;> omega
theorem half_exact {z : Int} {n : Nat} (h : (2 : Int) ^ n ∣ z) : z = 2 ^ n * Nm.half z n := by
  have hp : (0 : Int) < 2 ^ n := Nm.pow_pos' (by decide) n
  have h' : (2 : Int) ^ n ∣ (z.natAbs : Int) := Int.dvd_natAbs.2 h
  have e : 2 ^ n * ((z.natAbs : Int) / 2 ^ n) = z.natAbs := Int.mul_ediv_cancel' h'
  unfold Nm.half
  split
  · rw [Int.mul_neg, e]; omega
  · rw [e]; omega
theorem hv_exact {t z : Int} (h : z = 0 ∨ (0 ≤ t ∧ t ≤ (Nm.tz z : Int))) : z = (if t < 1 then 1 else 2 ^ t.toNat) * hv t z := by
  unfold hv
  by_cases h1 : t < 1
  · rw [if_pos h1, decide_eq_true h1, cond_true, Int.one_mul]
  · rw [if_neg h1, decide_eq_false h1, cond_false]
    unfold halfZ
    rw [decide_eq_false h1, cond_false]
    refine half_exact ?_
    rcases h with rfl | ⟨h2, h3⟩
    · exact Int.dvd_zero _
    · refine Int.dvd_trans ⟨2 ^ (Nm.tz z - t.toNat), ?_⟩ (Nm.tz_dvd z)
      rw [← Int.pow_add]
      congr 1
      omega
theorem halved_sc (p0 q0 p1 q1 p2 q2 p3 q3 : Int) : ∃ s : Int, 0 < s ∧ [(p0, q0), (p1, q1), (p2, q2), (p3, q3)] = [(hv (tw8 p0 q0 p1 q1 p2 q2 p3 q3) p0, hv (tw8 p0 q0 p1 q1 p2 q2 p3 q3) q0), (hv (tw8 p0 q0 p1 q1 p2 q2 p3 q3) p1, hv (tw8 p0 q0 p1 q1 p2 q2 p3 q3) q1), (hv (tw8 p0 q0 p1 q1 p2 q2 p3 q3) p2, hv (tw8 p0 q0 p1 q1 p2 q2 p3 q3) q2), (hv (tw8 p0 q0 p1 q1 p2 q2 p3 q3) p3, hv (tw8 p0 q0 p1 q1 p2 q2 p3 q3) q3)].map (Pg.sc s) := by
  have h0 : ∀ y ∈ ([] : List Int), y = 0 ∨ (0 ≤ (-1 : Int) ∧ (-1 : Int) ≤ (Nm.tz y : Int)) := fun y hy => by cases hy
  have h := few_inv (z := q3) (few_inv (z := p3) (few_inv (z := q2) (few_inv (z := p2) (few_inv (z := q1) (few_inv (z := p1) (few_inv (z := q0) (few_inv (z := p0) h0)))))))
  have hE : fewer (fewer (fewer (fewer (fewer (fewer (fewer (fewer (-1) p0) q0) p1) q1) p2) q2) p3) q3 = tw8 p0 q0 p1 q1 p2 q2 p3 q3 := rfl
  rw [hE] at h
  generalize tw8 p0 q0 p1 q1 p2 q2 p3 q3 = t at *
  refine ⟨if t < 1 then 1 else 2 ^ t.toNat, by split; decide; exact Nm.pow_pos' (by decide) _, ?_⟩
  have k : ∀ y ∈ [q3, p3, q2, p2, q1, p1, q0, p0], y = (if t < 1 then 1 else 2 ^ t.toNat) * hv t y := fun y hy => hv_exact (h y hy)
  simp only [List.map_cons, List.map_nil, Pg.sc]
  rw [← k p0 (by simp), ← k q0 (by simp), ← k p1 (by simp), ← k q1 (by simp), ← k p2 (by simp), ← k q2 (by simp), ← k p3 (by simp), ← k q3 (by simp)]
def code (c : Int) : Int := if c = -1 then 5 else if c = 0 then 6 else if c = 1 then 7 else if c = 43 then 1 else if c = 45 then 2 else if c = 111 then 3 else 4
theorem sym_code (c : Int) : symA (code c) = (Mt.sym c).a ∧ symB (code c) = (Mt.sym c).b ∧ symC (code c) = (Mt.sym c).c ∧ symD (code c) = (Mt.sym c).d := by
  unfold code Mt.sym
  split
  · exact ⟨rfl, rfl, rfl, rfl⟩
  · split
    · exact ⟨rfl, rfl, rfl, rfl⟩
    · split
      · exact ⟨rfl, rfl, rfl, rfl⟩
      · split
        · exact ⟨rfl, rfl, rfl, rfl⟩
        · split
          · exact ⟨rfl, rfl, rfl, rfl⟩
          · split <;> exact ⟨rfl, rfl, rfl, rfl⟩
theorem code_pos (c : Int) : 1 ≤ code c ∧ code c ≤ 7 := by unfold code; split <;> (try decide); split <;> (try decide); split <;> (try decide); split <;> (try decide); split <;> (try decide); split <;> decide
theorem fitZ_eq (p0 q0 p1 q1 p2 q2 p3 q3 a b c d : Int) : fitZ p0 q0 p1 q1 p2 q2 p3 q3 a b c d = Nw.fits ([(p0, q0), (p1, q1), (p2, q2), (p3, q3)].map (Rf.vag ⟨a, b, c, d⟩)) := by
  have k1 : ∀ x y : Int, decide (Nm.cmp x y < 0) = decide (x - y < 0) := fun x y => by
    rcases Int.lt_trichotomy x y with h | h | h
    · rw [Nm.cmp_lt h, decide_eq_true (by decide), decide_eq_true (by omega)]
    · rw [Nm.cmp_eq h, decide_eq_false (by decide), decide_eq_false (by omega)]
    · rw [Nm.cmp_gt h, decide_eq_false (by decide), decide_eq_false (by omega)]
  have k2 : ∀ x y : Int, decide (Nm.cmp x y > 0) = decide (0 < x - y) := fun x y => by
    rcases Int.lt_trichotomy x y with h | h | h
    · rw [Nm.cmp_lt h, decide_eq_false (by decide), decide_eq_false (by omega)]
    · rw [Nm.cmp_eq h, decide_eq_false (by decide), decide_eq_false (by omega)]
    · rw [Nm.cmp_gt h, decide_eq_true (by decide), decide_eq_true (by omega)]
  have e1 : ∀ p q : Int, (Rf.vag ⟨a, b, c, d⟩ (p, q)) = (d * p - b * q, a * q - c * p) := fun p q => by
    unfold Rf.vag Mt.ag1 Mt.ag2
    simp only [Int.neg_mul, Int.sub_eq_add_neg]
  unfold fitZ fitN Nw.fits Nw.ups Nw.downs cl cp
  simp only [List.map_cons, List.map_nil, List.any_cons, List.any_nil, Bool.or_false, Bool.false_or, k1, k2, e1]
  rw [Bool.beq_comm]
  rfl
def nearA (p q : Int) : Int := ((Rf.near p q 20000 1).getD (0, 0)).1
def nearB (p q : Int) : Int := ((Rf.near p q 20000 1).getD (0, 0)).2
def fNear2 : List G → Option RG
  | [.ns [p, q]] => some (.tup [.ns [nearA p q], .ns [nearB p q]])
  | _ => none
def ndNear2 : List G → List Prop
  | [.ns [p, q]] => [0 < p ∧ 0 < q ∧ (Rf.near p q 20000 1).isSome = true]
  | _ => []
theorem near2_te : TEok Z 204 (teG true fNear2 ndNear2 (fun _ => 2) [1]) := by
  refine te_congr' near_te ?_
  intro gs out h hn hg
  unfold fNear2 at h
  split at h
  · rename_i p q
    cases h
    have hn : 0 < p ∧ 0 < q ∧ (Rf.near p q 20000 1).isSome = true := hn.one
    refine ⟨?_, holds_cons ⟨hn.1, hn.2.1⟩ holds_nil⟩
    obtain ⟨ab, e⟩ := Option.isSome_iff_exists.1 hn.2.2
    show (Rf.near p q 20000 1).map (fun ab => RG.tup [.ns [ab.1], .ns [ab.2]]) = some (.tup [.ns [((Rf.near p q 20000 1).getD (0, 0)).1], .ns [((Rf.near p q 20000 1).getD (0, 0)).2]])
    rw [e]
    rfl
  · cases h
noncomputable def tN2 : List (FuncId × TE) := (204, teG true fNear2 ndNear2 (fun _ => 2) [1]) :: tK
theorem tN2_ok : AllTE Z tN2 := ⟨near2_te, tK_ok⟩
def fRtM : List G → Option RG
  | [.ns [p, q]] => some (.one (.ns [nearA p q * q, nearB p q * p, nearB p q * q, nearA p q * q]))
  | _ => none
set_option maxRecDepth 100000 in
theorem RtM_te : TEok Z 193 (teN true fRtM ndNear2 3 [1]) := by
  refine walkN (l := tN2) tN2_ok nobody (fn_of Tryz.func193 rfl rfl) ?_
  intro gs out h
  unfold fRtM at h
  split at h
  · rename_i p q
    cases h
    exact ⟨[0 < p ∧ 0 < q ∧ (Rf.near p q 20000 1).isSome = true], 3, by kernel_rfl, by decide, fun hn _ => holds_cons hn.one holds_nil⟩
  · cases h
noncomputable def tN : List (FuncId × TE) := (193, teN true fRtM ndNear2 3 [1]) :: tN2
theorem tN_ok : AllTE Z tN := ⟨RtM_te, tN2_ok⟩
end Ab
end Go.Proofs.YteghhlfmcjmnoaaGreatDoor
set_option linter.unusedSimpArgs false
set_option linter.unusedVariables false
namespace Go.Proofs.YteghhlfmcjmnoaaGreatDoor
open Go.RowKit
namespace Ab
def ndC (hs : Bool) (uns mt lr rr pl : Int) (lp rp cst nst gv : AC) : List AC := .sbool hs :: numCs true 0 8 ++ [cst, .sint .i64 mt, lp, .sint .i64 lr, rp, .sint .i64 rr, gv, .sint .i64 uns, nst, .sint .i64 pl]
def argB (i : Nat) : Option Bool → List (Nat × Box)
  | none => []
  | some s => [(i, ext (.sbool s :: anys 26) 205)]
def ptrC (i : Nat) : Option Bool → AC
  | none => .lit (.pointer none)
  | some _ => .ptr i 0
def gvC : Option Nat → AC
  | none => .lit (.slice none 0 0)
  | some len => .dsl 3 0 len 1
def gvB : Option Nat → List (Nat × Box)
  | none => []
  | some _ => [(3, ext [] 100)]
def xC (i : Nat) : Bool → AC
  | false => .lit (.pointer none)
  | true => .ptr i 0
def xB (i : Nat) (ty : TypeId) : Bool → List (Nat × Box)
  | false => []
  | true => [(i, ext [] ty)]
def sNd (zs : List Int) (hs : Bool) (l r : Option Bool) (g : Option Nat) (c n : Bool) (uns mt lr rr pl : Int) (nt : Nat) : AS :=
  ⟨.val (.one (.ptr 0 0)) :: List.replicate nt .und, (0, ext (ndC hs uns mt lr rr pl (ptrC 1 l) (ptrC 2 r) (xC 4 c) (xC 5 n) (gvC g)) 205) :: (argB 1 l ++ (argB 2 r ++ (gvB g ++ (xB 4 224 c ++ xB 5 273 n)))), 6, zs.map fun z => (z, 10), []⟩
def argW : Option Bool → Int → Int → Int
  | none, _, k => k
  | some s, r, k => bif s then (bif r == 0 then 0 else k) else k
def fitS (p0 q0 p1 q1 p2 q2 p3 q3 s : Int) : Bool := fitZ p0 q0 p1 q1 p2 q2 p3 q3 (symA s) (symB s) (symC s) (symD s)
def sgnF (p0 q0 p1 q1 p2 q2 p3 q3 : Int) : Int := bif fitS p0 q0 p1 q1 p2 q2 p3 q3 1 then 1 else bif fitS p0 q0 p1 q1 p2 q2 p3 q3 2 then 2 else bif fitS p0 q0 p1 q1 p2 q2 p3 q3 3 then 3 else bif fitS p0 q0 p1 q1 p2 q2 p3 q3 4 then 4 else 0
def digF (p0 q0 p1 q1 p2 q2 p3 q3 : Int) : Int := bif fitS p0 q0 p1 q1 p2 q2 p3 q3 5 then 5 else bif fitS p0 q0 p1 q1 p2 q2 p3 q3 7 then 7 else bif fitS p0 q0 p1 q1 p2 q2 p3 q3 6 then 6 else 0
def firstF (hs : Bool) (g : Option Nat) (x y : Int) : Int :=
  match g with
  | none => bif hs then x else y
  | some len => bif hs then (bif (len : Int) == 0 then x else y) else y
def nextZ (p0 q0 p1 q1 p2 q2 p3 q3 : Int) (hs : Bool) (l r : Option Bool) (g : Option Nat) (uns lr rr : Int) : Int :=
  bif uns != 0 then 0 else argW l lr (argW r rr (firstF hs g (sgnF p0 q0 p1 q1 p2 q2 p3 q3) (digF p0 q0 p1 q1 p2 q2 p3 q3)))
noncomputable def bN : FuncId → Option Func := fun f => bif f == 205 then some Tryz.f205 else bif f == 206 then some Tryz.f206 else none
theorem bN_ok : BodiesOk Z bN := by
  intro f fn h
  unfold bN at h
  cases h1 : f == 205 with
  | true =>
    rw [h1] at h
    cases h
    have : f = 205 := by simpa using h1
    subst this
    exact ⟨(fn_of Tryz.func205 rfl rfl).at', (fn_of Tryz.func205 rfl rfl).en⟩
  | false =>
    rw [h1] at h
    cases h2 : f == 206 with
    | true =>
      rw [h2] at h
      cases h
      have : f = 206 := by simpa using h2
      subst this
      exact ⟨(fn_of Tryz.func206 rfl rfl).at', (fn_of Tryz.func206 rfl rfl).en⟩
    | false => rw [h2] at h; cases h
noncomputable def nextRun (zs : List Int) (hs : Bool) (l r : Option Bool) (g : Option Nat) (c n : Bool) (uns mt lr rr pl : Int) : Option Tr := run Z (tabSp tN) bN (drawA Z (tabSp tN)) (fun _ => false) 2000 [.code (bodyOf Tryz.f196), .top Tryz.f196] (sNd zs hs l r g c n uns mt lr rr pl 39)
set_option maxRecDepth 100000 in
theorem next_walk (p0 q0 p1 q1 p2 q2 p3 q3 : Int) (hs : Bool) (l r : Option Bool) (g : Option Nat) (c n : Bool) (uns mt lr rr pl : Int) : ((nextRun [p0, q0, p1, q1, p2, q2, p3, q3] hs l r g c n uns mt lr rr pl).bind outcome).bind (outN true) = some ([], .one (.i .i64 (nextZ p0 q0 p1 q1 p2 q2 p3 q3 hs l r g uns lr rr)), 0) := by
  cases l with
  | none =>
    cases r with
    | none => cases g <;> kernel_rfl
    | some rs => cases g <;> kernel_rfl
  | some ls =>
    cases r with
    | none => cases g <;> kernel_rfl
    | some rs => cases g <;> kernel_rfl
end Ab
end Go.Proofs.YteghhlfmcjmnoaaGreatDoor
set_option linter.unusedSimpArgs false
set_option linter.unusedVariables false
namespace Go.Proofs.YteghhlfmcjmnoaaGreatDoor
open Go.RowKit
namespace Ab
structure NodeAt (w : World) (k : Nat) (zs : List Int) (hs : Bool) (uns mt lr rr pl : Int) (lp rp gv cv nv : Value) : Prop where
  ex : ∃ xs : List Value, w.heap[k]? = some (.cells (.bool hs :: xs ++ [cv, .int .i64 mt, lp, .int .i64 lr, rp, .int .i64 rr, gv, .int .i64 uns, nv, .int .i64 pl]).toArray 205 (0, 0)) ∧ Hold true w zs xs
def ArgAt (w : World) : Option (Nat × Bool) → Value → Prop
  | none, v => v = .pointer none
  | some (k, s), v => v = .pointer (some ⟨k, 0, none⟩) ∧ ∃ ys : List Value, w.heap[k]? = some (.cells (.bool s :: ys).toArray 205 (0, 0)) ∧ ys.length = 26 ∧ ∀ y ∈ ys, One y
def GivAt (w : World) : Option (Nat × Nat) → Value → Prop
  | none, v => v = .slice none 0 0
  | some (k, len), v => ∃ cap, v = .slice (some ⟨k, 0, none⟩) len cap ∧ ∃ cs : List Value, w.heap[k]? = some (.cells cs.toArray 100 (0, 0))
def ExtAt (w : World) (ty : TypeId) : Option Nat → Value → Prop
  | none, v => v = .pointer none
  | some k, v => v = .pointer (some ⟨k, 0, none⟩) ∧ ∃ cs : List Value, w.heap[k]? = some (.cells cs.toArray ty (0, 0))
def phi (k : Nat) (l r : Option (Nat × Bool)) (g : Option (Nat × Nat)) (c n : Option Nat) : Nat → Option (Nat × Nat)
  | 0 => some (k, 0)
  | 1 => l.map fun x => (x.1, 0)
  | 2 => r.map fun x => (x.1, 0)
  | 3 => g.map fun x => (x.1, 0)
  | 4 => c.map fun x => (x, 0)
  | 5 => n.map fun x => (x, 0)
  | _ => none
theorem any_all {φ : Nat → Option (Nat × Nat)} {ν : List (Int × Nat)} {w : World} : ∀ (n : Nat) (ys : List Value), ys.length = n → (∀ y ∈ ys, One y) → All2 (relC Z φ ν w) (anys n) ys
  | 0, [], _, _ => trivial
  | n + 1, y :: ys, hl, h => ⟨h y (by simp), any_all n ys (by simpa using hl) fun z hz => h z (by simp [hz])⟩
  | 0, _ :: _, h, _ => by simp at h
  | _ + 1, [], h, _ => by simp at h
theorem ptr_rel {φ : Nat → Option (Nat × Nat)} {ν : List (Int × Nat)} {w : World} {i : Nat} {l : Option (Nat × Bool)} {v : Value} (hφ : φ i = l.map fun x => (x.1, 0)) (h : ArgAt w l v) : relC Z φ ν w (ptrC i (l.map (·.2))) v := by
  cases l with
  | none => exact ⟨h, rfl⟩
  | some x => exact ⟨x.1, 0, hφ, h.1⟩
theorem giv_rel {φ : Nat → Option (Nat × Nat)} {ν : List (Int × Nat)} {w : World} {g : Option (Nat × Nat)} {v : Value} (hφ : φ 3 = g.map fun x => (x.1, 0)) (h : GivAt w g v) : relC Z φ ν w (gvC (g.map (·.2))) v := by
  cases g with
  | none => exact ⟨h, rfl⟩
  | some x => obtain ⟨cap, h1, _⟩ := h; exact ⟨x.1, cap, by rw [hφ]; rfl, h1⟩
theorem ext_rel {φ : Nat → Option (Nat × Nat)} {ν : List (Int × Nat)} {w : World} {i : Nat} {ty : TypeId} {c : Option Nat} {v : Value} (hφ : φ i = c.map fun x => (x, 0)) (h : ExtAt w ty c v) : relC Z φ ν w (xC i c.isSome) v := by
  cases c with
  | none => exact ⟨h, rfl⟩
  | some x => exact ⟨x, 0, hφ, h.1⟩
theorem look_mem {b : Nat} {B : Box} : ∀ {l : List (Nat × Box)}, look l b = some B → (b, B) ∈ l
  | [], h => by simp [look] at h
  | (c, D) :: l, h => by
    simp only [look] at h
    cases hc : (c == b) with
    | true =>
      rw [hc] at h
      simp only [cond_true, Option.some.injEq] at h
      have : c = b := by simpa using hc
      rw [← h, this]
      simp
    | false =>
      rw [hc] at h
      exact List.mem_cons_of_mem _ (look_mem h)
theorem argB_mem {i b : Nat} {B : Box} {l : Option (Nat × Bool)} (h : (b, B) ∈ argB i (l.map (·.2))) : ∃ x, l = some x ∧ b = i ∧ B = ext (.sbool x.2 :: anys 26) 205 := by
  cases l with
  | none => simp [argB] at h
  | some x => simp [argB] at h; exact ⟨x, rfl, h⟩
theorem gvB_mem {b : Nat} {B : Box} {g : Option (Nat × Nat)} (h : (b, B) ∈ gvB (g.map (·.2))) : ∃ x, g = some x ∧ b = 3 ∧ B = ext [] 100 := by
  cases g with
  | none => simp [gvB] at h
  | some x => simp [gvB] at h; exact ⟨x, rfl, h⟩
theorem xB_mem {i b : Nat} {ty : TypeId} {B : Box} {c : Option Nat} (h : (b, B) ∈ xB i ty c.isSome) : ∃ x, c = some x ∧ b = i ∧ B = ext [] ty := by
  cases c with
  | none => simp [xB] at h
  | some x => simp [xB] at h; exact ⟨x, rfl, h⟩
theorem nd_rep {w : World} {k : Nat} {zs : List Int} {hs : Bool} {l r : Option (Nat × Bool)} {g : Option (Nat × Nat)} {c n : Option Nat} {uns mt lr rr pl : Int} {lp rp gv cv nv : Value} (hn : NodeAt w k zs hs uns mt lr rr pl lp rp gv cv nv) (h8 : zs.length = 8) (hb : ∀ z ∈ zs, Bits 10 z) (hl : ArgAt w l lp) (hr : ArgAt w r rp) (hg : GivAt w g gv) (hc : ExtAt w 224 c cv) (hm : ExtAt w 273 n nv) (nt : Nat) :
    RepW Z w (phi k l r g c n) (phi k l r g c n) (sNd zs hs (l.map (·.2)) (r.map (·.2)) (g.map (·.2)) c.isSome n.isSome uns mt lr rr pl nt) w := by
  obtain ⟨xs, h1, h2⟩ := hn.ex
  have hcs : All2 (relC Z (phi k l r g c n) (zs.map fun z => (z, 10)) w) (ndC hs uns mt lr rr pl (ptrC 1 (l.map (·.2))) (ptrC 2 (r.map (·.2))) (xC 4 c.isSome) (xC 5 n.isSome) (gvC (g.map (·.2)))) (.bool hs :: xs ++ [cv, .int .i64 mt, lp, .int .i64 lr, rp, .int .i64 rr, gv, .int .i64 uns, nv, .int .i64 pl]) := by
    have hx : All2 (relC Z (phi k l r g c n) (zs.map fun z => (z, 10)) w) (numCs true 0 8) xs := by
      rw [← h8]
      exact hold_cs zs xs 0 _ h2 hb fun j z hz => by rw [Nat.zero_add, List.getElem?_map, hz]; rfl
    exact All2.append (show All2 (relC Z (phi k l r g c n) (zs.map fun z => (z, 10)) w) (.sbool hs :: numCs true 0 8) (.bool hs :: xs) from ⟨rfl, hx⟩) ⟨ext_rel rfl hc, rfl, ptr_rel rfl hl, rfl, ptr_rel rfl hr, rfl, giv_rel rfl hg, rfl, ext_rel rfl hm, rfl, trivial⟩
  have seg0 : ∀ {k' : Nat} {cs : List Value} {ty : TypeId} {acs : List AC}, w.heap[k']? = some (.cells cs.toArray ty (0, 0)) → All2 (relC Z (phi k l r g c n) (zs.map fun z => (z, 10)) w) acs cs → Seg Z (phi k l r g c n) (zs.map fun z => (z, 10)) w k' 0 ty acs := fun hk ha => ⟨[], _, [], by simpa using hk, rfl, ha⟩
  have segE : ∀ {k' : Nat} {cs : List Value} {ty : TypeId}, w.heap[k']? = some (.cells cs.toArray ty (0, 0)) → Seg Z (phi k l r g c n) (zs.map fun z => (z, 10)) w k' 0 ty [] := fun {k' cs ty} hk => ⟨[], [], cs, hk, rfl, trivial⟩
  refine rep_ext rfl ?_ ?_ ?_
  · intro b B hB
    have hm' := look_mem hB
    simp only [sNd, List.mem_cons, List.mem_append, Prod.mk.injEq] at hm'
    rcases hm' with ⟨rfl, rfl⟩ | h | h | h | h | h
    · exact ⟨rfl, rfl, rfl, k, 0, rfl, seg0 h1 hcs⟩
    · obtain ⟨x, rfl, rfl, rfl⟩ := argB_mem h
      obtain ⟨_, ys, g1, g2, g3⟩ := hl
      exact ⟨rfl, rfl, rfl, x.1, 0, rfl, seg0 g1 ⟨rfl, any_all 26 ys g2 g3⟩⟩
    · obtain ⟨x, rfl, rfl, rfl⟩ := argB_mem h
      obtain ⟨_, ys, g1, g2, g3⟩ := hr
      exact ⟨rfl, rfl, rfl, x.1, 0, rfl, seg0 g1 ⟨rfl, any_all 26 ys g2 g3⟩⟩
    · obtain ⟨x, rfl, rfl, rfl⟩ := gvB_mem h
      obtain ⟨cap, _, cs, g1⟩ := hg
      exact ⟨rfl, rfl, rfl, x.1, 0, rfl, segE g1⟩
    · obtain ⟨x, rfl, rfl, rfl⟩ := xB_mem h
      obtain ⟨_, cs, g1⟩ := hc
      exact ⟨rfl, rfl, rfl, x, 0, rfl, segE g1⟩
    · obtain ⟨x, rfl, rfl, rfl⟩ := xB_mem h
      obtain ⟨_, cs, g1⟩ := hm
      exact ⟨rfl, rfl, rfl, x, 0, rfl, segE g1⟩
  · intro b hb0
    have : 6 ≤ b := hb0
    match b, this with
    | b + 6, _ => rfl
  · intro b k' o' hb0
    match b, hb0 with
    | 0, e => cases e; exact heap_lt h1
    | 1, e =>
      cases l with
      | none => cases e
      | some x => cases e; obtain ⟨_, ys, g1, _⟩ := hl; exact heap_lt g1
    | 2, e =>
      cases r with
      | none => cases e
      | some x => cases e; obtain ⟨_, ys, g1, _⟩ := hr; exact heap_lt g1
    | 3, e =>
      cases g with
      | none => cases e
      | some x => cases e; obtain ⟨_, _, cs, g1⟩ := hg; exact heap_lt g1
    | 4, e =>
      cases c with
      | none => cases e
      | some x => cases e; obtain ⟨_, cs, g1⟩ := hc; exact heap_lt g1
    | 5, e =>
      cases n with
      | none => cases e
      | some x => cases e; obtain ⟨_, cs, g1⟩ := hm; exact heap_lt g1
    | _ + 6, e => cases e
theorem nd_calls {sp : Spec} {bodies : FuncId → Option Func} {f : FuncId} {fn : Func} (F : Fn f fn) (hsp : ∀ w0 ψ, SpecOk Z w0 ψ sp) (hbo : BodiesOk Z bodies) {w : World} {k : Nat} {zs : List Int} {hs : Bool} {l r : Option (Nat × Bool)} {g : Option (Nat × Nat)} {c nn : Option Nat} {uns mt lr rr pl : Int} {lp rp gv cv nv : Value} (hn : NodeAt w k zs hs uns mt lr rr pl lp rp gv cv nv) (h8 : zs.length = 8) (hb : ∀ z ∈ zs, Bits 10 z) (hl : ArgAt w l lp) (hr : ArgAt w r rp) (hg : GivAt w g gv) (hc : ExtAt w 224 c cv) (hm : ExtAt w 273 nn nv)
    {n nt : Nat} (hnt : fn.ntmps - 1 = nt) {ps : List Prop} {out : RG} {m : Nat} (ht : ((run Z sp bodies (drawA Z sp) (fun _ => false) n [.code (bodyOf fn), .top fn] (sNd zs hs (l.map (·.2)) (r.map (·.2)) (g.map (·.2)) c.isSome nn.isSome uns mt lr rr pl nt)).bind outcome).bind (outN true) = some (ps, out, m)) (hp : Holds ps) :
    Calls Tryz.prog f #[.pointer (some ⟨k, 0, none⟩)] w fun e w' => ∃ v, e = .returned v ∧ RRV Z w' (rvG true m out) v ∧ Below w.heap.size w w' := by
  obtain ⟨o, h1, h2⟩ := bnd ht
  obtain ⟨tr, h3, h4⟩ := bnd h1
  refine ext_run (vs := [.one (.ptr 0 0)]) (args := [.pointer (some ⟨k, 0, none⟩)]) F (hsp _ _) hbo (by subst hnt; rfl) ⟨⟨k, 0, rfl, rfl⟩, trivial⟩ (nd_rep hn h8 hb hl hr hg hc hm _) h3 _ (outcome_ok h4 (outN_ok h2 hp (Nat.le_refl _))) ?_
  rintro r0 s φ v w' ⟨hcl, r', h7, h8⟩ hrel hw
  exact ⟨v, rfl, h8 w' v (rvOf_ok h7 hrel), RepF.below hw hcl⟩
theorem next_calls {w : World} {k : Nat} {p0 q0 p1 q1 p2 q2 p3 q3 : Int} {hs : Bool} {l r : Option (Nat × Bool)} {g : Option (Nat × Nat)} {c nn : Option Nat} {uns mt lr rr pl : Int} {lp rp gv cv nv : Value} (hn : NodeAt w k [p0, q0, p1, q1, p2, q2, p3, q3] hs uns mt lr rr pl lp rp gv cv nv) (hb : ∀ z ∈ [p0, q0, p1, q1, p2, q2, p3, q3], Bits 10 z) (hl : ArgAt w l lp) (hr : ArgAt w r rp) (hg : GivAt w g gv) (hc : ExtAt w 224 c cv) (hm : ExtAt w 273 nn nv) :
    Calls Tryz.prog 196 #[.pointer (some ⟨k, 0, none⟩)] w fun e w' => e = .returned (.int .i64 (nextZ p0 q0 p1 q1 p2 q2 p3 q3 hs (l.map (·.2)) (r.map (·.2)) (g.map (·.2)) uns lr rr)) ∧ Below w.heap.size w w' := by
  have W := next_walk p0 q0 p1 q1 p2 q2 p3 q3 hs (l.map (·.2)) (r.map (·.2)) (g.map (·.2)) c.isSome nn.isSome uns mt lr rr pl
  unfold nextRun at W
  have hnt : Tryz.f196.ntmps - 1 = 39 := by kernel_rfl
  refine (nd_calls (sp := tabSp tN) (bodies := bN) (n := 2000) (nt := 39) (fn := Tryz.f196) (fn_of Tryz.func196 rfl rfl) (fun _ _ => tabSp_ok tN_ok) bN_ok hn rfl hb hl hr hg hc hm hnt W holds_nil).mono ?_
  rintro e w' ⟨v, rfl, hv, hb⟩
  have hv : v = _ := hv.2
  rw [hv]
  exact ⟨rfl, hb⟩
end Ab
end Go.Proofs.YteghhlfmcjmnoaaGreatDoor
set_option linter.unusedSimpArgs false
set_option linter.unusedVariables false
namespace Go.Proofs.YteghhlfmcjmnoaaGreatDoor
open Go.RowKit
namespace Ab
def argWants : Option Bool → Int → Bool
  | none, _ => false
  | some s, r => s && (r == 0)
theorem argW_eq (l : Option Bool) (r k : Int) : argW l r k = if argWants l r then 0 else k := by
  cases l with
  | none => rfl
  | some s =>
    unfold argW argWants
    cases s with
    | false => rfl
    | true => cases h : (r == 0) <;> simp
theorem fitS_eq (p0 q0 p1 q1 p2 q2 p3 q3 c : Int) : fitS p0 q0 p1 q1 p2 q2 p3 q3 (code c) = Nw.fits ([(p0, q0), (p1, q1), (p2, q2), (p3, q3)].map (Rf.vag (Mt.sym c))) := by
  obtain ⟨h1, h2, h3, h4⟩ := sym_code c
  unfold fitS
  rw [h1, h2, h3, h4, fitZ_eq]
def codeO : Option Int → Int
  | none => 0
  | some c => code c
theorem firstF_eq {hs : Bool} {g : Option Nat} {x y : Int} {len : Nat} (hg : g.getD 0 = len) : firstF hs g x y = if hs = true ∧ len = 0 then x else y := by
  unfold firstF
  cases g with
  | none =>
    simp at hg
    subst hg
    cases hs <;> simp
  | some m =>
    simp at hg
    subst hg
    cases hs with
    | false => simp
    | true =>
      by_cases h : m = 0
      · subst h; simp
      · have : ((m : Int) == 0) = false := by rw [beq_eq_false_iff_ne]; omega
        simp [this, h]
theorem next_eq {ns : List Rf.Nd} {n : Rf.Nd} {corner : List Rf.V} {p0 q0 p1 q1 p2 q2 p3 q3 : Int} {hs : Bool} {l r : Option Bool} {g : Option Nat} {lr rr : Int} {o : Option Int} (hc : Rf.corners ns n = some corner) (hf : Pg.Cof corner [(p0, q0), (p1, q1), (p2, q2), (p3, q3)]) (hp : n.pos = !hs) (hg : g.getD 0 = n.out.length) (hw : (argWants l lr || argWants r rr) = Rf.waits ns n.args n.read) (hn : Rf.next ns n = some o) :
    nextZ p0 q0 p1 q1 p2 q2 p3 q3 hs l r g 0 lr rr = codeO o := by
  unfold nextZ
  rw [show ((0 : Int) != 0) = false from rfl, cond_false, argW_eq, argW_eq]
  unfold Rf.next at hn
  cases h1 : argWants l lr with
  | true =>
    rw [h1, Bool.true_or] at hw
    rw [← hw] at hn
    simp at hn
    subst hn
    rfl
  | false =>
    rw [h1, Bool.false_or] at hw
    simp only [Bool.false_eq_true, if_false]
    cases h2 : argWants r rr with
    | true =>
      rw [h2] at hw
      rw [← hw] at hn
      simp at hn
      subst hn
      rfl
    | false =>
      rw [h2] at hw
      rw [← hw] at hn
      simp only [Bool.false_eq_true, if_false, hc, Option.map_some, Option.some.injEq] at hn ⊢
      rw [firstF_eq hg]
      have hcan : ∀ c, Rf.can corner c = fitS p0 q0 p1 q1 p2 q2 p3 q3 (code c) := fun c => by rw [hf.can, fitS_eq]
      have e43 : code 43 = 1 := rfl
      have e45 : code 45 = 2 := rfl
      have e111 : code 111 = 3 := rfl
      have e119 : code 119 = 4 := rfl
      have em : code (-1) = 5 := rfl
      have e1 : code 1 = 7 := rfl
      have e0 : code 0 = 6 := rfl
      have hlen : n.out.length = 0 ↔ n.out = [] := List.length_eq_zero_iff
      subst hn
      unfold Rf.tries
      by_cases ht : hs = true ∧ n.out.length = 0
      · rw [if_pos ht, if_pos ⟨by rw [hp, ht.1]; rfl, hlen.1 ht.2⟩]
        simp only [List.find?, hcan, e43, e45, e111, e119]
        unfold sgnF
        cases fitS p0 q0 p1 q1 p2 q2 p3 q3 1 <;> simp only [cond_true, cond_false] <;> try rfl
        cases fitS p0 q0 p1 q1 p2 q2 p3 q3 2 <;> simp only [cond_true, cond_false] <;> try rfl
        cases fitS p0 q0 p1 q1 p2 q2 p3 q3 3 <;> simp only [cond_true, cond_false] <;> try rfl
        cases fitS p0 q0 p1 q1 p2 q2 p3 q3 4 <;> rfl
      · rw [if_neg ht, if_neg (fun h => ht ⟨by have := h.1; rw [hp] at this; simpa using this, hlen.2 h.2⟩)]
        simp only [List.find?, hcan, em, e1, e0]
        unfold digF
        cases fitS p0 q0 p1 q1 p2 q2 p3 q3 5 <;> simp only [cond_true, cond_false] <;> try rfl
        cases fitS p0 q0 p1 q1 p2 q2 p3 q3 7 <;> simp only [cond_true, cond_false] <;> try rfl
        cases fitS p0 q0 p1 q1 p2 q2 p3 q3 6 <;> rfl
end Ab
end Go.Proofs.YteghhlfmcjmnoaaGreatDoor
set_option linter.unusedSimpArgs false
set_option linter.unusedVariables false
namespace Go.Proofs.YteghhlfmcjmnoaaGreatDoor
open Go.RowKit
theorem lw_any (w : World) (k o : Nat) (p : Option Addr) (h : w.cell? ⟨k, o + 25, none⟩ = some (.pointer p)) : Calls Tryz.prog 220 #[.pointer (some ⟨k, o, none⟩)] w fun e w' => e = .returned (.int .i64 (if p.isSome then 8 else 1)) ∧ w' = w := by
  cases p with
  | none =>
    go_enter Tryz.func220, Tryz.ntmps220
    go_wp2_with fail
    go_ret
    exact ⟨rfl, rfl⟩
  | some a =>
    go_enter Tryz.func220, Tryz.ntmps220
    go_wp2_with fail
    go_ret
    exact ⟨rfl, rfl⟩
namespace Ab
def digZ (s : Bool) (r : Int) : Int := bif s then (bif decide (r > 0) then Wr (r - 1) else r) else r
def sDg (s : Bool) (r : Int) : AS := ⟨.val (.agg [.ptr 0 0, .sint .i64 r]) :: List.replicate 22 .und, [(0, ext [.sbool s] 205)], 1, [], []⟩
def sDn (r : Int) : AS := ⟨.val (.agg [.lit (.pointer none), .sint .i64 r]) :: List.replicate 22 .und, [], 0, [], []⟩
set_option maxRecDepth 100000 in
theorem dg_walk (s : Bool) (r : Int) : ((run Z (tabSp []) (fun _ => none) (drawA Z (tabSp [])) (fun _ => false) 300 [.code (bodyOf Tryz.f221), .top Tryz.f221] (sDg s r)).bind outcome).bind (outN true) = some ([], .one (.i .i64 (digZ s r)), 0) := by kernel_rfl
set_option maxRecDepth 100000 in
theorem dn_walk (r : Int) : ((run Z (tabSp []) (fun _ => none) (drawA Z (tabSp [])) (fun _ => false) 300 [.code (bodyOf Tryz.f221), .top Tryz.f221] (sDn r)).bind outcome).bind (outN true) = some ([], .one (.i .i64 r), 0) := by kernel_rfl
theorem dg_any {w : World} {k o : Nat} {s : Bool} {pre post : List Value} (r : Int) (hk : w.heap[k]? = some (.cells (pre ++ [Value.bool s] ++ post).toArray 205 (0, 0))) (hp : pre.length = o) : Calls Tryz.prog 221 #[.agg #[.pointer (some ⟨k, o, none⟩), .int .i64 r]] w fun e w' => e = .returned (.int .i64 (digZ s r)) ∧ Below w.heap.size w w' := by
  obtain ⟨ou, h1, h2⟩ := bnd (dg_walk s r)
  obtain ⟨tr, h3, h4⟩ := bnd h1
  refine ext_run (vs := [.agg [.ptr 0 0, .sint .i64 r]]) (args := [.agg #[.pointer (some ⟨k, o, none⟩), .int .i64 r]]) (φ := fun b => bif b == 0 then some (k, o) else none) (s := sDg s r) (fn_of Tryz.func221 rfl rfl) (tabSp_ok (l := []) trivial) nobody rfl ⟨⟨[.pointer (some ⟨k, o, none⟩), .int .i64 r], rfl, ⟨k, o, rfl, rfl⟩, rfl, trivial⟩, trivial⟩ (rep_ext rfl ?_ ?_ ?_) h3 _ (outcome_ok h4 (outN_ok h2 holds_nil (Nat.le_refl _))) ?_
  · intro b B hB
    have := look_mem hB
    simp [sDg] at this
    obtain ⟨rfl, rfl⟩ := this
    exact ⟨rfl, rfl, rfl, k, o, rfl, pre, [.bool s], post, hk, hp, rfl, trivial⟩
  · intro b hb
    have : 1 ≤ b := hb
    cases b with
    | zero => omega
    | succ b => rfl
  · intro b k' o' hb
    cases b with
    | zero => cases hb; exact heap_lt hk
    | succ b => cases hb
  · rintro r0 st φ v w' ⟨hc, r', h7, h8⟩ hrel hw
    have hv : v = _ := (h8 w' v (rvOf_ok h7 hrel)).2
    rw [hv]
    exact ⟨rfl, RepF.below hw hc⟩
theorem dn_any (w : World) (r : Int) : Calls Tryz.prog 221 #[.agg #[.pointer none, .int .i64 r]] w fun e w' => e = .returned (.int .i64 r) ∧ Below w.heap.size w w' := by
  obtain ⟨ou, h1, h2⟩ := bnd (dn_walk r)
  obtain ⟨tr, h3, h4⟩ := bnd h1
  refine ext_run (vs := [.agg [.lit (.pointer none), .sint .i64 r]]) (args := [.agg #[.pointer none, .int .i64 r]]) (φ := fun _ => none) (s := sDn r) (fn_of Tryz.func221 rfl rfl) (tabSp_ok (l := []) trivial) nobody rfl ⟨⟨[.pointer none, .int .i64 r], rfl, ⟨rfl, rfl⟩, rfl, trivial⟩, trivial⟩ (rep_ext rfl (fun b B hB => by simp [sDn, look] at hB) (fun _ _ => rfl) (fun b k o e => by cases e)) h3 _ (outcome_ok h4 (outN_ok h2 holds_nil (Nat.le_refl _))) ?_
  rintro r0 st φ v w' ⟨hc, r', h7, h8⟩ hrel hw
  have hv : v = _ := (h8 w' v (rvOf_ok h7 hrel)).2
  rw [hv]
  exact ⟨rfl, RepF.below hw hc⟩
def i64V : AC → Option Int
  | .int .i64 n => some n
  | .sint .i64 n => some n
  | _ => none
def lwO : Option AC → Option Int
  | some (.lit (.pointer none)) => some 1
  | some (.ptr _ _) => some 8
  | _ => none
def spD : Spec := fun f _ ν _ bx vs =>
  bif f == 221 then (match vs with
    | [.agg [.lit (.pointer none), c]] => (i64V c).map fun r => ([], .val (.one (.sint .i64 r)), [], none)
    | [.agg [.ptr b 0, c]] => (i64V c).bind fun r => (bx b).bind fun B => bif B.ty == 205 then (match B.cs with | .sbool s :: _ => some ([], .val (.one (.sint .i64 (digZ s r))), [], none) | _ => none) else none
    | _ => none)
  else bif f == 220 then (match vs with
    | [.one (.ptr b 0)] => (bx b).bind fun B => bif B.ty == 205 then (lwO (B.cs[25]?)).map fun n => ([], .val (.one (.int .i64 n)), [], none) else none
    | _ => none)
  else none
theorem i64V_ok {φ : Nat → Option (Nat × Nat)} {ν : List (Int × Nat)} {w : World} {c : AC} {r : Int} {x : Value} (h : i64V c = some r) (hr : relC Z φ ν w c x) : x = .int .i64 r := by
  unfold i64V at h
  split at h
  · cases h; exact hr
  · cases h; exact hr
  · cases h
theorem spD_ok (w0 : World) (ψ : Nat → Option (Nat × Nat)) : SpecOk Z w0 ψ spD := by
  intro f d ν id bx vs ν' r p nbx h
  unfold spD at h
  cases h1 : f == 221 with
  | true =>
    have : f = 221 := by simpa using h1
    subst this
    rw [h1] at h
    simp only [cond_true] at h
    refine ⟨(fn_of Tryz.func221 rfl rfl).en, ?_⟩
    split at h
    · obtain ⟨n, e1, e2⟩ := mpd h
      cases e2
      intro _ μ hμ φ w xs _ _ _ hbx hxs
      obtain ⟨x, rfl, ys, rfl, hy⟩ := one_v hxs
      match ys, hy with
      | [u, v], ⟨h2, h3, _⟩ =>
        have hu : u = .pointer none := h2.1
        have hv := i64V_ok e1 h3
        subst hu hv
        refine (dn_any w n).mono ?_
        rintro e w' ⟨rfl, hb⟩
        exact ⟨_, rfl, hb, rfl⟩
      | [_], ⟨_, h⟩ => exact h.elim
      | _ :: _ :: _ :: _, ⟨_, _, h⟩ => exact h.elim
    · rename_i b c
      obtain ⟨n, e1, e2⟩ := bnd h
      obtain ⟨B, e3, e4⟩ := bnd e2
      cases ht : (B.ty == 205) with
      | false => rw [ht] at e4; cases e4
      | true =>
        rw [ht] at e4
        simp only [cond_true] at e4
        split at e4
        · rename_i s rest hcs
          cases e4
          intro _ μ hμ φ w xs _ _ _ hbx hxs
          obtain ⟨k, o, pre, ys', post, g1, g2, g3, g4⟩ := hbx b B e3
          rw [hcs] at g4
          obtain ⟨x, rfl, ys, rfl, hy⟩ := one_v hxs
          match ys, hy, ys', g4, g2 with
          | [u, v], ⟨⟨k', o', q1, q2⟩, h3, _⟩, y :: ys', ⟨k1, _⟩, g2 =>
            rw [g1] at q1
            cases q1
            have hv := i64V_ok e1 h3
            have hy : y = .bool s := k1
            subst hv hy q2
            have hty : B.ty = 205 := by simpa using ht
            rw [hty] at g2
            refine (dg_any (pre := pre) (post := ys' ++ post) n (by simpa using g2) g3).mono ?_
            rintro e w' ⟨rfl, hb⟩
            exact ⟨_, rfl, hb, rfl⟩
          | [_], ⟨_, h⟩, _, _, _ => exact h.elim
          | _ :: _ :: _ :: _, ⟨_, _, h⟩, _, _, _ => exact h.elim
        · cases e4
    · cases h
  | false =>
    rw [h1] at h
    simp only [cond_false] at h
    cases h2 : f == 220 with
    | false => rw [h2] at h; cases h
    | true =>
      have : f = 220 := by simpa using h2
      subst this
      rw [h2] at h
      simp only [cond_true] at h
      refine ⟨(fn_of Tryz.func220 rfl rfl).en, ?_⟩
      split at h
      · rename_i b
        obtain ⟨B, e3, e4⟩ := bnd h
        cases ht : (B.ty == 205) with
        | false => rw [ht] at e4; cases e4
        | true =>
          rw [ht] at e4
          simp only [cond_true] at e4
          have key : ∀ (φ : Nat → Option (Nat × Nat)) (μ : List (Int × Nat)) (w : World) (xs : List Value) (c : AC), B.cs[25]? = some c → BxOk Z φ μ w bx → All2 (relV Z φ μ w) [.one (.ptr b 0)] xs → ∃ k o x, xs = [.pointer (some ⟨k, o, none⟩)] ∧ relC Z φ μ w c x ∧ w.cell? ⟨k, o + 25, none⟩ = some x := by
            intro φ μ w xs c hc hbx hxs
            obtain ⟨k, o, pre, ys, post, g1, g2, g3, g4⟩ := hbx b B e3
            obtain ⟨x, rfl, k', o', q1, q2⟩ := one_v hxs
            rw [g1] at q1
            cases q1
            obtain ⟨y, hy1, hy2⟩ := g4.at hc
            refine ⟨k, o, y, by rw [q2]; rfl, hy2, ?_⟩
            rw [cell_at g2, ← g3]
            exact seg_at hy1
          obtain ⟨nn, e5, e6⟩ := mpd e4
          cases e6
          unfold lwO at e5
          split at e5
          · rename_i hc
            cases e5
            intro _ μ hμ φ w xs _ _ _ hbx hxs
            obtain ⟨k, o, x, rfl, hx, hcell⟩ := key φ μ w xs _ hc hbx hxs
            have hx : x = .pointer none := hx.1
            subst hx
            refine (lw_any w k o none hcell).mono ?_
            rintro e w' ⟨rfl, rfl⟩
            exact ⟨_, rfl, Below.refl _ _, rfl⟩
          · rename_i b' off' hc
            cases e5
            intro _ μ hμ φ w xs _ _ _ hbx hxs
            obtain ⟨k, o, x, rfl, hx, hcell⟩ := key φ μ w xs _ hc hbx hxs
            obtain ⟨k2, o2, _, hx⟩ := hx
            subst hx
            refine (lw_any w k o _ hcell).mono ?_
            rintro e w' ⟨rfl, rfl⟩
            exact ⟨_, rfl, Below.refl _ _, rfl⟩
          · cases e5
      · cases h
end Ab
end Go.Proofs.YteghhlfmcjmnoaaGreatDoor
set_option linter.unusedSimpArgs false
set_option linter.unusedVariables false
namespace Go.Proofs.YteghhlfmcjmnoaaGreatDoor
open Go.RowKit
namespace Ab
def fWid2 : List G → Option RG
  | [.ns [p0, q0, p1, q1, p2, q2, p3, q3], .i .i64 t] => bif decide (t.natAbs < 100) then some (.one (.i .i64 (widthsZ p0 q0 p1 q1 p2 q2 p3 q3 t))) else none
  | _ => none
theorem wid2_te : TEok Z 219 (teN true fWid2 noNd 0 [15, 0]) := by
  refine te_congr' Wid_te ?_
  intro gs out h hA hB
  unfold fWid2 at h
  split at h
  · rename_i p0 q0 p1 q1 p2 q2 p3 q3 t
    cases ht : decide (t.natAbs < 100) with
    | false => rw [ht] at h; cases h
    | true =>
      rw [ht] at h
      cases h
      have : t.natAbs < 100 := by simpa using ht
      exact ⟨rfl, holds_cons (by omega) holds_nil⟩
  · cases h
noncomputable def tR : List (FuncId × TE) := (219, teN true fWid2 noNd 0 [15, 0]) :: tN
theorem tR_ok : AllTE Z tR := ⟨wid2_te, tN_ok⟩
def wsB : Option Bool → Int → Bool → Bool → Bool
  | none, _, _, k => k
  | some s, r, v, k => bif s then (bif r == 0 then v else k) else k
def dgO : Option Bool → Int → Int
  | none, r => r
  | some s, r => digZ s r
def rlK (p0 q0 p1 q1 p2 q2 p3 q3 t : Int) (x : Bool) : Bool := bif fitZ p0 q0 p1 q1 p2 q2 p3 q3 1 0 0 1 then (bif widthsZ p0 q0 p1 q1 p2 q2 p3 q3 t == 1 then true else bif widthsZ p0 q0 p1 q1 p2 q2 p3 q3 t == -1 then false else x) else x
def wgt : Bool → Int
  | false => 1
  | true => 8
def readsZ (p0 q0 p1 q1 p2 q2 p3 q3 : Int) (l r : Option Bool) (n : Bool) (lr rr : Int) : Bool :=
  match l with
  | none => false
  | some ls => wsB (some ls) lr true (wsB r rr false (rlK p0 q0 p1 q1 p2 q2 p3 q3 (wgt n) (decide (dgO (some ls) lr ≤ dgO r rr))))
noncomputable def readsRun (zs : List Int) (hs : Bool) (l r : Option Bool) (g : Option Nat) (c n : Bool) (uns mt lr rr pl : Int) : Option Tr := run Z (orSp spD (tabSp tR)) bN (drawA Z (orSp spD (tabSp tR))) (fun _ => false) 2000 [.code (bodyOf Tryz.f208), .top Tryz.f208] (sNd zs hs l r g c n uns mt lr rr pl 45)
set_option maxRecDepth 100000 in
theorem reads_walk (p0 q0 p1 q1 p2 q2 p3 q3 : Int) (hs : Bool) (l r : Option Bool) (g : Option Nat) (c n : Bool) (uns mt lr rr pl : Int) : ((readsRun [p0, q0, p1, q1, p2, q2, p3, q3] hs l r g c n uns mt lr rr pl).bind outcome).bind (outN true) = some ([], .one (.b (readsZ p0 q0 p1 q1 p2 q2 p3 q3 l r n lr rr)), 0) := by
  cases l with
  | none => kernel_rfl
  | some ls =>
    cases r with
    | none => cases n <;> cases g <;> cases c <;> kernel_rfl
    | some rs => cases n <;> cases g <;> cases c <;> kernel_rfl
theorem reads_calls {w : World} {k : Nat} {p0 q0 p1 q1 p2 q2 p3 q3 : Int} {hs : Bool} {l r : Option (Nat × Bool)} {g : Option (Nat × Nat)} {c nn : Option Nat} {uns mt lr rr pl : Int} {lp rp gv cv nv : Value} (hn : NodeAt w k [p0, q0, p1, q1, p2, q2, p3, q3] hs uns mt lr rr pl lp rp gv cv nv) (hb : ∀ z ∈ [p0, q0, p1, q1, p2, q2, p3, q3], Bits 10 z) (hl : ArgAt w l lp) (hr : ArgAt w r rp) (hg : GivAt w g gv) (hc : ExtAt w 224 c cv) (hm : ExtAt w 273 nn nv) :
    Calls Tryz.prog 208 #[.pointer (some ⟨k, 0, none⟩)] w fun e w' => e = .returned (.bool (readsZ p0 q0 p1 q1 p2 q2 p3 q3 (l.map (·.2)) (r.map (·.2)) nn.isSome lr rr)) ∧ Below w.heap.size w w' := by
  have W := reads_walk p0 q0 p1 q1 p2 q2 p3 q3 hs (l.map (·.2)) (r.map (·.2)) (g.map (·.2)) c.isSome nn.isSome uns mt lr rr pl
  unfold readsRun at W
  have hnt : Tryz.f208.ntmps - 1 = 45 := by kernel_rfl
  refine (nd_calls (sp := orSp spD (tabSp tR)) (bodies := bN) (n := 2000) (nt := 45) (fn := Tryz.f208) (fn_of Tryz.func208 rfl rfl) (fun _ _ => orSp_ok (spD_ok _ _) (tabSp_ok tR_ok)) bN_ok hn rfl hb hl hr hg hc hm hnt W holds_nil).mono ?_
  rintro e w' ⟨v, rfl, hv, hb⟩
  have hv : v = _ := hv.2
  rw [hv]
  exact ⟨rfl, hb⟩
end Ab
end Go.Proofs.YteghhlfmcjmnoaaGreatDoor
