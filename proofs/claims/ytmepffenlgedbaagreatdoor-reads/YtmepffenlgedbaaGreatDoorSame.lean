/-
  PLAIN MATHEMATICS: a tree told by its last operation; segments of words.
-/
import Derived.Test.YtmepffenlgedbaaGreatDoorStop
set_option linter.unusedSimpArgs false
namespace Go.Proofs.YtmepffenlgedbaaGreatDoor
namespace Rd
variable {ws : List Wd}

/-- One word of the look for the last operation of these two: how many brackets are open, the place. -/
def scanStep (ws : List Wd) (a b : List UInt8) (i k : Nat) (s : Int × Int) : Int × Int :=
  bif txt ws k == [40] || txt ws k == [91] then (s.1 + 1, s.2)
  else bif txt ws k == [41] || txt ws k == [93] then (s.1 - 1, s.2)
  else bif (s.1 == 0) && decide (i < k) && (txt ws k == a || txt ws k == b) && !isOp (txt ws (k - 1)) then (s.1, (k : Int)) else s

def scan (ws : List Wd) (a b : List UInt8) (i : Nat) : Nat → Nat → Int × Int → Int × Int
  | 0, _, s => s
  | c + 1, k, s => scan ws a b i c (k + 1) (scanStep ws a b i k s)

theorem scan_add (a b : List UInt8) (i : Nat) : ∀ c d k s, scan ws a b i (c + d) k s = scan ws a b i d (k + c) (scan ws a b i c k s) := by
  intro c
  induction c with
  | zero => intro d k s; simp [scan]
  | succ c ih =>
    intro d k s
    rw [show c + 1 + d = (c + d) + 1 by omega, scan, scan, ih, show k + 1 + c = k + (c + 1) by omega]

theorem scan_mid (a b : List UInt8) (i n m k : Nat) (h1 : n ≤ k) (h2 : k ≤ m) (s : Int × Int) : scan ws a b i (m - n) n s = scan ws a b i (m - k) k (scan ws a b i (k - n) n s) := by
  rw [show m - n = (k - n) + (m - k) by omega, scan_add, show n + (k - n) = k by omega]

theorem scan_one (a b : List UInt8) (i k : Nat) (s : Int × Int) : scan ws a b i (k + 1 - k) k s = scanStep ws a b i k s := by
  rw [show k + 1 - k = 1 by omega]
  rfl

def lastOf (ws : List Wd) (a b : List UInt8) (i j : Nat) : Int := (scan ws a b i (j - i) i (0, -1)).2

/-- The numbers at k, k + 2, .. ahead of j. -/
def termsFrom (ws : List Wd) : Nat → Nat → List Int
  | 0, _ => []
  | c + 1, k => valAt ws k :: termsFrom ws c (k + 2)

def opK (t : List UInt8) : Int := bif t == [43] then 6 else bif t == [45] then 7 else bif t == [42] then 8 else 9

def nameK (t : List UInt8) : Int :=
  bif t == [112, 105] then 2 else bif t == [101] then 3 else bif t == [99, 102] then 4 else bif t == [115, 113, 114, 116] then 10
  else bif t == [101, 120, 112] then 11 else bif t == [108, 110, 49, 112] then 12 else bif t == [97, 116, 97, 110] then 13 else 0

/-- Which operation is the last one: of sums, else of products. -/
def lastAt (ws : List Wd) (i j : Nat) : Int := bif decide (lastOf ws [43] [45] i j < 0) then lastOf ws [42] [47] i j else lastOf ws [43] [45] i j

abbrev Tally := Nat × Nat

/-- The words at k, k + 2, .. are numbers. -/
def termsOkB (ws : List Wd) : Nat → Nat → Bool
  | 0, _ => true
  | c + 1, k => (kd (txt ws k) == 1) && termsOkB ws c (k + 2)

/-- The tree of the words from i to j - 1, at that depth; with how deep, how many nodes. -/
def rtree (ws : List Wd) : Nat → Nat → Nat → Nat → Tally → Option (Tr × Tally)
  | 0, _, _, _, _ => none
  | f + 1, i, j, d, s =>
    bif !(decide (i < j) && decide (j ≤ ws.length)) then none
    else bif decide (0 ≤ lastAt ws i j) then
      match rtree ws f i (lastAt ws i j).toNat d (s.1, s.2 + 1) with
      | none => none
      | some (l, s1) =>
        match rtree ws f ((lastAt ws i j).toNat + 1) j d s1 with
        | none => none
        | some (r, s2) => some (opT (opK (txt ws (lastAt ws i j).toNat)) l r, s2)
    else bif txt ws i == [45] then
      match rtree ws f (i + 1) j (d + 1) (s.1, s.2 + 1) with
      | none => none
      | some (x, s1) => some (unT 5 x, s1)
    else bif txt ws i == [40] then rtree ws f (i + 1) (j - 1) (d + 1) (max s.1 d, s.2)
    else bif kd (txt ws i) == 1 then some (leafT 1 (valAt ws i) [], max s.1 d, s.2 + 1)
    else bif isFn (txt ws i) then
      match rtree ws f (i + 2) (j - 1) (d + 1) (max s.1 d, s.2 + 1) with
      | none => none
      | some (x, s1) => some (unT (nameK (txt ws i)) x, s1)
    else bif txt ws i == [] || !termsOkB ws ((j - i - 1) / 2) (i + 2) || !(nameK (txt ws i) == 2 || nameK (txt ws i) == 3 || nameK (txt ws i) == 4) then none
    else some (leafT (nameK (txt ws i)) 0 (termsFrom ws ((j - i - 1) / 2) (i + 2)), max s.1 d, s.2 + 1)

theorem rtree_mono : ∀ f i j d s x, rtree ws f i j d s = some x → rtree ws (f + 1) i j d s = some x := by
  intro f
  induction f with
  | zero => intro i j d s x h; cases h
  | succ f ih =>
    intro i j d s x h
    rw [rtree] at h ⊢
    cases h0 : (!(decide (i < j) && decide (j ≤ ws.length))) with
    | true => rw [h0] at h; cases h
    | false =>
    rw [h0] at h
    simp only [cond_false] at h ⊢
    cases h1 : decide (0 ≤ lastAt ws i j) with
    | true =>
      rw [h1] at h
      simp only [cond_true] at h ⊢
      cases h2 : rtree ws f i (lastAt ws i j).toNat d (s.1, s.2 + 1) with
      | none => rw [h2] at h; cases h
      | some y =>
        obtain ⟨l, s1⟩ := y
        rw [h2] at h
        rw [ih _ _ _ _ _ h2]
        simp only at h ⊢
        cases h3 : rtree ws f ((lastAt ws i j).toNat + 1) j d s1 with
        | none => rw [h3] at h; cases h
        | some y =>
          obtain ⟨r, s2⟩ := y
          rw [h3] at h
          rw [ih _ _ _ _ _ h3]
          exact h
    | false =>
      rw [h1] at h
      simp only [cond_false] at h ⊢
      cases h2 : (txt ws i == [45]) with
      | true =>
        rw [h2] at h
        simp only [cond_true] at h ⊢
        cases h3 : rtree ws f (i + 1) j (d + 1) (s.1, s.2 + 1) with
        | none => rw [h3] at h; cases h
        | some y =>
          obtain ⟨r, s2⟩ := y
          rw [h3] at h
          rw [ih _ _ _ _ _ h3]
          exact h
      | false =>
        rw [h2] at h
        simp only [cond_false] at h ⊢
        cases h3 : (txt ws i == [40]) with
        | true =>
          rw [h3] at h
          simp only [cond_true] at h ⊢
          exact ih _ _ _ _ _ h
        | false =>
          rw [h3] at h
          simp only [cond_false] at h ⊢
          cases h4 : (kd (txt ws i) == 1) with
          | true => rw [h4] at h; exact h
          | false =>
            rw [h4] at h
            simp only [cond_false] at h ⊢
            cases h5 : isFn (txt ws i) with
            | false => rw [h5] at h; exact h
            | true =>
              rw [h5] at h
              simp only [cond_true] at h ⊢
              cases h6 : rtree ws f (i + 2) (j - 1) (d + 1) (max s.1 d, s.2 + 1) with
              | none => rw [h6] at h; cases h
              | some y =>
                obtain ⟨r, s2⟩ := y
                rw [h6] at h
                rw [ih _ _ _ _ _ h6]
                exact h

theorem rtree_le {f g i j d : Nat} {s : Tally} {x : Tr × Tally} (hfg : f ≤ g) (h : rtree ws f i j d s = some x) : rtree ws g i j d s = some x := by
  obtain ⟨k, rfl⟩ : ∃ k, g = f + k := ⟨g - f, by omega⟩
  clear hfg
  induction k with
  | zero => exact h
  | succ k ih => exact rtree_mono _ _ _ _ _ _ ih

/-- The pairs that are looked for and that do not stand openly in a part of that rank. -/
def okPair (lvl : Nat) (a b : List UInt8) : Prop := (2 ≤ lvl ∧ a = [43] ∧ b = [45]) ∨ (3 ≤ lvl ∧ a = [42] ∧ b = [47])
def aPair (a b : List UInt8) : Prop := (a = [43] ∧ b = [45]) ∨ (a = [42] ∧ b = [47])

theorem okPair.mono {l l' : Nat} {a b : List UInt8} (h : okPair l a b) (hl : l ≤ l') : okPair l' a b := by
  rcases h with h | h
  · exact Or.inl ⟨by omega, h.2⟩
  · exact Or.inr ⟨by omega, h.2⟩

theorem okPair.aPair {lvl : Nat} {a b : List UInt8} (h : okPair lvl a b) : aPair a b := by
  rcases h with h | h
  · exact Or.inl h.2
  · exact Or.inr h.2

/-- The words from n to m - 1 are a sum (1), a product (2), signed (3), at depth d, with the tree t; M: how deep, N: how many nodes. -/
structure Good (ws : List Wd) (lvl n m d : Nat) (t : Tr) (M N : Nat) : Prop where
  lt : n < m
  hi : m ≤ ws.length
  deep : d ≤ M
  last : isOp (txt ws (m - 1)) = false
  high : ∀ a b i (o : Int) at', 0 < o → scan ws a b i (m - n) n (o, at') = (o, at')
  plain : ∀ a b i at', okPair lvl a b → i ≤ n → (n = i ∨ isOp (txt ws (n - 1)) = true) → scan ws a b i (m - n) n (0, at') = (0, at')
  back : ∀ a b i at', aPair a b → i ≤ n → (n = i ∨ isOp (txt ws (n - 1)) = true) → ∃ q, scan ws a b i (m - n) n (0, at') = (0, q)
  tree : ∀ D K, ∃ f, rtree ws f n m d (D, K) = some (t, max D M, K + N)

theorem Good.weaken {lvl n m d : Nat} {t : Tr} {M N : Nat} (h : Good ws lvl n m d t M N) (l' : Nat) (hl : l' ≤ lvl) : Good ws l' n m d t M N :=
  ⟨h.lt, h.hi, h.deep, h.last, h.high, fun a b i q hp => h.plain a b i q (hp.mono hl), h.back, h.tree⟩

theorem txt_lt {n : Nat} (h : txt ws n ≠ []) : n < ws.length := by
  rcases Nat.lt_or_ge n ws.length with h1 | h1
  · exact h1
  · exfalso
    apply h
    unfold txt wordAt
    rw [show ws.getD n ⟨0, ⟨#[]⟩, 0⟩ = ⟨0, ⟨#[]⟩, 0⟩ by simp [List.getD, h1]]

theorem guard_ok {i j : Nat} (h1 : i < j) (h2 : j ≤ ws.length) : (!(decide (i < j) && decide (j ≤ ws.length))) = false := by
  rw [decide_eq_true h1, decide_eq_true h2]; rfl

theorem Good.none {n m d : Nat} {t : Tr} {M N : Nat} (h : Good ws 3 n m d t M N) : lastAt ws n m = -1 := by
  unfold lastAt lastOf
  rw [h.plain [43] [45] n (-1) (Or.inl ⟨by omega, rfl, rfl⟩) (Nat.le_refl _) (Or.inl rfl), h.plain [42] [47] n (-1) (Or.inr ⟨by omega, rfl, rfl⟩) (Nat.le_refl _) (Or.inl rfl)]
  rfl

end Rd
end Go.Proofs.YtmepffenlgedbaaGreatDoor

/-
  PLAIN MATHEMATICS: how segments of words are put together.
-/
set_option linter.unusedSimpArgs false
namespace Go.Proofs.YtmepffenlgedbaaGreatDoor
namespace Rd
variable {ws : List Wd}

def noBr (t : List UInt8) : Prop := (t == [40] || t == [91]) = false ∧ (t == [41] || t == [93]) = false

theorem step_high (a b : List UInt8) (i k : Nat) (o q : Int) (h : noBr (txt ws k)) (ho : 0 < o) : scanStep ws a b i k (o, q) = (o, q) := by
  unfold scanStep
  rw [h.1, h.2]
  have : (o == 0) = false := by simp; omega
  simp [this]

theorem pair_op {a b t : List UInt8} (hp : aPair a b) (h : isOp t = false) : (t == a || t == b) = false := by
  simp only [isOp, Bool.or_eq_false_iff] at h
  rcases hp with ⟨rfl, rfl⟩ | ⟨rfl, rfl⟩
  · rw [h.1.1.1, h.1.1.2]; rfl
  · rw [h.1.2, h.2]; rfl

theorem step_plain (a b : List UInt8) (i k : Nat) (q : Int) (hp : aPair a b) (h : noBr (txt ws k)) (hop : isOp (txt ws k) = false) : scanStep ws a b i k (0, q) = (0, q) := by
  unfold scanStep
  rw [h.1, h.2, pair_op hp hop]
  simp

theorem step_first (a b : List UInt8) (i k : Nat) (q : Int) (h : noBr (txt ws k)) (hs : k = i ∨ isOp (txt ws (k - 1)) = true) : scanStep ws a b i k (0, q) = (0, q) := by
  unfold scanStep
  rw [h.1, h.2]
  rcases hs with rfl | hs
  · simp
  · rw [hs]; simp

theorem step_other (a b : List UInt8) (i k : Nat) (q : Int) (h : noBr (txt ws k)) (hs : (txt ws k == a || txt ws k == b) = false) : scanStep ws a b i k (0, q) = (0, q) := by
  unfold scanStep
  rw [h.1, h.2, hs]
  simp

theorem step_take (a b : List UInt8) (i k : Nat) (q : Int) (h : noBr (txt ws k)) (hs : (txt ws k == a || txt ws k == b) = true) (hi : i < k) (hl : isOp (txt ws (k - 1)) = false) : scanStep ws a b i k (0, q) = (0, (k : Int)) := by
  unfold scanStep
  rw [h.1, h.2, hs, hl, decide_eq_true hi]
  simp

theorem step_in (a b : List UInt8) (i k : Nat) (o q : Int) (h : (txt ws k == [40] || txt ws k == [91]) = true) : scanStep ws a b i k (o, q) = (o + 1, q) := by
  unfold scanStep
  rw [h]
  rfl

theorem step_out (a b : List UInt8) (i k : Nat) (o q : Int) (h0 : (txt ws k == [40] || txt ws k == [91]) = false) (h : (txt ws k == [41] || txt ws k == [93]) = true) : scanStep ws a b i k (o, q) = (o - 1, q) := by
  unfold scanStep
  rw [h0, h]
  rfl

theorem op_noBr {t : List UInt8} (h : isOp t = true) : noBr t := by
  simp only [isOp, Bool.or_eq_true, beq_iff_eq] at h
  rcases h with ((rfl | rfl) | rfl) | rfl <;> exact ⟨rfl, rfl⟩

/-- One word: a number or a constant. -/
theorem good_word {n d : Nat} {t : Tr} (hlen : n < ws.length) (hop : isOp (txt ws n) = false) (hb : noBr (txt ws n)) (ht : ∀ D K, ∃ f, rtree ws f n (n + 1) d (D, K) = some (t, max D d, K + 1)) : Good ws 3 n (n + 1) d t d 1 where
  lt := by omega
  hi := by omega
  deep := Nat.le_refl _
  last := by simpa using hop
  high a b i o q ho := by rw [scan_one]; exact step_high a b i n o q hb ho
  plain a b i q hp _ _ := by rw [scan_one]; exact step_plain a b i n q hp.aPair hb hop
  back a b i q hp _ _ := ⟨q, by rw [scan_one]; exact step_plain a b i n q hp hb hop⟩
  tree := ht

theorem scan_wrap {lvl n m d : Nat} {t : Tr} {M N : Nat} (g : Good ws lvl (n + 1) m d t M N) (h1 : (txt ws n == [40] || txt ws n == [91]) = true) (h2 : (txt ws m == [40] || txt ws m == [91]) = false) (h3 : (txt ws m == [41] || txt ws m == [93]) = true)
    (a b : List UInt8) (i : Nat) (o q : Int) (ho : 0 ≤ o) : scan ws a b i (m + 1 - n) n (o, q) = (o, q) := by
  have := g.lt
  rw [scan_mid a b i n (m + 1) (n + 1) (by omega) (by omega), scan_one, step_in a b i n o q h1, scan_mid a b i (n + 1) (m + 1) m (by omega) (by omega), g.high a b i (o + 1) q (by omega), scan_one, step_out a b i m (o + 1) q h2 h3]
  simp

theorem good_br {n m d : Nat} {t : Tr} {M N : Nat} (g : Good ws 1 (n + 1) m (d + 1) t M N) (h1 : txt ws n = [40]) (h2 : txt ws m = [41]) : Good ws 3 n (m + 1) d t M N := by
  have sw := scan_wrap g (by rw [h1]; rfl) (by rw [h2]; rfl) (by rw [h2]; rfl)
  have hm : m < ws.length := txt_lt (by rw [h2]; simp)
  have hlt := g.lt
  have hd := g.deep
  have hn : lastAt ws n (m + 1) = -1 := by
    unfold lastAt lastOf
    rw [sw [43] [45] n 0 (-1) (Int.le_refl _), sw [42] [47] n 0 (-1) (Int.le_refl _)]
    rfl
  exact {
    lt := by omega
    hi := by omega
    deep := by omega
    last := by rw [show m + 1 - 1 = m by omega, h2]; rfl
    high := fun a b i o q ho => sw a b i o q (by omega)
    plain := fun a b i q _ _ _ => sw a b i 0 q (Int.le_refl _)
    back := fun a b i q _ _ _ => ⟨q, sw a b i 0 q (Int.le_refl _)⟩
    tree := by
      intro D K
      obtain ⟨f, hf⟩ := g.tree (max D d) K
      refine ⟨f + 1, ?_⟩
      rw [rtree, guard_ok (by omega) (by omega), hn, h1, show m + 1 - 1 = m by omega]
      show rtree ws f (n + 1) m (d + 1) (max D d, K) = _
      rw [hf, Nat.max_assoc, Nat.max_eq_right (show d ≤ M by omega)] }

theorem good_fn {n m d : Nat} {t : Tr} {M N : Nat} (g : Good ws 1 (n + 2) m (d + 1) t M N) (h0 : isFn (txt ws n) = true) (h1 : txt ws (n + 1) = [40]) (h2 : txt ws m = [41]) : Good ws 3 n (m + 1) d (unT (nameK (txt ws n)) t) M (N + 1) := by
  have sw := scan_wrap (n := n + 1) g (by rw [h1]; rfl) (by rw [h2]; rfl) (by rw [h2]; rfl)
  have hm : m < ws.length := txt_lt (by rw [h2]; simp)
  have hlt := g.lt
  have hd := g.deep
  have hop : isOp (txt ws n) = false := by
    simp only [isFn, Bool.or_eq_true, beq_iff_eq] at h0
    rcases h0 with ((h | h) | h) | h <;> rw [h] <;> rfl
  have hb : noBr (txt ws n) := by
    simp only [isFn, Bool.or_eq_true, beq_iff_eq] at h0
    rcases h0 with ((h | h) | h) | h <;> rw [h] <;> exact ⟨rfl, rfl⟩
  have h45 : (txt ws n == [45]) = false ∧ (txt ws n == [40]) = false ∧ (kd (txt ws n) == 1) = false := by
    simp only [isFn, Bool.or_eq_true, beq_iff_eq] at h0
    rcases h0 with ((h | h) | h) | h <;> rw [h] <;> exact ⟨rfl, rfl, rfl⟩
  have s0 : ∀ a b i q, aPair a b → scan ws a b i (m + 1 - n) n (0, q) = (0, q) := by
    intro a b i q hp
    rw [scan_mid a b i n (m + 1) (n + 1) (by omega) (by omega), scan_one, step_plain a b i n q hp hb hop, sw a b i 0 q (Int.le_refl _)]
  have hn : lastAt ws n (m + 1) = -1 := by
    unfold lastAt lastOf
    rw [s0 [43] [45] n (-1) (Or.inl ⟨rfl, rfl⟩), s0 [42] [47] n (-1) (Or.inr ⟨rfl, rfl⟩)]
    rfl
  exact {
    lt := by omega
    hi := by omega
    deep := by omega
    last := by rw [show m + 1 - 1 = m by omega, h2]; rfl
    high := fun a b i o q ho => by
      rw [scan_mid a b i n (m + 1) (n + 1) (by omega) (by omega), scan_one, step_high a b i n o q hb ho, sw a b i o q (by omega)]
    plain := fun a b i q hp _ _ => s0 a b i q hp.aPair
    back := fun a b i q hp _ _ => ⟨q, s0 a b i q hp⟩
    tree := by
      intro D K
      obtain ⟨f, hf⟩ := g.tree (max D d) (K + 1)
      refine ⟨f + 1, ?_⟩
      rw [rtree, guard_ok (by omega) (by omega), hn, h45.1, h45.2.1, h45.2.2, h0, show m + 1 - 1 = m by omega]
      show (match rtree ws f (n + 2) m (d + 1) (max D d, K + 1) with | none => none | some (x, s1) => some (unT (nameK (txt ws n)) x, s1)) = _
      rw [hf, Nat.max_assoc, Nat.max_eq_right (show d ≤ M by omega)]
      simp only [Option.some.injEq, Prod.mk.injEq, true_and]
      omega }

theorem good_neg {n m d : Nat} {t : Tr} {M N : Nat} (g : Good ws 3 (n + 1) m (d + 1) t M N) (h1 : txt ws n = [45]) : Good ws 3 n m d (unT 5 t) M (N + 1) := by
  have hlt := g.lt
  have hd := g.deep
  have hb : noBr (txt ws n) := by rw [h1]; exact ⟨rfl, rfl⟩
  have ho : isOp (txt ws (n + 1 - 1)) = true := by rw [show n + 1 - 1 = n by omega, h1]; rfl
  have s0 : ∀ a b i q, aPair a b → i ≤ n → (n = i ∨ isOp (txt ws (n - 1)) = true) → scan ws a b i (m - n) n (0, q) = (0, q) := by
    intro a b i q hp hi hs
    rw [scan_mid a b i n m (n + 1) (by omega) (by omega), scan_one, step_first a b i n q hb hs]
    exact g.plain a b i q (by rcases hp with h | h <;> first | exact Or.inl ⟨by omega, h⟩ | exact Or.inr ⟨by omega, h⟩) (by omega) (Or.inr ho)
  have hn : lastAt ws n m = -1 := by
    unfold lastAt lastOf
    rw [s0 [43] [45] n (-1) (Or.inl ⟨rfl, rfl⟩) (Nat.le_refl _) (Or.inl rfl), s0 [42] [47] n (-1) (Or.inr ⟨rfl, rfl⟩) (Nat.le_refl _) (Or.inl rfl)]
    rfl
  exact {
    lt := by omega
    hi := g.hi
    deep := by omega
    last := g.last
    high := fun a b i o q ho => by
      rw [scan_mid a b i n m (n + 1) (by omega) (by omega), scan_one, step_high a b i n o q hb ho, g.high a b i o q ho]
    plain := fun a b i q hp => s0 a b i q hp.aPair
    back := fun a b i q hp hi hs => ⟨q, s0 a b i q hp hi hs⟩
    tree := by
      intro D K
      obtain ⟨f, hf⟩ := g.tree D (K + 1)
      refine ⟨f + 1, ?_⟩
      rw [rtree, guard_ok (by omega) g.hi, hn, h1]
      show (match rtree ws f (n + 1) m (d + 1) (D, K + 1) with | none => none | some (x, s1) => some (unT 5 x, s1)) = _
      rw [hf]
      simp only [Option.some.injEq, Prod.mk.injEq, true_and]
      omega }

theorem good_mul {n k m d : Nat} {l r : Tr} {M N M' N' : Nat} (g : Good ws 2 n k d l M N) (g' : Good ws 3 (k + 1) m d r M' N') (h : (txt ws k == [42] || txt ws k == [47]) = true) : Good ws 2 n m d (opT (opK (txt ws k)) l r) (max M M') (N + N' + 1) := by
  have hlt := g.lt
  have hlt' := g'.lt
  have hd := g.deep
  have hop : isOp (txt ws k) = true := by simp only [isOp, Bool.or_eq_true] at h ⊢; rcases h with h | h <;> simp [h]
  have hb := op_noBr hop
  have hno : (txt ws k == [43] || txt ws k == [45]) = false := by
    simp only [Bool.or_eq_true, beq_iff_eq] at h
    rcases h with h | h <;> rw [h] <;> rfl
  have hs' : isOp (txt ws (k + 1 - 1)) = true := by rw [show k + 1 - 1 = k by omega]; exact hop
  have s1 : ∀ i q, i ≤ n → (n = i ∨ isOp (txt ws (n - 1)) = true) → scan ws [43] [45] i (m - n) n (0, q) = (0, q) := by
    intro i q hi hs
    rw [scan_mid _ _ i n m k (by omega) (by omega), g.plain _ _ i q (Or.inl ⟨by omega, rfl, rfl⟩) hi hs, scan_mid _ _ i k m (k + 1) (by omega) (by omega), scan_one, step_other _ _ i k q hb hno, g'.plain _ _ i q (Or.inl ⟨by omega, rfl, rfl⟩) (by omega) (Or.inr hs')]
  have s2 : ∀ i q, i ≤ n → (n = i ∨ isOp (txt ws (n - 1)) = true) → scan ws [42] [47] i (m - n) n (0, q) = (0, (k : Int)) := by
    intro i q hi hs
    obtain ⟨q', hq⟩ := g.back [42] [47] i q (Or.inr ⟨rfl, rfl⟩) hi hs
    rw [scan_mid _ _ i n m k (by omega) (by omega), hq, scan_mid _ _ i k m (k + 1) (by omega) (by omega), scan_one, step_take _ _ i k q' hb h (by omega) g.last, g'.plain _ _ i _ (Or.inr ⟨by omega, rfl, rfl⟩) (by omega) (Or.inr hs')]
  have hn : lastAt ws n m = (k : Int) := by
    unfold lastAt lastOf
    rw [s1 n (-1) (Nat.le_refl _) (Or.inl rfl), s2 n (-1) (Nat.le_refl _) (Or.inl rfl)]
    rfl
  exact {
    lt := by omega
    hi := g'.hi
    deep := by omega
    last := g'.last
    high := fun a b i o q ho => by
      rw [scan_mid a b i n m k (by omega) (by omega), g.high a b i o q ho, scan_mid a b i k m (k + 1) (by omega) (by omega), scan_one, step_high a b i k o q hb ho, g'.high a b i o q ho]
    plain := fun a b i q hp hi hs => by
      rcases hp with ⟨_, rfl, rfl⟩ | ⟨h3, _⟩
      · exact s1 i q hi hs
      · omega
    back := fun a b i q hp hi hs => by
      rcases hp with ⟨rfl, rfl⟩ | ⟨rfl, rfl⟩
      · exact ⟨q, s1 i q hi hs⟩
      · exact ⟨_, s2 i q hi hs⟩
    tree := by
      intro D K
      obtain ⟨f, hf⟩ := g.tree D (K + 1)
      obtain ⟨f', hf'⟩ := g'.tree (max D M) (K + 1 + N)
      refine ⟨max f f' + 1, ?_⟩
      rw [rtree, guard_ok (by omega) g'.hi, hn, decide_eq_true (Int.natCast_nonneg k), Int.toNat_natCast]
      simp only [cond_true, cond_false]
      rw [rtree_le (Nat.le_max_left f f') hf]
      simp only
      rw [rtree_le (Nat.le_max_right f f') hf']
      simp only [Option.some.injEq, Prod.mk.injEq, true_and]
      exact ⟨Nat.max_assoc _ _ _, by omega⟩ }

theorem good_add {n k m d : Nat} {l r : Tr} {M N M' N' : Nat} (g : Good ws 1 n k d l M N) (g' : Good ws 2 (k + 1) m d r M' N') (h : (txt ws k == [43] || txt ws k == [45]) = true) : Good ws 1 n m d (opT (opK (txt ws k)) l r) (max M M') (N + N' + 1) := by
  have hlt := g.lt
  have hlt' := g'.lt
  have hd := g.deep
  have hop : isOp (txt ws k) = true := by simp only [isOp, Bool.or_eq_true] at h ⊢; rcases h with h | h <;> simp [h]
  have hb := op_noBr hop
  have hs' : isOp (txt ws (k + 1 - 1)) = true := by rw [show k + 1 - 1 = k by omega]; exact hop
  have s2 : ∀ i q, i ≤ n → (n = i ∨ isOp (txt ws (n - 1)) = true) → scan ws [43] [45] i (m - n) n (0, q) = (0, (k : Int)) := by
    intro i q hi hs
    obtain ⟨q', hq⟩ := g.back [43] [45] i q (Or.inl ⟨rfl, rfl⟩) hi hs
    rw [scan_mid _ _ i n m k (by omega) (by omega), hq, scan_mid _ _ i k m (k + 1) (by omega) (by omega), scan_one, step_take _ _ i k q' hb h (by omega) g.last, g'.plain _ _ i _ (Or.inl ⟨by omega, rfl, rfl⟩) (by omega) (Or.inr hs')]
  have hn : lastAt ws n m = (k : Int) := by
    unfold lastAt lastOf
    rw [s2 n (-1) (Nat.le_refl _) (Or.inl rfl)]
    simp only
    rw [decide_eq_false (by omega)]
    rfl
  exact {
    lt := by omega
    hi := g'.hi
    deep := by omega
    last := g'.last
    high := fun a b i o q ho => by
      rw [scan_mid a b i n m k (by omega) (by omega), g.high a b i o q ho, scan_mid a b i k m (k + 1) (by omega) (by omega), scan_one, step_high a b i k o q hb ho, g'.high a b i o q ho]
    plain := fun a b i q hp hi hs => by
      rcases hp with ⟨h3, _⟩ | ⟨h3, _⟩ <;> omega
    back := fun a b i q hp hi hs => by
      rcases hp with ⟨rfl, rfl⟩ | ⟨rfl, rfl⟩
      · exact ⟨_, s2 i q hi hs⟩
      · obtain ⟨q', hq⟩ := g.back [42] [47] i q (Or.inr ⟨rfl, rfl⟩) hi hs
        have hno : (txt ws k == [42] || txt ws k == [47]) = false := by
          simp only [Bool.or_eq_true, beq_iff_eq] at h
          rcases h with h | h <;> rw [h] <;> rfl
        obtain ⟨q2, hq2⟩ := g'.back [42] [47] i q' (Or.inr ⟨rfl, rfl⟩) (by omega) (Or.inr hs')
        exact ⟨q2, by rw [scan_mid _ _ i n m k (by omega) (by omega), hq, scan_mid _ _ i k m (k + 1) (by omega) (by omega), scan_one, step_other _ _ i k q' hb hno, hq2]⟩
    tree := by
      intro D K
      obtain ⟨f, hf⟩ := g.tree D (K + 1)
      obtain ⟨f', hf'⟩ := g'.tree (max D M) (K + 1 + N)
      refine ⟨max f f' + 1, ?_⟩
      rw [rtree, guard_ok (by omega) g'.hi, hn, decide_eq_true (Int.natCast_nonneg k), Int.toNat_natCast]
      simp only [cond_true, cond_false]
      rw [rtree_le (Nat.le_max_left f f') hf]
      simp only
      rw [rtree_le (Nat.le_max_right f f') hf']
      simp only [Option.some.injEq, Prod.mk.injEq, true_and]
      exact ⟨Nat.max_assoc _ _ _, by omega⟩ }

end Rd
end Go.Proofs.YtmepffenlgedbaaGreatDoor

/-
  PLAIN MATHEMATICS: the parser's tree is the tree by last operations.
-/
set_option linter.unusedSimpArgs false
namespace Go.Proofs.YtmepffenlgedbaaGreatDoor
namespace Rd
variable {ws : List Wd}

/-- What a part does to the reader's counts. -/
structure Eff (st st' : St) (M N : Nat) : Prop where
  around : st'.around = st.around
  deepest : st'.deepest = max st.deepest M
  nodes : st'.nodes = st.nodes + N

theorem leaf_eff (st : St) : Eff st st.adv.leaf st.around 1 := by
  refine ⟨rfl, ?_, rfl⟩
  show (bif decide (st.deepest < st.around) then st.around else st.deepest) = max st.deepest st.around
  by_cases h : st.deepest < st.around
  · rw [decide_eq_true h, Nat.max_eq_right (by omega)]; rfl
  · rw [decide_eq_false h, Nat.max_eq_left (by omega)]; rfl

/-- The terms: what is scanned, which numbers they are. -/
theorem terms_seg (hk : KindOk ws) : ∀ f c ts st ts' st', terms ws f c ts st = some (some ts', st') →
    st.next + 1 < st'.next ∧ st'.around = st.around ∧ st'.deepest = st.deepest ∧ st'.nodes = st.nodes ∧ txt ws (st'.next - 1) = [93] ∧
    (∀ a b i (o q : Int), 0 < o → scan ws a b i (st'.next - st.next) st.next (o, q) = (o - 1, q)) ∧
    ∃ m, st'.next = st.next + 2 * m ∧ 0 < m ∧ ts' = ts ++ termsFrom ws m st.next ∧ termsOkB ws m st.next = true := by
  intro f
  induction f with
  | zero => intro c ts st ts' st' h; cases h
  | succ f ih =>
    intro c ts st ts' st' h
    rw [terms] at h
    cases ho : (st.okB && (term ws st).2.okB) with
    | false => rw [ho] at h; cases h
    | true =>
      rw [ho] at h
      clear ho
      rw [term_txt hk] at h
      cases hv : (kd (txt ws st.next) == 1 && !(valAt ws st.next == 0)) with
      | false =>
        simp only [hv, cond_true, cond_false, beq_self_eq_true, Option.some.injEq, Prod.mk.injEq] at h
        cases h.1
      | true =>
        have hv2 : (valAt ws st.next == 0) = false := by
          simp only [Bool.and_eq_true, Bool.not_eq_true'] at hv
          exact hv.2
        have hk1 : (kd (txt ws st.next) == 1) = true := by
          simp only [Bool.and_eq_true] at hv
          exact hv.1
        have hb : noBr (txt ws st.next) := by
          constructor
          · rw [kd_not hk1 rfl, kd_not hk1 rfl]; rfl
          · rw [kd_not hk1 rfl, kd_not hk1 rfl]; rfl
        rw [hv] at h
        simp only [cond_true] at h
        rw [hv2] at h
        simp only [cond_false] at h
        rw [tk_txt hk, tk_txt hk] at h
        have en : st.adv.next = st.next + 1 := rfl
        rw [en] at h
        cases h1 : (txt ws (st.next + 1) == [93]) with
        | true =>
          simp only [h1, cond_true, Option.some.injEq, Prod.mk.injEq] at h
          obtain ⟨rfl, rfl⟩ := h
          have e1 := beq_of h1
          refine ⟨by simp [St.adv], rfl, rfl, rfl, by simpa [St.adv] using e1, ?_, 1, by simp [St.adv], by omega, rfl, by rw [termsOkB, hk1]; rfl⟩
          intro a b i o q hpo
          have e2 : st.adv.adv.next = st.next + 1 + 1 := rfl
          rw [e2, scan_mid a b i st.next (st.next + 1 + 1) (st.next + 1) (by omega) (by omega), scan_one, scan_one, step_high a b i st.next o q hb hpo, step_out a b i _ o q (by rw [e1]; rfl) (by rw [e1]; rfl)]
        | false =>
          simp only [h1, cond_false] at h
          cases h2 : (c == 8) with
          | true =>
            simp only [h2, cond_true, Option.some.injEq, Prod.mk.injEq] at h
            cases h.1
          | false =>
            simp only [h2, cond_false] at h
            cases h3 : (txt ws (st.next + 1) == [44]) with
            | false =>
              simp only [h3, cond_false, Option.some.injEq, Prod.mk.injEq] at h
              cases h.1
            | true =>
              simp only [h3, cond_true] at h
              obtain ⟨l1, l2, l3, l4, l5, l6, m, l7, l8, l9, l10⟩ := ih (c + 1) _ _ ts' st' h
              have e1 := beq_of h3
              have e2 : st.adv.adv.next = st.next + 2 := rfl
              rw [e2] at l1 l6 l7 l9 l10
              refine ⟨by omega, l2, l3, l4, l5, ?_, m + 1, by omega, by omega, ?_, by rw [termsOkB, hk1, l10]; rfl⟩
              · intro a b i o q hpo
                have hb2 : noBr (txt ws (st.next + 1)) := by rw [e1]; exact ⟨rfl, rfl⟩
                rw [scan_mid a b i st.next st'.next (st.next + 1) (by omega) (by omega), scan_one, step_high a b i st.next o q hb hpo, scan_mid a b i (st.next + 1) st'.next (st.next + 1 + 1) (by omega) (by omega), scan_one, step_high a b i (st.next + 1) o q hb2 hpo]
                exact l6 a b i o q hpo
              · rw [l9, termsFrom, List.append_assoc]
                rfl

/-- A cf is one segment. -/
theorem good_cf (hk : KindOk ws) (st : St) (t : Tr) (st' : St) (ht : txt ws st.next = [99, 102]) (h : continued ws st.adv = some (some t, st')) :
    ∃ M N, Good ws 3 st.next st'.next st.around t M N ∧ Eff st st' M N := by
  unfold continued at h
  cases ho : (decide (st.adv.next < 900) && st.adv.okB) with
  | false => rw [ho] at h; cases h
  | true =>
    rw [ho] at h
    simp only [cond_true] at h
    rw [tk_txt hk, tk_txt hk, hk] at h
    have e0 : st.adv.next = st.next + 1 := rfl
    have e1 : st.adv.adv.next = st.next + 2 := rfl
    have e2 : st.adv.adv.adv.next = st.next + 3 := rfl
    rw [e0, e1, e2] at h
    cases h1 : (txt ws (st.next + 1) == [91]) with
    | false => simp only [h1, cond_false, Option.some.injEq, Prod.mk.injEq] at h; cases h.1
    | true =>
      cases h2 : (kd (txt ws (st.next + 2)) == 1) with
      | false => simp only [h1, h2, cond_true, cond_false, Option.some.injEq, Prod.mk.injEq] at h; cases h.1
      | true =>
        cases h3 : (txt ws (st.next + 3) == [59]) with
        | false => simp only [h1, h2, h3, cond_true, cond_false, Option.some.injEq, Prod.mk.injEq] at h; cases h.1
        | true =>
          simp only [h1, h2, h3, cond_true] at h
          generalize hT : terms ws 8 1 [valTo (wordAt ws (st.next + 2)).text (wordAt ws (st.next + 2)).text.size] st.adv.adv.adv.adv = R at h
          cases R with
          | none => cases h
          | some y =>
            obtain ⟨r, s2⟩ := y
            cases r with
            | none => simp only [cfOf, Option.some.injEq, Prod.mk.injEq] at h; cases h.1
            | some ts =>
              simp only [cfOf] at h
              cases ho2 : s2.okB with
              | false => rw [ho2] at h; cases h
              | true =>
                simp only [ho2, cond_true, Option.some.injEq, Prod.mk.injEq] at h
                obtain ⟨rfl, rfl⟩ := h
                obtain ⟨l1, l2, l3, l4, l5, l6, m, l7, l8, l9, l10⟩ := terms_seg hk 8 1 _ _ ts s2 hT
                have e4 : st.adv.adv.adv.adv.next = st.next + 4 := rfl
                rw [e4] at l1 l6 l7 l9 l10
                have hlen : s2.next - 1 < ws.length := txt_lt (by rw [l5]; simp)
                have n1 := beq_of h1
                have n3 := beq_of h3
                have en : s2.leaf.next = s2.next := rfl
                have hb0 : noBr (txt ws st.next) := by rw [ht]; exact ⟨rfl, rfl⟩
                have hop0 : isOp (txt ws st.next) = false := by rw [ht]; rfl
                have hb2 : noBr (txt ws (st.next + 2)) := by
                  constructor
                  · rw [kd_not h2 rfl, kd_not h2 rfl]; rfl
                  · rw [kd_not h2 rfl, kd_not h2 rfl]; rfl
                have hb3 : noBr (txt ws (st.next + 3)) := by rw [n3]; exact ⟨rfl, rfl⟩
                have inner : ∀ a b i (o q : Int), 0 ≤ o → scan ws a b i (s2.next - (st.next + 1)) (st.next + 1) (o, q) = (o, q) := by
                  intro a b i o q hpo
                  rw [scan_mid a b i (st.next + 1) s2.next (st.next + 1 + 1) (by omega) (by omega), scan_one, step_in a b i _ o q (by rw [n1]; rfl), scan_mid a b i (st.next + 1 + 1) s2.next (st.next + 1 + 1 + 1) (by omega) (by omega), scan_one, step_high a b i _ (o + 1) q hb2 (by omega),
                    scan_mid a b i (st.next + 1 + 1 + 1) s2.next (st.next + 1 + 1 + 1 + 1) (by omega) (by omega), scan_one, step_high a b i _ (o + 1) q hb3 (by omega)]
                  have := l6 a b i (o + 1) q (by omega)
                  rw [show st.next + 1 + 1 + 1 + 1 = st.next + 4 by omega, this]
                  simp
                have s0 : ∀ a b i q, aPair a b → scan ws a b i (s2.next - st.next) st.next (0, q) = (0, q) := by
                  intro a b i q hp
                  rw [scan_mid a b i st.next s2.next (st.next + 1) (by omega) (by omega), scan_one, step_plain a b i st.next q hp hb0 hop0, inner a b i 0 q (Int.le_refl _)]
                have hn : lastAt ws st.next s2.next = -1 := by
                  unfold lastAt lastOf
                  rw [s0 [43] [45] st.next (-1) (Or.inl ⟨rfl, rfl⟩), s0 [42] [47] st.next (-1) (Or.inr ⟨rfl, rfl⟩)]
                  rfl
                refine ⟨st.around, 1, ?_, ?_⟩
                · rw [en]
                  exact {
                    lt := by omega
                    hi := by omega
                    deep := Nat.le_refl _
                    last := by rw [l5]; rfl
                    high := fun a b i o q ho => by
                      rw [scan_mid a b i st.next s2.next (st.next + 1) (by omega) (by omega), scan_one, step_high a b i st.next o q hb0 ho, inner a b i o q (by omega)]
                    plain := fun a b i q hp _ _ => s0 a b i q hp.aPair
                    back := fun a b i q hp _ _ => ⟨q, s0 a b i q hp⟩
                    tree := by
                      intro D K
                      refine ⟨1, ?_⟩
                      have et : termsFrom ws ((s2.next - st.next - 1) / 2) (st.next + 2) = ts := by
                        rw [l9, show (s2.next - st.next - 1) / 2 = m + 1 by omega]
                        rfl
                      have eo : termsOkB ws ((s2.next - st.next - 1) / 2) (st.next + 2) = true := by
                        rw [show (s2.next - st.next - 1) / 2 = m + 1 by omega, termsOkB, h2]
                        exact l10
                      rw [rtree, guard_ok (by omega) (by omega), hn, ht, eo, et]
                      rfl }
                · refine ⟨l2, ?_, ?_⟩
                  · show (bif decide (s2.deepest < s2.around) then s2.around else s2.deepest) = max st.deepest st.around
                    rw [l2, l3]
                    exact (leaf_eff st).deepest
                  · show s2.nodes + 1 = st.nodes + 1
                    rw [l4]; rfl

end Rd
end Go.Proofs.YtmepffenlgedbaaGreatDoor

/-
  PLAIN MATHEMATICS: the parser's tree is the tree by last operations: the induction.
-/
set_option linter.unusedSimpArgs false
namespace Go.Proofs.YtmepffenlgedbaaGreatDoor
namespace Rd
variable {ws : List Wd}

structure E2 (ws : List Wd) (f : Nat) : Prop where
  sum : ∀ l st t st', parse ws f 0 l st = some (some t, st') → ∃ M N, Good ws 1 st.next st'.next st.around t M N ∧ Eff st st' M N
  sumL : ∀ l st t st' n M N, parse ws f 1 (some l) st = some (some t, st') → Good ws 1 n st.next st.around l M N → ∃ M' N', Good ws 1 n st'.next st.around t (max M M') (N + N') ∧ Eff st st' M' N'
  prod : ∀ l st t st', parse ws f 2 l st = some (some t, st') → ∃ M N, Good ws 2 st.next st'.next st.around t M N ∧ Eff st st' M N
  prodL : ∀ l st t st' n M N, parse ws f 3 (some l) st = some (some t, st') → Good ws 2 n st.next st.around l M N → ∃ M' N', Good ws 2 n st'.next st.around t (max M M') (N + N') ∧ Eff st st' M' N'
  signed : ∀ l st t st', parse ws f 4 l st = some (some t, st') → ∃ M N, Good ws 3 st.next st'.next st.around t M N ∧ Eff st st' M N
  atom : ∀ l st t st', parse ws f 5 l st = some (some t, st') → ∃ M N, Good ws 3 st.next st'.next st.around t M N ∧ Eff st st' M N
  br : ∀ l st t st', parse ws f 6 l st = some (some t, st') → txt ws st.next = [40] ∧ ∃ m M N, st'.next = m + 1 ∧ txt ws m = [41] ∧ Good ws 1 (st.next + 1) m (st.around + 1) t M N ∧ Eff st st' M N

theorem Eff.trans {a b c : St} {M N M' N' : Nat} (h : Eff a b M N) (h' : Eff b c M' N') : Eff a c (max M M') (N + N') :=
  ⟨h'.around.trans h.around, by rw [h'.deepest, h.deepest, Nat.max_assoc], by rw [h'.nodes, h.nodes]; omega⟩

theorem Eff.adv {a b : St} {M N : Nat} (h : Eff a.adv b M N) : Eff a b M N := ⟨h.around, h.deepest, h.nodes⟩
theorem Eff.node {a b : St} {M N : Nat} (h : Eff a b M N) : Eff a b.node M (N + 1) := ⟨h.around, h.deepest, by show b.nodes + 1 = _; rw [h.nodes]; omega⟩
theorem Eff.refl (a : St) : Eff a a 0 0 := ⟨rfl, (Nat.max_eq_left (Nat.zero_le _)).symm, rfl⟩

/-- One round of a loop over operations. -/
theorem round_same {f tag k b lvl lvl' n M N : Nat} {kk : Int} {l t : Tr} {st st' : St}
    (hp : ((parse ws f b none st.adv).next fun r st2 => (operOf kk l r st2).next fun l' st3 => parse ws k tag l' st3) = some (some t, st'))
    (hn : ∀ (st : St), parse ws k tag none st = some (none, st) ∨ parse ws k tag none st = none)
    (hin : ∀ (r : Tr) (st2 : St), parse ws f b none st.adv = some (some r, st2) → ∃ M N, Good ws lvl' (st.next + 1) st2.next st.around r M N ∧ Eff st.adv st2 M N)
    (hg : ∀ (r : Tr) m M' N', Good ws lvl' (st.next + 1) m st.around r M' N' → Good ws lvl n m st.around (opT kk l r) (max M M') (N + N' + 1))
    (hl : ∀ (r : Tr) (st2 : St) M2 N2, parse ws k tag (some (opT kk l r)) st2.node = some (some t, st') → Good ws lvl n st2.node.next st2.node.around (opT kk l r) M2 N2 → ∃ M' N', Good ws lvl n st'.next st2.node.around t (max M2 M') (N2 + N') ∧ Eff st2.node st' M' N') :
    ∃ M' N', Good ws lvl n st'.next st.around t (max M M') (N + N') ∧ Eff st st' M' N' := by
  obtain ⟨r, st2, e1, e2⟩ := next_eq hp
  cases r with
  | none =>
    have e2' : parse ws k tag none st2 = some (some t, st') := e2
    rcases hn st2 with h | h
    · rw [h] at e2'
      simp only [Option.some.injEq, Prod.mk.injEq] at e2'
      cases e2'.1
    · rw [h] at e2'; cases e2'
  | some r =>
    have e2' : (operOf kk l (some r) st2).next (fun l' st3 => parse ws k tag l' st3) = some (some t, st') := e2
    simp only [operOf] at e2'
    cases ho : st2.okB with
    | false => rw [ho] at e2'; cases e2'
    | true =>
      rw [ho] at e2'
      obtain ⟨M1, N1, g1, f1⟩ := hin r st2 e1
      have g2 := hg r st2.next M1 N1 g1
      have ha : st2.node.around = st.around := f1.around
      obtain ⟨M2, N2, g3, f3⟩ := hl r st2 _ _ e2' (by rw [ha]; exact g2)
      rw [ha] at g3
      refine ⟨max M1 M2, N1 + N2 + 1, ?_, ?_⟩
      · rw [← Nat.max_assoc, show N + (N1 + N2 + 1) = N + N1 + 1 + N2 by omega]
        exact g3
      · have := f1.adv.node.trans f3
        rw [show N1 + N2 + 1 = N1 + 1 + N2 by omega]
        exact this

theorem opK_of {t c : List UInt8} {k : Int} (h : (t == c) = true) (hc : opK c = k) : opK t = k := by rw [beq_of h]; exact hc

theorem E2_step (hk : KindOk ws) (f : Nat) (ih : E2 ws f) : E2 ws (f + 1) := by
  constructor
  case sum =>
    intro l st t st' hp
    obtain ⟨l0, st1, h1, h2⟩ := next_eq (show (parse ws f 2 none st).next (fun l st1 => parse ws f 1 l st1) = some (some t, st') from hp)
    cases l0 with
    | none =>
      rcases loop_none1 (ws := ws) f st1 with h | h
      · rw [h] at h2
        simp only [Option.some.injEq, Prod.mk.injEq] at h2
        cases h2.1
      · rw [h] at h2; cases h2
    | some l0 =>
      obtain ⟨M, N, g, e⟩ := ih.prod none st l0 st1 h1
      obtain ⟨M', N', g', e'⟩ := ih.sumL l0 st1 t st' st.next M N h2 (by rw [e.around]; exact g.weaken 1 (by omega))
      rw [e.around] at g'
      exact ⟨_, _, g', e.trans e'⟩
  case sumL =>
    intro l st t st' n M N hp g
    rw [parse] at hp
    cases ho : st.okB with
    | false => rw [ho] at hp; cases hp
    | true =>
      rw [ho] at hp
      simp only [cond_true] at hp
      rw [tk_txt hk, tk_txt hk] at hp
      cases h1 : (txt ws st.next == [43]) with
      | true =>
        rw [h1] at hp
        exact round_same (lvl := 1) (lvl' := 2) hp (loop_none1 f) (fun r st2 h => ih.prod none st.adv r st2 h) (fun r m M' N' g' => by rw [← opK_of (k := 6) h1 rfl]; exact good_add g g' (by rw [h1]; rfl)) (fun r st2 M2 N2 h g2 => ih.sumL _ _ t st' n M2 N2 h g2)
      | false =>
        cases h2 : (txt ws st.next == [45]) with
        | true =>
          rw [h1, h2] at hp
          exact round_same (lvl := 1) (lvl' := 2) hp (loop_none1 f) (fun r st2 h => ih.prod none st.adv r st2 h) (fun r m M' N' g' => by rw [← opK_of (k := 7) h2 rfl]; exact good_add g g' (by rw [h1, h2]; rfl)) (fun r st2 M2 N2 h g2 => ih.sumL _ _ t st' n M2 N2 h g2)
        | false =>
          rw [h1, h2] at hp
          simp only [cond_false, Option.some.injEq, Prod.mk.injEq] at hp
          obtain ⟨rfl, rfl⟩ := hp
          exact ⟨0, 0, by rw [Nat.max_eq_left (Nat.zero_le _)]; exact g, Eff.refl _⟩
  case prod =>
    intro l st t st' hp
    obtain ⟨l0, st1, h1, h2⟩ := next_eq (show (parse ws f 4 none st).next (fun l st1 => parse ws f 3 l st1) = some (some t, st') from hp)
    cases l0 with
    | none =>
      rcases loop_none3 (ws := ws) f st1 with h | h
      · rw [h] at h2
        simp only [Option.some.injEq, Prod.mk.injEq] at h2
        cases h2.1
      · rw [h] at h2; cases h2
    | some l0 =>
      obtain ⟨M, N, g, e⟩ := ih.signed none st l0 st1 h1
      obtain ⟨M', N', g', e'⟩ := ih.prodL l0 st1 t st' st.next M N h2 (by rw [e.around]; exact g.weaken 2 (by omega))
      rw [e.around] at g'
      exact ⟨_, _, g', e.trans e'⟩
  case prodL =>
    intro l st t st' n M N hp g
    rw [parse] at hp
    cases ho : st.okB with
    | false => rw [ho] at hp; cases hp
    | true =>
      rw [ho] at hp
      simp only [cond_true] at hp
      rw [tk_txt hk, tk_txt hk] at hp
      cases h1 : (txt ws st.next == [42]) with
      | true =>
        rw [h1] at hp
        exact round_same (lvl := 2) (lvl' := 3) hp (loop_none3 f) (fun r st2 h => ih.signed none st.adv r st2 h) (fun r m M' N' g' => by rw [← opK_of (k := 8) h1 rfl]; exact good_mul g g' (by rw [h1]; rfl)) (fun r st2 M2 N2 h g2 => ih.prodL _ _ t st' n M2 N2 h g2)
      | false =>
        cases h2 : (txt ws st.next == [47]) with
        | true =>
          rw [h1, h2] at hp
          exact round_same (lvl := 2) (lvl' := 3) hp (loop_none3 f) (fun r st2 h => ih.signed none st.adv r st2 h) (fun r m M' N' g' => by rw [← opK_of (k := 9) h2 rfl]; exact good_mul g g' (by rw [h1, h2]; rfl)) (fun r st2 M2 N2 h g2 => ih.prodL _ _ t st' n M2 N2 h g2)
        | false =>
          rw [h1, h2] at hp
          simp only [cond_false, Option.some.injEq, Prod.mk.injEq] at hp
          obtain ⟨rfl, rfl⟩ := hp
          exact ⟨0, 0, by rw [Nat.max_eq_left (Nat.zero_le _)]; exact g, Eff.refl _⟩
  case signed =>
    intro l st t st' hp
    rw [parse] at hp
    cases ho : st.okB with
    | false => rw [ho] at hp; cases hp
    | true =>
      rw [ho] at hp
      simp only [cond_true] at hp
      rw [tk_txt hk] at hp
      cases h1 : (txt ws st.next == [45]) with
      | false =>
        rw [h1] at hp
        exact ih.atom none st t st' hp
      | true =>
        rw [h1] at hp
        simp only [cond_true] at hp
        obtain ⟨x, st2, e1, e2⟩ := next_eq hp
        cases ho2 : st2.okOut with
        | false => rw [ho2] at e2; cases e2
        | true =>
          rw [ho2] at e2
          simp only [cond_true] at e2
          cases x with
          | none => simp only [unaryOf, Option.some.injEq, Prod.mk.injEq] at e2; cases e2.1
          | some x =>
            simp only [unaryOf] at e2
            cases ho3 : st2.out.okB with
            | false => rw [ho3] at e2; cases e2
            | true =>
              rw [ho3] at e2
              simp only [cond_true, Option.some.injEq, Prod.mk.injEq] at e2
              obtain ⟨rfl, rfl⟩ := e2
              obtain ⟨M, N, g, e⟩ := ih.signed none _ x st2 e1
              refine ⟨M, N + 1, good_neg g (beq_of h1), ⟨?_, e.deepest, ?_⟩⟩
              · show st2.around - 1 = st.around
                rw [e.around]
                simp [St.adv, St.inn]
              · show st2.nodes + 1 = _
                rw [e.nodes]
                simp [St.adv, St.inn]
                omega
  case atom =>
    intro l st t st' hp
    rw [parse] at hp
    cases ho : st.okB with
    | false => rw [ho] at hp; cases hp
    | true =>
      rw [ho] at hp
      simp only [cond_true] at hp
      rw [hk, named_txt] at hp
      change (bif kd (txt ws st.next) == 1 then _ else bif kd (txt ws st.next) == 2 then nameOf ws (nameK (txt ws st.next)) st (fun st' => parse ws f 6 none st') else parse ws f 6 none st) = _ at hp
      have atom6 : parse ws f 6 none st = some (some t, st') → ∃ M N, Good ws 3 st.next st'.next st.around t M N ∧ Eff st st' M N := by
        intro hp
        obtain ⟨h40, m, M, N, e1, e2, g, e⟩ := ih.br none st t st' hp
        rw [e1]
        exact ⟨M, N, good_br g h40 e2, e⟩
      cases k1 : (kd (txt ws st.next) == 1) with
      | true =>
        rw [k1] at hp
        cases ho : st.adv.okB with
        | false => rw [ho] at hp; cases hp
        | true =>
          rw [ho] at hp
          simp only [cond_true, Option.some.injEq, Prod.mk.injEq] at hp
          obtain ⟨rfl, rfl⟩ := hp
          refine ⟨st.around, 1, ?_, leaf_eff st⟩
          have n45 := kd_not (c := [45]) k1 rfl
          have n40 := kd_not (c := [40]) k1 rfl
          have hop : isOp (txt ws st.next) = false := by simp only [isOp, kd_not (c := [43]) k1 rfl, n45, kd_not (c := [42]) k1 rfl, kd_not (c := [47]) k1 rfl]; rfl
          have hb : noBr (txt ws st.next) := ⟨by rw [n40, kd_not (c := [91]) k1 rfl]; rfl, by rw [kd_not (c := [41]) k1 rfl, kd_not (c := [93]) k1 rfl]; rfl⟩
          have hlen : st.next < ws.length := txt_lt (by intro e; rw [e] at k1; cases k1)
          refine good_word hlen hop hb ?_
          intro D K
          refine ⟨1, ?_⟩
          have hn : lastAt ws st.next (st.next + 1) = -1 := by
            unfold lastAt lastOf
            rw [scan_one, scan_one, step_plain _ _ _ _ _ (Or.inl ⟨rfl, rfl⟩) hb hop, step_plain _ _ _ _ _ (Or.inr ⟨rfl, rfl⟩) hb hop]
            rfl
          rw [rtree, guard_ok (by omega) (by omega), hn, n45, n40, k1]
          rfl
      | false =>
        cases k2 : (kd (txt ws st.next) == 2) with
        | false =>
          rw [k1, k2] at hp
          exact atom6 hp
        | true =>
          rw [k1, k2] at hp
          simp only [cond_true, cond_false] at hp
          have n45 := kd_not (c := [45]) k2 rfl
          have n40 := kd_not (c := [40]) k2 rfl
          have hop : isOp (txt ws st.next) = false := by simp only [isOp, kd_not (c := [43]) k2 rfl, n45, kd_not (c := [42]) k2 rfl, kd_not (c := [47]) k2 rfl]; rfl
          have hb : noBr (txt ws st.next) := ⟨by rw [n40, kd_not (c := [91]) k2 rfl]; rfl, by rw [kd_not (c := [41]) k2 rfl, kd_not (c := [93]) k2 rfl]; rfl⟩
          have konst : ∀ c : List UInt8, (txt ws st.next == c) = true → (kd c == 1) = false → isFn c = false → (nameK c == 0) = false → (nameK c == 2 || nameK c == 3) = true → ∃ M N, Good ws 3 st.next st'.next st.around t M N ∧ Eff st st' M N := by
            intro c hc c1 c2 c3 c4
            have ec := beq_of hc
            rw [ec] at hp
            unfold nameOf at hp
            rw [c3, c4] at hp
            cases ho : st.adv.okB with
            | false => rw [ho] at hp; cases hp
            | true =>
              rw [ho] at hp
              simp only [cond_true, cond_false, Option.some.injEq, Prod.mk.injEq] at hp
              obtain ⟨rfl, rfl⟩ := hp
              refine ⟨st.around, 1, ?_, leaf_eff st⟩
              have hlen : st.next < ws.length := txt_lt (by intro e; rw [e] at k2; cases k2)
              have hc0 : (c == []) = false := by cases c with | nil => rw [ec] at k2; cases k2 | cons x r => rfl
              refine good_word hlen hop hb ?_
              intro D K
              refine ⟨1, ?_⟩
              have hn : lastAt ws st.next (st.next + 1) = -1 := by
                unfold lastAt lastOf
                rw [scan_one, scan_one, step_plain _ _ _ _ _ (Or.inl ⟨rfl, rfl⟩) hb hop, step_plain _ _ _ _ _ (Or.inr ⟨rfl, rfl⟩) hb hop]
                rfl
              rw [rtree, guard_ok (by omega) (by omega), hn, n45, n40, ec, c1, c2, hc0, show (st.next + 1 - st.next - 1) / 2 = 0 by omega, show (nameK c == 2 || nameK c == 3 || nameK c == 4) = true by rw [c4]; rfl]
              rfl
          have func : ∀ c : List UInt8, (txt ws st.next == c) = true → isFn c = true → (nameK c == 0) = false → (nameK c == 2 || nameK c == 3) = false → (nameK c == 4) = false → ∃ M N, Good ws 3 st.next st'.next st.around t M N ∧ Eff st st' M N := by
            intro c hc c2 c3 c4 c5
            have ec := beq_of hc
            rw [ec] at hp
            unfold nameOf at hp
            rw [c3, c4, c5] at hp
            simp only [cond_false] at hp
            obtain ⟨x, st2, p1, p2⟩ := next_eq hp
            cases x with
            | none => simp only [unaryOf, Option.some.injEq, Prod.mk.injEq] at p2; cases p2.1
            | some x =>
              simp only [unaryOf] at p2
              cases ho : st2.okB with
              | false => rw [ho] at p2; cases p2
              | true =>
                rw [ho] at p2
                simp only [cond_true, Option.some.injEq, Prod.mk.injEq] at p2
                obtain ⟨rfl, rfl⟩ := p2
                obtain ⟨h40, m, M, N, e1, e2, g, e⟩ := ih.br none _ x st2 p1
                have en : st2.node.next = m + 1 := e1
                rw [en]
                refine ⟨M, N + 1, ?_, e.adv.node⟩
                have gf := good_fn g (by rw [ec]; exact c2) h40 e2
                rw [ec] at gf
                exact gf
          cases t1 : (txt ws st.next == [112, 105]) with
          | true => exact konst _ t1 rfl rfl rfl rfl
          | false =>
            cases t2 : (txt ws st.next == [101]) with
            | true => exact konst _ t2 rfl rfl rfl rfl
            | false =>
              cases t3 : (txt ws st.next == [99, 102]) with
              | true =>
                have ec := beq_of t3
                rw [ec] at hp
                exact good_cf hk st t st' ec hp
              | false =>
                cases t4 : (txt ws st.next == [115, 113, 114, 116]) with
                | true => exact func _ t4 rfl rfl rfl rfl
                | false =>
                  cases t5 : (txt ws st.next == [101, 120, 112]) with
                  | true => exact func _ t5 rfl rfl rfl rfl
                  | false =>
                    cases t6 : (txt ws st.next == [108, 110, 49, 112]) with
                    | true => exact func _ t6 rfl rfl rfl rfl
                    | false =>
                      cases t7 : (txt ws st.next == [97, 116, 97, 110]) with
                      | true => exact func _ t7 rfl rfl rfl rfl
                      | false =>
                        have e0 : nameK (txt ws st.next) = 0 := by simp only [nameK, t1, t2, t3, t4, t5, t6, t7, cond_false]
                        rw [e0] at hp
                        simp only [nameOf, beq_self_eq_true, cond_true, Option.some.injEq, Prod.mk.injEq] at hp
                        cases hp.1
  case br =>
    intro l st t st' hp
    rw [parse] at hp
    · cases ho : st.okB with
      | false => rw [ho] at hp; cases hp
      | true =>
        rw [ho] at hp
        simp only [cond_true] at hp
        rw [tk_txt hk] at hp
        cases h40 : (txt ws st.next == [40]) with
        | false =>
          rw [h40] at hp
          simp only [cond_false, Option.some.injEq, Prod.mk.injEq] at hp
          cases hp.1
        | true =>
          rw [h40] at hp
          simp only [cond_true] at hp
          obtain ⟨x, st2, e1, e2⟩ := next_eq hp
          unfold closeOf at e2
          cases ho2 : st2.okOut with
          | false => rw [ho2] at e2; cases e2
          | true =>
            rw [ho2] at e2
            simp only [cond_true] at e2
            cases x with
            | none => simp only [Option.some.injEq, Prod.mk.injEq] at e2; cases e2.1
            | some x =>
              simp only at e2
              rw [tk_txt hk] at e2
              have en : st2.out.next = st2.next := rfl
              rw [en] at e2
              cases h41 : (txt ws st2.next == [41]) with
              | false => rw [h41] at e2; simp only [cond_false, Option.some.injEq, Prod.mk.injEq] at e2; cases e2.1
              | true =>
                rw [h41] at e2
                simp only [cond_true, Option.some.injEq, Prod.mk.injEq] at e2
                obtain ⟨rfl, rfl⟩ := e2
                obtain ⟨M, N, g, e⟩ := ih.sum none _ x st2 e1
                refine ⟨beq_of h40, st2.next, M, N, rfl, beq_of h41, g, ⟨?_, e.deepest, e.nodes⟩⟩
                show st2.around - 1 = st.around
                rw [e.around]
                simp [St.adv, St.inn]
    all_goals omega

theorem E2_all (hk : KindOk ws) : ∀ f, E2 ws f := by
  intro f
  induction f with
  | zero =>
    constructor
    case sumL => intro l st t st' n M N hp; cases hp
    case prodL => intro l st t st' n M N hp; cases hp
    all_goals (intro l st t st' hp; cases hp)
  | succ f ih => exact E2_step hk f ih

end Rd
end Go.Proofs.YtmepffenlgedbaaGreatDoor
