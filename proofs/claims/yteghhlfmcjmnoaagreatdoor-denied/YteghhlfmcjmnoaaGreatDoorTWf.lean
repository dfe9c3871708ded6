import Derived.Test.YteghhlfmcjmnoaaGreatDoorQb
import Derived.Test.YteghhlfmcjmnoaaGreatDoorVn
import Derived.Test.YteghhlfmcjmnoaaGreatDoorCont
import Derived.Test.YteghhlfmcjmnoaaGreatDoorQr
import Derived.KernelRfl
set_option linter.unusedSimpArgs false
set_option linter.unusedVariables false
namespace Go.Proofs.YteghhlfmcjmnoaaGreatDoor
namespace Rf
open Nw
namespace C
def more (ns : List Nd) (n : Nd) : Option (List Nd) := some (ns ++ [n])
def put (ns : List Nd) (i : Nat) (n : Nd) : Option (List Nd) := some (ns.set i n)
def outright (ns : List Nd) (op : Op) (p q : Int) : Option (List Nd × Nat) :=
  (more ns (row op p q)).bind fun ns1 => if op = .exp then (more ns1 (raised ns.length)).map fun ns2 => (ns2, ns.length + 1) else some (ns1, ns.length)
def nest (ns : List Nd) (op : Op) (k x : Nat) (sq : Option Nat) : Option (List Nd × Nat) :=
  if 0 < k ∧ op ≠ .ln1p then
    match sq with
    | some s => (more ns (nestNd op k s x (some s))).map fun ns1 => (ns1, ns.length)
    | none => (ns[x]?).bind fun nx => (more ns (two .mul nx.pos nx.pos x x)).bind fun ns1 => (more ns1 (nestNd op k ns.length x (some ns.length))).map fun ns2 => (ns2, ns.length + 1)
  else (more ns (nestNd op k x x sq)).map fun ns1 => (ns1, ns.length)
def deeper (ns : List Nd) (n : Nd) : Option (List Nd × Nat) :=
  if n.op = .sqrt then (n.args[0]?).bind fun a => (more ns { fresh true n.t [a] with op := n.op, nest := true }).map fun ns1 => (ns1, ns.length)
  else n.x.bind fun x => nest ns n.op (n.k + 1) x n.square
def turn (ns : List Nd) (i : Nat) (n : Nd) (lo : V) : Option (List Nd) :=
  (n.args[0]?).bind fun x =>
  if n.op = .sqrt then (near lo.1 lo.2 20000 1).bind fun ab => put ns i { n with t := [(0, 0), (ab.2, 0), (ab.1, ab.2), (0, ab.1)], nest := true }
  else
    (if 0 < lo.1 then (more ns (fresh true (restCols n.op lo) [x])).map fun ns1 => (ns1, ns.length) else some (ns, x)).bind fun zb =>
    (nest zb.1 n.op 0 zb.2 none).bind fun nb =>
    (if n.op = .exp then (more nb.1 (raised nb.2)).map fun ns3 => (ns3, nb.1.length) else some nb).bind fun rb =>
    if lo.1 = 0 then put rb.1 i { n with args := [rb.2] }
    else (outright rb.1 n.op lo.1 lo.2).bind fun fb =>
      put fb.1 i { n with t := (if n.op = .exp then Kind.mul else Kind.add).cols, args := [fb.2, rb.2], read := [0, 0] }
def give (s : St) (i : Nat) (n : Nd) (c : Int) : Option St :=
  (put s.nodes i { n with out := n.out ++ [c], told := n.told.mul (Mt.sym c), had := n.had ++ [n.told.mul (Mt.sym c)] }).map fun ns => ⟨ns, s.clock - 1⟩
def wide (s : St) (i : Nat) (n : Nd) (sd : Nat) : Option St :=
  if sd = n.args.length then
    (deeper s.nodes n).bind fun d => (put d.1 i { n with args := n.args ++ [d.2], read := n.read ++ [0] }).map fun ns => ⟨ns, s.clock⟩
  else some s
def settle (ns : List Nd) (i : Nat) (n : Nd) : Option (List Nd) :=
  if n.probe then
    (ends ns n 0).bind fun e =>
    if known n.op e.2 e.1 then (put ns i { n with read := n.read.set 0 0, probe := false }).bind fun ns1 => turn ns1 i { n with read := n.read.set 0 0, probe := false } e.2
    else some ns
  else some ns
def after (s : St) (i sd : Nat) : Option (St × Bool) :=
  (s.nodes[i]?).bind fun n =>
  (put s.nodes i { n with read := bump n.read sd }).bind fun ns =>
  if s.clock - 1 < 0 then some (⟨ns, s.clock - 1⟩, false) else
  (settle ns i { n with read := bump n.read sd }).map fun ns1 => (⟨ns1, s.clock - 1⟩, true)
def reads (rec : St → Nat → Nat → Option (St × Option Int)) (s : St) (i : Nat) (n : Nd) : Option (St × Bool) :=
  if n.t = [] then
    (constant n n.k).bind fun m => (put s.nodes i { n with part := n.part.mul m, k := n.k + 1 }).map fun ns => (⟨ns, s.clock - 1⟩, decide (0 ≤ s.clock - 1))
  else
    (side s.nodes n).bind fun sd => (wide s i n sd).bind fun s1 =>
    (s1.nodes[i]?).bind fun n1 => (n1.args[sd]?).bind fun a => (n1.read[sd]?).bind fun r =>
    (rec s1 a r).bind fun x => match x.2 with
      | none => some (x.1, false)
      | some _ => after x.1 i sd
def sym : Nat → St → Nat → Nat → Option (St × Option Int)
  | 0, _, _, _ => none
  | f + 1, s, i, j =>
    (s.nodes[i]?).bind fun n =>
    match n.out[j]? with
    | some c => some (s, some c)
    | none =>
      (if n.probe then some none else next s.nodes n).bind fun o => match o with
      | some c => if s.clock - 1 < 0 then some (⟨s.nodes, s.clock - 1⟩, none) else (give s i n c).bind fun s1 => sym f s1 i j
      | none => (reads (sym f) s i n).bind fun x => if x.2 then sym f x.1 i j else some (x.1, none)
def of : Wt → List Nd → Option (List Nd × Nat)
  | .fr p q, ns => (more ns (fresh (decide (0 ≤ p)) [(p, q)] [])).map fun ns1 => (ns1, ns.length)
  | .con op ts, ns => (more ns { fresh true [] [] with op := op, terms := ts }).map fun ns1 => (ns1, ns.length)
  | .neg t, ns => (of t ns).bind fun x => (more x.1 (fresh false [(-1, 0), (0, 1)] [x.2])).map fun ns1 => (ns1, x.1.length)
  | .two k a b, ns => (of a ns).bind fun x => (of b x.1).bind fun y => (y.1[x.2]?).bind fun nx => (y.1[y.2]?).bind fun ny => (more y.1 (two k nx.pos ny.pos x.2 y.2)).map fun ns1 => (ns1, y.1.length)
  | .fn op (.fr p q), ns => outright ns op p q
  | .fn op t, ns => (of t ns).bind fun x => (x.1[x.2]?).bind fun nx =>
      (if nx.pos then some x else (more x.1 (fresh true [(1, 0), (0, 1)] [x.2])).map fun ns1 => (ns1, x.1.length)).bind fun y =>
      (more y.1 { fresh true [(1, 0), (0, 1)] [y.2] with op := op, probe := true }).map fun ns1 => (ns1, y.1.length)
end C
def Le' {α : Type} (x y : Option α) : Prop := ∀ a, x = some a → y = some a
theorem Le'.refl {α : Type} (x : Option α) : Le' x x := fun _ h => h
theorem Le'.bind {α β : Type} {x y : Option α} {f g : α → Option β} (h : Le' x y) (hf : ∀ a, Le' (f a) (g a)) : Le' (x.bind f) (y.bind g) := by
  intro b hb
  obtain ⟨a, h1, h2⟩ := Option.bind_eq_some_iff.1 hb
  rw [h a h1]
  exact hf a b h2
theorem Le'.map {α β : Type} {x y : Option α} {f : α → β} (h : Le' x y) : Le' (x.map f) (y.map f) := by
  intro b hb
  obtain ⟨a, h1, h2⟩ := Option.map_eq_some_iff.1 hb
  rw [h a h1, ← h2]; rfl
theorem Le'.ite {α : Type} {c : Prop} [Decidable c] {x y x' y' : Option α} (h1 : Le' x x') (h2 : Le' y y') : Le' (if c then x else y) (if c then x' else y') := by
  split
  · exact h1
  · exact h2
theorem more_le (ns : List Nd) (n : Nd) : Le' (more ns n) (C.more ns n) := by
  intro a h
  unfold more at h
  split at h
  · exact h
  · cases h
theorem put_le (ns : List Nd) (i : Nat) (n : Nd) : Le' (put ns i n) (C.put ns i n) := by
  intro a h
  unfold put at h
  split at h
  · exact h
  · cases h
theorem outright_le (ns : List Nd) (op : Op) (p q : Int) : Le' (outright ns op p q) (C.outright ns op p q) :=
  Le'.bind (more_le _ _) fun _ => Le'.ite (Le'.map (more_le _ _)) (Le'.refl _)
theorem nest_le (ns : List Nd) (op : Op) (k x : Nat) (sq : Option Nat) : Le' (nest ns op k x sq) (C.nest ns op k x sq) := by
  unfold nest C.nest
  refine Le'.ite ?_ (Le'.map (more_le _ _))
  cases sq with
  | some s => exact Le'.map (more_le _ _)
  | none => exact Le'.bind (Le'.refl _) fun _ => Le'.bind (more_le _ _) fun _ => Le'.map (more_le _ _)
theorem deeper_le (ns : List Nd) (n : Nd) : Le' (deeper ns n) (C.deeper ns n) :=
  Le'.ite (Le'.bind (Le'.refl _) fun _ => Le'.map (more_le _ _)) (Le'.bind (Le'.refl _) fun _ => nest_le _ _ _ _ _)
theorem turn_le (ns : List Nd) (i : Nat) (n : Nd) (lo : V) : Le' (turn ns i n lo) (C.turn ns i n lo) :=
  Le'.bind (Le'.refl _) fun _ => Le'.ite (Le'.bind (Le'.refl _) fun _ => put_le _ _ _) <|
    Le'.bind (Le'.ite (Le'.map (more_le _ _)) (Le'.refl _)) fun _ => Le'.bind (nest_le _ _ _ _ _) fun _ => Le'.bind (Le'.ite (Le'.map (more_le _ _)) (Le'.refl _)) fun _ =>
    Le'.ite (put_le _ _ _) (Le'.bind (outright_le _ _ _ _) fun _ => put_le _ _ _)
theorem give_le (s : St) (i : Nat) (n : Nd) (c : Int) : Le' (give s i n c) (C.give s i n c) := Le'.map (put_le _ _ _)
theorem wide_le (s : St) (i : Nat) (n : Nd) (sd : Nat) : Le' (wide s i n sd) (C.wide s i n sd) := Le'.ite (Le'.bind (deeper_le _ _) fun _ => Le'.map (put_le _ _ _)) (Le'.refl _)
theorem settle_le (ns : List Nd) (i : Nat) (n : Nd) : Le' (settle ns i n) (C.settle ns i n) :=
  Le'.ite (Le'.bind (Le'.refl _) fun _ => Le'.ite (Le'.bind (put_le _ _ _) fun _ => turn_le _ _ _ _) (Le'.refl _)) (Le'.refl _)
theorem after_le' (s : St) (i sd : Nat) : Le' (after s i sd) (C.after s i sd) :=
  Le'.bind (Le'.refl _) fun _ => Le'.bind (put_le _ _ _) fun _ => Le'.ite (Le'.refl _) (Le'.map (settle_le _ _ _))
theorem reads_le {rec rec' : St → Nat → Nat → Option (St × Option Int)} (h : ∀ s i j, Le' (rec s i j) (rec' s i j)) (s : St) (i : Nat) (n : Nd) : Le' (reads rec s i n) (C.reads rec' s i n) := by
  refine Le'.ite (Le'.bind (Le'.refl _) fun _ => Le'.map (put_le _ _ _)) (Le'.bind (Le'.refl _) fun _ => Le'.bind (wide_le _ _ _ _) fun _ => Le'.bind (Le'.refl _) fun _ => Le'.bind (Le'.refl _) fun _ => Le'.bind (Le'.refl _) fun _ => Le'.bind (h _ _ _) fun x => ?_)
  cases x.2 with
  | none => exact Le'.refl _
  | some _ => exact after_le' _ _ _
theorem sym_le' : ∀ (f : Nat) (s : St) (i j : Nat), Le' (sym f s i j) (C.sym f s i j)
  | 0, _, _, _ => Le'.refl _
  | f + 1, s, i, j => by
    unfold sym C.sym
    refine Le'.bind (Le'.refl _) fun n => ?_
    cases n.out[j]? with
    | some c => exact Le'.refl _
    | none =>
      refine Le'.bind (Le'.refl _) fun o => ?_
      cases o with
      | some c => exact Le'.ite (Le'.refl _) (Le'.bind (give_le _ _ _ _) fun s1 => sym_le' f s1 i j)
      | none => exact Le'.bind (reads_le (sym_le' f) _ _ _) fun x => Le'.ite (sym_le' f x.1 i j) (Le'.refl _)
theorem of_le : ∀ (t : Wt) (ns : List Nd), Le' (of t ns) (C.of t ns)
  | .fr p q, ns => by unfold of C.of; exact Le'.map (more_le _ _)
  | .con op ts, ns => by unfold of C.of; exact Le'.map (more_le _ _)
  | .neg t, ns => by unfold of C.of; exact Le'.bind (of_le t ns) fun _ => Le'.map (more_le _ _)
  | .two k a b, ns => by unfold of C.of; exact Le'.bind (of_le a ns) fun x => Le'.bind (of_le b x.1) fun _ => Le'.bind (Le'.refl _) fun _ => Le'.bind (Le'.refl _) fun _ => Le'.map (more_le _ _)
  | .fn op (.fr p q), ns => by unfold of C.of; exact outright_le _ _ _ _
  | .fn op (.con o ts), ns => fn_le (of_le (.con o ts) ns)
  | .fn op (.neg t), ns => fn_le (of_le (.neg t) ns)
  | .fn op (.two k a b), ns => fn_le (of_le (.two k a b) ns)
  | .fn op (.fn o t), ns => fn_le (of_le (.fn o t) ns)
where
  fn_le {x y : Option (List Nd × Nat)} {op : Op} (h : Le' x y) : Le' (x.bind fun x => (x.1[x.2]?).bind fun nx =>
      (if nx.pos then some x else (more x.1 (fresh true [(1, 0), (0, 1)] [x.2])).map fun ns1 => (ns1, x.1.length)).bind fun y =>
      (more y.1 { fresh true [(1, 0), (0, 1)] [y.2] with op := op, probe := true }).map fun ns1 => (ns1, y.1.length))
      (y.bind fun x => (x.1[x.2]?).bind fun nx =>
      (if nx.pos then some x else (C.more x.1 (fresh true [(1, 0), (0, 1)] [x.2])).map fun ns1 => (ns1, x.1.length)).bind fun y =>
      (C.more y.1 { fresh true [(1, 0), (0, 1)] [y.2] with op := op, probe := true }).map fun ns1 => (ns1, y.1.length)) :=
    Le'.bind h fun _ => Le'.bind (Le'.refl _) fun _ => Le'.bind (Le'.ite (Le'.refl _) (Le'.map (more_le _ _))) fun _ => Le'.map (more_le _ _)
end Rf
end Go.Proofs.YteghhlfmcjmnoaaGreatDoor
set_option linter.unusedSimpArgs false
set_option linter.unusedVariables false
namespace Go.Proofs.YteghhlfmcjmnoaaGreatDoor
namespace Rf
open Nw
open Pg (Go HC)
structure Cm (m : Mt) : Prop where
  a : m.a ≤ 0
  b : m.b ≤ 0
  c : 0 ≤ m.c
  d : 0 ≤ m.d
  det : m.a * m.d - m.b * m.c ≠ 0
theorem Cm.start : Cm (one.mul (Mt.sym 45)) := ⟨by decide, by decide, by decide, by decide, by decide⟩
theorem Cm.digit {m : Mt} (h : Cm m) {c : Int} (hc : c = -1 ∨ c = 0 ∨ c = 1) : Cm (m.mul (Mt.sym c)) := by
  obtain ⟨h1, h2, h3, h4, h5⟩ := h
  rcases hc with rfl | rfl | rfl
  · refine ⟨?_, ?_, ?_, ?_, ?_⟩ <;> simp [Mt.mul, Mt.sym]
    · omega
    · omega
    · omega
    · omega
    · intro e
      apply h5
      have : (m.a + m.b) * (m.d * 2) - m.b * 2 * (m.c + m.d) = 2 * (m.a * m.d - m.b * m.c) := by grind
      omega
  · refine ⟨?_, ?_, ?_, ?_, ?_⟩ <;> simp [Mt.mul, Mt.sym]
    · omega
    · omega
    · omega
    · omega
    · intro e
      apply h5
      have : (m.a * 3 + m.b) * (m.c + m.d * 3) - (m.a + m.b * 3) * (m.c * 3 + m.d) = 8 * (m.a * m.d - m.b * m.c) := by grind
      omega
  · refine ⟨?_, ?_, ?_, ?_, ?_⟩ <;> simp [Mt.mul, Mt.sym]
    · omega
    · omega
    · omega
    · omega
    · intro e
      apply h5
      have : m.a * 2 * (m.c + m.d) - (m.a + m.b) * (m.c * 2) = 2 * (m.a * m.d - m.b * m.c) := by grind
      omega
theorem Cm.had {m : Nd} (h : GP m) (h0 : m.out[0]? = some 45) : ∀ (k : Nat) (x : Mt), m.had[k + 1]? = some x → Cm x
  | 0, x, hx => by
    have := h.1.step 0 45 one h0 h.1.fst
    rw [hx] at this
    cases this
    exact Cm.start
  | k + 1, x, hx => by
    have hl : k + 2 < m.had.length := (List.getElem?_eq_some_iff.1 hx).1
    have hk : k + 1 < m.out.length := by rw [h.1.len] at hl; omega
    have ho : m.out[k + 1]? = some m.out[k + 1] := List.getElem?_eq_getElem hk
    have hy : m.had[k + 1]? = some (m.had[k + 1]'(by omega)) := List.getElem?_eq_getElem (by omega)
    have := h.1.step (k + 1) _ _ ho hy
    rw [hx] at this
    cases this
    refine (Cm.had h h0 k _ hy).digit ?_
    rcases h.2 (k + 1) _ ho with ⟨e, _⟩ | e
    · omega
    · exact e
theorem Cm.can {m : Mt} (h : Cm m) {s : Int} (hs : s ∈ ([-1, 1, 0] : List Int)) : can [vag one (vat ⟨1, 0, 0, 1⟩ (vat m (1, 0))), vag one (vat ⟨1, 0, 0, 1⟩ (vat m (0, 1)))] s = false := by
  obtain ⟨h1, h2, h3, h4, h5⟩ := h
  have q1 : m.a ≠ 0 ∨ m.b ≠ 0 := by
    by_cases e : m.a = 0
    · right
      intro e2
      rw [e, e2] at h5
      simp at h5
    · exact Or.inl e
  have q2 : m.c ≠ 0 ∨ m.d ≠ 0 := by
    by_cases e : m.c = 0
    · right
      intro e2
      rw [e, e2] at h5
      simp at h5
    · exact Or.inl e
  have q3 : m.a ≠ 0 ∨ m.c ≠ 0 := by
    by_cases e : m.a = 0
    · right
      intro e2
      rw [e, e2] at h5
      simp at h5
    · exact Or.inl e
  clear h5
  obtain ⟨a, b, c, d⟩ := m
  simp only at *
  simp only [List.mem_cons, List.not_mem_nil, or_false] at hs
  rcases hs with rfl | rfl | rfl <;> simp [Rf.can, fits, ups, downs, vag, vat, Mt.at1, Mt.at2, Mt.ag1, Mt.ag2, one, Mt.sym] <;> (rw [Bool.eq_iff_iff]; simp only [Bool.or_eq_true, decide_eq_true_eq]; omega)
def N3 (k : Nat) : Nd := { fresh true [(1, 0), (0, 1)] [2] with read := [k] }
theorem never3 : ∀ (f : Nat) (s : St) (rho : Nat → Nat) (c k : Nat) (m : Nd), s.clock = (c : Int) → c ≤ 3000 → Inv s.nodes rho c → s.nodes[3]? = some (N3 (k + 1)) → s.nodes[2]? = some m → (∀ n ∈ s.nodes, GP n) → m.pos = false → m.out[0]? = some 45 → c + rho 3 + 2 ≤ f → ∀ x, sym f s 3 0 = some x → x.2 = none
  | 0, s, rho, c, k, m, hcl, hc, hI, h3, h2, hG, hp, h45, hf, x, hx => by cases hx
  | f + 1, s, rho, c, k, m, hcl, hc, hI, h3, h2, hG, hp, h45, hf, x, hx => by
    have hN3 := hI.at' 3 _ h3
    have hr2 : rho 2 < rho 3 := (hN3.arg 0 2 rfl).2
    have hrd : k + 1 ≤ m.out.length := hN3.rd 0 2 (k + 1) m rfl rfl h2
    unfold sym at hx
    rw [h3, Option.bind_some] at hx
    rw [show (N3 (k + 1)).out[0]? = none from rfl] at hx
    simp only at hx
    rw [if_neg (show ¬ (N3 (k + 1)).probe = true by simp [N3, fresh])] at hx
    have hw : waits s.nodes (N3 (k + 1)).args (N3 (k + 1)).read = false := by
      simp [N3, fresh, waits, h2]
    have hnext : next s.nodes (N3 (k + 1)) = none ∨ next s.nodes (N3 (k + 1)) = some none := by
      unfold next
      rw [if_neg (by rw [hw]; decide)]
      have hcor : corners s.nodes (N3 (k + 1)) = (m.had[k + 1]?).map fun h => [vag one (vat ⟨1, 0, 0, 1⟩ (vat h (1, 0))), vag one (vat ⟨1, 0, 0, 1⟩ (vat h (0, 1)))] := by
        show ((bare s.nodes (N3 (k + 1))).map _) = _
        unfold bare
        simp only [N3, fresh]
        unfold ends
        simp only [List.getElem?_cons_zero, Option.bind_some, h2]
        cases m.had[k + 1]? <;> rfl
      rw [hcor]
      cases hh : m.had[k + 1]? with
      | none => exact Or.inl rfl
      | some y =>
        right
        have hC := Cm.had (hG m (List.mem_of_getElem? h2)) h45 k y hh
        simp only [Option.map_some, Option.some.injEq]
        refine List.find?_eq_none.2 fun z hz => ?_
        have hz' : z ∈ ([-1, 1, 0] : List Int) := hz
        rw [hC.can hz']
        decide
    rcases hnext with e | e
    · rw [e] at hx; cases hx
    · rw [e, Option.bind_some] at hx
      simp only at hx
      obtain ⟨y, e1, hx⟩ := Option.bind_eq_some_iff.1 hx
      unfold reads at e1
      rw [if_neg (show ¬ (N3 (k + 1)).t = [] by simp [N3, fresh])] at e1
      rw [show side s.nodes (N3 (k + 1)) = some 0 from rfl, Option.bind_some] at e1
      rw [show wide s 3 (N3 (k + 1)) 0 = some s by unfold wide; rw [if_neg (by simp [N3, fresh])], Option.bind_some] at e1
      rw [h3, Option.bind_some, show (N3 (k + 1)).args[0]? = some 2 from rfl, Option.bind_some, show (N3 (k + 1)).read[0]? = some (k + 1) from rfl, Option.bind_some] at e1
      obtain ⟨z, ez, e1⟩ := Option.bind_eq_some_iff.1 e1
      obtain ⟨z', ez', hP⟩ := total f s 2 (k + 1) rho c hcl hc hI m h2 hrd (by omega)
      rw [ez] at ez'
      cases ez'
      obtain ⟨s1, v⟩ := z
      cases v with
      | none =>
        cases e1
        simp at hx
        rw [← hx]
      | some v =>
        simp only at e1
        obtain ⟨rho', c', g1, g2, g3, g4, n', g5, g6⟩ := hP.ex v rfl
        have hgg := sym_gg f s 2 (k + 1) _ ez
        have h3' : s1.nodes[3]? = some (N3 (k + 1)) := g4.same 3 _ h3 hr2
        obtain ⟨m', q1, q2, q3, q4⟩ := hgg.go.at' 2 m h2
        rw [g5] at q1
        cases q1
        obtain ⟨s2, b, a1, a2⟩ := after_inv (i := 3) (sd := 0) g2 g3 (by omega) h3' (a := 2) (r := k + 1) rfl rfl g5 g6 (fun _ => rfl)
        have hgg2 := after_gg a1
        rw [a1] at e1
        cases e1
        have h32 : b = true → s2.nodes[3]? = some (N3 (k + 2)) := by
          intro hb
          unfold after at a1
          rw [h3', Option.bind_some] at a1
          obtain ⟨ns, p1, a1⟩ := Option.bind_eq_some_iff.1 a1
          have hlt := (List.getElem?_eq_some_iff.1 h3').1
          have hns : ns = s1.nodes.set 3 (N3 (k + 2)) := (put_gg p1 h3' rfl rfl rfl rfl).2
          split at a1
          · cases a1; cases hb
          · obtain ⟨ns1, p2, a1⟩ := Option.map_eq_some_iff.1 a1
            cases a1
            unfold settle at p2
            rw [if_neg (by simp [N3, fresh])] at p2
            cases p2
            rw [hns]
            exact List.getElem?_set_self hlt
        cases b with
        | false =>
          simp at hx
          rw [← hx]
        | true =>
          simp at hx
          obtain ⟨rho2, c2, t1, t2, t3, t4, _⟩ := a2 rfl
          obtain ⟨m2, r1, r2, r3, r4⟩ := hgg2.go.at' 2 n' g5
          have hl := (List.getElem?_eq_some_iff.1 h3).1
          have hl1 := (List.getElem?_eq_some_iff.1 h3').1
          have e3 : rho2 3 = rho 3 := by rw [t4.agree 3 hl1, g4.agree 3 hl]
          exact never3 f s2 rho2 c2 (k + 1) m2 t2 (by omega) t3 (h32 rfl) r1 (hgg2.all (hgg.all hG)) (by rw [r2, q2, hp]) (r4 0 45 (q4 0 45 h45)) (by omega) x hx
end Rf
end Go.Proofs.YteghhlfmcjmnoaaGreatDoor
set_option linter.unusedSimpArgs false
set_option linter.unusedVariables false
namespace Go.Proofs.YteghhlfmcjmnoaaGreatDoor
namespace Rf
open Nw
open Pg (Go HC)
def denW : Wt := .fn .sqrt (.two .sub (.fr 1 1) (.con .pi []))
def N4 : Nd := { fresh true [(1, 0), (0, 1)] [3] with op := .sqrt, probe := true }
def denN : List Nd := [fresh true [(1, 1)] [], { fresh true [] [] with op := .pi, terms := [] }, fresh false [(0, 0), (1, 0), (-1, 0), (0, 1)] [0, 1], N3 0, N4]
theorem den_of : C.of denW [] = some (denN, 4) := rfl
theorem den_gp : ∀ n ∈ denN, GP n := by
  intro n hn
  simp only [denN, List.mem_cons, List.not_mem_nil, or_false] at hn
  rcases hn with rfl | rfl | rfl | rfl | rfl
  · exact GP.fresh _ _ _
  · exact with_op (t := []) (args := []) (pos := true) rfl rfl rfl rfl
  · exact GP.fresh _ _ _
  · exact with_op (t := []) (args := []) (pos := true) rfl rfl rfl rfl
  · exact with_op (t := []) (args := []) (pos := true) rfl rfl rfl rfl
set_option maxRecDepth 100000 in
theorem denS : (C.sym 15800 ⟨denN, 3000⟩ 2 0).map (fun y => (y.2, (y.1.nodes[2]?).map fun n => n.out)) = some (some 45, some [45]) := by kernel_rfl
theorem denW_ok : denW.Ok := ⟨Or.inl rfl, ⟨⟨by decide, bits1 (by decide), bits1 (by decide)⟩, Or.inl rfl⟩, fun p q e => by cases e⟩
theorem den_none {ns : List Nd} {d : Nat} (hof : of denW [] = some (ns, d)) {x : St × Option Int} (hx : sym 15802 ⟨ns, 3000⟩ d 0 = some x) : x.2 = none := by
  have e0 := of_le denW [] _ hof
  rw [den_of] at e0
  cases e0
  obtain ⟨ns', rho, d', hof', gr, hd, hrk, _⟩ := of_inv (c := 3000) denW [] (fun _ => 0) denW_ok (Nat.le_refl _) (inv_nil _ _)
  rw [hof] at hof'
  cases hof'
  have hI := gr.inv
  have hr43 : rho 3 < rho 4 := ((hI.at' 4 N4 rfl).arg 0 3 rfl).2
  have hr32 : rho 2 < rho 3 := ((hI.at' 3 (N3 0) rfl).arg 0 2 rfl).2
  have hsz : rho 4 ≤ 12800 := hrk
  unfold sym at hx
  rw [show (⟨denN, 3000⟩ : St).nodes[4]? = some N4 from rfl, Option.bind_some, show N4.out[0]? = none from rfl] at hx
  simp only at hx
  rw [if_pos (show N4.probe = true from rfl), Option.bind_some] at hx
  simp only at hx
  obtain ⟨y, e1, hx⟩ := Option.bind_eq_some_iff.1 hx
  have hy : y.2 = false := by
    unfold reads at e1
    rw [if_neg (show ¬ N4.t = [] by simp [N4, fresh]), show side denN N4 = some 0 from rfl, Option.bind_some, show wide ⟨denN, 3000⟩ 4 N4 0 = some ⟨denN, 3000⟩ by unfold wide; rw [if_neg (by simp [N4, fresh])], Option.bind_some, show (⟨denN, 3000⟩ : St).nodes[4]? = some N4 from rfl, Option.bind_some, show N4.args[0]? = some 3 from rfl, Option.bind_some, show N4.read[0]? = some 0 from rfl, Option.bind_some] at e1
    obtain ⟨z, ez, e1⟩ := Option.bind_eq_some_iff.1 e1
    have hz : z.2 = none := by
      unfold sym at ez
      rw [show (⟨denN, 3000⟩ : St).nodes[3]? = some (N3 0) from rfl, Option.bind_some, show (N3 0).out[0]? = none from rfl] at ez
      simp only at ez
      rw [if_neg (show ¬ (N3 0).probe = true by simp [N3, fresh]), show next denN (N3 0) = some none from rfl, Option.bind_some] at ez
      simp only at ez
      obtain ⟨u, eu, ez⟩ := Option.bind_eq_some_iff.1 ez
      unfold reads at eu
      rw [if_neg (show ¬ (N3 0).t = [] by simp [N3, fresh]), show side denN (N3 0) = some 0 from rfl, Option.bind_some, show wide ⟨denN, 3000⟩ 3 (N3 0) 0 = some ⟨denN, 3000⟩ by unfold wide; rw [if_neg (by simp [N3, fresh])], Option.bind_some, show (⟨denN, 3000⟩ : St).nodes[3]? = some (N3 0) from rfl, Option.bind_some, show (N3 0).args[0]? = some 2 from rfl, Option.bind_some, show (N3 0).read[0]? = some 0 from rfl, Option.bind_some] at eu
      obtain ⟨v, ev, eu⟩ := Option.bind_eq_some_iff.1 eu
      have hN2 : denN[2]? = some (fresh false [(0, 0), (1, 0), (-1, 0), (0, 1)] [0, 1]) := rfl
      obtain ⟨v', ev', hP⟩ := total 15800 ⟨denN, 3000⟩ 2 0 rho 3000 rfl (Nat.le_refl _) hI _ hN2 (Nat.zero_le _) (by omega)
      rw [ev] at ev'
      cases ev'
      have hS := denS
      rw [sym_le' _ _ _ _ _ ev, Option.map_some, Option.some.injEq, Prod.mk.injEq] at hS
      obtain ⟨s1, w⟩ := v
      obtain ⟨hw, ho⟩ := hS
      simp only at hw ho
      subst hw
      simp only at eu
      obtain ⟨rho', c', g1, g2, g3, g4, n', g5, g6⟩ := hP.ex 45 rfl
      have hgg := sym_gg _ _ _ _ _ ev
      have h3' : s1.nodes[3]? = some (N3 0) := g4.same 3 _ rfl hr32
      obtain ⟨m', q1, q2, q3, q4⟩ := hgg.go.at' 2 _ hN2
      rw [g5] at q1
      cases q1
      obtain ⟨s2, b, a1, a2⟩ := after_inv (i := 3) (sd := 0) g2 g3 (by omega) h3' (a := 2) (r := 0) rfl rfl g5 g6 (fun _ => rfl)
      have hgg2 := after_gg a1
      rw [a1] at eu
      cases eu
      have h32 : b = true → s2.nodes[3]? = some (N3 1) := by
        intro hb
        unfold after at a1
        rw [h3', Option.bind_some] at a1
        obtain ⟨ns, p1, a1⟩ := Option.bind_eq_some_iff.1 a1
        have hlt := (List.getElem?_eq_some_iff.1 h3').1
        have hns : ns = s1.nodes.set 3 (N3 1) := (put_gg p1 h3' rfl rfl rfl rfl).2
        split at a1
        · cases a1; cases hb
        · obtain ⟨ns1, p2, a1⟩ := Option.map_eq_some_iff.1 a1
          cases a1
          unfold settle at p2
          rw [if_neg (by simp [N3, fresh])] at p2
          cases p2
          rw [hns]
          exact List.getElem?_set_self hlt
      cases b with
      | false =>
        simp at ez
        rw [← ez]
      | true =>
        simp at ez
        obtain ⟨rho2, c2, t1, t2, t3, t4, _⟩ := a2 rfl
        obtain ⟨m2, r1, r2, r3, r4⟩ := hgg2.go.at' 2 n' g5
        have hl1 := (List.getElem?_eq_some_iff.1 h3').1
        have e3 : rho2 3 = rho 3 := by rw [t4.agree 3 hl1, g4.agree 3 (by decide)]
        have h45 : n'.out[0]? = some 45 := by
          rw [g5] at ho
          simp only [Option.map_some, Option.some.injEq] at ho
          rw [ho]
          rfl
        exact never3 15800 s2 rho2 c2 0 m2 t2 (by omega) t3 (h32 rfl) r1 (hgg2.all (hgg.all den_gp)) (by rw [r2, q2]; rfl) (r4 0 45 h45) (by omega) z ez
    obtain ⟨z1, z2⟩ := z
    simp only at hz
    subst hz
    cases e1
    rfl
  rw [hy] at hx
  simp at hx
  rw [← hx]
end Rf
end Go.Proofs.YteghhlfmcjmnoaaGreatDoor
set_option linter.unusedSimpArgs false
namespace Go.Proofs.YteghhlfmcjmnoaaGreatDoor
namespace Rd
variable {ws : List Wd}
def Made (t : Tr) (st st' : St) : Prop := Wf t ∧ cnt t + st.nodes ≤ st'.nodes
def MadeL (l t : Tr) (st st' : St) : Prop := Wf t ∧ cnt t + st.nodes ≤ st'.nodes + cnt l
theorem val_ok {x : Wd} (h : x.text.size ≤ 9) : numOk (valTo x.text x.text.size) := ⟨valTo_lo _ _, valTo_bd _ _ h⟩
theorem zero_ok : numOk 0 := ⟨by decide, by decide⟩
theorem term_wf (hws : WsOk ws) (st : St) : numOk (term ws st).1 ∧ (term ws st).2.nodes = st.nodes := by
  unfold term
  cases h1 : ((wordAt ws st.next).kind == 1) with
  | false => exact ⟨zero_ok, rfl⟩
  | true =>
    have := val_ok (hws st.next (beq_iff_eq.1 h1))
    cases valTo (wordAt ws st.next).text (wordAt ws st.next).text.size == 0 with
    | true => exact ⟨zero_ok, rfl⟩
    | false => exact ⟨this, rfl⟩
theorem terms_wf (hws : WsOk ws) : ∀ f c ts st ts' st', terms ws f c ts st = some (some ts', st') → (∀ x ∈ ts, numOk x) → ts.length = c → c + f = 9 → (∀ x ∈ ts', numOk x) ∧ c + 1 ≤ ts'.length ∧ ts'.length ≤ 9 ∧ st'.nodes = st.nodes := by
  intro f
  induction f with
  | zero => intro c ts st ts' st' h; cases h
  | succ f ih =>
    intro c ts st ts' st' h hts hc hf
    obtain ⟨n1, n2⟩ := term_wf hws st
    rw [terms] at h
    have happ : ∀ x ∈ ts ++ [(term ws st).1], numOk x := by
      intro x hx
      rcases List.mem_append.1 hx with hx | hx
      · exact hts x hx
      · rw [List.mem_singleton.1 hx]; exact n1
    cases h0 : (st.okB && (term ws st).2.okB) with
    | false => rw [h0] at h; cases h
    | true =>
      rw [h0] at h
      simp only [cond_true] at h
      cases h1 : ((term ws st).1 == 0) with
      | true => rw [h1] at h; simp at h
      | false =>
        rw [h1] at h
        simp only [cond_false] at h
        cases h2 : tk ws (term ws st).2 ⟨#[93]⟩ with
        | true =>
          rw [h2] at h
          simp only [cond_true, Option.some.injEq, Prod.mk.injEq] at h
          obtain ⟨rfl, rfl⟩ := h
          exact ⟨happ, by simp; omega, by simp; omega, n2⟩
        | false =>
          rw [h2] at h
          simp only [cond_false] at h
          cases h3 : (c == 8) with
          | true => rw [h3] at h; simp at h
          | false =>
            rw [h3] at h
            simp only [cond_false] at h
            cases h4 : tk ws (term ws st).2 ⟨#[44]⟩ with
            | false => rw [h4] at h; simp at h
            | true =>
              rw [h4] at h
              simp only [cond_true] at h
              obtain ⟨a1, a2, a3, a4⟩ := ih _ _ _ _ _ h happ (by simp; omega) (by omega)
              exact ⟨a1, by omega, a3, a4.trans n2⟩
theorem continued_wf (hws : WsOk ws) {st st' : St} {t : Tr} (h : continued ws st = some (some t, st')) : Made t st st' := by
  unfold continued at h
  cases h0 : (decide (st.next < 900) && st.okB) with
  | false => rw [h0] at h; cases h
  | true =>
    rw [h0] at h
    simp only [cond_true] at h
    cases h1 : tk ws st ⟨#[91]⟩ with
    | false => rw [h1] at h; simp at h
    | true =>
      rw [h1] at h
      simp only [cond_true] at h
      cases h2 : ((wordAt ws st.adv.next).kind == 1) with
      | false => rw [h2] at h; simp at h
      | true =>
        rw [h2] at h
        simp only [cond_true] at h
        cases h3 : tk ws st.adv.adv ⟨#[59]⟩ with
        | false => rw [h3] at h; simp at h
        | true =>
          rw [h3] at h
          simp only [cond_true] at h
          cases h4 : terms ws 8 1 [valTo (wordAt ws st.adv.next).text (wordAt ws st.adv.next).text.size] st.adv.adv.adv with
          | none => rw [h4] at h; cases h
          | some y =>
            obtain ⟨r, s1⟩ := y
            rw [h4] at h
            cases r with
            | none => simp [cfOf] at h
            | some ts =>
              simp only [cfOf] at h
              cases h5 : s1.okB with
              | false => rw [h5] at h; cases h
              | true =>
                rw [h5] at h
                simp only [cond_true, Option.some.injEq, Prod.mk.injEq] at h
                obtain ⟨rfl, rfl⟩ := h
                obtain ⟨a1, a2, a3, a4⟩ := terms_wf hws _ _ _ _ _ _ h4 (by intro x hx; rw [List.mem_singleton.1 hx]; exact val_ok (hws _ (beq_iff_eq.1 h2))) rfl rfl
                have e : st.adv.adv.adv.nodes = st.nodes := rfl
                refine ⟨Or.inr (Or.inr (Or.inl ⟨rfl, a1, by simp only; omega, a3, rfl, rfl, rfl⟩)), ?_⟩
                show 0 + 0 + 1 + st.nodes ≤ s1.nodes + 1
                omega
theorem unary_wf {k : Int} (hk : k = 5 ∨ k = 10 ∨ k = 11 ∨ k = 12 ∨ k = 13) {x : Option Tr} {st0 st st' : St} {t : Tr} (h : unaryOf k x st = some (some t, st')) (hx : ∀ y, x = some y → Made y st0 st) : Made t st0 st' := by
  cases x with
  | none => simp [unaryOf] at h
  | some y =>
    obtain ⟨a, b⟩ := hx y rfl
    simp only [unaryOf] at h
    cases h5 : st.okB with
    | false => rw [h5] at h; cases h
    | true =>
      rw [h5] at h
      simp only [cond_true, Option.some.injEq, Prod.mk.injEq] at h
      obtain ⟨rfl, rfl⟩ := h
      refine ⟨Or.inr (Or.inr (Or.inr (Or.inl ⟨hk, a, rfl, rfl⟩))), ?_⟩
      show cnt y + 0 + 1 + st0.nodes ≤ st.nodes + 1
      omega
theorem oper_wf {k : Int} (hk : k = 6 ∨ k = 7 ∨ k = 8 ∨ k = 9) {l : Tr} (hl : Wf l) {x : Option Tr} {st0 st st' : St} {t : Tr} (h : operOf k l x st = some (some t, st')) (hx : ∀ y, x = some y → Made y st0 st) : MadeL l t st0 st' := by
  cases x with
  | none => simp [operOf] at h
  | some y =>
    obtain ⟨a, b⟩ := hx y rfl
    simp only [operOf] at h
    cases h5 : st.okB with
    | false => rw [h5] at h; cases h
    | true =>
      rw [h5] at h
      simp only [cond_true, Option.some.injEq, Prod.mk.injEq] at h
      obtain ⟨rfl, rfl⟩ := h
      refine ⟨Or.inr (Or.inr (Or.inr (Or.inr ⟨hk, hl, a, rfl⟩))), ?_⟩
      show cnt l + cnt y + 1 + st0.nodes ≤ st.nodes + 1 + cnt l
      omega
structure W1 (ws : List Wd) (f : Nat) : Prop where
  sum : ∀ l st t st', parse ws f 0 l st = some (some t, st') → Made t st st'
  sumL : ∀ l st t st', Wf l → parse ws f 1 (some l) st = some (some t, st') → MadeL l t st st'
  prod : ∀ l st t st', parse ws f 2 l st = some (some t, st') → Made t st st'
  prodL : ∀ l st t st', Wf l → parse ws f 3 (some l) st = some (some t, st') → MadeL l t st st'
  signed : ∀ l st t st', parse ws f 4 l st = some (some t, st') → Made t st st'
  atom : ∀ l st t st', parse ws f 5 l st = some (some t, st') → Made t st st'
  br : ∀ l st t st', parse ws f 6 l st = some (some t, st') → Made t st st'
theorem round_wf {f tag b : Nat} {k : Int} (hk : k = 6 ∨ k = 7 ∨ k = 8 ∨ k = 9) {l t : Tr} {st st' : St} (hl : Wf l) (hin : ∀ t st1 st', parse ws f b none st1 = some (some t, st') → Made t st1 st') (hL : ∀ l st t st', Wf l → parse ws f tag (some l) st = some (some t, st') → MadeL l t st st')
    (hN : ∀ st t st', parse ws f tag none st ≠ some (some t, st'))
    (h : ((parse ws f b none st.adv).next fun r st2 => (operOf k l r st2).next fun l' st3 => parse ws f tag l' st3) = some (some t, st')) : MadeL l t st st' := by
  obtain ⟨r, st2, e1, h⟩ := next_some h
  obtain ⟨l', st3, e2, h⟩ := next_some h
  cases l' with
  | none => exact absurd h (hN _ _ _)
  | some l' =>
    obtain ⟨a1, a2⟩ := oper_wf hk hl (st0 := st.adv) e2 (fun y hy => hin y _ _ (by rw [← hy]; exact e1))
    obtain ⟨b1, b2⟩ := hL _ _ _ _ a1 h
    have e : st.adv.nodes = st.nodes := rfl
    exact ⟨b1, by omega⟩
theorem none1 (f : Nat) (st : St) (t : Tr) (st' : St) : parse ws f 1 none st ≠ some (some t, st') := by
  cases f <;> simp [parse]
theorem none3 (f : Nat) (st : St) (t : Tr) (st' : St) : parse ws f 3 none st ≠ some (some t, st') := by
  cases f <;> simp [parse]
theorem W1_step (hws : WsOk ws) (f : Nat) (ih : W1 ws f) : W1 ws (f + 1) := by
  constructor
  case sum =>
    intro l st t st' h
    rw [parse] at h
    obtain ⟨r, st2, e1, h⟩ := next_some h
    cases r with
    | none => exact absurd h (none1 _ _ _ _)
    | some r =>
      obtain ⟨a1, a2⟩ := ih.prod _ _ _ _ e1
      obtain ⟨b1, b2⟩ := ih.sumL _ _ _ _ a1 h
      exact ⟨b1, by omega⟩
  case sumL =>
    intro l st t st' hl h
    rw [parse] at h
    cases h0 : st.okB with
    | false => rw [h0] at h; cases h
    | true =>
      rw [h0] at h
      simp only [cond_true] at h
      cases h1 : tk ws st ⟨#[43]⟩ with
      | true =>
        rw [h1] at h
        exact round_wf (Or.inl rfl) hl (fun t st1 st' => ih.prod none st1 t st') ih.sumL (none1 f) h
      | false =>
        rw [h1] at h
        simp only [cond_false] at h
        cases h2 : tk ws st ⟨#[45]⟩ with
        | true =>
          rw [h2] at h
          exact round_wf (Or.inr (Or.inl rfl)) hl (fun t st1 st' => ih.prod none st1 t st') ih.sumL (none1 f) h
        | false =>
          rw [h2] at h
          simp only [cond_false, Option.some.injEq, Prod.mk.injEq] at h
          obtain ⟨rfl, rfl⟩ := h
          exact ⟨hl, by omega⟩
  case prod =>
    intro l st t st' h
    rw [parse] at h
    obtain ⟨r, st2, e1, h⟩ := next_some h
    cases r with
    | none => exact absurd h (none3 _ _ _ _)
    | some r =>
      obtain ⟨a1, a2⟩ := ih.signed _ _ _ _ e1
      obtain ⟨b1, b2⟩ := ih.prodL _ _ _ _ a1 h
      exact ⟨b1, by omega⟩
  case prodL =>
    intro l st t st' hl h
    rw [parse] at h
    cases h0 : st.okB with
    | false => rw [h0] at h; cases h
    | true =>
      rw [h0] at h
      simp only [cond_true] at h
      cases h1 : tk ws st ⟨#[42]⟩ with
      | true =>
        rw [h1] at h
        exact round_wf (Or.inr (Or.inr (Or.inl rfl))) hl (fun t st1 st' => ih.signed none st1 t st') ih.prodL (none3 f) h
      | false =>
        rw [h1] at h
        simp only [cond_false] at h
        cases h2 : tk ws st ⟨#[47]⟩ with
        | true =>
          rw [h2] at h
          exact round_wf (Or.inr (Or.inr (Or.inr rfl))) hl (fun t st1 st' => ih.signed none st1 t st') ih.prodL (none3 f) h
        | false =>
          rw [h2] at h
          simp only [cond_false, Option.some.injEq, Prod.mk.injEq] at h
          obtain ⟨rfl, rfl⟩ := h
          exact ⟨hl, by omega⟩
  case signed =>
    intro l st t st' h
    rw [parse] at h
    cases h0 : st.okB with
    | false => rw [h0] at h; cases h
    | true =>
      rw [h0] at h
      simp only [cond_true] at h
      cases h1 : tk ws st ⟨#[45]⟩ with
      | false =>
        rw [h1] at h
        exact ih.atom _ _ _ _ h
      | true =>
        rw [h1] at h
        simp only [cond_true] at h
        obtain ⟨x, st2, e1, h⟩ := next_some h
        cases h2 : st2.okOut with
        | false => rw [h2] at h; cases h
        | true =>
          rw [h2] at h
          simp only [cond_true] at h
          exact unary_wf (Or.inl rfl) (st0 := st) h (fun y hy => by
            obtain ⟨a, b⟩ := ih.signed _ _ _ _ (by rw [← hy]; exact e1)
            exact ⟨a, b⟩)
  case atom =>
    intro l st t st' h
    rw [parse] at h
    cases h0 : st.okB with
    | false => rw [h0] at h; cases h
    | true =>
      rw [h0] at h
      simp only [cond_true] at h
      cases h1 : ((wordAt ws st.next).kind == 1) with
      | true =>
        rw [h1] at h
        simp only [cond_true] at h
        cases h2 : st.adv.okB with
        | false => rw [h2] at h; cases h
        | true =>
          rw [h2] at h
          simp only [cond_true, Option.some.injEq, Prod.mk.injEq] at h
          obtain ⟨rfl, rfl⟩ := h
          refine ⟨Or.inl ⟨rfl, val_ok (hws _ (beq_iff_eq.1 h1)), rfl, rfl, rfl⟩, ?_⟩
          show 0 + 0 + 1 + st.nodes ≤ st.nodes + 1
          omega
      | false =>
        rw [h1] at h
        simp only [cond_false] at h
        cases h2 : ((wordAt ws st.next).kind == 2) with
        | false => rw [h2] at h; exact ih.br _ _ _ _ h
        | true =>
          rw [h2] at h
          simp only [cond_true, nameOf] at h
          have hnm : named (wordAt ws st.next).text = 0 ∨ named (wordAt ws st.next).text = 2 ∨ named (wordAt ws st.next).text = 3 ∨ named (wordAt ws st.next).text = 4 ∨ named (wordAt ws st.next).text = 10 ∨ named (wordAt ws st.next).text = 11 ∨ named (wordAt ws st.next).text = 12 ∨ named (wordAt ws st.next).text = 13 := by
            unfold named
            generalize (wordAt ws st.next).text = x
            cases isT x [112, 105] <;> cases isT x [101] <;> cases isT x [99, 102] <;> cases isT x [115, 113, 114, 116] <;> cases isT x [101, 120, 112] <;> cases isT x [108, 110, 49, 112] <;> cases isT x [97, 116, 97, 110] <;> simp
          generalize named (wordAt ws st.next).text = k at h hnm
          cases k0 : (k == 0) with
          | true => rw [k0] at h; simp at h
          | false =>
            rw [k0] at h
            simp only [cond_false] at h
            cases k2 : (k == 2 || k == 3) with
            | true =>
              rw [k2] at h
              simp only [cond_true] at h
              cases h2 : st.adv.okB with
              | false => rw [h2] at h; cases h
              | true =>
                rw [h2] at h
                simp only [cond_true, Option.some.injEq, Prod.mk.injEq] at h
                obtain ⟨rfl, rfl⟩ := h
                refine ⟨Or.inr (Or.inl ⟨by simpa using k2, rfl, rfl, rfl, rfl⟩), ?_⟩
                show 0 + 0 + 1 + st.nodes ≤ st.nodes + 1
                omega
            | false =>
              rw [k2] at h
              simp only [cond_false] at h
              cases k4 : (k == 4) with
              | true =>
                rw [k4] at h
                have := continued_wf hws h
                exact this
              | false =>
                rw [k4] at h
                simp only [cond_false] at h
                obtain ⟨x, st2, e1, h⟩ := next_some h
                simp at k0 k2 k4
                exact unary_wf (by omega) (st0 := st) h (fun y hy => by
                  obtain ⟨a, b⟩ := ih.br _ _ _ _ (by rw [← hy]; exact e1)
                  exact ⟨a, b⟩)
  case br =>
    intro l st t st' h
    rw [parse] at h
    · cases h0 : st.okB with
      | false => rw [h0] at h; cases h
      | true =>
        rw [h0] at h
        simp only [cond_true] at h
        cases h1 : tk ws st ⟨#[40]⟩ with
        | false => rw [h1] at h; simp at h
        | true =>
          rw [h1] at h
          simp only [cond_true] at h
          obtain ⟨x, st2, e1, h⟩ := next_some h
          unfold closeOf at h
          cases h2 : st2.okOut with
          | false => rw [h2] at h; cases h
          | true =>
            rw [h2] at h
            simp only [cond_true] at h
            cases x with
            | none => simp at h
            | some x =>
              simp only at h
              cases h3 : tk ws st2.out ⟨#[41]⟩ with
              | false => rw [h3] at h; simp at h
              | true =>
                rw [h3] at h
                simp only [cond_true, Option.some.injEq, Prod.mk.injEq] at h
                obtain ⟨rfl, rfl⟩ := h
                obtain ⟨a, b⟩ := ih.sum _ _ _ _ e1
                exact ⟨a, b⟩
    all_goals omega
theorem W1_all (hws : WsOk ws) : ∀ f, W1 ws f := by
  intro f
  induction f with
  | zero => constructor <;> (intros; rename_i h; cases h)
  | succ f ih => exact W1_step hws f ih
theorem read_wf3 {f : Nat} {s : ByteArray} {t : Tr} {e p : Int} (hws : WsOk (split s (s.size + 1) 0)) (h : read f s = some (some t, e, p)) : Wf t ∧ (text t).length ≤ 1000000 ∧ cnt t ≤ 40 := by
  unfold read at h
  cases h1 : decide (120 < s.size) with
  | true => rw [h1] at h; simp at h
  | false =>
    rw [h1] at h
    simp only [cond_false] at h
    split at h
    · cases h
    · simp at h
    · rename_i t' st hp
      obtain ⟨a, b⟩ := (W1_all hws f).sum _ _ _ _ hp
      cases c1 : ((wordAt (split s (s.size + 1) 0) st.next).kind == 0) with
      | false => rw [c1] at h; simp at h
      | true =>
        rw [c1] at h
        simp only [cond_true] at h
        cases c2 : (decide (12 < st.deepest) || decide (40 < st.nodes)) with
        | true => rw [c2] at h; simp at h
        | false =>
          rw [c2] at h
          simp only [cond_false, Option.some.injEq, Prod.mk.injEq] at h
          obtain ⟨rfl, _⟩ := h
          simp only [Bool.or_eq_false_iff, decide_eq_false_iff_not] at c2
          have := text_len _ a
          simp only at b
          exact ⟨a, by omega, by omega⟩
end Rd
end Go.Proofs.YteghhlfmcjmnoaaGreatDoor
