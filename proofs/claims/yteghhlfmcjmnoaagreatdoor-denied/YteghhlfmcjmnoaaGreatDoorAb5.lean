import Derived.Test.YteghhlfmcjmnoaaGreatDoorAb4
set_option linter.unusedSimpArgs false
set_option linter.unusedVariables false
namespace Go.Proofs.YteghhlfmcjmnoaaGreatDoor
open Go.RowKit
namespace Ab
structure AS where
  tmps : List AT
  boxes : List (Nat × Box)
  next : Nat
  nums : List (Int × Nat)
  dirty : List Nat
def look : List (Nat × Box) → Nat → Option Box
  | [], _ => none
  | (i, B) :: r, b => bif i == b then some B else look r b
def putBox : List (Nat × Box) → Nat → List AC → List (Nat × Box)
  | [], _, _ => []
  | (i, B) :: r, b, cs => bif i == b then (i, { B with cs := cs }) :: r else (i, B) :: putBox r b cs
theorem look_put {b b' : Nat} {cs : List AC} : ∀ {l : List (Nat × Box)}, look (putBox l b cs) b' = if b' = b then (look l b).map (fun B => { B with cs := cs }) else look l b'
  | [] => by simp [putBox, look]
  | (i, B) :: r => by
    unfold putBox
    cases h : i == b with
    | true =>
      have : i = b := by simpa using h
      subst this
      simp only [cond_true, look]
      by_cases e : i = b'
      · subst e; simp
      · have e' : (i == b') = false := by simpa using e
        have e'' : ¬ b' = i := fun x => e x.symm
        simp [e', e'']
    | false =>
      have hne : ¬ i = b := by simpa using h
      simp only [cond_false, look]
      rw [look_put]
      by_cases e : i = b'
      · subst e; simp [hne]
      · have e' : (i == b') = false := by simpa using e
        simp [e', h]
def evO (tmps : List AT) : Operand → AT
  | .tmp t => tmps.getD t .und
  | .const v => liftT v
  | .global _ => .top
  | .func f => .val (.one (.lit (.func (.func f) #[] #[])))
def setB (bx : Nat → Option Box) (b : Nat) (B : Box) : Nat → Option Box := fun x => if x = b then some B else bx x
structure RepF (C : Cfg) (w0 : World) (ψ : Nat → Option (Nat × Nat)) (φ : Nat → Option (Nat × Nat)) (bx : Nat → Option Box) (nb : Nat → Prop) (ν : List (Int × Nat)) (dirty : List Nat) (w : World) : Prop where
  box : BxOk C φ ν w bx
  own : ∀ b B k o, bx b = some B → B.own = true → φ b = some (k, o) → w0.heap.size ≤ k
  inj : ∀ b b' B B' k o o', bx b = some B → bx b' = some B' → φ b = some (k, o) → φ b' = some (k, o') → b = b' ∨ (B.ro = true ∧ B'.ro = true ∧ ¬ (B.tip = true ∧ B'.tip = true) ∧ (B.tip = true → o' + B'.cs.length ≤ o + B.cs.length))
  tip : ∀ b B, bx b = some B → B.tip = true → B.own = true ∧ B.ro = true
  fresh : ∀ b, nb b → φ b = none
  lt : ∀ b k o, φ b = some (k, o) → k < w.heap.size
  low : ∀ k, k < w0.heap.size → (∀ b ∈ dirty, ∀ o, φ b ≠ some (k, o)) → w.heap[k]? = w0.heap[k]?
  on : On C.bt w0 w
  base : ∀ b x, ψ b = some x → φ b = some x
  exa : ∀ b B k o, bx b = some B → B.own = true → B.ro = false → φ b = some (k, o) → o = 0 ∧ w.shape? k = some (B.ty, B.cs.length)
abbrev RepW (C : Cfg) (w0 : World) (ψ : Nat → Option (Nat × Nat)) (φ : Nat → Option (Nat × Nat)) (s : AS) (w : World) : Prop := RepF C w0 ψ φ (look s.boxes) (fun b => s.next ≤ b) s.nums s.dirty w
structure Rep (C : Cfg) (w0 : World) (ψ : Nat → Option (Nat × Nat)) (φ : Nat → Option (Nat × Nat)) (s : AS) (a : Act) (w : World) : Prop where
  wd : RepW C w0 ψ φ s w
  defers : a.defers = []
  tmps : All2 (relT C φ s.nums w) s.tmps a.tmps.toList
theorem evO_ok {C : Cfg} {φ : Nat → Option (Nat × Nat)} {ν : List (Int × Nat)} {w : World} {tm : List AT} {a : Act} (h : All2 (relT C φ ν w) tm a.tmps.toList) (x : Operand) : relT C φ ν w (evO tm x) (a.eval x) := by
  cases x with
  | tmp t =>
    simp only [evO, Act.eval]
    by_cases ht : t < tm.length
    · obtain ⟨v, h1, h2⟩ := h.at (List.getElem?_eq_getElem ht)
      have e : tm.getD t .und = tm[t] := by simp [List.getD, List.getElem?_eq_getElem ht]
      have e' : a.tmps.getD t undef = v := by
        rw [Array.getD_eq_getD_getElem?]
        rw [Array.getElem?_toList] at h1
        simp [h1]
      rw [e, e']
      exact h2
    · have ht' : tm.length ≤ t := Nat.le_of_not_lt ht
      have e : tm.getD t .und = .und := by simp [List.getD, List.getElem?_eq_none ht']
      have hl := h.len
      simp at hl
      have e' : a.tmps.getD t undef = undef := by
        rw [Array.getD_eq_getD_getElem?, Array.getElem?_eq_none (by rw [← hl]; exact ht')]
        rfl
      rw [e, e']
      rfl
  | const v => exact liftT_rel v
  | global g => trivial
  | func f => exact ⟨rfl, rfl⟩
def putT (tm : List AT) : Option Tmp → AT → List AT
  | some d, v => tm.set d v
  | none, _ => tm
theorem putT_ok {C : Cfg} {φ : Nat → Option (Nat × Nat)} {ν : List (Int × Nat)} {w : World} {tm : List AT} {a : Act} (h : All2 (relT C φ ν w) tm a.tmps.toList) (dst : Option Tmp) {t : AT} {v : Value} (hv : relT C φ ν w t v) : All2 (relT C φ ν w) (putT tm dst t) (a.put dst v).tmps.toList := by
  cases dst with
  | none => exact h
  | some d =>
    simp only [putT, Act.put]
    rw [Array.toList_setIfInBounds]
    exact h.set d hv
section
variable {C : Cfg} {w0 : World} {ψ : Nat → Option (Nat × Nat)} {φ : Nat → Option (Nat × Nat)} {bx : Nat → Option Box} {nb : Nat → Prop} {ν : List (Int × Nat)} {dirty : List Nat} {w w' : World}
theorem RepF.fewer {nb' : Nat → Prop} (h : RepF C w0 ψ φ bx nb ν dirty w) (hn : ∀ b, nb' b → nb b) : RepF C w0 ψ φ bx nb' ν dirty w := ⟨h.box, h.own, h.inj, h.tip, fun b hb => h.fresh b (hn b hb), h.lt, h.low, h.on, h.base, h.exa⟩
theorem RepF.later (h : RepF C w0 ψ φ bx nb ν dirty w) (hb : Below w.heap.size w w') (ν' : List (Int × Nat)) (hν : ∀ (i : Nat) (x : Int × Nat), ν[i]? = some x → ν'[i]? = some x) : RepF C w0 ψ φ bx nb ν' dirty w' := by
  have e : Ext C φ φ ν ν' w w' := ⟨fun _ _ h => h, hν, On.below hb⟩
  refine ⟨fun b B hB => ?_, h.own, h.inj, h.tip, h.fresh, fun b k o hk => Nat.lt_of_lt_of_le (h.lt b k o hk) hb.size, fun k hk hd => ?_, h.on.trans (On.below hb), h.base, fun b B k o h1 h2 h3 h4 => ⟨(h.exa b B k o h1 h2 h3 h4).1, (On.below (bt := C.bt) hb).shape (h.exa b B k o h1 h2 h3 h4).2⟩⟩
  · obtain ⟨k, o, pre, ys, post, h1, h2, h3, h4⟩ := h.box b B hB
    exact ⟨k, o, pre, ys, post, h1, by rw [hb.block k (lt_of_heap h2)]; exact h2, h3, h4.mono (relC_ext e)⟩
  · rw [hb.block k (Nat.lt_of_lt_of_le hk h.on.size)]
    exact h.low k hk hd
def upd (φ : Nat → Option (Nat × Nat)) (b : Nat) (k : Nat × Nat) : Nat → Option (Nat × Nat) := fun x => if x = b then some k else φ x
theorem upd_same (φ : Nat → Option (Nat × Nat)) (b : Nat) (k : Nat × Nat) : upd φ b k b = some k := by simp [upd]
theorem upd_ne {b x : Nat} {k : Nat × Nat} (h : x ≠ b) : upd φ b k x = φ x := by simp [upd, h]
theorem setB_same (bx : Nat → Option Box) (b : Nat) (B : Box) : setB bx b B b = some B := by simp [setB]
theorem setB_ne {b x : Nat} {B : Box} (h : x ≠ b) : setB bx b B x = bx x := by simp [setB, h]
theorem RepF.new (h : RepF C w0 ψ φ bx nb ν dirty w) {n : Nat} (hn : nb n) {B : Box} {xs post : List Value} {d : Nat} (hc : All2 (relC C φ ν w) B.cs xs) (hB : B.own = true) (ht : B.tip = true → B.ro = true) (hpo : B.ro = false → post = []) :
    RepF C w0 ψ (upd φ n (w.heap.size, 0)) (setB bx n B) (fun b => nb b ∧ b ≠ n) ν dirty { w with heap := w.heap.push (.cells (xs ++ post).toArray B.ty), drawn := d } ∧ Ext C φ (upd φ n (w.heap.size, 0)) ν ν w { w with heap := w.heap.push (.cells (xs ++ post).toArray B.ty), drawn := d } := by
  generalize hw' : ({ w with heap := w.heap.push (.cells (xs ++ post).toArray B.ty), drawn := d } : World) = w'
  have hsz : w'.heap.size = w.heap.size + 1 := by rw [← hw']; simp
  have hold : ∀ k, k < w.heap.size → w'.heap[k]? = w.heap[k]? := by
    intro k hk
    rw [← hw']
    show (w.heap.push _)[k]? = _
    rw [Array.getElem?_push, if_neg (by omega)]
  have hnew : w'.heap[w.heap.size]? = some (.cells (xs ++ post).toArray B.ty (0, 0)) := by rw [← hw']; simp
  have hon : On C.bt w w' := ⟨by rw [← hw'], by rw [← hw'], by rw [← hw'], by omega, fun k o ho => Or.inl (by rw [hold k (lt_of_heap ho)]; exact ho)⟩
  have hne : ∀ b k, φ b = some k → b ≠ n := by
    rintro b k hb rfl
    rw [h.fresh b hn] at hb
    cases hb
  have hx : Ext C φ (upd φ n (w.heap.size, 0)) ν ν w w' := ⟨fun b k hb => by rw [upd_ne (hne b k hb)]; exact hb, fun _ _ h => h, hon⟩
  refine ⟨⟨fun b B' hB' => ?_, fun b B' k o hB' ho hk => ?_, fun b b' B1 B2 k o o' h1 h2 h3 h4 => ?_, fun b B' hB' ht' => ?_, fun b hb => ?_, fun b k o hk => ?_, fun k hk hd => ?_, h.on.trans hon, fun b x e => hx.φ b x (h.base b x e), fun b B' k o hB' ho hr hk => ?_⟩, hx⟩
  · by_cases e : b = n
    · subst e
      rw [setB_same] at hB'
      cases hB'
      exact ⟨w.heap.size, 0, [], xs, post, upd_same _ _ _, by simpa using hnew, rfl, hc.mono (relC_ext hx)⟩
    · rw [setB_ne e] at hB'
      obtain ⟨k, o, pre, ys, ps, h1, h2, h3, h4⟩ := h.box b B' hB'
      exact ⟨k, o, pre, ys, ps, hx.φ b _ h1, by rw [hold k (lt_of_heap h2)]; exact h2, h3, h4.mono (relC_ext hx)⟩
  · by_cases e : b = n
    · subst e
      rw [upd_same] at hk
      cases hk
      exact h.on.size
    · rw [setB_ne e] at hB'
      rw [upd_ne e] at hk
      exact h.own b B' k o hB' ho hk
  · by_cases e : b = n
    · by_cases e2 : b' = n
      · exact Or.inl (by rw [e, e2])
      · subst e
        rw [upd_same] at h3
        rw [upd_ne e2] at h4
        cases h3
        have := h.lt b' _ _ h4
        omega
    · by_cases e2 : b' = n
      · subst e2
        rw [upd_same] at h4
        rw [upd_ne e] at h3
        cases h4
        have := h.lt b _ _ h3
        omega
      · rw [setB_ne e] at h1
        rw [setB_ne e2] at h2
        rw [upd_ne e] at h3
        rw [upd_ne e2] at h4
        exact h.inj b b' B1 B2 k o o' h1 h2 h3 h4
  · by_cases e : b = n
    · subst e
      rw [setB_same] at hB'
      cases hB'
      exact ⟨hB, ht ht'⟩
    · rw [setB_ne e] at hB'
      exact h.tip b B' hB' ht'
  · rw [upd_ne hb.2]
    exact h.fresh b hb.1
  · by_cases e : b = n
    · subst e
      rw [upd_same] at hk
      cases hk
      omega
    · rw [upd_ne e] at hk
      have := h.lt b k o hk
      omega
  · have := h.on.size
    rw [hold k (by omega)]
    exact h.low k hk fun b hb o e => hd b hb o (hx.φ b _ e)
  · by_cases e : b = n
    · subst e
      rw [setB_same] at hB'
      cases hB'
      rw [upd_same] at hk
      cases hk
      refine ⟨rfl, ?_⟩
      unfold World.shape?
      rw [hnew, hpo hr]
      simp [hc.len]
    · rw [setB_ne e] at hB'
      rw [upd_ne e] at hk
      exact ⟨(h.exa b B' k o hB' ho hr hk).1, hon.shape (h.exa b B' k o hB' ho hr hk).2⟩
theorem RepF.got (h : RepF C w0 ψ φ bx nb ν dirty w) {n k o : Nat} (hn : nb n) {B : Box} {pre xs post : List Value} {ν' : List (Int × Nat)} (hb : Below w.heap.size w w') (hν : ∀ (i : Nat) (x : Int × Nat), ν[i]? = some x → ν'[i]? = some x) (h1 : w.heap.size ≤ k) (hk : w'.heap[k]? = some (.cells (pre ++ xs ++ post).toArray B.ty (0, 0))) (hp : pre.length = o) (hc : All2 (relC C φ ν' w') B.cs xs) (hB : B.own = true) (ht : B.tip = true → B.ro = true) (hpo : B.ro = false → pre = [] ∧ post = []) :
    RepF C w0 ψ (upd φ n (k, o)) (setB bx n B) (fun b => nb b ∧ b ≠ n) ν' dirty w' ∧ Ext C φ (upd φ n (k, o)) ν ν' w w' := by
  have hl := h.later hb ν' hν
  have hne : ∀ b k, φ b = some k → b ≠ n := by
    rintro b k hb rfl
    rw [h.fresh b hn] at hb
    cases hb
  have hx0 : Ext C φ (upd φ n (k, o)) ν' ν' w' w' := ⟨fun b k hb => by rw [upd_ne (hne b k hb)]; exact hb, fun _ _ h => h, On.refl _ _⟩
  have hx : Ext C φ (upd φ n (k, o)) ν ν' w w' := ⟨hx0.φ, hν, On.below hb⟩
  have hlt := lt_of_heap hk
  refine ⟨⟨fun b B' hB' => ?_, fun b B' k' o hB' ho hk' => ?_, fun b b' B1 B2 k' o o' h1' h2' h3 h4 => ?_, fun b B' hB' ht' => ?_, fun b hb => ?_, fun b k' o hk' => ?_, fun j hj hd => ?_, hl.on, fun b x e => hx.φ b x (h.base b x e), fun b B' k' o hB' ho hr hk' => ?_⟩, hx⟩
  · by_cases e : b = n
    · subst e
      rw [setB_same] at hB'
      cases hB'
      exact ⟨k, o, pre, xs, post, upd_same _ _ _, hk, hp, hc.mono (relC_ext hx0)⟩
    · rw [setB_ne e] at hB'
      obtain ⟨j, o, pre, ys, ps, f1, f2, f3, f4⟩ := hl.box b B' hB'
      exact ⟨j, o, pre, ys, ps, hx.φ b _ f1, f2, f3, f4.mono (relC_ext hx0)⟩
  · by_cases e : b = n
    · subst e
      rw [upd_same] at hk'
      cases hk'
      exact Nat.le_trans h.on.size h1
    · rw [setB_ne e] at hB'
      rw [upd_ne e] at hk'
      exact h.own b B' k' o hB' ho hk'
  · by_cases e : b = n
    · by_cases e2 : b' = n
      · exact Or.inl (by rw [e, e2])
      · subst e
        rw [upd_same] at h3
        rw [upd_ne e2] at h4
        cases h3
        have := h.lt b' _ _ h4
        omega
    · by_cases e2 : b' = n
      · subst e2
        rw [upd_same] at h4
        rw [upd_ne e] at h3
        cases h4
        have := h.lt b _ _ h3
        omega
      · rw [setB_ne e] at h1'
        rw [setB_ne e2] at h2'
        rw [upd_ne e] at h3
        rw [upd_ne e2] at h4
        exact h.inj b b' B1 B2 k' o o' h1' h2' h3 h4
  · by_cases e : b = n
    · subst e
      rw [setB_same] at hB'
      cases hB'
      exact ⟨hB, ht ht'⟩
    · rw [setB_ne e] at hB'
      exact h.tip b B' hB' ht'
  · rw [upd_ne hb.2]
    exact h.fresh b hb.1
  · by_cases e : b = n
    · subst e
      rw [upd_same] at hk'
      cases hk'
      exact hlt
    · rw [upd_ne e] at hk'
      exact hl.lt b k' o hk'
  · exact hl.low j hj fun b hb o e => hd b hb o (hx.φ b _ e)
  · by_cases e : b = n
    · subst e
      rw [setB_same] at hB'
      cases hB'
      rw [upd_same] at hk'
      cases hk'
      obtain ⟨rfl, rfl⟩ := hpo hr
      refine ⟨hp.symm, ?_⟩
      unfold World.shape?
      rw [hk]
      simp [hc.len]
    · rw [setB_ne e] at hB'
      rw [upd_ne e] at hk'
      exact hl.exa b B' k' o hB' ho hr hk'
theorem RepF.untip (h : RepF C w0 ψ φ bx nb ν dirty w) {b : Nat} {B : Box} (hB : bx b = some B) : RepF C w0 ψ φ (setB bx b { B with tip := false }) nb ν dirty w := by
  have key : ∀ c D, setB bx b { B with tip := false } c = some D → ∃ D', bx c = some D' ∧ D'.cs = D.cs ∧ D'.ty = D.ty ∧ D'.own = D.own ∧ D'.ro = D.ro ∧ (D.tip = true → D'.tip = true) := by
    intro c D hD
    by_cases e : c = b
    · subst e
      rw [setB_same] at hD
      cases hD
      exact ⟨B, hB, rfl, rfl, rfl, rfl, fun e => by cases e⟩
    · rw [setB_ne e] at hD
      exact ⟨D, hD, rfl, rfl, rfl, rfl, fun e => e⟩
  refine ⟨fun c D hD => ?_, fun c D k o hD ho hk => ?_, fun c c' D D' k o o' h1 h2 h3 h4 => ?_, fun c D hD ht => ?_, h.fresh, h.lt, h.low, h.on, h.base, fun c D k o hD ho hr hk => ?_⟩
  · obtain ⟨D', g1, g2, g3, _⟩ := key c D hD
    obtain ⟨k, o, pre, ys, post, f1, f2, f3, f4⟩ := h.box c D' g1
    exact ⟨k, o, pre, ys, post, f1, by rw [← g3]; exact f2, f3, by rw [← g2]; exact f4⟩
  · obtain ⟨D', g1, _, _, g4, _⟩ := key c D hD
    exact h.own c D' k o g1 (by rw [g4]; exact ho) hk
  · obtain ⟨E, g1, g2, _, _, g5, g6⟩ := key c D h1
    obtain ⟨E', f1, f2, _, _, f5, f6⟩ := key c' D' h2
    rcases h.inj c c' E E' k o o' g1 f1 h3 h4 with e | ⟨i1, i2, i3, i4⟩
    · exact Or.inl e
    · exact Or.inr ⟨by rw [← g5]; exact i1, by rw [← f5]; exact i2, fun ⟨a, b⟩ => i3 ⟨g6 a, f6 b⟩, fun a => by rw [← f2, ← g2]; exact i4 (g6 a)⟩
  · obtain ⟨D', g1, _, _, g4, g5, g6⟩ := key c D hD
    obtain ⟨a1, a2⟩ := h.tip c D' g1 (g6 ht)
    exact ⟨by rw [← g4]; exact a1, by rw [← g5]; exact a2⟩
  · obtain ⟨D', g1, g2, g3, g4, g5, g6⟩ := key c D hD
    rw [← g2, ← g3]
    exact h.exa c D' k o g1 (by rw [g4]; exact ho) (by rw [g5]; exact hr) hk
theorem RepF.sto (h : RepF C w0 ψ φ bx nb ν dirty w) {b k o : Nat} {B : Box} {cs : List AC} {pre ys post zs : List Value} {dirty' : List Nat} (hB : bx b = some B) (hro : B.ro = false) (hk : φ b = some (k, o)) (hs : Stored w w' k (pre ++ zs ++ post) B.ty) (h0 : w.heap[k]? = some (.cells (pre ++ ys ++ post).toArray B.ty (0, 0))) (hp : pre.length = o) (hl : ys.length = zs.length) (hc : All2 (relC C φ ν w) cs zs) (hcl : cs.length = B.cs.length) (ht : C.bt.contains B.ty = true) (hd1 : ∀ x ∈ dirty, x ∈ dirty') (hd2 : B.own = true ∨ b ∈ dirty') :
    RepF C w0 ψ φ (setB bx b { B with cs := cs }) nb ν dirty' w' ∧ Ext C φ φ ν ν w w' := by
  have hon : On C.bt w w' := ⟨hs.os, hs.tape, hs.output, by rw [hs.size]; exact Nat.le_refl _, fun j x ho => by
    by_cases e : j = k
    · subst e
      rw [h0] at ho
      cases ho
      refine Or.inr ⟨ht, ?_⟩
      unfold World.shape?
      rw [hs.blk, h0]
      simp [hl]
    · exact Or.inl (by rw [hs.others j e]; exact ho)⟩
  have hx : Ext C φ φ ν ν w w' := ⟨fun _ _ h => h, fun _ _ h => h, hon⟩
  have htip : B.tip = false := by
    cases e : B.tip with
    | false => rfl
    | true => have := (h.tip b B hB e).2; rw [hro] at this; cases this
  have key : ∀ c D, setB bx b { B with cs := cs } c = some D → (c = b ∧ D = { B with cs := cs }) ∨ (c ≠ b ∧ bx c = some D) := by
    intro c D hD
    by_cases e : c = b
    · subst e; rw [setB_same] at hD; cases hD; exact Or.inl ⟨rfl, rfl⟩
    · rw [setB_ne e] at hD; exact Or.inr ⟨e, hD⟩
  refine ⟨⟨fun c D hD => ?_, fun c D k' o' hD ho hk' => ?_, fun c c' D D' k' o1 o2 h1 h2 h3 h4 => ?_, fun c D hD ht' => ?_, h.fresh, fun c k' o' hk' => by rw [hs.size]; exact h.lt c k' o' hk', fun j hj hd => ?_, h.on.trans hon, fun b x e => hx.φ b x (h.base b x e), fun c D k' o' hD ho hr hk' => ?_⟩, hx⟩
  · rcases key c D hD with ⟨rfl, rfl⟩ | ⟨e, hD⟩
    · exact ⟨k, o, pre, zs, post, hk, hs.blk, hp, hc.mono (relC_ext hx)⟩
    · obtain ⟨j, o', pre', ys', post', j1, j2, j3, j4⟩ := h.box c D hD
      refine ⟨j, o', pre', ys', post', j1, ?_, j3, j4.mono (relC_ext hx)⟩
      rw [hs.others j (fun e' => ?_)]
      · exact j2
      · subst e'
        rcases h.inj b c B D j o o' hB hD hk j1 with e2 | ⟨i1, _⟩
        · exact e e2.symm
        · rw [hro] at i1; cases i1
  · rcases key c D hD with ⟨rfl, rfl⟩ | ⟨e, hD⟩
    · exact h.own c B k' o' hB ho hk'
    · exact h.own c D k' o' hD ho hk'
  · rcases key c D h1 with ⟨rfl, rfl⟩ | ⟨e, g1⟩
    · rcases key c' D' h2 with ⟨rfl, rfl⟩ | ⟨e', g2⟩
      · exact Or.inl rfl
      · rcases h.inj c c' B D' k' o1 o2 hB g2 h3 h4 with e2 | ⟨i1, _⟩
        · exact Or.inl e2
        · rw [hro] at i1; cases i1
    · rcases key c' D' h2 with ⟨rfl, rfl⟩ | ⟨e', g2⟩
      · rcases h.inj c c' D B k' o1 o2 g1 hB h3 h4 with e2 | ⟨_, i1, _⟩
        · exact Or.inl e2
        · rw [hro] at i1; cases i1
      · exact h.inj c c' D D' k' o1 o2 g1 g2 h3 h4
  · rcases key c D hD with ⟨rfl, rfl⟩ | ⟨e, hD⟩
    · simp only at ht'
      rw [htip] at ht'
      cases ht'
    · exact h.tip c D hD ht'
  · have hne : j ≠ k := by
      rintro rfl
      rcases hd2 with ho | ho
      · have := h.own b B j o hB ho hk; omega
      · exact hd b ho o hk
    rw [hs.others j hne]
    exact h.low j hj fun b' hb' => hd b' (hd1 b' hb')
  · rcases key c D hD with ⟨rfl, rfl⟩ | ⟨e, hD⟩
    · obtain ⟨e1, e2⟩ := h.exa c B k' o' hB ho hr hk'
      exact ⟨e1, by simp only; rw [hcl]; exact hon.shape e2⟩
    · exact ⟨(h.exa c D k' o' hD ho hr hk').1, hon.shape (h.exa c D k' o' hD ho hr hk').2⟩
theorem RepF.place (h : RepF C w0 ψ φ bx nb ν dirty w) {n : Nat} (hn : nb n) {b k o : Nat} {B D : Box} {pre ys post new post' : List Value} (hB : bx b = some B) (htip : B.tip = true) (hk : φ b = some (k, o)) (h0 : w.heap[k]? = some (.cells (pre ++ ys ++ post).toArray B.ty (0, 0))) (hp : pre.length = o) (hy : All2 (relC C φ ν w) B.cs ys)
    (hs : Stored w w' k (pre ++ (ys ++ new) ++ post') B.ty) (hl : new.length + post'.length = post.length) (hc : All2 (relC C φ ν w) D.cs (ys ++ new)) (hD : D.ty = B.ty ∧ D.own = true ∧ D.ro = true) (ht : C.bt.contains B.ty = true) :
    RepF C w0 ψ (upd φ n (k, o)) (setB (setB bx n D) b { B with tip := false }) (fun x => nb x ∧ x ≠ n) ν dirty w' ∧ Ext C φ (upd φ n (k, o)) ν ν w w' := by
  have hbn : b ≠ n := by rintro rfl; rw [h.fresh b hn] at hk; cases hk
  have hne : ∀ c x, φ c = some x → c ≠ n := by rintro c x hc rfl; rw [h.fresh c hn] at hc; cases hc
  have hlen : (pre ++ (ys ++ new) ++ post').length = (pre ++ ys ++ post).length := by simp; omega
  have hon : On C.bt w w' := ⟨hs.os, hs.tape, hs.output, by rw [hs.size]; exact Nat.le_refl _, fun j x ho => by
    by_cases e : j = k
    · subst e
      rw [h0] at ho
      cases ho
      refine Or.inr ⟨ht, ?_⟩
      unfold World.shape?
      rw [hs.blk, h0]
      simp only [List.size_toArray]
      rw [hlen]
    · exact Or.inl (by rw [hs.others j e]; exact ho)⟩
  have hx : Ext C φ (upd φ n (k, o)) ν ν w w' := ⟨fun c x hc => by rw [upd_ne (hne c x hc)]; exact hc, fun _ _ h => h, hon⟩
  obtain ⟨ho1, ho2⟩ := h.tip b B hB htip
  have hy2 := hy.len
  have hc2 := hc.len
  -- who is there
  have key : ∀ c E, setB (setB bx n D) b { B with tip := false } c = some E → (c = b ∧ E = { B with tip := false }) ∨ (c = n ∧ c ≠ b ∧ E = D) ∨ (c ≠ b ∧ c ≠ n ∧ bx c = some E) := by
    intro c E hE
    by_cases e : c = b
    · subst e; rw [setB_same] at hE; cases hE; exact Or.inl ⟨rfl, rfl⟩
    · rw [setB_ne e] at hE
      by_cases e2 : c = n
      · subst e2; rw [setB_same] at hE; cases hE; exact Or.inr (Or.inl ⟨rfl, e, rfl⟩)
      · rw [setB_ne e2] at hE; exact Or.inr (Or.inr ⟨e, e2, hE⟩)
  -- others in this block lie ahead of its end
  have oth : ∀ c E o', c ≠ b → bx c = some E → φ c = some (k, o') → E.ro = true ∧ E.tip = false ∧ o' + E.cs.length ≤ o + B.cs.length := by
    intro c E o' hcb hE hφ
    rcases h.inj b c B E k o o' hB hE hk hφ with e | ⟨_, i2, i3, i4⟩
    · exact absurd e.symm hcb
    · refine ⟨i2, ?_, i4 htip⟩
      cases e : E.tip with
      | false => rfl
      | true => exact absurd ⟨htip, e⟩ i3
  refine ⟨⟨fun c E hE => ?_, fun c E k' o' hE ho hk' => ?_, fun c c' E E' k' o1 o2 h1 h2 h3 h4 => ?_, fun c E hE ht' => ?_, fun x hxx => ?_, fun c k' o' hk' => ?_, fun j hj hd => ?_, h.on.trans hon, fun b x e => hx.φ b x (h.base b x e), fun c E k' o' hE ho hr hk' => ?_⟩, hx⟩
  · rcases key c E hE with ⟨rfl, rfl⟩ | ⟨rfl, _, rfl⟩ | ⟨e1, e2, hE⟩
    · refine ⟨k, o, pre, ys, new ++ post', hx.φ c _ hk, ?_, hp, hy.mono (relC_ext hx)⟩
      have := hs.blk
      simpa using this
    · exact ⟨k, o, pre, ys ++ new, post', upd_same _ _ _, by rw [hD.1]; exact hs.blk, hp, hc.mono (relC_ext hx)⟩
    · obtain ⟨j, o', pre', ys', post'', j1, j2, j3, j4⟩ := h.box c E hE
      by_cases ejk : j = k
      · subst ejk
        obtain ⟨_, _, hle⟩ := oth c E o' e1 hE j1
        have hty : E.ty = B.ty := by
          rw [h0] at j2
          have := Option.some.inj j2
          injection this with e1 e2 e3
          exact e2.symm
        have hy3 := j4.len
        -- the same beginning
        have hL : pre' ++ ys' ++ post'' = pre ++ ys ++ post := by
          rw [h0] at j2
          have := Option.some.inj j2
          injection this with e1 e2 e3
          have := congrArg Array.toList e1
          simpa using this.symm
        refine ⟨j, o', pre', ys', (pre ++ (ys ++ new) ++ post').drop (o' + ys'.length), hx.φ c _ j1, ?_, j3, j4.mono (relC_ext hx)⟩
        rw [hs.blk, hty]
        congr 2
        apply Array.toList_inj.1
        simp only [List.toList_toArray]
        have t1 : (pre ++ (ys ++ new) ++ post').take (o' + ys'.length) = pre' ++ ys' := by
          have a1 : (pre ++ (ys ++ new) ++ post').take (o' + ys'.length) = (pre ++ ys ++ post).take (o' + ys'.length) := by
            have b1 : pre ++ (ys ++ new) ++ post' = (pre ++ ys) ++ (new ++ post') := by simp
            have q1 : o' + ys'.length ≤ (pre ++ ys).length := by rw [List.length_append]; omega
            rw [b1, List.take_append_of_le_length (l₁ := pre ++ ys) q1, List.take_append_of_le_length (l₁ := pre ++ ys) q1]
          rw [a1, ← hL, List.take_append_of_le_length (by simp; omega), List.take_of_length_le (by simp; omega)]
        rw [← t1]
        exact (List.take_append_drop _ _).symm
      · exact ⟨j, o', pre', ys', post'', hx.φ c _ j1, by rw [hs.others j ejk]; exact j2, j3, j4.mono (relC_ext hx)⟩
  · rcases key c E hE with ⟨rfl, rfl⟩ | ⟨rfl, _, rfl⟩ | ⟨e1, e2, hE⟩
    · rw [upd_ne hbn] at hk'
      exact h.own c B k' o' hB ho1 hk'
    · rw [upd_same] at hk'
      cases hk'
      exact h.own b B k o hB ho1 hk
    · rw [upd_ne e2] at hk'
      exact h.own c E k' o' hE ho hk'
  · rcases key c E h1 with ⟨rfl, rfl⟩ | ⟨rfl, d1, rfl⟩ | ⟨e1, e2, g1⟩
    · rw [upd_ne hbn, hk] at h3
      cases h3
      rcases key c' E' h2 with ⟨rfl, rfl⟩ | ⟨rfl, d2, rfl⟩ | ⟨f1, f2, g2⟩
      · exact Or.inl rfl
      · exact Or.inr ⟨ho2, hD.2.2, fun ⟨a, _⟩ => (by cases a), fun a => (by cases a)⟩
      · rw [upd_ne f2] at h4
        obtain ⟨i1, i2, i3⟩ := oth c' E' o2 f1 g2 h4
        exact Or.inr ⟨ho2, i1, fun ⟨a, _⟩ => (by cases a), fun a => (by cases a)⟩
    · rw [upd_same] at h3
      cases h3
      rcases key c' E' h2 with ⟨rfl, rfl⟩ | ⟨rfl, d2, rfl⟩ | ⟨f1, f2, g2⟩
      · rw [upd_ne hbn, hk] at h4
        cases h4
        refine Or.inr ⟨hD.2.2, ho2, fun ⟨_, a⟩ => (by cases a), fun _ => ?_⟩
        simp only
        simp at hc2
        omega
      · exact Or.inl rfl
      · rw [upd_ne f2] at h4
        obtain ⟨i1, i2, i3⟩ := oth c' E' o2 f1 g2 h4
        refine Or.inr ⟨hD.2.2, i1, fun ⟨_, a⟩ => (by rw [i2] at a; cases a), fun _ => ?_⟩
        simp at hc2
        omega
    · rw [upd_ne e2] at h3
      rcases key c' E' h2 with ⟨rfl, rfl⟩ | ⟨rfl, d2, rfl⟩ | ⟨f1, f2, g2⟩
      · rw [upd_ne hbn, hk] at h4
        cases h4
        obtain ⟨i1, i2, i3⟩ := oth c E o1 e1 g1 h3
        exact Or.inr ⟨i1, ho2, fun ⟨a, _⟩ => (by rw [i2] at a; cases a), fun a => (by rw [i2] at a; cases a)⟩
      · rw [upd_same] at h4
        cases h4
        obtain ⟨i1, i2, i3⟩ := oth c E o1 e1 g1 h3
        exact Or.inr ⟨i1, hD.2.2, fun ⟨a, _⟩ => (by rw [i2] at a; cases a), fun a => (by rw [i2] at a; cases a)⟩
      · rw [upd_ne f2] at h4
        exact h.inj c c' E E' k' o1 o2 g1 g2 h3 h4
  · rcases key c E hE with ⟨rfl, rfl⟩ | ⟨rfl, _, rfl⟩ | ⟨e1, e2, hE⟩
    · cases ht'
    · exact hD.2
    · exact h.tip c E hE ht'
  · rw [upd_ne hxx.2]
    exact h.fresh x hxx.1
  · rw [hs.size]
    by_cases e : c = n
    · subst e
      rw [upd_same] at hk'
      cases hk'
      exact h.lt b k o hk
    · rw [upd_ne e] at hk'
      exact h.lt c k' o' hk'
  · have := h.own b B k o hB ho1 hk
    rw [hs.others j (by omega)]
    exact h.low j hj fun c hc o' e => hd c hc o' (hx.φ c _ e)
  · rcases key c E hE with ⟨rfl, rfl⟩ | ⟨rfl, _, rfl⟩ | ⟨e1, e2, hE⟩
    · simp only at hr; rw [ho2] at hr; cases hr
    · rw [hD.2.2] at hr; cases hr
    · rw [upd_ne e2] at hk'
      exact ⟨(h.exa c E k' o' hE ho hr hk').1, hon.shape (h.exa c E k' o' hE ho hr hk').2⟩
end
def putTip : List (Nat × Box) → Nat → List (Nat × Box)
  | [], _ => []
  | (i, B) :: r, b => bif i == b then (i, { B with tip := false }) :: r else (i, B) :: putTip r b
theorem look_tip {b : Nat} {B : Box} : ∀ {l : List (Nat × Box)}, look l b = some B → look (putTip l b) = setB (look l) b { B with tip := false }
  | [], h => by simp [look] at h
  | (i, D) :: r, h => by
    funext x
    unfold putTip
    unfold look at h
    cases e : i == b with
    | true =>
      rw [e] at h
      cases h
      have : i = b := by simpa using e
      subst this
      simp only [cond_true, look, setB]
      by_cases ex : x = i
      · subst ex; simp
      · have : (i == x) = false := by simp; omega
        simp [this, ex]
    | false =>
      rw [e] at h
      simp only [cond_false] at h
      have hne : ¬ i = b := by simpa using e
      simp only [cond_false, look]
      rw [look_tip h]
      simp only [setB]
      by_cases ex : i = x
      · subst ex; simp [hne]
      · have : (i == x) = false := by simp; omega
        simp [this]
theorem look_cons (n : Nat) (B : Box) (l : List (Nat × Box)) : look ((n, B) :: l) = setB (look l) n B := by
  funext b
  unfold setB
  simp only [look]
  by_cases e : b = n
  · subst e; simp
  · have : (n == b) = false := by simp; omega
    simp [this, e]
theorem look_putBox {l : List (Nat × Box)} {b : Nat} {B : Box} (h : look l b = some B) (cs : List AC) : look (putBox l b cs) = setB (look l) b { B with cs := cs } := by
  funext x
  rw [look_put]
  unfold setB
  by_cases e : x = b
  · rw [if_pos e, if_pos e, h]; rfl
  · rw [if_neg e, if_neg e]
end Ab
end Go.Proofs.YteghhlfmcjmnoaaGreatDoor
