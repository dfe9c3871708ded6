import Derived.Test.YteghhlfmcjmnoaaGreatDoorAb11
import Derived.WalkKit
set_option linter.unusedSimpArgs false
set_option linter.unusedVariables false
namespace Go.Proofs.YteghhlfmcjmnoaaGreatDoor
open Go.RowKit
namespace Ab
def maskOf (acc : List Nat) (o : Oper) : Nat := o.after.toList.foldl (fun m e => bif Region.binds .any e then m ||| 2 ^ e.on ||| acc.getD e.on 0 else m) 0
def masks : List Nat → List Oper → List Nat
  | acc, [] => acc
  | acc, o :: r => masks (acc ++ [maskOf acc o]) r
theorem masks_pre : ∀ (os : List Oper) (acc : List Nat), ∃ r, masks acc os = acc ++ r ∧ r.length = os.length
  | [], acc => ⟨[], by simp [masks], rfl⟩
  | o :: os, acc => by
    obtain ⟨r, h1, h2⟩ := masks_pre os (acc ++ [maskOf acc o])
    exact ⟨maskOf acc o :: r, by unfold masks; rw [h1]; simp, by simp [h2]⟩
theorem masks_at : ∀ (os : List Oper) (acc : List Nat) (j : Nat) (o : Oper), os[j]? = some o → (masks acc os)[acc.length + j]? = some (maskOf ((masks acc os).take (acc.length + j)) o)
  | o' :: os, acc, 0, o, h => by
    simp at h
    subst h
    obtain ⟨r, h1, _⟩ := masks_pre os (acc ++ [maskOf acc o'])
    unfold masks
    rw [h1]
    simp
  | o' :: os, acc, j + 1, o, h => by
    have := masks_at os (acc ++ [maskOf acc o']) j o (by simpa using h)
    unfold masks
    rw [show acc.length + (j + 1) = (acc ++ [maskOf acc o']).length + j by simp; omega]
    exact this
  | [], acc, j, o, h => by simp at h
theorem maskOf_bit {acc : List Nat} {o : Oper} {i : Nat} (h : (maskOf acc o).testBit i = true) : ∃ e ∈ o.after.toList, Region.binds .any e = true ∧ (e.on = i ∨ (acc.getD e.on 0).testBit i = true) := by
  unfold maskOf at h
  have key : ∀ (l : List Edge) (m : Nat), (l.foldl (fun m e => bif Region.binds .any e then m ||| 2 ^ e.on ||| acc.getD e.on 0 else m) m).testBit i = true → m.testBit i = true ∨ ∃ e ∈ l, Region.binds .any e = true ∧ (e.on = i ∨ (acc.getD e.on 0).testBit i = true) := by
    intro l
    induction l with
    | nil => exact fun m h => Or.inl h
    | cons e l ih =>
      intro m h
      simp only [List.foldl_cons] at h
      rcases ih _ h with h | ⟨e', h1, h2⟩
      · cases hb : Region.binds .any e with
        | false => rw [hb] at h; exact Or.inl h
        | true =>
          rw [hb] at h
          simp only [cond_true, Nat.testBit_or, Bool.or_eq_true, Nat.testBit_two_pow, decide_eq_true_eq] at h
          rcases h with (h | h) | h
          · exact Or.inl h
          · exact Or.inr ⟨e, by simp, hb, Or.inl h⟩
          · exact Or.inr ⟨e, by simp, hb, Or.inr h⟩
      · exact Or.inr ⟨e', by simp [h1], h2⟩
  rcases key _ _ h with h | h
  · simp at h
  · exact h
def Closed (ops : Array Oper) (L : Nat → Bool) : Prop := ∀ (i : Nat) (o : Oper), L i = true → ops[i]? = some o → ∀ e ∈ o.after, Region.binds .any e = true → L e.on = true
theorem before_listed {ops : Array Oper} {L : Nat → Bool} (hc : Closed ops L) : ∀ (j : Nat) (o : Oper), ops[j]? = some o → (∀ e ∈ o.after, Region.binds .any e = true → L e.on = true) → ∀ i, ((masks [] ops.toList).getD j 0).testBit i = true → L i = true := by
  intro j
  induction j using Nat.strongRecOn with
  | ind j ih =>
    intro o ho hd i hi
    have hj := (Array.getElem?_eq_some_iff.1 ho).1
    have hm := masks_at ops.toList [] j o (by simpa using ho)
    simp only [List.length_nil, Nat.zero_add] at hm
    have e1 : (masks [] ops.toList).getD j 0 = maskOf ((masks [] ops.toList).take j) o := by simp [List.getD, hm]
    rw [e1] at hi
    obtain ⟨e, h1, h2, h3⟩ := maskOf_bit hi
    have hL := hd e (by simpa using h1) h2
    rcases h3 with h3 | h3
    · rw [← h3]; exact hL
    · have hlt : e.on < j := by
        rcases Nat.lt_or_ge e.on j with h | h
        · exact h
        · have : (((masks [] ops.toList).take j).getD e.on 0) = 0 := by
            simp only [List.getD]
            rw [List.getElem?_eq_none (by rw [List.length_take]; omega)]
            rfl
          rw [this] at h3
          simp at h3
      have e2 : ((masks [] ops.toList).take j).getD e.on 0 = (masks [] ops.toList).getD e.on 0 := by simp [List.getD, List.getElem?_take_of_lt hlt]
      rw [e2] at h3
      have ho' : ops[e.on]? = some ops[e.on] := Array.getElem?_eq_getElem (by omega)
      exact ih e.on hlt _ ho' (fun e' he' hb' => hc e.on _ hL ho' e' he' hb') i h3
def ordB (M : List Nat) (i j : Nat) : Bool := (decide (i < j) && (M.getD j 0).testBit i) || (decide (j < i) && (M.getD i 0).testBit j)
def confB (all : Array Oper) (n0 i : Nat) (x y : Oper × Ent × List Nat) : Bool :=
  (match x.1.dst with | some t => (reads all y.1).contains t | none => false) || (touch (n0 + i) x.2.1).any fun b => y.2.2.contains b
def pairOk (all : Array Oper) (M : List Nat) (n0 i j : Nat) (x y : Oper × Ent × List Nat) : Bool :=
  (x.1.dst.isNone || x.1.dst != y.1.dst) && (!confB all n0 i x y || ordB M i j) && (!(y.2.2.contains (n0 + i)) || (decide (i < j) && (M.getD j 0).testBit i))
def chk (all : Array Oper) (n0 : Nat) (T : Tb) (M : List Nat) : Bool :=
  T.zipIdx.all fun (y, j) => !(y.2.2.contains (n0 + j)) && y.1.after.toList.all (fun e => !Region.binds .any e || decide (e.on < j)) && T.zipIdx.all fun (x, i) => i == j || pairOk all M n0 i j x y
theorem mem_zipIdx {α : Type} {l : List α} {i : Nat} {x : α} (h : l[i]? = some x) : (x, i) ∈ l.zipIdx := by
  rw [List.mem_zipIdx_iff_getElem?]
  exact h
def extO (l : List (Nat × Box)) : Nat → Option Box := fun b => (look l b).bind fun B => bif !B.own && B.ro then some B else none
theorem extO_look {l : List (Nat × Box)} {b : Nat} {B : Box} (h : extO l b = some B) : look l b = some B := by
  unfold extO at h
  obtain ⟨D, h1, h2⟩ := bnd h
  cases hc : (!D.own && D.ro) with
  | false => rw [hc] at h2; cases h2
  | true => rw [hc] at h2; cases h2; exact h1
def chkX (xb : Nat → Option Box) (n0 : Nat) (T : Tb) : Bool := T.zipIdx.all fun (y, j) => (touch (n0 + j) y.2.1).all fun b => (xb b).isNone
theorem chkX_ok {xb : Nat → Option Box} {n0 : Nat} {T : Tb} (h : chkX xb n0 T = true) {i : Nat} {x : Oper × Ent × List Nat} (hx : T[i]? = some x) {b : Nat} (hb : b ∈ touch (n0 + i) x.2.1) : xb b = none := by
  unfold chkX at h
  rw [List.all_eq_true] at h
  have := h (x, i) (mem_zipIdx hx)
  simp only [List.all_eq_true] at this
  simpa using this b hb
def drawA (C : Cfg) (sp : Spec) (ops : Array Oper) (s : AS) : Option (AS × List Prop) :=
  (tabA C sp (extO s.boxes) ops s.next 0 ops.toList s.tmps s.boxes s.nums).bind fun (T, νf, p) =>
    bif chk ops s.next T (masks [] ops.toList) && chkX (extO s.boxes) s.next T then
      some (⟨tmL (fun _ => true) 0 T s.tmps, boxesL s.next 0 T s.boxes, s.next + ops.size, νf, s.dirty ++ T.filterMap (fun x => x.2.1.sto.map (·.1))⟩, p)
    else none
theorem chk_ok {all : Array Oper} {n0 : Nat} {T : Tb} {M : List Nat} (h : chk all n0 T M = true) {j : Nat} {y : Oper × Ent × List Nat} (hy : T[j]? = some y) :
    (n0 + j) ∉ y.2.2 ∧ (∀ e ∈ y.1.after, Region.binds .any e = true → e.on < j) ∧ ∀ (i : Nat) x, T[i]? = some x → i ≠ j → pairOk all M n0 i j x y = true := by
  unfold chk at h
  rw [List.all_eq_true] at h
  have := h (y, j) (mem_zipIdx hy)
  simp only [Bool.and_eq_true, List.all_eq_true] at this
  obtain ⟨⟨h1, h2⟩, h3⟩ := this
  refine ⟨by simpa using h1, fun e he hb => ?_, fun i x hx hne => ?_⟩
  · have := h2 e (by simpa using he)
    simpa [hb] using this
  · have := h3 (x, i) (mem_zipIdx hx)
    simpa [hne] using this
theorem filter_one (L : Nat → Bool) (j : Nat) (hj : L j = false) : ∀ (l : List Nat), l.Nodup → j ∈ l → (l.filter fun i => !(L i || i == j)).length + 1 = (l.filter fun i => !L i).length
  | [], _, h => by simp at h
  | x :: l, hn, h => by
    rw [List.nodup_cons] at hn
    by_cases e : x = j
    · subst e
      have : (l.filter fun i => !(L i || i == x)) = l.filter fun i => !L i := by
        apply List.filter_congr
        intro i hi
        have : i ≠ x := fun e => hn.1 (e ▸ hi)
        simp [this]
      simp only [List.filter_cons, hj, Bool.false_or, beq_self_eq_true, Bool.not_true, Bool.false_eq_true, if_false, Bool.not_false, if_true, List.length_cons, this]
    · have hm : j ∈ l := by simpa [Ne.symm e] using h
      have ih := filter_one L j hj l hn.2 hm
      simp only [List.filter_cons, beq_eq_false_iff_ne.2 e, Bool.or_false]
      cases L x
      · simp only [Bool.not_false, if_true, List.length_cons]; omega
      · simpa using ih
section
variable {C : Cfg} {sp : Spec}
theorem drawA_any {w0 : World} {ψ : Nat → Option (Nat × Nat)} (hsp : SpecOk C w0 ψ sp) {ops : Array Oper} {s s' : AS} {p : List Prop} (hdr : drawA C sp ops s = some (s', p)) (hp : Holds p) {φ0 : Nat → Option (Nat × Nat)} {a0 : Act} {w1 : World} {Q : Exit → Act → World → Prop} (hr : Rep C w0 ψ φ0 s a0 w1)
    (hQ : ∀ φ' a' w', Ext C φ0 φ' s.nums s'.nums w1 w' → Rep C w0 ψ φ' s' a' w' → Q .normal a' w') : wpAny C.P .any ops Q ops.size (Array.replicate ops.size false) a0 { w1 with drawn := w1.drawn + 1 } := by
  unfold drawA at hdr
  obtain ⟨⟨T, νf, q⟩, ht, h2⟩ := bnd hdr
  simp only at h2
  cases hch2 : (chk ops s.next T (masks [] ops.toList) && chkX (extO s.boxes) s.next T) with
  | false => rw [hch2] at h2; cases h2
  | true =>
    rw [hch2] at h2
    rw [Bool.and_eq_true] at hch2
    obtain ⟨hch, hchX⟩ := hch2
    simp only [cond_true, Option.some.injEq, Prod.mk.injEq] at h2
    obtain ⟨rfl, rfl⟩ := h2
    have hover : Over s.boxes s.next := by
      intro b hb
      cases hl : look s.boxes b with
      | none => rfl
      | some B =>
        obtain ⟨k, o, _, _, _, hk, _⟩ := hr.wd.box _ _ hl
        rw [hr.wd.fresh b hb] at hk
        cases hk
    obtain ⟨hlen, hν, htab⟩ := tab_at ops.toList 0 s.tmps s.boxes s.nums T q ht hover hp
    simp only [Array.length_toList] at hlen
    simp only [Nat.zero_add] at htab
    generalize hdir : s.dirty ++ T.filterMap (fun x => x.2.1.sto.map (·.1)) = dirty at *
    have key : ∀ (fuel : Nat) (listed : Array Bool) (φ : Nat → Option (Nat × Nat)) (a : Act) (w : World),
        listed.size = ops.size → ((List.range ops.size).filter fun i => !listed.getD i false).length = fuel → Closed ops (fun i => listed.getD i false) →
        RepF C w0 ψ φ (bxL (fun i => listed.getD i false) s.next 0 T (look s.boxes)) (fun b => s.next ≤ b ∧ ∀ j, b = s.next + j → listed.getD j false = false) νf dirty w → a.defers = [] →
        All2 (relT C φ νf w) (tmL (fun i => listed.getD i false) 0 T s.tmps) a.tmps.toList → Ext C φ0 φ s.nums νf w1 w → wpAny C.P .any ops Q fuel listed a w := by
      intro fuel
      induction fuel with
      | zero =>
        intro listed φ a w hsz hf hcl hrep hd htm hx
        have hall : ∀ i, i < ops.size → listed.getD i false = true := by
          intro i hi
          cases hv : listed.getD i false with
          | true => rfl
          | false =>
            have : i ∈ (List.range ops.size).filter fun i => !listed.getD i false := by simp [hi, ← Array.getD_eq_getD_getElem?, hv]
            rw [List.length_eq_zero_iff.1 hf] at this
            cases this
        refine ⟨?_, ?_⟩
        · apply List.eq_nil_iff_forall_not_mem.2
          intro j hj
          obtain ⟨h1, o, h3, _⟩ := mem_ready.1 hj
          have := hall j (Array.getElem?_eq_some_iff.1 h3).1
          have hj' : j < listed.size := by rw [hsz]; exact (Array.getElem?_eq_some_iff.1 h3).1
          simp [hj'] at this h1
          rw [this] at h1
          cases h1
        · have e1 := tm_all (L := fun i => listed.getD i false) T 0 s.tmps fun i hi => by rw [Nat.zero_add]; exact hall i (by omega)
          have e2 := bx_all (L := fun i => listed.getD i false) (n0 := s.next) T 0 s.boxes hover fun i hi => by rw [Nat.zero_add]; exact hall i (by omega)
          rw [e1] at htm
          rw [e2] at hrep
          refine hQ φ a w hx ⟨hrep.fewer fun b hb => ⟨by simp only at hb; omega, fun j hj => ?_⟩, hd, htm⟩
          rw [Array.getD_eq_getD_getElem?, Array.getElem?_eq_none (by simp only at hb; omega)]
          rfl
      | succ fuel ih =>
        intro listed φ a w hsz hf hcl hrep hd htm hx
        refine ⟨fun hnil => ?_, fun j hj => ?_⟩
        · -- someone can always come
          exfalso
          have hne : ((List.range ops.size).filter fun i => !listed.getD i false) ≠ [] := by intro e; rw [e] at hf; simp at hf
          -- the least that is not listed
          have : ∃ i, i < ops.size ∧ listed.getD i false = false := by
            obtain ⟨i, r, e⟩ := List.exists_cons_of_ne_nil hne
            have hi : i ∈ (List.range ops.size).filter fun i => !listed.getD i false := by rw [e]; simp
            rw [List.mem_filter, List.mem_range] at hi
            exact ⟨i, hi.1, by simpa using hi.2⟩
          obtain ⟨i, hi1, hi2⟩ := this
          have least : ∀ n, n < ops.size → listed.getD n false = false → False := by
            intro n
            induction n using Nat.strongRecOn with
            | ind n ihn =>
              intro hn1 hn2
              have ho : ops[n]? = some ops[n] := Array.getElem?_eq_getElem hn1
              have hmem : n ∈ Region.ready .any ops listed := by
                refine mem_ready.2 ⟨?_, ops[n], ho, fun e he hb => ?_⟩
                · have hn' : n < listed.size := by rw [hsz]; exact hn1
                  simp [hn'] at hn2 ⊢
                  exact hn2
                · obtain ⟨x, hx1⟩ : ∃ x, T[n]? = some x := ⟨T[n]'(by omega), List.getElem?_eq_getElem (by omega)⟩
                  have hxo := (htab n x hx1).1
                  have hxo' : x.1 = ops[n] := by
                    rw [Array.getElem?_toList, ho] at hxo
                    exact (Option.some.inj hxo).symm
                  obtain ⟨_, c2, _⟩ := chk_ok hch hx1
                  have hlt := c2 e (by rw [hxo']; exact he) hb
                  cases hv : listed.getD e.on false with
                  | true => rfl
                  | false => exact (ihn e.on hlt (by omega) hv).elim
              rw [hnil] at hmem
              cases hmem
          exact least i hi1 hi2
        · obtain ⟨hj0, o, ho, hafter⟩ := mem_ready.1 hj
          have hjs : j < ops.size := (Array.getElem?_eq_some_iff.1 ho).1
          have hLj : listed.getD j false = false := by
            have hj' : j < listed.size := by rw [hsz]; exact hjs
            simp [hj'] at hj0 ⊢
            exact hj0
          obtain ⟨x, hx1⟩ : ∃ x, T[j]? = some x := ⟨T[j]'(by omega), List.getElem?_eq_getElem (by omega)⟩
          obtain ⟨hxo, ν1, ν2, q2, hq2, hνf, hent, hacc⟩ := htab j x hx1
          have hxo' : x.1 = o := by
            rw [Array.getElem?_toList, ho] at hxo
            exact (Option.some.inj hxo).symm
          obtain ⟨c1, c2, c3⟩ := chk_ok hch hx1
          -- who is ordered against j is listed if, and only if, it comes earlier
          have hbef : ∀ i, ((masks [] ops.toList).getD j 0).testBit i = true → listed.getD i false = true := fun i hi => before_listed hcl j o ho hafter i hi
          have haft : ∀ i y, T[i]? = some y → ((masks [] ops.toList).getD i 0).testBit j = true → listed.getD i false = false := by
            intro i y hy hi
            cases hv : listed.getD i false with
            | false => rfl
            | true =>
              have hyo := (htab i y hy).1
              rw [Array.getElem?_toList] at hyo
              have := before_listed hcl i y.1 hyo (fun e he hb => hcl i y.1 hv hyo e he hb) j hi
              rw [hLj] at this
              cases this
          have hord : ∀ i y, T[i]? = some y → ordB (masks [] ops.toList) i j = true → listed.getD i false = decide (i < j) := by
            intro i y hy h
            unfold ordB at h
            simp only [Bool.or_eq_true, Bool.and_eq_true, decide_eq_true_eq] at h
            rcases h with ⟨h1, h2⟩ | ⟨h1, h2⟩
            · rw [hbef i h2]; simp [h1]
            · rw [haft i y hy h2]; simp; omega
          have hpair := c3
          -- what j looks at
          have hread : ∀ t ∈ reads ops x.1, (tmL (fun i => decide (i < j)) 0 T s.tmps)[t]? = (tmL (fun i => listed.getD i false) 0 T s.tmps)[t]? := by
            intro t htr
            refine tm_agree T 0 _ _ rfl rfl fun i y hy hyd => ?_
            rw [Nat.zero_add]
            by_cases hij : i = j
            · subst hij; rw [hLj]; simp
            · have := hpair i y hy hij
              unfold pairOk at this
              simp only [Bool.and_eq_true] at this
              obtain ⟨⟨_, hc⟩, _⟩ := this
              have hconf : confB ops s.next i y x = true := by
                unfold confB
                rw [hyd]
                simp only [Bool.or_eq_true]
                exact Or.inl (by simpa using htr)
              rw [hconf] at hc
              simp only [Bool.not_true, Bool.false_or] at hc
              exact (hord i y hy hc).symm
          have hbox : ∀ b, b ∈ accOf (evO (tmL (fun i => decide (i < j)) 0 T s.tmps)) x.1.op → bxL (fun i => decide (i < j)) s.next 0 T (look s.boxes) b = bxL (fun i => listed.getD i false) s.next 0 T (look s.boxes) b := by
            intro b hb
            rw [← hacc] at hb
            refine bx_agree T 0 _ _ rfl fun i y hy hyt => ?_
            rw [Nat.zero_add] at hyt ⊢
            by_cases hij : i = j
            · subst hij; rw [hLj]; simp
            · have := hpair i y hy hij
              unfold pairOk at this
              simp only [Bool.and_eq_true] at this
              obtain ⟨⟨_, hc⟩, _⟩ := this
              have hconf : confB ops s.next i y x = true := by
                unfold confB
                simp only [Bool.or_eq_true, List.any_eq_true]
                exact Or.inr ⟨b, hyt, by simpa using hb⟩
              rw [hconf] at hc
              simp only [Bool.not_true, Bool.false_or] at hc
              exact (hord i y hy hc).symm
          rw [entA_congr hread hbox] at hent
          rw [hxo'] at hent
          refine ent_ok hsp (nb := fun b => s.next ≤ b ∧ ∀ i, b = s.next + i → listed.getD i false = false) (id := s.next + j) ho hrep hd htm hent hq2 (fun b B hb => (bx_miss T 0 _ fun i y hy hyt => by rw [Nat.zero_add] at hyt; rw [chkX_ok hchX hy hyt] at hb; cases hb).trans (extO_look hb)) hνf ⟨by omega, fun i hi => ?_⟩ ?_ ?_
          · have : i = j := by omega
            subst this
            exact hLj
          · intro b cs hs
            rw [← hdir]
            simp only [List.mem_append, List.mem_filterMap]
            exact Or.inr ⟨x, List.mem_of_getElem? hx1, by rw [hs]; rfl⟩
          · intro φ' a' w' hrep' hd' htm' hx'
            have hset : (fun i => (listed.setIfInBounds j true).getD i false) = fun i => listed.getD i false || i == j := by
              funext i
              by_cases hij : i = j
              · subst hij
                have hj' : i < listed.size := by rw [hsz]; exact hjs
                simp [hj', Array.getElem?_setIfInBounds]
              · rw [getD_set_ne false (Ne.symm hij)]
                simp [hij]
            refine ih (listed.setIfInBounds j true) φ' a' w' (by simp [hsz]) ?_ ?_ ?_ hd' ?_ (hx.trans hx')
            · have := filter_one (fun i => listed.getD i false) j hLj (List.range ops.size) List.nodup_range (by simp [hjs])
              have e : (fun i => !(listed.setIfInBounds j true).getD i false) = fun i => !(listed.getD i false || i == j) := by
                funext i
                exact congrArg Bool.not (congrFun hset i)
              rw [e]
              omega
            · rw [hset]
              intro i o' hi ho' e he hb
              simp only [Bool.or_eq_true, beq_iff_eq] at hi ⊢
              rcases hi with hi | hi
              · exact Or.inl (hcl i o' hi ho' e he hb)
              · subst hi
                rw [ho] at ho'
                cases ho'
                exact Or.inl (hafter e he hb)
            · rw [hset]
              have := bx_add (L := fun i => listed.getD i false) (n0 := s.next) (j := j) T 0 (look s.boxes) j x hx1 (by omega) hLj (by
                intro m y b hm hy h1 h2
                rw [Nat.zero_add] at h2 ⊢
                -- both touch b: ordered
                have hne : j ≠ m := by omega
                obtain ⟨_, ym1, ym2, ymq, _, _, yent, yacc⟩ := htab m y hy
                obtain ⟨_, xm1, xm2, xmq, _, _, xent, xacc⟩ := htab j x hx1
                rcases entTouch yent h2 with ⟨hb1, hb2⟩ | hya
                · -- y makes the box that x touches
                  rcases entTouch xent h1 with ⟨hb3, _⟩ | hxa
                  · omega
                  · have := c3 m y hy (by omega)
                    unfold pairOk at this
                    rw [← xacc] at hxa
                    rw [hb1] at hxa
                    have hcont : x.2.2.contains (s.next + m) = true := by simpa using hxa
                    simp only [Bool.and_eq_true, hcont, Bool.not_true, Bool.false_or, decide_eq_true_eq] at this
                    omega
                · have := (chk_ok hch hy).2.2 j x hx1 hne
                  unfold pairOk at this
                  simp only [Bool.and_eq_true] at this
                  obtain ⟨⟨_, hc⟩, _⟩ := this
                  have hconf : confB ops s.next j x y = true := by
                    unfold confB
                    simp only [Bool.or_eq_true, List.any_eq_true]
                    exact Or.inr ⟨b, h1, by rw [yacc]; simpa using hya⟩
                  rw [hconf] at hc
                  simp only [Bool.not_true, Bool.false_or] at hc
                  unfold ordB at hc
                  simp only [Bool.or_eq_true, Bool.and_eq_true, decide_eq_true_eq] at hc
                  rcases hc with ⟨h3, h4⟩ | ⟨h3, h4⟩
                  · exact haft m y hy h4
                  · omega)
              rw [this]
              refine hrep'.fewer fun b hb => ⟨⟨hb.1, fun i hi => ?_⟩, fun e => ?_⟩
              · have := hb.2 i hi
                by_cases hij : i = j
                · rw [hij]; exact hLj
                · rw [getD_set_ne false (Ne.symm hij)] at this
                  exact this
              · have := hb.2 j e
                have e2 := congrFun hset j
                simp only [beq_self_eq_true, Bool.or_true] at e2
                rw [e2] at this
                cases this
            · rw [hset]
              rw [tm_add hx1 hLj (fun i y t hi hy hd hyd => by
                have := hpair i y hy hi
                unfold pairOk at this
                simp only [Bool.and_eq_true] at this
                have h1 := this.1.1
                rw [hyd, hd] at h1
                simp at h1)]
              rw [hxo']
              exact htm'
    have hb : Below w1.heap.size w1 { w1 with drawn := w1.drawn + 1 } := ⟨rfl, rfl, rfl, Nat.le_refl _, fun _ _ => rfl⟩
    have hx : Ext C φ0 φ0 s.nums νf w1 { w1 with drawn := w1.drawn + 1 } := ⟨fun _ _ h => h, hν, On.below hb⟩
    have hL0 : ∀ i, (Array.replicate ops.size false).getD i false = false := by
      intro i
      rw [Array.getD_eq_getD_getElem?]
      by_cases hi : i < ops.size
      · simp [hi]
      · rw [Array.getElem?_eq_none (by simp; omega)]; rfl
    refine key ops.size (Array.replicate ops.size false) φ0 a0 _ (by simp) ?_ ?_ ?_ hr.defers ?_ hx
    · have : ((List.range ops.size).filter fun i => !(Array.replicate ops.size false).getD i false) = List.range ops.size := by
        apply List.filter_eq_self.2
        intro i _
        rw [hL0 i]
        rfl
      rw [this]
      simp
    · intro i o hi
      have hi : (Array.replicate ops.size false).getD i false = true := hi
      rw [hL0 i] at hi
      cases hi
    · rw [bx_none T 0 (look s.boxes) fun i _ => hL0 i]
      have := hr.wd.later hb νf hν
      refine ⟨this.box, this.own, this.inj, this.tip, fun b hb => this.fresh b hb.1, this.lt, fun k hk hdd => this.low k hk fun b hb' => hdd b ?_, this.on, this.base, this.exa⟩
      rw [← hdir]
      simp [hb']
    · rw [tm_none T 0 s.tmps fun i _ => hL0 i]
      exact hr.tmps.mono (relT_ext hx)
theorem drawA_ok {w0 : World} {ψ : Nat → Option (Nat × Nat)} (hm : C.P.follows .mixedOrders = true) (hsp : SpecOk C w0 ψ sp) : DrawOk C w0 ψ (drawA C sp) := by
  intro ops s s' p hdr hp φ0 a0 w1 id Q hr hQ
  exact wp_region_any hm (drawA_any hsp hdr hp hr hQ)
end
end Ab
end Go.Proofs.YteghhlfmcjmnoaaGreatDoor
set_option linter.unusedSimpArgs false
set_option linter.unusedVariables false
namespace Go.Proofs.YteghhlfmcjmnoaaGreatDoor
open Go.RowKit
namespace Ab
inductive Tok where
  | num (k : Bool) (z : Int) (n : Nat)
  | c (x : AC)
inductive VT where
  | one (c : AC)
  | agg (ts : List Tok)
inductive RV where
  | val (v : VT)
  | tup (vs : List VT)
def plainC : AC → Bool
  | .sg _ => false
  | .dg _ _ => false
  | .ptr _ _ => false
  | .slc _ _ _ _ => false
  | .dsl _ _ _ _ => false
  | _ => true
def toks (ν : List (Int × Nat)) : List AC → Option (List Tok)
  | [] => some []
  | .sg i :: .dg k j :: r => bif i == j then (ν[i]?).bind fun (z, n) => (toks ν r).map (.num k z n :: ·) else none
  | c :: r => bif plainC c then (toks ν r).map (.c c :: ·) else none
def vtOf (ν : List (Int × Nat)) : AV → Option VT
  | .one c => bif plainC c then some (.one c) else none
  | .agg cs => (toks ν cs).map .agg
section
variable (C : Cfg)
def RT (w : World) : List Tok → List Value → Prop
  | [], [] => True
  | .num k z n :: ts, x :: y :: xs => x = .bool (decide (z < 0)) ∧ C.dig k w z y ∧ C.bits n z ∧ RT w ts xs
  | .c c :: ts, x :: xs => plainC c = true ∧ relC C (fun _ => none) [] w c x ∧ RT w ts xs
  | _, _ => False
def RVT (w : World) : VT → Value → Prop
  | .one c, x => plainC c = true ∧ relC C (fun _ => none) [] w c x
  | .agg ts, x => ∃ xs : List Value, x = .agg xs.toArray ∧ RT C w ts xs
def RRV (w : World) : RV → Value → Prop
  | .val v, x => RVT C w v x
  | .tup vs, x => ∃ xs : List Value, x = .tuple xs.toArray ∧ All2 (RVT C w) vs xs
end
def cellsT : Nat → List Tok → List AC × List (Int × Nat)
  | _, [] => ([], [])
  | b, .num k z n :: r => (.sg b :: .dg k b :: (cellsT (b + 1) r).1, (z, n) :: (cellsT (b + 1) r).2)
  | b, .c x :: r => (x :: (cellsT b r).1, (cellsT b r).2)
def avOf (b : Nat) : VT → AV × List (Int × Nat)
  | .one c => (.one c, [])
  | .agg ts => (.agg (cellsT b ts).1, (cellsT b ts).2)
def avsOf : Nat → List VT → List AV × List (Int × Nat)
  | _, [] => ([], [])
  | b, v :: r => ((avOf b v).1 :: (avsOf (b + (avOf b v).2.length) r).1, (avOf b v).2 ++ (avsOf (b + (avOf b v).2.length) r).2)
def atOf (b : Nat) : RV → AT × List (Int × Nat)
  | .val v => (.val (avOf b v).1, (avOf b v).2)
  | .tup vs => (.tup (avsOf b vs).1, (avsOf b vs).2)
section
variable {C : Cfg} {φ : Nat → Option (Nat × Nat)} {w : World}
theorem plain_rel {c : AC} (h : plainC c = true) {φ φ' : Nat → Option (Nat × Nat)} {ν ν' : List (Int × Nat)} {x : Value} (r : relC C φ ν w c x) : relC C φ' ν' w c x := by
  cases c <;> first | exact r | (simp [plainC] at h)
theorem toks_ok {ν μ : List (Int × Nat)} (hμ : ∀ (i : Nat) (x : Int × Nat), ν[i]? = some x → μ[i]? = some x) : ∀ (cs : List AC) (ts : List Tok) (xs : List Value), toks ν cs = some ts → All2 (relC C φ μ w) cs xs → RT C w ts xs
  | [], ts, [], h, _ => by simp [toks] at h; subst h; trivial
  | [], _, _ :: _, _, h => h.elim
  | _ :: _, _, [], _, h => h.elim
  | [c], ts, [x], h, ⟨hx, _⟩ => by
    cases c <;> simp [toks, plainC] at h <;> subst h <;> exact ⟨rfl, plain_rel rfl hx, trivial⟩
  | [c], _, _ :: _ :: _, _, h => h.2.elim
  | _ :: _ :: _, _, [_], _, h => h.2.elim
  | c :: d :: r, ts, x :: y :: xs, h, ⟨hx, hy, hr⟩ => by
    by_cases hc : plainC c = true
    · have e : toks ν (c :: d :: r) = (toks ν (d :: r)).map (.c c :: ·) := by
        cases c <;> first | (simp [plainC] at hc; done) | rfl
      rw [e] at h
      obtain ⟨ts', h1, rfl⟩ := mpd h
      exact ⟨hc, plain_rel hc hx, toks_ok hμ (d :: r) ts' (y :: xs) h1 ⟨hy, hr⟩⟩
    · cases c <;> simp [plainC] at hc
      case sg i =>
        cases d <;> try (simp [toks, plainC] at h; done)
        case dg k j =>
          simp only [toks] at h
          cases hij : i == j with
          | false => rw [hij] at h; cases h
          | true =>
            rw [hij] at h
            simp only [cond_true] at h
            have : i = j := by simpa using hij
            subst this
            obtain ⟨⟨z, n⟩, h1, h2⟩ := bnd h
            obtain ⟨ts', h3, rfl⟩ := mpd h2
            obtain ⟨z1, n1, e1, e2⟩ := hx
            obtain ⟨z2, n2, f1, f2, f3⟩ := hy
            have := hμ _ _ h1
            rw [this] at e1 f1
            cases e1
            cases f1
            exact ⟨e2, f2, f3, toks_ok hμ r ts' xs h3 hr⟩
      all_goals simp [toks, plainC] at h
theorem vtOf_ok {ν μ : List (Int × Nat)} (hμ : ∀ (i : Nat) (x : Int × Nat), ν[i]? = some x → μ[i]? = some x) {v : AV} {t : VT} {x : Value} (h : vtOf ν v = some t) (r : relV C φ μ w v x) : RVT C w t x := by
  cases v with
  | one c =>
    simp only [vtOf] at h
    cases hc : plainC c with
    | false => rw [hc] at h; cases h
    | true => rw [hc] at h; cases h; exact ⟨hc, plain_rel hc r⟩
  | agg cs =>
    simp only [vtOf] at h
    obtain ⟨ts, h1, rfl⟩ := mpd h
    obtain ⟨xs, e, hr⟩ := r
    exact ⟨xs, e, toks_ok hμ cs ts xs h1 hr⟩
theorem vtsOf_ok {ν μ : List (Int × Nat)} (hμ : ∀ (i : Nat) (x : Int × Nat), ν[i]? = some x → μ[i]? = some x) : ∀ {vs : List AV} {ts : List VT} {xs : List Value}, mapO (vtOf ν) vs = some ts → All2 (relV C φ μ w) vs xs → All2 (RVT C w) ts xs
  | [], ts, [], h, _ => by simp [mapO] at h; subst h; trivial
  | v :: vs, ts, x :: xs, h, ⟨h1, h2⟩ => by
    unfold mapO at h
    obtain ⟨t, g1, g2⟩ := bnd h
    obtain ⟨ts', g3, rfl⟩ := mpd g2
    exact ⟨vtOf_ok hμ g1 h1, vtsOf_ok hμ g3 h2⟩
  | [], _, _ :: _, _, h => h.elim
  | _ :: _, _, [], _, h => h.elim
def At (μ : List (Int × Nat)) (b : Nat) (ns : List (Int × Nat)) : Prop := ∀ (i : Nat) (y : Int × Nat), ns[i]? = some y → μ[b + i]? = some y
theorem At.tail {μ : List (Int × Nat)} {b : Nat} {y : Int × Nat} {ns : List (Int × Nat)} (h : At μ b (y :: ns)) : At μ (b + 1) ns := fun i z hz => by rw [show b + 1 + i = b + (i + 1) by omega]; exact h (i + 1) z (by simpa using hz)
theorem At.left {μ : List (Int × Nat)} {b : Nat} {ms ns : List (Int × Nat)} (h : At μ b (ms ++ ns)) : At μ b ms := fun i z hz => h i z (app_ext _ _ i z hz)
theorem At.right {μ : List (Int × Nat)} {b : Nat} {ms ns : List (Int × Nat)} (h : At μ b (ms ++ ns)) : At μ (b + ms.length) ns := fun i z hz => by
  rw [show b + ms.length + i = b + (ms.length + i) by omega]
  exact h (ms.length + i) z (by rw [List.getElem?_append_right (by omega)]; simpa using hz)
theorem cellsT_ok {μ : List (Int × Nat)} : ∀ (ts : List Tok) (b : Nat) (xs : List Value), At μ b (cellsT b ts).2 → RT C w ts xs → All2 (relC C φ μ w) (cellsT b ts).1 xs
  | [], b, [], _, _ => trivial
  | .num k z n :: r, b, x :: y :: xs, hA, ⟨h1, h2, h3, h4⟩ => by
    simp only [cellsT] at hA ⊢
    have h0 := hA 0 (z, n) rfl
    exact ⟨⟨z, n, h0, h1⟩, ⟨z, n, h0, h2, h3⟩, cellsT_ok r (b + 1) xs hA.tail h4⟩
  | .c c :: r, b, x :: xs, hA, ⟨h1, h2, h3⟩ => by
    simp only [cellsT] at hA ⊢
    exact ⟨plain_rel h1 h2, cellsT_ok r b xs hA h3⟩
  | [], _, _ :: _, _, h => h.elim
  | .num .. :: _, _, [], _, h => h.elim
  | .num .. :: _, _, [_], _, h => h.elim
  | .c _ :: _, _, [], _, h => h.elim
theorem avOf_ok {μ : List (Int × Nat)} {v : VT} {b : Nat} {x : Value} (hA : At μ b (avOf b v).2) (h : RVT C w v x) : relV C φ μ w (avOf b v).1 x := by
  cases v with
  | one c => exact plain_rel h.1 h.2
  | agg ts => obtain ⟨xs, e, hr⟩ := h; exact ⟨xs, e, cellsT_ok ts b xs hA hr⟩
theorem avsOf_ok {μ : List (Int × Nat)} : ∀ (vs : List VT) (b : Nat) (xs : List Value), At μ b (avsOf b vs).2 → All2 (RVT C w) vs xs → All2 (relV C φ μ w) (avsOf b vs).1 xs
  | [], _, [], _, _ => trivial
  | v :: vs, b, x :: xs, hA, ⟨h1, h2⟩ => by
    simp only [avsOf] at hA ⊢
    exact ⟨avOf_ok hA.left h1, avsOf_ok vs _ xs hA.right h2⟩
  | [], _, _ :: _, _, h => h.elim
  | _ :: _, _, [], _, h => h.elim
theorem atOf_ok {μ : List (Int × Nat)} {r : RV} {b : Nat} {x : Value} (hA : At μ b (atOf b r).2) (h : RRV C w r x) : relT C φ μ w (atOf b r).1 x := by
  cases r with
  | val v => exact avOf_ok hA h
  | tup vs => obtain ⟨xs, e, hr⟩ := h; exact ⟨xs, e, avsOf_ok vs b xs hA hr⟩
end
abbrev TE := List VT → Option (RV × List Prop)
def TEok (C : Cfg) (f : FuncId) (te : TE) : Prop := Enters C.P f ∧ ∀ ts r p, te ts = some (r, p) → Holds p → ∀ w (xs : List Value), All2 (RVT C w) ts xs → Calls C.P f xs.toArray w fun e w' => ∃ v, e = .returned v ∧ RRV C w' r v ∧ Below w.heap.size w w'
def adapt (te : TE) : List (Int × Nat) → List AV → Option (List (Int × Nat) × AT × List Prop × Option Box) := fun ν vs =>
  (mapO (vtOf ν) vs).bind fun ts => (te ts).map fun (r, p) => ((atOf ν.length r).2, (atOf ν.length r).1, p, none)
def lookTE : List (FuncId × TE) → FuncId → Option TE
  | [], _ => none
  | (g, te) :: l, f => bif g == f then some te else lookTE l f
def tabSp (l : List (FuncId × TE)) : Spec := fun f _ ν _ _ vs => (lookTE l f).bind fun te => adapt te ν vs
def AllTE (C : Cfg) : List (FuncId × TE) → Prop
  | [] => True
  | (f, te) :: l => TEok C f te ∧ AllTE C l
theorem lookTE_ok {C : Cfg} {f : FuncId} {te : TE} : ∀ {l : List (FuncId × TE)}, AllTE C l → lookTE l f = some te → TEok C f te
  | [], _, h => by simp [lookTE] at h
  | (g, t) :: l, hl, h => by
    unfold lookTE at h
    cases e : g == f with
    | true =>
      rw [e] at h
      cases h
      have : g = f := by simpa using e
      subst this
      exact hl.1
    | false => rw [e] at h; exact lookTE_ok hl.2 h
theorem tabSp_ok {C : Cfg} {w0 : World} {ψ : Nat → Option (Nat × Nat)} {l : List (FuncId × TE)} (hl : AllTE C l) : SpecOk C w0 ψ (tabSp l) := by
  intro f d ν id bx vs ν' r p nbx h
  unfold tabSp at h
  obtain ⟨te, h1, h2⟩ := bnd h
  obtain ⟨hen, hok⟩ := lookTE_ok hl h1
  refine ⟨hen, fun hp μ hμ φ w xs _ _ _ _ hxs => ?_⟩
  unfold adapt at h2
  obtain ⟨ts, h3, h4⟩ := bnd h2
  obtain ⟨⟨r', p'⟩, h5, h6⟩ := mpd h4
  simp only [Prod.mk.injEq] at h6
  obtain ⟨rfl, rfl, rfl, rfl⟩ := h6
  refine (hok ts r' p' h5 hp w xs (vtsOf_ok (fun i x hx => hμ i x (app_ext _ _ i x hx)) h3 hxs)).mono ?_
  rintro e w' ⟨v, rfl, hv, hb⟩
  refine ⟨v, rfl, hb, atOf_ok ?_ hv⟩
  intro i y hy
  exact hμ _ _ (by rw [List.getElem?_append_right (by omega)]; simpa using hy)
inductive Out where
  | ret (r : RV)
  | br (t : Bool) (a b : Out)
  | need (p : List Prop) (o : Out)
def Out.ok (G : RV → Prop) : Out → Prop
  | .ret r => G r
  | .br t a b => (t = true → a.ok G) ∧ (t = false → b.ok G)
  | .need p o => Holds p ∧ o.ok G
def rvOf (ν : List (Int × Nat)) : AT → Option RV
  | .val v => (vtOf ν v).map .val
  | .tup vs => (mapO (vtOf ν) vs).map .tup
  | _ => none
def outcome : Tr → Option Out
  | .ret r s => bif clean s then (rvOf s.nums r).map .ret else none
  | .br t a b => (outcome a).bind fun x => (outcome b).map fun y => .br t x y
  | .need p t => (outcome t).map (.need p)
  | .stop _ _ => none
def start (fn : Func) (ts : List VT) : AS := ⟨(avsOf 0 ts).1.map .val ++ List.replicate (fn.ntmps - (avsOf 0 ts).1.length) .und, [], 0, (avsOf 0 ts).2, []⟩
theorem outcome_ok {G : RV → Prop} : ∀ {tr : Tr} {o : Out}, outcome tr = some o → o.ok G → tr.ok (fun r s => clean s = true ∧ ∃ r', rvOf s.nums r = some r' ∧ G r') (fun _ _ => False)
  | .ret r s, o, h, hg => by
    simp only [outcome] at h
    cases hc : clean s with
    | false => rw [hc] at h; cases h
    | true => rw [hc] at h; obtain ⟨r', h1, rfl⟩ := mpd h; exact ⟨hc, r', h1, hg⟩
  | .br t a b, o, h, hg => by
    simp only [outcome] at h
    obtain ⟨x, h1, h2⟩ := bnd h
    obtain ⟨y, h3, rfl⟩ := mpd h2
    exact ⟨fun e => outcome_ok h1 (hg.1 e), fun e => outcome_ok h3 (hg.2 e)⟩
  | .need p t, o, h, hg => by
    simp only [outcome] at h
    obtain ⟨x, h1, rfl⟩ := mpd h
    exact ⟨hg.1, outcome_ok h1 hg.2⟩
  | .stop _ _, o, h, _ => by cases h
theorem rvOf_ok {C : Cfg} {φ : Nat → Option (Nat × Nat)} {w : World} {ν : List (Int × Nat)} {r : AT} {r' : RV} {v : Value} (h : rvOf ν r = some r') (hr : relT C φ ν w r v) : RRV C w r' v := by
  cases r with
  | val x => simp only [rvOf] at h; obtain ⟨t, h1, rfl⟩ := mpd h; exact vtOf_ok (fun _ _ h => h) h1 hr
  | tup vs => simp only [rvOf] at h; obtain ⟨ts, h1, rfl⟩ := mpd h; obtain ⟨xs, e, hx⟩ := hr; exact ⟨xs, e, vtsOf_ok (fun _ _ h => h) h1 hx⟩
  | _ => simp [rvOf] at h
theorem rep_start {C : Cfg} (fn : Func) (ts : List VT) (w : World) : RepW C w (fun _ => none) (fun _ => none) (start fn ts) w :=
  ⟨fun b B hB => (by simp [start, look] at hB), fun b B k o hB => (by simp [start, look] at hB), fun b b' B B' k o o' hB => (by simp [start, look] at hB), fun b B hB => (by simp [start, look] at hB), fun b _ => rfl, fun b k o e => (by cases e), fun k _ _ => rfl, On.refl _ _, fun b x e => e, fun b B k o hB => (by simp [start, look] at hB)⟩
end Ab
end Go.Proofs.YteghhlfmcjmnoaaGreatDoor
namespace Go.Proofs.YteghhlfmcjmnoaaGreatDoor
namespace Rd
def isDig (n : Int) : Bool := decide (48 ≤ n ∧ n ≤ 57)
def isLet (n : Int) : Bool := decide (97 ≤ n ∧ n ≤ 122)
def kindOf (n : Int) : Int := bif isDig n then 1 else bif isLet n then 2 else 3
def byteAt (s : ByteArray) (k : Nat) : Int := ((s.data.toList.getD k 0).toNat : Int)
theorem byteAt_eq (s : ByteArray) (k : Nat) (h : k < s.size) : byteAt s k = (s[k].toNat : Int) := by
  unfold byteAt
  have h' : k < s.data.size := h
  have e : s.data[k]? = some (s[k]) := by rw [Array.getElem?_eq_getElem h']; rfl
  simp [List.getD, e]
def numEnd (s : ByteArray) (a : Nat) : Nat → Nat → Nat
  | 0, e => e
  | f + 1, e => bif decide (e < s.size ∧ e - a < 9) && isDig (byteAt s e) then numEnd s a f (e + 1) else e
def nameEnd (s : ByteArray) : Nat → Nat → Nat
  | 0, e => e
  | f + 1, e => bif decide (e < s.size) && (isLet (byteAt s e) || isDig (byteAt s e)) then nameEnd s f (e + 1) else e
theorem numEnd_lo (s : ByteArray) (a : Nat) : ∀ f e, e ≤ numEnd s a f e := by
  intro f
  induction f with
  | zero => intro e; exact Nat.le_refl _
  | succ f ih =>
    intro e
    unfold numEnd
    cases decide (e < s.size ∧ e - a < 9) && isDig (byteAt s e) with
    | false => exact Nat.le_refl _
    | true => exact Nat.le_trans (by omega) (ih (e + 1))
theorem numEnd_hi (s : ByteArray) (a : Nat) : ∀ f e, e ≤ s.size → numEnd s a f e ≤ s.size := by
  intro f
  induction f with
  | zero => intro e h; exact h
  | succ f ih =>
    intro e h
    unfold numEnd
    cases hc : decide (e < s.size ∧ e - a < 9) && isDig (byteAt s e) with
    | false => exact h
    | true =>
      simp only [Bool.and_eq_true, decide_eq_true_eq] at hc
      exact ih (e + 1) (by omega)
theorem nameEnd_lo (s : ByteArray) : ∀ f e, e ≤ nameEnd s f e := by
  intro f
  induction f with
  | zero => intro e; exact Nat.le_refl _
  | succ f ih =>
    intro e
    unfold nameEnd
    cases decide (e < s.size) && (isLet (byteAt s e) || isDig (byteAt s e)) with
    | false => exact Nat.le_refl _
    | true => exact Nat.le_trans (by omega) (ih (e + 1))
theorem nameEnd_hi (s : ByteArray) : ∀ f e, e ≤ s.size → nameEnd s f e ≤ s.size := by
  intro f
  induction f with
  | zero => intro e h; exact h
  | succ f ih =>
    intro e h
    unfold nameEnd
    cases hc : decide (e < s.size) && (isLet (byteAt s e) || isDig (byteAt s e)) with
    | false => exact h
    | true =>
      simp only [Bool.and_eq_true, decide_eq_true_eq] at hc
      exact ih (e + 1) (by omega)
structure Wd where
  kind : Int
  text : ByteArray
  pos : Nat
def wordEnd (s : ByteArray) (a : Nat) : Nat :=
  bif Rd.isDig (byteAt s a) then numEnd s a 9 (a + 1) else bif Rd.isLet (byteAt s a) then nameEnd s s.size (a + 1) else a + 1
def split (s : ByteArray) : Nat → Nat → List Wd
  | 0, _ => []
  | f + 1, a =>
    bif decide (a < s.size) then
      bif byteAt s a != 32 then ⟨kindOf (byteAt s a), s.extract a (wordEnd s a), a⟩ :: split s f (wordEnd s a)
      else split s f (wordEnd s a)
    else [⟨0, ⟨#[]⟩, s.size⟩]
theorem wordEnd_lo (s : ByteArray) (a : Nat) : a + 1 ≤ wordEnd s a := by
  unfold wordEnd
  cases isDig (byteAt s a) with
  | true => exact numEnd_lo s a 9 (a + 1)
  | false =>
    cases isLet (byteAt s a) with
    | true => exact nameEnd_lo s s.size (a + 1)
    | false => exact Nat.le_refl _
theorem wordEnd_hi (s : ByteArray) (a : Nat) (h : a < s.size) : wordEnd s a ≤ s.size := by
  unfold wordEnd
  cases isDig (byteAt s a) with
  | true => exact numEnd_hi s a 9 (a + 1) (by omega)
  | false =>
    cases isLet (byteAt s a) with
    | true => exact nameEnd_hi s s.size (a + 1) (by omega)
    | false => exact h
def wcells : List Wd → List Value
  | [] => []
  | w :: r => .int .i64 w.kind :: .string w.text :: .int .i64 w.pos :: wcells r
theorem wcells_append (a b : List Wd) : wcells (a ++ b) = wcells a ++ wcells b := by
  induction a with
  | nil => rfl
  | cons x r ih => simp [wcells, ih]
def valTo (t : ByteArray) : Nat → Int
  | 0 => 0
  | k + 1 => bif isDig (byteAt t k) then valTo t k * 10 + (byteAt t k - 48) else valTo t k
theorem valTo_lo (t : ByteArray) : ∀ k, 0 ≤ valTo t k := by
  intro k
  induction k with
  | zero => exact Int.le_refl _
  | succ k ih =>
    unfold valTo
    cases h : isDig (byteAt t k) with
    | false => exact ih
    | true =>
      simp [isDig] at h
      simp
      omega
theorem valTo_hi (t : ByteArray) : ∀ k, valTo t k < (10 : Int) ^ k := by
  intro k
  induction k with
  | zero => simp [valTo]
  | succ k ih =>
    unfold valTo
    rw [Int.pow_succ]
    have h0 := valTo_lo t k
    cases h : isDig (byteAt t k) with
    | false => simp; omega
    | true =>
      simp [isDig] at h
      simp
      omega
theorem valTo_bd (t : ByteArray) (k : Nat) (h : k ≤ 9) : valTo t k < 1000000000 := by
  have h1 := valTo_hi t k
  have h2 : (10 : Int) ^ k ≤ 10 ^ 9 := by
    have := Nat.pow_le_pow_right (n := 10) (by omega) h
    exact_mod_cast this
  omega
def isT (t : ByteArray) (c : List UInt8) : Bool := t.data.toList == c
theorem isT_eq (t : ByteArray) (c : List UInt8) : (t.toList == c) = isT t c := by unfold isT; rw [ByteArray.toList_eq]
def named (t : ByteArray) : Int :=
  bif isT t [112, 105] then 2 else bif isT t [101] then 3 else bif isT t [99, 102] then 4 else bif isT t [115, 113, 114, 116] then 10
  else bif isT t [101, 120, 112] then 11 else bif isT t [108, 110, 49, 112] then 12 else bif isT t [97, 116, 97, 110] then 13 else 0
structure St where
  next : Nat
  around : Nat
  deepest : Nat
  nodes : Nat
def wordAt (ws : List Wd) (n : Nat) : Wd := ws.getD n ⟨0, ⟨#[]⟩, 0⟩
theorem wcells_at : ∀ (ws : List Wd) (n : Nat), n < ws.length → (wcells ws)[n * 3]? = some (.int .i64 (wordAt ws n).kind) ∧ (wcells ws)[n * 3 + 1]? = some (.string (wordAt ws n).text) ∧ (wcells ws)[n * 3 + 2]? = some (.int .i64 (wordAt ws n).pos) := by
  intro ws
  induction ws with
  | nil => intro n h; simp at h
  | cons x r ih =>
    intro n h
    cases n with
    | zero => simp [wcells, wordAt]
    | succ n =>
      have := ih n (by simpa using h)
      simpa [wcells, wordAt, Nat.add_mul] using this
end Rd
end Go.Proofs.YteghhlfmcjmnoaaGreatDoor
