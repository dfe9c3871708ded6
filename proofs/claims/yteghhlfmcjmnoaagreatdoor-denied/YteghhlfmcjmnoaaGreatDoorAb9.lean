import Derived.Test.YteghhlfmcjmnoaaGreatDoorAb7
set_option linter.unusedSimpArgs false
set_option linter.unusedVariables false
namespace Go.Proofs.YteghhlfmcjmnoaaGreatDoor
open Go.RowKit
namespace Ab
section
variable {C : Cfg} {w0 : World} {ψ : Nat → Option (Nat × Nat)} {sp : Spec} {bodies : FuncId → Option Func} {draw : Array Oper → AS → Option (AS × List Prop)} {R : Ending → World → Prop}
def BodiesOk (C : Cfg) (bodies : FuncId → Option Func) : Prop := ∀ f fn, bodies f = some fn → C.P.funcs[f]? = some fn ∧ Enters C.P f
def DrawOk (C : Cfg) (w0 : World) (ψ : Nat → Option (Nat × Nat)) (draw : Array Oper → AS → Option (AS × List Prop)) : Prop := ∀ ops s s' p, draw ops s = some (s', p) → Holds p → ∀ φ a w (id : Nat) (Q : Exit → Act → World → Prop), Rep C w0 ψ φ s a w →
  (∀ φ' a' w', Ext C φ φ' s.nums s'.nums w w' → Rep C w0 ψ φ' s' a' w' → Q .normal a' w') → (Code.region id ops true).wp C.P Q a w
theorem inl_ok {φ : Nat → Option (Nat × Nat)} {s : AS} {a : Act} {w : World} {all : Array Oper} {o : Oper} {fn : Func} {c : Code} {vs : List AV} (hbo : BodiesOk C bodies) (h : Rep C w0 ψ φ s a w) (hi : inl C bodies all s o = some (fn, c, vs)) :
    Region.wanted o (yielded all a.tmps) = true ∧ ∃ f xs, C.P.funcs[f]? = some fn ∧ fn.body = some c ∧ (execOp a.eval o).run C.P w = .ok (.enter f xs.toArray) w ∧ All2 (relV C φ s.nums w) vs xs := by
  have hg := gd_ok (all := all) (o := o) h.tmps
  unfold inl at hi
  cases hgd : gd all s.tmps o <;> rw [hgd] at hi hg <;> simp only at hi hg <;> try cases hi
  obtain ⟨e, h1, h2⟩ := bnd hi
  cases e <;> simp only at h2 <;> try cases h2
  rename_i f vs'
  obtain ⟨fn', h3, h4⟩ := bnd h2
  obtain ⟨c', h5, h6⟩ := mpd h4
  cases h6
  obtain ⟨h7, h8⟩ := hbo f fn h3
  obtain ⟨xs, r1, r2⟩ := evalOp_ok (o := o) (evO_ok h.tmps) h.wd.box (fun _ => rfl) (fun f' vs' e => by cases e; exact h8) h1
  exact ⟨hg, f, xs, h7, h5, r1, r2⟩
theorem set_self {α : Type} : ∀ {l : List α} {i : Nat} {a : α}, l[i]? = some a → l.set i a = l
  | [], _, _, h => by simp at h
  | x :: l, 0, a, h => by simp at h; simp [h]
  | x :: l, i + 1, a, h => by simp only [List.set_cons_succ]; rw [set_self (by simpa using h)]
theorem all_val {φ : Nat → Option (Nat × Nat)} {ν : List (Int × Nat)} {w : World} : ∀ {vs : List AV} {xs : List Value}, All2 (relV C φ ν w) vs xs → All2 (relT C φ ν w) (vs.map .val) xs
  | [], [], _ => trivial
  | _ :: _, _ :: _, ⟨h1, h2⟩ => ⟨h1, all_val h2⟩
  | [], _ :: _, h => h.elim
  | _ :: _, [], h => h.elim
theorem all_und {φ : Nat → Option (Nat × Nat)} {ν : List (Int × Nat)} {w : World} : ∀ (n : Nat), All2 (relT C φ ν w) (List.replicate n .und) (List.replicate n undef)
  | 0 => trivial
  | n + 1 => ⟨rfl, all_und n⟩
theorem run_ok {stp : List (K (List AT)) → Bool} (hsp : SpecOk C w0 ψ sp) (hbo : BodiesOk C bodies) (hdr : DrawOk C w0 ψ draw) (G : AT → AS → Prop) (H : List (K (List AT)) → AS → Prop) (hH : ∀ ks s, H ks s → ∀ (kcs : List (K Act)) (φ : Nat → Option (Nat × Nat)) (a : Act) (w : World), SR C φ s.nums w ks kcs → Rep C w0 ψ φ s a w → sem C.P R kcs .normal a w) (hG : ∀ r s φ v w, G r s → relT C φ s.nums w r v → RepW C w0 ψ φ s w → R (.returned v) w) :
    ∀ (f : Nat) (ks : List (K (List AT))) (s : AS) (tr : Tr), run C sp bodies draw stp f ks s = some tr → tr.ok G H → ∀ (kcs : List (K Act)) (φ : Nat → Option (Nat × Nat)) (a : Act) (w : World), SR C φ s.nums w ks kcs → Rep C w0 ψ φ s a w → sem C.P R kcs .normal a w
  | 0, ks, s, tr, h, hok, kcs, φ, a, w, hs, hr => by simp [run] at h
  | f + 1, ks, s, tr, h, hok, kcs, φ, a, w, hs, hr => by
    have ih := run_ok (stp := stp) hsp hbo hdr G H hH hG f
    unfold run at h
    cases hst : stp ks with
    | true =>
      rw [hst] at h
      simp only [cond_true, Option.some.injEq] at h
      subst h
      exact hH ks s hok kcs φ a w hs hr
    | false =>
    rw [hst] at h
    simp only [cond_false] at h
    clear hst
    match ks, kcs, hs with
    | [], [], _ => cases h
    | .top fn :: ks, .top fn' :: kcs, hs =>
      obtain ⟨rfl, hs⟩ := hs
      simp only at h
      obtain ⟨r, h1, rfl⟩ := mpd h
      obtain ⟨x, x1, x2⟩ := resA_ok hr h1
      exact ⟨hr.defers, x, x1, hG r s φ x w hok x2 hr.wd⟩
    | .fr fn dst tm :: ks, .fr fn' dst' b :: kcs, hs =>
      obtain ⟨rfl, rfl, hd, htm, hs⟩ := hs
      simp only at h
      obtain ⟨r, h1, h2⟩ := bnd h
      obtain ⟨x, x1, x2⟩ := resA_ok hr h1
      refine ⟨hr.defers, x, x1, ?_⟩
      exact ih ks _ tr h2 hok kcs φ _ w hs ⟨hr.wd, by rw [put_defers]; exact hd, putT_ok htm dst' x2⟩
    | .blk i :: ks, .blk i' :: kcs, hs =>
      obtain ⟨rfl, hs⟩ := hs
      simp only at h
      exact ih ks s tr h hok kcs φ a w hs hr
    | .lp b 0 :: ks, _, _ => cases h
    | .lp b (n + 1) :: ks, .lp b' n' :: kcs, hs =>
      obtain ⟨rfl, rfl, hs⟩ := hs
      simp only at h
      have := ih _ s tr h hok (.code b' :: .lp b' n :: kcs) φ a w ⟨rfl, rfl, rfl, hs⟩ hr
      exact this
    | .ops all [] :: ks, .ops all' r' :: kcs, hs =>
      obtain ⟨rfl, rfl, hs⟩ := hs
      simp only at h
      exact ih ks s tr h hok kcs φ a w hs hr
    | .ops all (i :: rest) :: ks, .ops all' r' :: kcs, hs =>
      obtain ⟨rfl, rfl, hs⟩ := hs
      simp only at h
      obtain ⟨o, h1, h2⟩ := bnd h
      cases hsp' : splitOn all' s.tmps o with
      | some dt =>
        obtain ⟨d, t⟩ := dt
        rw [hsp'] at h2
        simp only at h2
        obtain ⟨t1, h3, h4⟩ := bnd h2
        obtain ⟨t2, h5, rfl⟩ := mpd h4
        have htm : s.tmps[d]? = some (.val (.one (.sbool t))) := by
          unfold splitOn at hsp'
          obtain ⟨⟨g, want⟩, _, q2⟩ := bnd hsp'
          obtain ⟨d', _, q4⟩ := bnd q2
          split at q4
          · rename_i t' e; cases q4; exact e
          · cases q4
        have hset : ∀ b, t = b → All2 (relT C φ s.nums w) (s.tmps.set d (.val (.one (.bool b)))) a.tmps.toList := by
          rintro b rfl
          obtain ⟨v, v1, v2⟩ := hr.tmps.at htm
          have := hr.tmps.set d (a := .val (.one (.bool t))) (b := v) v2
          rwa [set_self v1] at this
        cases t with
        | true => exact ih _ _ t1 h3 (hok.1 rfl) (.ops all' (i :: rest) :: kcs) φ a w ⟨rfl, rfl, hs⟩ ⟨hr.wd, hr.defers, hset true rfl⟩
        | false => exact ih _ _ t2 h5 (hok.2 rfl) (.ops all' (i :: rest) :: kcs) φ a w ⟨rfl, rfl, hs⟩ ⟨hr.wd, hr.defers, hset false rfl⟩
      | none =>
      rw [hsp'] at h2
      simp only at h2
      show wpOps C.P all' (sem C.P R kcs) (i :: rest) a w
      rw [wpOps_cons]
      cases hst : stepA C sp all' s o with
      | some sp' =>
        obtain ⟨s', p⟩ := sp'
        rw [hst] at h2
        simp only at h2
        obtain ⟨tr', h3, rfl⟩ := mpd h2
        refine step_ok hsp h1 hr hst (wrap_ok hok).1 ?_
        intro φ' a' w' hx hr'
        exact ih _ s' tr' h3 (wrap_ok hok).2 (.ops all' rest :: kcs) φ' a' w' ⟨rfl, rfl, hs.ext hx⟩ hr'
      | none =>
        rw [hst] at h2
        simp only at h2
        cases hin : inl C bodies all' s o with
        | none => rw [hin] at h2; cases h2
        | some x =>
          obtain ⟨fn, c, vs⟩ := x
          rw [hin] at h2
          simp only at h2
          obtain ⟨hw, g, xs, g1, g2, g3, g4⟩ := inl_ok hbo hr hin
          unfold wpOp
          simp only [h1]
          rw [if_pos hw]
          refine Or.inl ?_
          unfold Oper.wp
          rw [g3]
          show Calls C.P g xs.toArray w _
          have key := ih _ _ tr h2 hok (.code c :: .fr fn o.dst a :: .ops all' rest :: kcs) φ { tmps := xs.toArray ++ Array.replicate (fn.ntmps - xs.toArray.size) undef, defers := [] } w ⟨rfl, rfl, rfl, hr.defers, hr.tmps, rfl, rfl, hs⟩
            ⟨hr.wd, rfl, by
              have hl := g4.len
              simp only [Array.toList_append, Array.toList_replicate, List.size_toArray]
              rw [← hl]
              exact (all_val g4).append (all_und _)⟩
          refine (calls_of_wp g1 g2 key).mono ?_
          intro e w' he
          cases e with
          | returned v => exact he
          | panicked ch => exact he.elim
          | outgrown => exact he.elim
    | .code c :: ks, .code c' :: kcs, hs =>
      obtain ⟨rfl, hs⟩ := hs
      show c'.wp C.P (sem C.P R kcs) a w
      cases c' with
      | skip => simp only at h; exact wp_skip (ih ks s tr h hok kcs φ a w hs hr)
      | seq x y => simp only at h; exact wp_seq (ih _ s tr h hok (.code x :: .code y :: kcs) φ a w ⟨rfl, rfl, hs⟩ hr)
      | block id b => simp only at h; exact wp_block (ih _ s tr h hok (.code b :: .blk id :: kcs) φ a w ⟨rfl, rfl, hs⟩ hr)
      | loop b => simp only at h; exact wp_loop_rounds f (ih _ s tr h hok (.lp b f :: kcs) φ a w ⟨rfl, rfl, hs⟩ hr)
      | exit id =>
        simp only at h
        obtain ⟨ks', h1, h2⟩ := bnd h
        obtain ⟨kcs', g1, g2⟩ := SR.dropExit (R := R) (a := a) (w' := w) hs h1
        exact wp_exit (g2 (ih ks' s tr h2 hok kcs' φ a w g1 hr))
      | ret =>
        simp only at h
        obtain ⟨g1, g2⟩ := SR.dropRet (R := R) (a := a) (w' := w) hs
        have := ih _ s tr h hok _ φ a w g1 hr
        refine wp_ret (g2 ?_)
        have key : ∀ l : List (K Act), sem C.P R (dropRet l) .normal a w → sem C.P R (dropRet l) .ret a w := by
          intro l
          induction l with
          | nil => exact fun h => h
          | cons x l ih => cases x <;> first | exact ih | exact fun h => h
        exact key kcs this
      | cond x y z =>
        simp only at h
        obtain ⟨cc, h1, h2⟩ := bnd h
        have hx := evO_ok hr.tmps x
        rw [one_of h1] at hx
        cases cc <;> simp only at h2 <;> try cases h2
        case bool t =>
          have hx : a.eval x = .bool t := hx
          have := ih _ s tr h2 hok (.code (bif t then y else z) :: kcs) φ a w ⟨rfl, hs⟩ hr
          refine wp_cond hx ?_
          cases t <;> exact this
        case sbool t =>
          have hx : a.eval x = .bool t := hx
          obtain ⟨t1, h3, h4⟩ := bnd h2
          obtain ⟨t2, h5, rfl⟩ := mpd h4
          exact wp_cond_split hx (fun e => ih _ s t1 h3 (hok.1 e) (.code y :: kcs) φ a w ⟨rfl, hs⟩ hr) (fun e => ih _ s t2 h5 (hok.2 e) (.code z :: kcs) φ a w ⟨rfl, hs⟩ hr)
      | region id ops dr =>
        cases dr with
        | false => simp only at h; exact wp_region (ih _ s tr h hok (.ops ops (List.range ops.size) :: kcs) φ a w ⟨rfl, rfl, hs⟩ hr)
        | true =>
          simp only at h
          obtain ⟨⟨s', p⟩, h1, h2⟩ := bnd h
          obtain ⟨tr', h3, rfl⟩ := mpd h2
          refine hdr ops s s' p h1 (wrap_ok hok).1 φ a w id _ hr ?_
          intro φ' a' w' hx hr'
          exact ih ks s' tr' h3 (wrap_ok hok).2 kcs φ' a' w' (hs.ext hx) hr'
      | _ => cases h
theorem engine (hsp : SpecOk C w0 ψ sp) (hbo : BodiesOk C bodies) (hdr : DrawOk C w0 ψ draw) {f : FuncId} {fn : Func} {c : Code} (hf : C.P.funcs[f]? = some fn) (hb : fn.body = some c) {args : List Value} {vs : List AV} {φ : Nat → Option (Nat × Nat)} {s : AS}
    (hs : s.tmps = vs.map .val ++ List.replicate (fn.ntmps - vs.length) .und) (hv : All2 (relV C φ s.nums w0) vs args) (hw : RepW C w0 ψ φ s w0)
    (n : Nat) {stp : List (K (List AT)) → Bool} {tr : Tr} (ht : run C sp bodies draw stp n [.code c, .top fn] s = some tr) (G : AT → AS → Prop) (H : List (K (List AT)) → AS → Prop) (hH : ∀ ks s, H ks s → ∀ (kcs : List (K Act)) (φ : Nat → Option (Nat × Nat)) (a : Act) (w : World), SR C φ s.nums w ks kcs → Rep C w0 ψ φ s a w → sem C.P R kcs .normal a w) (hok : tr.ok G H) (hG : ∀ r s φ v w, G r s → relT C φ s.nums w r v → RepW C w0 ψ φ s w → R (.returned v) w) : Calls C.P f args.toArray w0 R := by
  refine calls_of_wp hf hb ?_
  have hl := hv.len
  exact run_ok hsp hbo hdr G H hH hG n _ s tr ht hok [.code c, .top fn] φ _ w0 ⟨rfl, rfl, trivial⟩ ⟨hw, rfl, by
    rw [hs]
    simp only [Array.toList_append, Array.toList_replicate, List.size_toArray]
    rw [← hl]
    exact (all_val hv).append (all_und _)⟩
end
end Ab
end Go.Proofs.YteghhlfmcjmnoaaGreatDoor
set_option linter.unusedSimpArgs false
set_option linter.unusedVariables false
namespace Go.Proofs.YteghhlfmcjmnoaaGreatDoor
open Go.RowKit
namespace Ab
structure Ent where
  res : AT
  new : Option Box
  sto : Option (Nat × List AC)
  app : Option Nat
def entEff (bt : List TypeId) (sp : Spec) (xb bx : Nat → Option Box) (ν : List (Int × Nat)) (id : Nat) : Eff → Option (Ent × List (Int × Nat) × List Prop)
  | .val r p => some (⟨r, none, none, none⟩, [], p)
  | .new cs ty sl => some (⟨.val (.one (newC id sl)), some ⟨cs, ty, true, sl.isSome, sl.isSome⟩, none, none⟩, [], [])
  | .app old cs ty len size => bif bt.contains ty then some (⟨.val (.one (.slc id 0 len size)), some ⟨cs, ty, true, true, true⟩, none, old⟩, [], []) else none
  | .sto b cs => (bx b).bind fun B => bif bt.contains B.ty then some (⟨.und, none, some (b, cs), none⟩, [], []) else none
  | .call f vs => (sp f false ν id xb vs).bind fun
      | (ν', r, p, none) => some (⟨r, none, none, none⟩, ν', p)
      | (ν', r, p, some B) => some (⟨r, some B, none, none⟩, ν', p)
def entCond (c : Bool) (sp : Spec) (xb : Nat → Option Box) (ν : List (Int × Nat)) (id : Nat) : Eff → Option (Ent × List (Int × Nat) × List Prop)
  | .val (.val v) p => some (⟨.cnd c v, none, none, none⟩, [], condP c p)
  | .call f vs => (sp f false ν id xb vs).bind fun
      | (ν', .val v, p, none) => some (⟨.cnd c v, none, none, none⟩, ν', condP c p)
      | _ => none
  | _ => none
def uncs : List AT → Option (List AV × List Bool)
  | [] => some ([], [])
  | .val v :: r => (uncs r).map fun p => (v :: p.1, p.2)
  | .cnd c v :: r => (uncs r).map fun p => (v :: p.1, c :: p.2)
  | _ :: _ => none
def entCall (c : Bool) (sp : Spec) (xb : Nat → Option Box) (ν : List (Int × Nat)) (id : Nat) (ev : Operand → AT) : Op → Option (Ent × List (Int × Nat) × List Prop)
  | .call { callee := .value (.func f), args := args, .. } => (uncs (args.toList.map ev)).bind fun p => (sp f false ν id xb p.1).bind fun
      | (ν', .val v, q, none) => some (⟨.cnd c v, none, none, none⟩, ν', condP c (q ++ p.2.map fun d => d = true))
      | _ => none
  | _ => none
def orElse {α : Type} (x y : Option α) : Option α := match x with | some a => some a | none => y
def entA (C : Cfg) (sp : Spec) (xb : Nat → Option Box) (all : Array Oper) (tm : List AT) (bx : Nat → Option Box) (ν : List (Int × Nat)) (id : Nat) (o : Oper) : Option (Ent × List (Int × Nat) × List Prop) :=
  match gd all tm o with
  | .yes => (evalOp C.P (evO tm) bx o.op).bind (entEff C.bt sp xb bx ν id)
  | .no => some (⟨.und, none, none, none⟩, [], [])
  | .cond c => orElse ((evalOp C.P (evO tm) bx o.op).bind (entCond c sp xb ν id)) (entCall c sp xb ν id (evO tm) o.op)
  | .bad => none
def effB (id : Nat) (e : Ent) (bx : Nat → Option Box) : Nat → Option Box :=
  match e.new with
  | some B => appB bx id B e.app
  | none => match e.sto with
    | some (b, cs) => match bx b with
      | some B => setB bx b { B with cs := cs }
      | none => bx
    | none => bx
def effL (id : Nat) (e : Ent) (l : List (Nat × Box)) : List (Nat × Box) :=
  match e.new with
  | some B => (match e.app with
    | none => (id, B) :: l
    | some b => match look l b with
      | some _ => putTip ((id, B) :: l) b
      | none => (id, B) :: l)
  | none => match e.sto with
    | some (b, cs) => putBox l b cs
    | none => l
section
variable {C : Cfg} {w0 : World} {ψ : Nat → Option (Nat × Nat)} {sp : Spec}
def unc : AT → AT
  | .cnd c v => bif c then .val v else .cnd c v
  | t => t
theorem unc_rel {φ : Nat → Option (Nat × Nat)} {ν : List (Int × Nat)} {w : World} {t : AT} {x : Value} (h : relT C φ ν w t x) : relT C φ ν w (unc t) x := by
  cases t with
  | cnd c v =>
    cases c with
    | true => simpa [unc, relT] using h
    | false => exact h
  | _ => exact h
theorem uncs_ok : ∀ {ts : List AT} {vs : List AV} {cs : List Bool}, uncs ts = some (vs, cs) → (∀ d ∈ cs, d = true) → asVs (ts.map unc) = some vs
  | [], vs, cs, h, _ => by simp [uncs] at h; rw [h.1]; rfl
  | .val v :: r, vs, cs, h, hc => by
    simp only [uncs] at h
    obtain ⟨p, h1, h2⟩ := mpd h
    cases h2
    simp only [List.map_cons, unc, asVs, uncs_ok h1 hc, Option.map_some]
  | .cnd c v :: r, vs, cs, h, hc => by
    simp only [uncs] at h
    obtain ⟨p, h1, h2⟩ := mpd h
    cases h2
    have e : c = true := hc c (by simp)
    subst e
    simp only [List.map_cons, unc, cond_true, asVs, uncs_ok h1 (fun d hd => hc d (by simp [hd])), Option.map_some]
  | .top :: _, _, _, h, _ => by simp [uncs] at h
  | .und :: _, _, _, h, _ => by simp [uncs] at h
  | .tup _ :: _, _, _, h, _ => by simp [uncs] at h
theorem entCall_open {id : Nat} {c : Bool} {xb : Nat → Option Box} {ν ν' : List (Int × Nat)} {ev : Operand → AT} {op : Op} {e : Ent} {p : List Prop} (h : entCall c sp xb ν id ev op = some (e, ν', p)) : ∃ f args ts vs cs ν1 v q, op = .call { callee := .value (.func f), args := args, argTypes := ts } ∧ uncs (args.toList.map ev) = some (vs, cs) ∧ sp f false ν id xb vs = some (ν1, .val v, q, none) ∧ e = ⟨.cnd c v, none, none, none⟩ ∧ ν' = ν1 ∧ p = condP c (q ++ cs.map fun d => d = true) := by
  unfold entCall at h
  split at h
  · rename_i f args ts
    obtain ⟨⟨vs, cs⟩, h1, h2⟩ := bnd h
    obtain ⟨⟨ν1, r, q, nbx⟩, h3, h4⟩ := bnd h2
    cases r <;> cases nbx <;> simp only at h4 <;> try cases h4
    exact ⟨f, args, ts, vs, cs, _, _, _, rfl, h1, h3, rfl, rfl, rfl⟩
  · cases h
theorem ent_ok (hsp : SpecOk C w0 ψ sp) {φ : Nat → Option (Nat × Nat)} {tm : List AT} {xb bx : Nat → Option Box} {nb : Nat → Prop} {id i : Nat} {ν μ ν' : List (Int × Nat)} {dirty : List Nat} {a : Act} {w : World} {all : Array Oper} {o : Oper} {e : Ent} {p : List Prop} {Q : Exit → Act → World → Prop} {K : Act → World → Prop}
    (ho : all[i]? = some o) (h : RepF C w0 ψ φ bx nb μ dirty w) (hd : a.defers = []) (ht : All2 (relT C φ μ w) tm a.tmps.toList) (he : entA C sp xb all tm bx ν id o = some (e, ν', p)) (hp : Holds p) (hxb : ∀ b B, xb b = some B → bx b = some B) (hμ : ∀ (i : Nat) (x : Int × Nat), (ν ++ ν')[i]? = some x → μ[i]? = some x)
    (hnb : nb id) (hdirty : ∀ b cs, e.sto = some (b, cs) → b ∈ dirty)
    (hK : ∀ φ' a' w', RepF C w0 ψ φ' (effB id e bx) (fun b => nb b ∧ b ≠ id) μ dirty w' → a'.defers = [] → All2 (relT C φ' μ w') (putT tm o.dst e.res) a'.tmps.toList → Ext C φ φ' μ μ w w' → K a' w') : wpOp C.P all Q i K a w := by
  unfold wpOp
  simp only [ho]
  have hg := gd_ok (all := all) (o := o) ht
  have hfew : RepF C w0 ψ φ bx (fun b => nb b ∧ b ≠ id) μ dirty w := h.fewer fun _ hb => hb.1
  have skip : ∀ r, e = ⟨r, none, none, none⟩ → relT C φ μ w r undef → K (a.put o.dst undef) w := by
    rintro r rfl hr
    exact hK φ _ w hfew (by rw [put_defers]; exact hd) (putT_ok ht o.dst hr) (Ext.refl _ _ _)
  have go : ∀ (ev : Operand → AT), (∀ x, relT C φ μ w (ev x) (a.eval x)) → ∀ (f : Eff) (e' : Ent) (p : List Prop), Holds p → evalOp C.P ev bx o.op = some f → entEff C.bt sp xb bx ν id f = some (e', ν', p) → (e'.new = e.new ∧ e'.sto = e.sto ∧ e'.app = e.app ∧ ∀ φ w v, relT C φ μ w e'.res v → relT C φ μ w e.res v) → o.wp C.P a w K Q := by
    intro ev hev f e' p hp h1 h2 he'
    have hB : effB id e bx = effB id e' bx := by unfold effB; rw [he'.1, he'.2.1, he'.2.2.1]
    rw [hB] at hK
    unfold Oper.wp
    cases f with
    | val r q =>
      simp only [entEff, Option.some.injEq, Prod.mk.injEq] at h2
      obtain ⟨rfl, rfl, rfl⟩ := h2
      obtain ⟨v, r1, r2⟩ := evalOp_ok (o := o) hev h.box (fun _ => rfl) (fun f vs e => by cases e) h1 hp
      rw [r1]
      exact hK φ _ w hfew (by rw [put_defers]; exact hd) (putT_ok ht o.dst (he'.2.2.2 _ _ _ r2)) (Ext.refl _ _ _)
    | new cs ty sl =>
      simp only [entEff, Option.some.injEq, Prod.mk.injEq] at h2
      obtain ⟨rfl, rfl, rfl⟩ := h2
      obtain ⟨xs, r1, r2, r3⟩ := evalOp_ok (o := o) hev h.box (fun _ => rfl) (fun f vs e => by cases e) h1
      rw [r1]
      obtain ⟨k1, k2⟩ := h.new (n := id) hnb (B := ⟨cs, ty, true, sl.isSome, sl.isSome⟩) (post := []) (d := w.drawn) r2 rfl (fun h => h) (fun _ => rfl)
      rw [List.append_nil] at k1 k2
      exact hK _ _ _ k1 (by rw [put_defers]; exact hd) (putT_ok (ht.mono (relT_ext k2)) o.dst (he'.2.2.2 _ _ _ (new_rel r3))) k2
    | app old cs ty len size =>
      simp only [entEff] at h2
      cases hb : C.bt.contains ty with
      | false => rw [hb] at h2; cases h2
      | true =>
        rw [hb] at h2
        simp only [cond_true, Option.some.injEq, Prod.mk.injEq] at h2
        obtain ⟨rfl, rfl, rfl⟩ := h2
        obtain ⟨v, w', cap, r1, r2, r3, r4⟩ := evalOp_ok (o := o) hev h.box (fun _ => rfl) (fun f vs e => by cases e) h1
        rw [r1]
        obtain ⟨φ', k1, k2, k3⟩ := app_rep h (n := id) hnb r2 r3 hb r4
        exact hK φ' _ _ k1 (by rw [put_defers]; exact hd) (putT_ok (ht.mono (relT_ext k2)) o.dst (he'.2.2.2 _ _ _ k3)) k2
    | sto b cs =>
      simp only [entEff] at h2
      obtain ⟨B, g1, g2⟩ := bnd h2
      cases hb : C.bt.contains B.ty with
      | false => rw [hb] at g2; cases g2
      | true =>
        rw [hb] at g2
        simp only [cond_true, Option.some.injEq, Prod.mk.injEq] at g2
        obtain ⟨rfl, rfl, rfl⟩ := g2
        obtain ⟨B', k, oo, w', pre, ys, post, zs, m1, mr, m2, m3, m4, m5, m6, m7, m8, m9⟩ := evalOp_ok (o := o) hev h.box (fun _ => rfl) (fun f vs e => by cases e) h1
        rw [g1] at m1
        cases m1
        rw [m3]
        obtain ⟨k1, k2⟩ := h.sto (dirty' := dirty) g1 mr m2 m4 m5 m6 m7 m8 m9 hb (fun _ hx => hx) (Or.inr (hdirty b cs (by rw [← he'.2.1])))
        have e2 : effB id ⟨.und, none, some (b, cs), none⟩ bx = setB bx b { B with cs := cs } := by simp only [effB, g1]
        rw [← e2] at k1
        exact hK _ _ _ (k1.fewer fun _ hb => hb.1) (by rw [put_defers]; exact hd) (putT_ok (ht.mono (relT_ext k2)) o.dst (he'.2.2.2 _ _ _ rfl)) k2
    | call f vs =>
      simp only [entEff] at h2
      obtain ⟨⟨ν1, r, q, nbx⟩, g1, g2⟩ := bnd h2
      cases nbx with
      | some B =>
        simp only [Option.some.injEq, Prod.mk.injEq] at g2
        obtain ⟨rfl, rfl, rfl⟩ := g2
        obtain ⟨hen, hc⟩ := hsp f false ν id xb vs ν1 r q (some B) g1
        obtain ⟨xs, r1, r2⟩ := evalOp_ok (o := o) hev h.box (fun _ => rfl) (fun f' vs' e => by cases e; exact hen) h1
        rw [r1]
        refine (hc hp μ hμ φ w xs h.base (fun e => by cases e) h.on (fun b B e => h.box b B (hxb b B e)) r2).mono ?_
        rintro e w' ⟨v, rfl, hb, b1, b2, k, o', pre, ys, post, m1, m2, m3, m4, m5, m6⟩
        obtain ⟨k1, k2⟩ := h.got (n := id) hnb hb (fun _ _ h => h) m1 m2 m3 m4 b1 b2 m6
        exact hK _ _ w' k1 (by rw [put_defers]; exact hd) (putT_ok (ht.mono (relT_ext k2)) o.dst (he'.2.2.2 _ _ _ m5)) k2
      | none =>
      simp only [Option.some.injEq, Prod.mk.injEq] at g2
      obtain ⟨rfl, rfl, rfl⟩ := g2
      obtain ⟨hen, hc⟩ := hsp f false ν id xb vs ν1 r q none g1
      obtain ⟨xs, r1, r2⟩ := evalOp_ok (o := o) hev h.box (fun _ => rfl) (fun f' vs' e => by cases e; exact hen) h1
      rw [r1]
      refine (hc hp μ hμ φ w xs h.base (fun e => by cases e) h.on (fun b B e => h.box b B (hxb b B e)) r2).mono ?_
      rintro e w' ⟨v, rfl, hb, hv⟩
      have hx : Ext C φ φ μ μ w w' := ⟨fun _ _ h => h, fun _ _ h => h, On.below hb⟩
      exact hK φ _ w' (hfew.later hb μ (fun _ _ h => h)) (by rw [put_defers]; exact hd) (putT_ok (ht.mono (relT_ext hx)) o.dst (he'.2.2.2 _ _ _ hv)) hx
  unfold entA at he
  cases hgd : gd all tm o with
  | yes =>
    rw [hgd] at hg he
    simp only at hg he
    obtain ⟨f, h1, h2⟩ := bnd he
    rw [if_pos hg]
    exact Or.inl (go _ (evO_ok ht) f e p hp h1 h2 ⟨rfl, rfl, rfl, fun _ _ _ h => h⟩)
  | no =>
    rw [hgd] at hg he
    simp only [Option.some.injEq, Prod.mk.injEq] at hg he
    obtain ⟨rfl, rfl, rfl⟩ := he
    rw [if_neg (by simp [hg])]
    exact skip _ rfl rfl
  | cond c =>
    rw [hgd] at hg he
    simp only at hg he
    rw [hg]
    have two : ∀ v, e = ⟨.cnd c v, none, none, none⟩ → (c = true → o.wp C.P a w K Q) → if c = true then o.wp C.P a w K Q ∨ (o.asks C.P a w ∧ LetsOut Q) else K (a.put o.dst undef) w := by
      intro v hv hw
      cases c with
      | true => simp only [if_true]; exact Or.inl (hw rfl)
      | false => simp only [Bool.false_eq_true, if_false]; exact skip _ hv (by simp [relT])
    cases hx : (evalOp C.P (evO tm) bx o.op).bind (entCond c sp xb ν id) with
    | none =>
      rw [hx] at he
      simp only [orElse] at he
      obtain ⟨f, args, ts, vs, cs, ν1, v, q, ho', hu, g1, rfl, rfl, rfl⟩ := entCall_open he
      refine two v rfl fun hc => ?_
      subst hc
      have hp' := condP_ok hp rfl
      have hcs : ∀ d ∈ cs, d = true := fun d hd => hp' (d = true) (List.mem_append_right _ (List.mem_map.2 ⟨d, hd, rfl⟩))
      refine go (fun x => unc (evO tm x)) (fun x => unc_rel (evO_ok ht x)) (.call f vs) ⟨.val v, none, none, none⟩ q (fun y hy => hp' y (List.mem_append_left _ hy)) ?_ (by simp [entEff, g1]) ⟨rfl, rfl, rfl, fun φ w x hx => by simpa [relT] using hx⟩
      rw [ho']
      simp only [evalOp]
      have := uncs_ok hu hcs
      rw [List.map_map] at this
      rw [show (fun x => unc (evO tm x)) = (unc ∘ evO tm) from rfl, this]
      rfl
    | some y =>
    rw [hx] at he
    simp only [orElse, Option.some.injEq] at he
    subst he
    obtain ⟨f, h1, h2⟩ := bnd hx
    cases f with
    | val r q =>
      cases r with
      | val v =>
        simp only [entCond, Option.some.injEq, Prod.mk.injEq] at h2
        obtain ⟨rfl, rfl, rfl⟩ := h2
        refine two v rfl fun hc => ?_
        subst hc
        have hp' := condP_ok hp rfl
        exact go _ (evO_ok ht) (.val (.val v) q) ⟨.val v, none, none, none⟩ q hp' h1 rfl ⟨rfl, rfl, rfl, fun φ w x hx => by simpa [relT] using hx⟩
      | _ => simp [entCond] at h2
    | call f vs =>
      simp only [entCond] at h2
      obtain ⟨⟨ν1, r, q, nbx⟩, g1, g2⟩ := bnd h2
      cases r with
      | val v =>
        cases nbx with
        | some B => simp at g2
        | none =>
        simp only [Option.some.injEq, Prod.mk.injEq] at g2
        obtain ⟨rfl, rfl, rfl⟩ := g2
        refine two v rfl fun hc => ?_
        subst hc
        have hp' := condP_ok hp rfl
        exact go _ (evO_ok ht) (.call f vs) ⟨.val v, none, none, none⟩ q hp' h1 (by simp [entEff, g1]) ⟨rfl, rfl, rfl, fun φ w x hx => by simpa [relT] using hx⟩
      | _ => simp at g2
    | _ => simp [entCond] at h2
  | bad => rw [hgd] at he; cases he
end
end Ab
end Go.Proofs.YteghhlfmcjmnoaaGreatDoor
