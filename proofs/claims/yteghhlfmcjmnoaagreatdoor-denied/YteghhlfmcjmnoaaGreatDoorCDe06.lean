import Derived.Test.YteghhlfmcjmnoaaGreatDoorCDe05
set_option linter.unusedSimpArgs false
set_option linter.unusedVariables false
set_option maxRecDepth 100000
set_option maxHeartbeats 2000000
namespace Go.Proofs.YteghhlfmcjmnoaaGreatDoor
open Go.RowKit
namespace Ab
def sgn (ν:List (Int×Nat)):List AC→List AC×List Prop
 | .bool false::.dg k i::r=>match ν[i]? with
  | some zn=>(.sg i::.dg k i::(sgn ν r).1,(0≤zn.1)::(sgn ν r).2)
  | none=>(.bool false::.dg k i::(sgn ν r).1,(sgn ν r).2)
 | c::r=>(c::(sgn ν r).1,(sgn ν r).2)
 | []=>([],[])
theorem sgn_ok {C:Cfg} {φ:Nat→Option (Nat×Nat)} {ν:List (Int×Nat)} {w:World}:∀ (cs:List AC) (xs:List Value),Holds (sgn ν cs).2→All2 (relC C φ ν w) cs xs→All2 (relC C φ ν w) (sgn ν cs).1 xs
 | [],[],_,h=>h
 | [],_::_,_,h=>h.elim
 | _::_,[],_,h=>h.elim
 | [c],[x],hp,⟨h1,h2⟩=>by
  have e:sgn ν [c]=([c],[]):=by cases c <;> (try rfl);rename_i b;cases b <;> rfl
  rw [e]
  exact ⟨h1,trivial⟩
 | [c],_::_::_,_,h=>h.2.elim
 | _::_::_,[_],_,h=>h.2.elim
 | c::d::r,x::y::xs,hp,⟨h1,h2,h3⟩=>by
  by_cases hcd:∃ k i,c=.bool false∧d=.dg k i
  ·obtain ⟨k,i,rfl,rfl⟩:=hcd
   simp only [sgn] at hp ⊢
   cases hi:ν[i]? with
   | none=>
    rw [hi] at hp
    simp only at hp ⊢
    exact ⟨h1,h2,sgn_ok r xs hp h3⟩
   | some zn=>
    rw [hi] at hp
    simp only at hp ⊢
    have hz:0≤zn.1:=hp _ (by simp)
    refine ⟨⟨zn.1,zn.2,hi,?_⟩,h2,sgn_ok r xs (fun q hq=>hp q (by simp [hq])) h3⟩
    have h1:x=.bool false:=h1
    rw [h1,decide_eq_false (by omega)]
  ·have e:sgn ν (c::d::r)=(c::(sgn ν (d::r)).1,(sgn ν (d::r)).2):=by
    cases c <;> try rfl
    rename_i b
    cases b <;> try rfl
    cases d <;> try rfl
    exact absurd ⟨_,_,rfl,rfl⟩ hcd
   rw [e] at hp ⊢
   exact ⟨h1,sgn_ok (d::r) (y::xs) hp ⟨h2,h3⟩⟩
theorem sgn_len {ν:List (Int×Nat)}:∀ (cs:List AC),(sgn ν cs).1.length=cs.length
 | []=>rfl
 | [c]=>by
  have e:sgn ν [c]=([c],[]):=by cases c <;> (try rfl);rename_i b;cases b <;> rfl
  rw [e]
 | c::d::r=>by
  by_cases hcd:∃ k i,c=.bool false∧d=.dg k i
  ·obtain ⟨k,i,rfl,rfl⟩:=hcd
   simp only [sgn]
   cases ν[i]? <;> simp [sgn_len r]
  ·have e:sgn ν (c::d::r)=(c::(sgn ν (d::r)).1,(sgn ν (d::r)).2):=by
    cases c <;> try rfl
    rename_i b
    cases b <;> try rfl
    cases d <;> try rfl
    exact absurd ⟨_,_,rfl,rfl⟩ hcd
   rw [e]
   have:=sgn_len (d::r) (ν:=ν)
   simp only [List.length_cons] at this ⊢
   omega
def sgnB (ν:List (Int×Nat)):List (Nat×Box)→List (Nat×Box)×List Prop
 | []=>([],[])
 | (b,B)::r=>((b,{ B with cs:=(sgn ν B.cs).1 })::(sgnB ν r).1,(sgn ν B.cs).2++(sgnB ν r).2)
def sgnS (s:AS):AS:={ s with boxes:=(sgnB s.nums s.boxes).1 }
theorem look_sgn {ν:List (Int×Nat)}:∀ (l:List (Nat×Box)) (b:Nat) (B':Box),look (sgnB ν l).1 b=some B'→∃ B,look l b=some B∧B'={ B with cs:=(sgn ν B.cs).1 }∧(Holds (sgnB ν l).2→Holds (sgn ν B.cs).2)
 | [],b,B',h=>by simp [sgnB,look] at h
 | (c,D)::l,b,B',h=>by
  simp only [sgnB,look] at h ⊢
  cases hc:(c==b) with
  | true=>
   rw [hc] at h
   simp only [cond_true,Option.some.injEq] at h
   exact ⟨D,by rw [cond_true],h.symm,fun hp q hq=>hp q (by simp [hq])⟩
  | false=>
   rw [hc] at h
   simp only [cond_false] at h
   obtain ⟨B,h1,h2,h3⟩:=look_sgn l b B' h
   exact ⟨B,by rw [cond_false];exact h1,h2,fun hp=>h3 fun q hq=>hp q (by simp [hq])⟩
theorem sgnS_ok {C:Cfg} {w0 w:World} {ψ φ:Nat→Option (Nat×Nat)} {s:AS} {a:Act} (hp:Holds (sgnB s.nums s.boxes).2) (hr:Rep C w0 ψ φ s a w):Rep C w0 ψ φ (sgnS s) a w:=by
 have hl:=fun b B' h=>look_sgn (ν:=s.nums) s.boxes b B' h
 refine ⟨⟨?_,?_,?_,?_,hr.wd.fresh,hr.wd.lt,hr.wd.low,hr.wd.on,hr.wd.base,?_⟩,hr.defers,hr.tmps⟩
 ·intro b B' hb
  obtain ⟨B,h1,h2,h3⟩:=hl b B' hb
  obtain ⟨k,o,pre,ys,post,k1,k2,k3,k4⟩:=hr.wd.box b B h1
  exact ⟨k,o,pre,ys,post,k1,by rw [h2];exact k2,k3,by rw [h2];exact sgn_ok _ _ (h3 hp) k4⟩
 ·intro b B' k o hb ho hk
  obtain ⟨B,h1,h2,_⟩:=hl b B' hb
  rw [h2] at ho
  exact hr.wd.own b B k o h1 ho hk
 ·intro b b' B B' k o o' hb hb' hk hk'
  obtain ⟨D,h1,h2,_⟩:=hl b B hb
  obtain ⟨D',h1',h2',_⟩:=hl b' B' hb'
  rcases hr.wd.inj b b' D D' k o o' h1 h1' hk hk' with e | ⟨e1,e2,e3,e4⟩
  ·exact Or.inl e
  ·refine Or.inr ⟨by rw [h2];exact e1,by rw [h2'];exact e2,by rw [h2,h2'];exact e3,?_⟩
   intro ht
   have ht':D.tip=true:=by rw [h2] at ht;exact ht
   have:=e4 ht'
   rw [h2,h2']
   simp only [sgn_len]
   exact this
 ·intro b B' hb ht
  obtain ⟨B,h1,h2,_⟩:=hl b B' hb
  have ht':B.tip=true:=by rw [h2] at ht;exact ht
  obtain ⟨e1,e2⟩:=hr.wd.tip b B h1 ht'
  rw [h2]
  exact ⟨e1,e2⟩
 ·intro b B' k o hb ho hro hk
  obtain ⟨B,h1,h2,_⟩:=hl b B' hb
  rw [h2] at ho hro
  obtain ⟨e1,e2⟩:=hr.wd.exa b B k o h1 ho hro hk
  refine ⟨e1,?_⟩
  rw [h2]
  simp only [sgn_len]
  exact e2
def rebN:List (Int×Nat)→List Nat→List (Int×Nat)
 | (z,_)::r,N::Ns=>(z,N)::rebN r Ns
 | l,_=>l
def rebP:List (Int×Nat)→List Nat→List Prop
 | (z,_)::r,N::Ns=>Bits N z::rebP r Ns
 | _,_=>[]
def rebS (rb:List Nat) (s:AS):AS:={ s with nums:=rebN s.nums rb }
theorem reb_at:∀ (l:List (Int×Nat)) (rb:List Nat) (i:Nat) (z:Int) (n:Nat),l[i]?=some (z,n)→Bits n z→Holds (rebP l rb)→∃ m,(rebN l rb)[i]?=some (z,m)∧Bits m z
 | [],_,i,z,n,h,_,_=>by simp at h
 | (y,k)::r,[],i,z,n,h,hb,_=>⟨n,by simpa [rebN] using h,hb⟩
 | (y,k)::r,N::Ns,0,z,n,h,hb,hp=>by
  simp at h
  obtain ⟨rfl,rfl⟩:=h
  exact ⟨N,by simp [rebN],hp _ (by simp [rebP])⟩
 | (y,k)::r,N::Ns,i+1,z,n,h,hb,hp=>by
  obtain ⟨m,h1,h2⟩:=reb_at r Ns i z n (by simpa using h) hb (fun q hq=>hp q (by simp [rebP,hq]))
  exact ⟨m,by simpa [rebN] using h1,h2⟩
theorem reb_at':∀ (l:List (Int×Nat)) (rb:List Nat) (i:Nat) (z:Int) (n:Nat),l[i]?=some (z,n)→∃ m,(rebN l rb)[i]?=some (z,m)
 | [],_,i,z,n,h=>by simp at h
 | (y,k)::r,[],i,z,n,h=>⟨n,by simpa [rebN] using h⟩
 | (y,k)::r,N::Ns,0,z,n,h=>by
  simp at h
  obtain ⟨rfl,rfl⟩:=h
  exact ⟨N,by simp [rebN]⟩
 | (y,k)::r,N::Ns,i+1,z,n,h=>by
  obtain ⟨m,h1⟩:=reb_at' r Ns i z n (by simpa using h)
  exact ⟨m,by simpa [rebN] using h1⟩
theorem reb_rel {φ:Nat→Option (Nat×Nat)} {ν:List (Int×Nat)} {w:World} {rb:List Nat} (hp:Holds (rebP ν rb)) (c:AC) (x:Value) (r:relC Z φ ν w c x):relC Z φ (rebN ν rb) w c x:=by
 cases c <;> try exact r
 ·obtain ⟨z,n,h1,h2⟩:=r
  obtain ⟨m,h3⟩:=reb_at' ν rb _ z n h1
  exact ⟨z,m,h3,h2⟩
 ·obtain ⟨z,n,h1,h2,h3⟩:=r
  obtain ⟨m,h4,h5⟩:=reb_at ν rb _ z n h1 h3 hp
  exact ⟨z,m,h4,h2,h5⟩
theorem reb_relV {φ:Nat→Option (Nat×Nat)} {ν:List (Int×Nat)} {w:World} {rb:List Nat} (hp:Holds (rebP ν rb)) (v:AV) (x:Value) (r:relV Z φ ν w v x):relV Z φ (rebN ν rb) w v x:=by
 cases v with
 | one c=>exact reb_rel hp c x r
 | agg cs=>obtain ⟨xs,e,h⟩:=r;exact ⟨xs,e,h.mono (reb_rel hp)⟩
theorem reb_relT {φ:Nat→Option (Nat×Nat)} {ν:List (Int×Nat)} {w:World} {rb:List Nat} (hp:Holds (rebP ν rb)) (t:AT) (x:Value) (r:relT Z φ ν w t x):relT Z φ (rebN ν rb) w t x:=by
 cases t with
 | top=>trivial
 | und=>exact r
 | val v=>exact reb_relV hp v x r
 | tup vs=>obtain ⟨xs,e,h⟩:=r;exact ⟨xs,e,h.mono (reb_relV hp)⟩
 | cnd c v=>
  simp only [relT] at r ⊢
  cases c with
  | true=>simp only [if_true] at r ⊢;exact reb_relV hp v x r
  | false=>simpa using r
theorem rebS_ok {w0 w:World} {ψ φ:Nat→Option (Nat×Nat)} {s:AS} {a:Act} {rb:List Nat} (hp:Holds (rebP s.nums rb)) (hr:Rep Z w0 ψ φ s a w):Rep Z w0 ψ φ (rebS rb s) a w:=by
 refine ⟨⟨?_,hr.wd.own,hr.wd.inj,hr.wd.tip,hr.wd.fresh,hr.wd.lt,hr.wd.low,hr.wd.on,hr.wd.base,hr.wd.exa⟩,hr.defers,hr.tmps.mono (reb_relT hp)⟩
 intro b B hb
 obtain ⟨k,o,pre,ys,post,k1,k2,k3,k4⟩:=hr.wd.box b B hb
 exact ⟨k,o,pre,ys,post,k1,k2,k3,k4.mono (reb_rel hp)⟩
def turnS (kb kt:List Nat) (nx:Nat) (rb:List Nat) (s:AS):Option (AS×List Prop):=
 (norm kb kt nx (sgnS s)).map fun s'=>(rebS rb s',(sgnB s.nums s.boxes).2++rebP s'.nums rb)
theorem turnS_ok {w0 w:World} {ψ φ:Nat→Option (Nat×Nat)} {kb kt:List Nat} {nx:Nat} {rb:List Nat} {s s':AS} {p:List Prop} {a:Act} (h:turnS kb kt nx rb s=some (s',p)) (hp:Holds p) (hψ:∀ b x,ψ b=some x→kb.contains b=true) (hr:Rep Z w0 ψ φ s a w):Rep Z w0 ψ (rst kb φ) s' a w:=by
 unfold turnS at h
 obtain ⟨t,h1,h2⟩:=mpd h
 cases h2
 exact rebS_ok (fun q hq=>hp q (by simp [hq])) (norm_ok h1 hψ (sgnS_ok (fun q hq=>hp q (by simp [hq])) hr))
inductive LT where
 | ret (g:RG)
 | again (ks:List (K (List AT))) (s:AS)
 | br (t:Bool) (a b:LT)
 | need (p:List Prop) (o:LT)
def LT.ok (P:RG→Prop) (Q:List (K (List AT))→AS→Prop):LT→Prop
 | .ret g=>P g
 | .again ks s=>Q ks s
 | .br t a b=>(t=true→a.ok P Q)∧(t=false→b.ok P Q)
 | .need p o=>Holds p∧o.ok P Q
def rgOf (k:Bool):RV→Option RG
 | .val v=>(gT k v).map fun g=>.one g.1
 | .tup vs=>(mapO (gT k) vs).map fun gs=>.tup (gs.map (·.1))
def outL (k:Bool) (kb kt:List Nat) (nx:Nat) (rb:List Nat):Tr→Option LT
 | .ret r s=>bif clean s then ((rvOf s.nums r).bind (rgOf k)).map .ret else none
 | .br t a b=>(outL k kb kt nx rb a).bind fun x=>(outL k kb kt nx rb b).map fun y=>.br t x y
 | .need p t=>(outL k kb kt nx rb t).map (.need p)
 | .stop ks s=>(turnS kb kt nx rb s).map fun x=>match x.2 with | []=>.again ks x.1 | p::ps=>.need (p::ps) (.again ks x.1)
def isL (k:Bool) (P:RG→Prop) (r:AT) (s:AS):Prop:=clean s=true∧∃ r' g,rvOf s.nums r=some r'∧rgOf k r'=some g∧P g
def isN (kb kt:List Nat) (nx:Nat) (rb:List Nat) (Q:List (K (List AT))→AS→Prop) (ks:List (K (List AT))) (s:AS):Prop:=∃ s' p,turnS kb kt nx rb s=some (s',p)∧Holds p∧Q ks s'
theorem outL_ok {k:Bool} {kb kt:List Nat} {nx:Nat} {rb:List Nat} {P:RG→Prop} {Q:List (K (List AT))→AS→Prop}:∀ {tr:Tr} {lt:LT},outL k kb kt nx rb tr=some lt→lt.ok P Q→tr.ok (isL k P) (isN kb kt nx rb Q)
 | .ret r s,lt,h,hk=>by
  simp only [outL] at h
  cases hc:clean s with
  | false=>rw [hc] at h;cases h
  | true=>
   rw [hc] at h
   simp only [cond_true] at h
   obtain ⟨g,h1,rfl⟩:=mpd h
   obtain ⟨r',h2,h3⟩:=bnd h1
   exact ⟨hc,r',g,h2,h3,hk⟩
 | .br t a b,lt,h,hk=>by
  simp only [outL] at h
  obtain ⟨x,h1,h2⟩:=bnd h
  obtain ⟨y,h3,rfl⟩:=mpd h2
  exact ⟨fun e=>outL_ok h1 (hk.1 e),fun e=>outL_ok h3 (hk.2 e)⟩
 | .need p t,lt,h,hk=>by
  simp only [outL] at h
  obtain ⟨x,h1,rfl⟩:=mpd h
  exact ⟨hk.1,outL_ok h1 hk.2⟩
 | .stop ks s,lt,h,hk=>by
  simp only [outL] at h
  obtain ⟨⟨s',q⟩,h1,h2⟩:=mpd h
  cases q with
  | nil=>
   simp only at h2
   subst h2
   exact ⟨s',[],h1,holds_nil,hk⟩
  | cons p ps=>
   simp only at h2
   subst h2
   exact ⟨s',p::ps,h1,hk.1,hk.2⟩
theorem loopL {w0:World} {ψ:Nat→Option (Nat×Nat)} {sp:Spec} {bodies:FuncId→Option Func} {R:Ending→World→Prop} (hsp:SpecOk Z w0 ψ sp) (hbo:BodiesOk Z bodies) {k:Bool} {P:RG→Prop} (hG:∀ r s φ v w,isL k P r s→relT Z φ s.nums w r v→RepW Z w0 ψ φ s w→R (.returned v) w) {b:Code} {ks0:List (K (List AT))} (hfr:noFr ks0=true) {kb kt:List Nat} {nx:Nat} {rb:List Nat} (hψ:∀ b x,ψ b=some x→kb.contains b=true) (I:Nat→AS→Prop)
  (hI:∀ m s,I m s→∀ n,∃ f lt,(run Z sp bodies (drawA Z sp) atRound f (.code b::.lp b n::ks0) s).bind (outL k kb kt nx rb)=some lt∧lt.ok P fun ks s'=>ks=.lp b n::ks0∧∃ m',m' < m∧I m' s'):
  ∀ (m n:Nat) (s:AS),I m s→m < n→∀ (kcs:List (K Act)) (φ:Nat→Option (Nat×Nat)) (a:Act) (w:World),SR Z φ s.nums w (.lp b n::ks0) kcs→Rep Z w0 ψ φ s a w→sem Z.P R kcs .normal a w:=by
 intro m
 induction m using Nat.strongRecOn with
 | _ m ih=>
  intro n s hs hmn kcs φ a w hsr hr
  cases n with
  | zero=>omega
  | succ n=>
   match kcs,hsr with
   | .lp b' n'::kcs,⟨e1,e2,hsr2⟩=>
    subst e1
    subst e2
    obtain ⟨f,lt,h1,h2⟩:=hI m s hs n
    obtain ⟨tr,h3,h4⟩:=bnd h1
    have key:sem Z.P R (.code b'::.lp b' n::kcs) .normal a w:=by
     refine run_ok (stp:=atRound) hsp hbo (drawA_ok mixed hsp) (isL k P) _ ?_ hG f _ s tr h3 (outL_ok h4 h2) (.code b'::.lp b' n::kcs) φ a w ⟨rfl,rfl,rfl,hsr2⟩ hr
     rintro ks s' ⟨s'',p,hn,hp,rfl,m',hm',hi⟩ kcs' φ' a' w' hsr' hr'
     exact ih m' hm' n s'' hi (by omega) kcs' (rst kb φ') a' w' (SR.any (by simpa [noFr] using hfr) hsr') (turnS_ok hn hp hψ hr')
    exact key
theorem walkS {l:List (FuncId×TE)} (hl:AllTE Z l) {sp:Spec} (hsp:∀ w0 ψ,SpecOk Z w0 ψ sp) {bodies:FuncId→Option Func} (hbo:BodiesOk Z bodies) {f:FuncId} {fn:Func} (Fn':Fn f fn) {k:Bool} {F:List G→Option RG} {nd:List G→List Prop} {bo:List Nat→Nat} {lim:List Nat} (hbits:∀ gs ns out,F gs=some out→Holds (nd gs)→GBs gs ns→GBs gs lim→RGB (bo ns) out)
  (h:∀ gs out,F gs=some out→∃ ps,((run Z (orSp sp (tabSp l)) bodies (drawA Z (orSp sp (tabSp l))) (fun _=>false) 2000 [.code (bodyOf fn),.top fn] (start fn (tokGs k gs lim))).bind outcome).bind (outG k)=some (ps,out)∧(Holds (nd gs)→GBs gs lim→Holds ps)):TEok Z f (teG k F nd bo lim):=by
 refine teG_ok Fn'.en hbits fun gs out hF hnd hgb w vs hvs=>?_
 obtain ⟨ps,h1,h2⟩:=h gs out hF
 obtain ⟨o,h3,h4⟩:=bnd h1
 obtain ⟨tr,h5,h6⟩:=bnd h3
 have hA:At (avsOf 0 (tokGs k gs lim)).2 0 (avsOf 0 (tokGs k gs lim)).2:=fun i y hy=>by rw [Nat.zero_add];exact hy
 have hs:SpecOk Z w (fun _=>none) (orSp sp (tabSp l)):=orSp_ok (hsp _ _) (tabSp_ok hl)
 obtain ⟨n0,hn0⟩:=walkG.someB out
 have key:Calls Z.P f vs.toArray w fun e w'=>∃ v,e=.returned v∧RRV Z w' (rvG k n0 out) v∧Below w.heap.size w w':=by
  refine engine (w0:=w) (ψ:=fun _=>none) (φ:=fun _=>none) (s:=start fn (tokGs k gs lim)) (vs:=(avsOf 0 (tokGs k gs lim)).1) hs hbo (drawA_ok mixed hs) Fn'.at' Fn'.body rfl (avsOf_ok _ 0 vs hA hvs) (rep_start fn _ w) 2000 h5 _ (fun _ _=>False) (fun _ _ h=>h.elim) (outcome_ok h6 (outG_ok (n:=n0) h4 (h2 hnd hgb) hn0)) ?_
  rintro r0 s φ v w' ⟨hc,r',h7,h8⟩ hr hw
  exact ⟨v,rfl,h8 w' v (rvOf_ok h7 hr),RepF.below hw hc⟩
 refine key.mono ?_
 rintro e w' ⟨v,rfl,hv,hb⟩
 exact ⟨v,rfl,fun n hn=>walkG.anyB hv hn,hb⟩
theorem te_congr {f:FuncId} {k:Bool} {F F':List G→Option RG} {nd nd':List G→List Prop} {bo bo':List Nat→Nat} {lim:List Nat} (h:TEok Z f (teG k F nd bo lim)) (hF:∀ gs out,F' gs=some out→Holds (nd' gs)→GBs gs lim→F gs=some out∧Holds (nd gs)) (hbits:∀ gs ns out,F' gs=some out→Holds (nd' gs)→GBs gs ns→GBs gs lim→RGB (bo' ns) out):TEok Z f (teG k F' nd' bo' lim):=by
 refine ⟨h.1,fun ts r p hts hp w vs hvs=>?_⟩
 unfold teG at hts
 obtain ⟨xs,h1,h2⟩:=bnd hts
 cases hle:leAll (xs.map (·.2)) lim with
 | false=>rw [hle] at h2;cases h2
 | true=>
  rw [hle] at h2
  simp only [cond_true] at h2
  obtain ⟨out,h3,h4⟩:=mpd h2
  cases h4
  obtain ⟨g1,g2,g3⟩:=argsG_ok ts xs lim vs h1 hle hvs
  obtain ⟨k1,k2⟩:=hF _ out h3 hp g3
  have key:=h.2 ts (rvG k (bo (xs.map (·.2))) out) (nd (xs.map (·.1))) (by unfold teG;rw [h1];simp only [Option.bind_some,hle,cond_true,k1,Option.map_some]) k2 w vs hvs
  refine key.mono ?_
  rintro e w' ⟨v,rfl,hv,hb⟩
  exact ⟨v,rfl,walkG.anyB hv (hbits _ _ out h3 hp g2 g3),hb⟩
theorem walkL {l:List (FuncId×TE)} (hl:AllTE Z l) {sp:Spec} (hsp:∀ w0 ψ,SpecOk Z w0 ψ sp) {f:FuncId} {fn:Func} (Fn':Fn f fn) {k:Bool} {F:List G→Option RG} {nd:List G→List Prop} {bo:List Nat→Nat} {lim:List Nat} (hbits:∀ gs ns out,F gs=some out→Holds (nd gs)→GBs gs ns→GBs gs lim→RGB (bo ns) out)
  {kb kt:List Nat} {nx:Nat} {rb:List Nat} (hfr:noFr (lpK (bodyOf fn) fn)=true)
  (h:∀ gs out,F gs=some out→Holds (nd gs)→GBs gs lim→∃ I:Nat→AS→Prop,
   (∃ n lt,(run Z (orSp sp (tabSp l)) (fun _=>none) (drawA Z (orSp sp (tabSp l))) atLoop n [.code (bodyOf fn),.top fn] (start fn (tokGs k gs lim))).bind (outL k kb kt nx rb)=some lt∧lt.ok (fun g=>g=out) fun ks s=>ks=.code (.loop (lpB (bodyOf fn) fn))::lpK (bodyOf fn) fn∧∃ m,I m s)∧
   ∀ m s,I m s→∀ n,∃ f lt,(run Z (orSp sp (tabSp l)) (fun _=>none) (drawA Z (orSp sp (tabSp l))) atRound f (.code (lpB (bodyOf fn) fn)::.lp (lpB (bodyOf fn) fn) n::lpK (bodyOf fn) fn) s).bind (outL k kb kt nx rb)=some lt∧lt.ok (fun g=>g=out) fun ks s'=>ks=.lp (lpB (bodyOf fn) fn) n::lpK (bodyOf fn) fn∧∃ m',m' < m∧I m' s'):TEok Z f (teG k F nd bo lim):=by
 refine teG_ok Fn'.en hbits fun gs out hF hnd hgb w vs hvs=>?_
 obtain ⟨I,⟨n,lt,h1,h2⟩,hI⟩:=h gs out hF hnd hgb
 obtain ⟨tr,h3,h4⟩:=bnd h1
 have hA:At (avsOf 0 (tokGs k gs lim)).2 0 (avsOf 0 (tokGs k gs lim)).2:=fun i y hy=>by rw [Nat.zero_add];exact hy
 have hs:SpecOk Z w (fun _=>none) (orSp sp (tabSp l)):=orSp_ok (hsp _ _) (tabSp_ok hl)
 have hG:∀ r s φ v w',isL k (fun g=>g=out) r s→relT Z φ s.nums w' r v→RepW Z w (fun _=>none) φ s w'→(fun (e:Ending) (w':World)=>∃ v,e=.returned v∧(∀ n,RGB n out→RRV Z w' (rvG k n out) v)∧Below w.heap.size w w') (.returned v) w':=by
  rintro r s φ v w' ⟨hc,r',g,g1,g2,rfl⟩ hr hw
  exact ⟨v,rfl,fun n hn=>rgOf_ok g2 (rvOf_ok g1 hr) hn,RepF.below hw hc⟩
 refine engine hs nobody (drawA_ok mixed hs) Fn'.at' Fn'.body rfl (avsOf_ok _ 0 vs hA hvs) (rep_start fn _ w) n h3 (isL k fun g=>g=out) _ ?_ (outL_ok h4 h2) hG
 rintro ks s' ⟨s'',p,hn,hp,rfl,m,hi⟩ kcs φ' a w' hsr hr
 match kcs,hsr with
 | .code c'::kcs,⟨e,hsr2⟩=>
  subst e
  have:=loopL (R:=fun (e:Ending) (w':World)=>∃ v,e=.returned v∧(∀ n,RGB n out→RRV Z w' (rvG k n out) v)∧Below w.heap.size w w') hs nobody hG hfr (fun _ _ e=>by cases e) I hI m (m+1) s'' hi (by omega) (.lp (lpB (bodyOf fn) fn) (m+1)::kcs) (rst kb φ') a w' ⟨rfl,rfl,SR.any hfr hsr2⟩ (turnS_ok hn hp (fun _ _ e=>by cases e) hr)
  exact wp_loop_rounds (m+1) this
where
 rgOf_ok {k:Bool} {w:World} {r:RV} {g:RG} {v:Value} (h:rgOf k r=some g) (hv:RRV Z w r v) {n:Nat} (hn:RGB n g):RRV Z w (rvG k n g) v:=by
  cases r with
  | val t=>
   simp only [rgOf] at h
   obtain ⟨⟨x,m⟩,h1,rfl⟩:=mpd h
   exact (gT_ok h1 hv).2 n hn
  | tup vs=>
   simp only [rgOf] at h
   obtain ⟨gs,h1,rfl⟩:=mpd h
   obtain ⟨xs,e,hx⟩:=hv
   exact ⟨xs,e,outGs_ok h1 hn hx⟩
end Ab
open Go.RowKit
theorem Nm.at_noneW {xs:List Int} {i:Nat} (h:¬i < xs.length):Nm.at' xs i=0:=by
 unfold Nm.at'
 rw [List.getD_eq_getElem?_getD,List.getElem?_eq_none (by omega)];rfl
theorem Nm.strip_lastW {xs:List Int} {k:Nat} (h:k < xs.length) (h0:Nm.at' xs k=0):Nm.strip (xs.take (k+1))=Nm.strip (xs.take k):=by
 rw [List.take_succ_eq_append_getElem h]
 unfold Nm.at' at h0
 rw [List.getD_eq_getElem?_getD,List.getElem?_eq_getElem h] at h0
 rw [show xs[k]=0 from h0,Nm.strip_snoc_zero]
theorem Nm.strip_doneW {xs:List Int} {k:Nat} (h:k < xs.length) (h0:Nm.at' xs k≠0):Nm.strip (xs.take (k+1))=xs.take (k+1):=by
 rw [List.take_succ_eq_append_getElem h]
 unfold Nm.at' at h0
 rw [List.getD_eq_getElem?_getD,List.getElem?_eq_getElem h] at h0
 exact Nm.strip_snoc _ h0
theorem used_any (w:World) (xs:List Int) (v:Value) (B:Nat) (h:LimsB B w xs v) (hl:xs.length≤100000000000):
  Calls Tryz.prog 115 #[v] w fun e w'=>e=.returned (.int .i64 (Nm.strip xs).length)∧w=w':=by
 obtain ⟨ao,cap,rfl,hcap⟩:=h.shape
 have HI:=hid h
 clear h
 go_enter Tryz.func115,Tryz.ntmps115
 go_wp2_with fail
 go_loop [3] (fun n=>∃ k:Nat,k≤xs.length∧n=.int .i64 k∧Nm.strip (xs.take k)=Nm.strip xs) (fun n=>(intOf n).toNat)
 case atStart=>exact ⟨xs.length,Nat.le_refl _,rfl,by rw [List.take_length]⟩
 case round=>
  obtain ⟨k,hk,rfl,hs⟩:=hrel
  have HS:=hid hs
  clear hs
  cases k with
  | zero=>
   have hz:Hid (Nm.strip xs=[]):=by have:=HS.out;show _=_;rw [←this];rfl
   go_wp2_with fail
   go_ret
   exact ⟨by rw [hz.out];rfl,rfl⟩
  | succ k=>
   obtain ⟨g,rfl,hc⟩:=HI.out.place (by omega)
   have hc':=hc k (by omega)
   clear hc
   by_cases h0:Nm.at' xs k=0
   ·have HS2:=hid (Nm.strip_lastW (by omega) h0)
    rw [h0] at hc'
    go_wp2_with fail
    go_round
    case rel=>exact ⟨k,by omega,by simp,by rw [←HS2.out,HS.out]⟩
    case measure=>simp [intOf]
   ·have hb:(Nm.at' xs k==0)=false:=by simpa using h0
    have HS2:=hid (show (Nm.strip xs).length=k+1 by rw [←HS.out,Nm.strip_doneW (by omega) h0,List.length_take];omega)
    generalize Nm.at' xs k=x at*
    go_wp2_with fail
    go_ret
    exact ⟨by rw [HS2.out];rfl,rfl⟩
open Go.RowKit
def limbsRel (w:World) (N:Int) (m d:Value) (wr:World):Prop:=
 ∃ (k:Int) (done:List Int),m=.int .u64 k∧0≤k∧k≤N∧done.length≤2∧wr.ownsRow w.heap.size 142 1 d done.length (done.map (Value.int .u32))∧Below w.heap.size w wr∧Nm.Dig 4294967296 done∧(k=0→Nm.Top done)∧Nm.val 4294967296 done+k*4294967296 ^ done.length=N∧(done.length=1→k < 4294967296)∧(2≤done.length→k=0)
def cmpRel (W:World) (a b:List Int) (i:Value) (wr:World):Prop:=
 ∃ k:Nat,k≤a.length∧i=.int .i64 ((k:Int) - 1)∧a.drop k=b.drop k∧Below W.heap.size W wr
theorem compareLimbs_any (w:World) (a b:List Int) (u v:Value) (ha:Lims w a u) (hb:Lims w b v) (hal:a.length≤100000000000) (ga:Nm.Good 4294967296 a) (gb:Nm.Good 4294967296 b):
  Calls Tryz.prog 154 #[u,v] w fun e w'=>e=.returned (.int .i64 (Nm.cmp (Nm.val 4294967296 a) (Nm.val 4294967296 b)))∧Below w.heap.size w w':=by
 obtain ⟨ao,cap,rfl,hcap⟩:=ha.shape
 obtain ⟨bo,bap,rfl,hbap⟩:=hb.shape
 have HA:=hid ha
 have HB:=hid hb
 have GA:=hid ga
 have GB:=hid gb
 clear ha hb ga gb
 by_cases c1:(a.length:Int) < b.length
 ·rw [Nm.cmp_lt (Nm.val_longer (by decide) GA.out.dig GB.out (by omega))]
  go_enter Tryz.func154,Tryz.ntmps154
  go_wp2_with fail
  go_ret
  exact ⟨rfl,Below.refl _ _⟩
 ·by_cases c3:(b.length:Int) < a.length
  ·rw [Nm.cmp_gt (Nm.val_longer (by decide) GB.out.dig GA.out (by omega))]
   go_enter Tryz.func154,Tryz.ntmps154
   go_wp2_with fail
   go_ret
   exact ⟨rfl,Below.refl _ _⟩
  ·have c3':a.length=b.length:=by omega
   clear c3 c1
   rw [←c3']
   have HL:=hid c3'
   clear c3'
   go_enter Tryz.func154,Tryz.ntmps154
   go_wp2_with fail
   go_loopw [5] (fun i wr=>cmpRel w a b i wr) (fun i _=>(intOf i+1).toNat)
   case atStart=>exact ⟨a.length,Nat.le_refl _,rfl,by rw [List.drop_length,HL.out,List.drop_length],Below.refl _ _⟩
   case round=>
    obtain ⟨k,hk,rfl,hs,hbw⟩:=hrel
    have HS:=hid hs
    have HBW:=hid hbw
    clear hs hbw
    cases k with
    | zero=>
     have he:Hid (Nm.cmp (Nm.val 4294967296 a) (Nm.val 4294967296 b)=0):=Nm.cmp_eq (by have:=HS.out;simp at this;rw [this])
     go_wp2_with fail
     go_ret
     exact ⟨by rw [he.out];rfl,HBW.out⟩
    | succ k=>
     obtain ⟨g,rfl,hc⟩:=(HA.out.below HBW.out).place (by omega)
     obtain ⟨g2,rfl,hc2⟩:=(HB.out.below HBW.out).place (by rw [←HL.out];omega)
     have x1:=hc k (by omega)
     have x2:=hc2 k (by rw [←HL.out];omega)
     clear hc hc2
     have hk2:k < b.length:=by rw [←HL.out];omega
     by_cases e1:Nm.at' a k < Nm.at' b k
     ·have he:Hid (Nm.cmp (Nm.val 4294967296 a) (Nm.val 4294967296 b)=-1):=Nm.cmp_lt (Nm.val_lex (by decide) GA.out.dig GB.out.dig k HS.out e1 (by omega) hk2)
      generalize Nm.at' a k=y at*
      generalize Nm.at' b k=z at*
      go_wp2_with fail
      go_quiet (fail)
      go_wp2_with fail
      go_ret
      exact ⟨by rw [he.out];rfl,below_drewN HBW.out _⟩
     ·by_cases e2:Nm.at' b k < Nm.at' a k
      ·have he:Hid (Nm.cmp (Nm.val 4294967296 a) (Nm.val 4294967296 b)=1):=Nm.cmp_gt (Nm.val_lex (by decide) GB.out.dig GA.out.dig k HS.out.symm e2 hk2 (by omega))
       generalize Nm.at' a k=y at*
       generalize Nm.at' b k=z at*
       go_wp2_with fail
       go_quiet (fail)
       go_wp2_with fail
       go_quiet (fail)
       go_wp2_with fail
       go_ret
       exact ⟨by rw [he.out];rfl,by first | exact below_drewN HBW.out _ | exact below_drewN (below_drewN HBW.out _) _⟩
      ·have e3:Nm.at' a k=Nm.at' b k:=by omega
       have HS2:=hid (Nm.lex_down HL.out (by omega) HS.out e3)
       rw [←e3] at x2
       clear e1 e2 e3
       generalize Nm.at' a k=y at*
       go_wp2_with fail
       go_quiet (fail)
       go_wp2_with fail
       go_quiet (fail)
       go_wp2_with fail
       go_roundw
       case rel=>exact ⟨k,by omega,by simp,HS2.out,by first | exact below_drewN HBW.out _ | exact below_drewN (below_drewN HBW.out _) _⟩
       case measure=>simp [intOf]
open Go.RowKit
theorem Nm.take_set {l:List Int} {k:Nat} {x:Int} (h:k < l.length):(l.set k x).take (k+1)=l.take k++[x]:=by
 rw [List.take_succ_eq_append_getElem (by simpa using h),List.take_set_of_le (Nat.le_refl _)]
 simp
theorem Nm.plus_end {B c:Int} (hB:2≤B) {N:Nat} {out a b:List Int} (ho:out.length=N+1) (hd:Nm.Dig B out) (ha:a.length≤N) (hb:b.length≤N) (da:Nm.Dig B a) (db:Nm.Dig B b) (c0:0≤c)
  (h:Nm.val B (out.take (N+1))+c*B ^ (N+1)=Nm.val B (a.take (N+1))+Nm.val B (b.take (N+1))):Nm.val B out=Nm.val B a+Nm.val B b:=by
 rw [Nm.val_take_all B out (by omega),Nm.val_take_all B a (by omega),Nm.val_take_all B b (by omega)] at h
 have h1:=Nm.val_hi (by omega) da
 have h2:=Nm.val_hi (by omega) db
 have h3:=Nm.pow_mono (B:=B) (by omega) ha
 have h4:=Nm.pow_mono (B:=B) (by omega) hb
 have h5:=Nm.val_lo (by omega) hd
 have hP:=Nm.pow_pos' (B:=B) (by omega) N
 have h6:2*B ^ N≤B*B ^ N:=Int.mul_le_mul_of_nonneg_right hB (Int.le_of_lt hP)
 rw [Int.pow_succ,Int.mul_comm (B ^ N) B] at h
 have h7:c*(B*B ^ N) < 1*(B*B ^ N):=by omega
 have h8:=Int.lt_of_mul_lt_mul_right h7 (by omega)
 have:c=0:=by omega
 subst this
 omega
theorem LBlk.used {w:World} {G:Nat} {xs:List Int} (h:LBlk w G xs) (hl:xs.length≤100000000000) {B:Nat} (hB:B≤G):LimsB B w (Nm.strip xs) (.slice (some ⟨G,0,none⟩) (Nm.strip xs).length xs.length):=by
 obtain ⟨cur,h1,h2⟩:=h
 have hle:=Nm.strip_len xs
 refine ⟨by simp,Or.inr ⟨G,xs.length,cur,rfl,hB,h1,hle,by unfold maxLen;omega,?_,?_⟩⟩
 ·rw [←Array.length_toList,h2];simp
 ·rw [h2,Nat.mul_one,←List.map_take,←Nm.strip_take]
def addRel (w:World) (a b:List Int) (N:Nat) (c i:Value) (wr:World):Prop:=
 ∃ (k:Nat) (cc:Int) (out:List Int),i=.int .i64 k∧c=.int .u64 cc∧0≤cc∧cc≤1∧k≤N+1∧LBlk wr w.heap.size out∧out.length=N+1∧Nm.Dig 4294967296 out∧Below w.heap.size w wr∧
  Nm.val 4294967296 (out.take k)+cc*4294967296 ^ k=Nm.val 4294967296 (a.take k)+Nm.val 4294967296 (b.take k)
theorem addRel_step {w wr:World} {a b out:List Int} {N k:Nat} {cc x:Int} (c0:0≤cc) (c1:cc≤1) (hk:k < N+1) (hblk:LBlk wr w.heap.size out) (hlen:out.length=N+1) (hdig:Nm.Dig 4294967296 out) (hbel:Below w.heap.size w wr) (ga:Nm.Dig 4294967296 a) (gb:Nm.Dig 4294967296 b)
  (hval:Nm.val 4294967296 (out.take k)+cc*4294967296 ^ k=Nm.val 4294967296 (a.take k)+Nm.val 4294967296 (b.take k)) (hx:x=cc+Nm.at' a k+Nm.at' b k):
  addRel w a b N (.int .u64 (x / 4294967296)) (.int .i64 ((k:Int)+1)) (wr.setCell ⟨w.heap.size,k,none⟩ (.int .u32 (x % 4294967296))):=by
 have a0:=ga.at' (by decide) k
 have b0:=gb.at' (by decide) k
 refine ⟨k+1,x / 4294967296,out.set k (x % 4294967296),by simp,rfl,by omega,by omega,by omega,hblk.set _ _,by simpa using hlen,hdig.set _ (by omega) (by omega),hbel.setCell (by simp) _,?_⟩
 rw [Nm.take_set (by omega)]
 exact Nm.plus_step (by rw [List.length_take];omega) hval hx
theorem addLimbs_any (w:World) (a b:List Int) (u v:Value) (ha:Lims w a u) (hb:Lims w b v) (hal:a.length≤10000000000) (hbl:b.length≤10000000000) (ga:Nm.Dig 4294967296 a) (gb:Nm.Dig 4294967296 b):
  Calls Tryz.prog 118 #[u,v] w (LimPost w fun xs=>Nm.Good 4294967296 xs∧Nm.val 4294967296 xs=Nm.val 4294967296 a+Nm.val 4294967296 b):=by
 by_cases h:(a.length:Int) < b.length
 ·exact addLimbs_lt w a b u v ha hb hal hbl ga gb h
 ·exact addLimbs_ge w a b u v ha hb hal hbl ga gb h
open Go.RowKit
def subRel (w:World) (a b:List Int) (c i:Value) (wr:World):Prop:=
 ∃ (k:Nat) (cc:Int) (out:List Int),i=.int .i64 k∧c=.int .u64 cc∧0≤cc∧cc≤1∧k≤a.length∧LBlk wr w.heap.size out∧out.length=a.length∧Nm.Dig 4294967296 out∧Below w.heap.size w wr∧
  Nm.val 4294967296 (out.take k)+Nm.val 4294967296 (b.take k)=Nm.val 4294967296 (a.take k)+cc*4294967296 ^ k
theorem subRel_step {w wr:World} {a b out:List Int} {k:Nat} {cc c' d:Int} (c0:0≤c') (c1:c'≤1) (hk:k < a.length) (hblk:LBlk wr w.heap.size out) (hlen:out.length=a.length) (hdig:Nm.Dig 4294967296 out) (hbel:Below w.heap.size w wr)
  (hval:Nm.val 4294967296 (out.take k)+Nm.val 4294967296 (b.take k)=Nm.val 4294967296 (a.take k)+cc*4294967296 ^ k) (d0:0≤d) (d1:d < 4294967296) (hd:d=Nm.at' a k - Nm.at' b k - cc+c'*4294967296):
  subRel w a b (.int .u64 c') (.int .i64 ((k:Int)+1)) (wr.setCell ⟨w.heap.size,k,none⟩ (.int .u32 d)):=by
 refine ⟨k+1,c',out.set k d,by simp,rfl,c0,c1,by omega,hblk.set _ _,by simpa using hlen,hdig.set _ d0 d1,hbel.setCell (by simp) _,?_⟩
 rw [Nm.take_set (by omega)]
 exact Nm.less_step (by rw [List.length_take];omega) hval hd
open Go.RowKit
theorem Nm.at_set_ne {l:List Int} {k j:Nat} {x:Int} (h:k≠j):Nm.at' (l.set k x) j=Nm.at' l j:=by
 unfold Nm.at'
 simp [List.getD,List.getElem?_set_ne h]
theorem Nm.at_zeros (n i:Nat):Nm.at' (List.replicate n 0) i=0:=by
 unfold Nm.at'
 rw [List.getD_eq_getElem?_getD]
 cases h:(List.replicate n (0:Int))[i]? with
 | none=>rfl
 | some x=>have:=List.mem_of_getElem? h;rw [List.mem_replicate] at this;rw [this.2];rfl
def wmOut (w:World) (S L:List Int) (i:Value) (wr:World):Prop:=
 ∃ (k:Nat) (out:List Int),i=.int .i64 k∧k≤S.length∧LBlk wr w.heap.size out∧out.length=S.length+L.length∧Nm.Dig 4294967296 out∧Below w.heap.size w wr∧Nm.val 4294967296 out=Nm.val 4294967296 (S.take k)*Nm.val 4294967296 L∧(∀ t,k+L.length≤t→Nm.at' out t=0)
def wmIn (w:World) (S L:List Int) (i:Nat) (c jv:Value) (wr:World):Prop:=
 ∃ (j:Nat) (cc:Int) (out:List Int),jv=.int .i64 j∧c=.int .u64 cc∧0≤cc∧cc < 4294967296∧j≤L.length∧LBlk wr w.heap.size out∧out.length=S.length+L.length∧Nm.Dig 4294967296 out∧Below w.heap.size w wr∧
  Nm.val 4294967296 out+cc*4294967296 ^ (i+j)=Nm.val 4294967296 (S.take i)*Nm.val 4294967296 L+Nm.at' S i*Nm.val 4294967296 (L.take j)*4294967296 ^ i∧(∀ t,i+L.length≤t→Nm.at' out t=0)
theorem wm_row {a b out:List Int} {k:Nat} {cc:Int} (hk:k+b.length < out.length) (hz:Nm.at' out (k+b.length)=0) (h:Nm.val 4294967296 out+cc*4294967296 ^ (k+b.length)=Nm.val 4294967296 (a.take k)*Nm.val 4294967296 b+Nm.at' a k*Nm.val 4294967296 (b.take b.length)*4294967296 ^ k):
  Nm.val 4294967296 (out.set (k+b.length) cc)=Nm.val 4294967296 (a.take (k+1))*Nm.val 4294967296 b:=by
 rw [List.take_length] at h
 rw [Nm.val_set _ _ _ _ hk,hz,Nm.val_take]
 generalize (4294967296:Int) ^ (k+b.length)=P at*
 grind
open Go.RowKit
theorem at_oldW {w:World} {k:Nat} {o:Obj} (o':Obj) (h:w.heap[k]?=some o):(w.alloc o').heap[k]?=some o:=by rw [Below.heap_alloc _ _ _ (heap_lt h)];exact h
structure Finw (w w2:World) (B:Nat) (z:Int) (p q:Value):Prop where
 c0:((w2.setCell ⟨B,0,none⟩ p).setCell ⟨B,1,none⟩ q).cell? ⟨B,0,none⟩=some p
 c1:((w2.setCell ⟨B,0,none⟩ p).setCell ⟨B,1,none⟩ q).cell? ⟨B,1,none⟩=some q
 num:WhoAt ((w2.setCell ⟨B,0,none⟩ p).setCell ⟨B,1,none⟩ q) z (.agg #[p,q])
 below:Below w.heap.size w ((w2.setCell ⟨B,0,none⟩ p).setCell ⟨B,1,none⟩ q)
theorem finw {w w2:World} {B:Nat} {x y p q:Value} {z:Int} (h:w2.heap[B]?=some (.cells #[x,y] 80 (0,0))) (hn:WhoAt w2 z (.agg #[p,q])) (hb:Below w.heap.size w w2) (hB:w.heap.size≤B):Finw w w2 B z p q:=by
 have h1:=heap_set h (o:=0) p
 have h2:=heap_set h1 (o:=1) q
 exact ⟨cell_of_block h2 rfl,cell_of_block h2 rfl,(hn.other h (by decide) p).other h1 (by decide) q,(hb.setCell hB _).setCell hB _⟩
def boxw (w:World) (a b c d:Value):World:=((w.alloc (.cells #[a,b] 80)).alloc (.cells #[c,d] 80)).alloc (.cells #[.bool false,.slice none 0 0] 80)
theorem boxw_below (w:World) (a b c d:Value):Below w.heap.size w (boxw w a b c d).drew:=(belowW (belowW (belowW (Below.refl _ _) (Nat.le_refl _) _) (by simp) _) (by simp;omega) _).trans ((drewW _).mono (by simp [boxw];omega))
theorem boxw_size (w:World) (a b c d:Value):(boxw w a b c d).drew.heap.size=w.heap.size+3:=by simp [boxw]
theorem boxw_at0 (w:World) (a b c d:Value):(boxw w a b c d).drew.heap[w.heap.size]?=some (.cells #[a,b] 80 (0,0)):=at_oldW _ (at_oldW _ (at_newW _ _))
theorem boxw_at1 (w:World) (a b c d:Value):(boxw w a b c d).drew.heap[w.heap.size+1]?=some (.cells #[c,d] 80 (0,0)):=by
 have:=at_oldW (.cells #[.bool false,.slice none 0 0] 80) (at_newW (w.alloc (.cells #[a,b] 80)) (.cells #[c,d] 80))
 rw [World.size_alloc] at this
 exact this
theorem boxw_at2 (w:World) (a b c d:Value):(boxw w a b c d).drew.heap[w.heap.size+2]?=some (.cells #[.bool false,.slice none 0 0] 80 (0,0)):=by
 have:=at_newW ((w.alloc (.cells #[a,b] 80)).alloc (.cells #[c,d] 80)) (.cells #[.bool false,.slice none 0 0] 80)
 rw [World.size_alloc,World.size_alloc] at this
 exact this
theorem boxw_below' (w:World) (a b c d:Value):Below w.heap.size w (boxw w a b c d):=belowW (belowW (belowW (Below.refl _ _) (Nat.le_refl _) _) (by simp) _) (by simp;omega) _
theorem boxw_size' (w:World) (a b c d:Value):(boxw w a b c d).heap.size=w.heap.size+3:=by simp [boxw]
theorem boxw_at0' (w:World) (a b c d:Value):(boxw w a b c d).heap[w.heap.size]?=some (.cells #[a,b] 80 (0,0)):=boxw_at0 w a b c d
theorem boxw_at1' (w:World) (a b c d:Value):(boxw w a b c d).heap[w.heap.size+1]?=some (.cells #[c,d] 80 (0,0)):=boxw_at1 w a b c d
theorem boxw_at2' (w:World) (a b c d:Value):(boxw w a b c d).heap[w.heap.size+2]?=some (.cells #[.bool false,.slice none 0 0] 80 (0,0)):=boxw_at2 w a b c d
theorem who_of {W:World} {z:Int} {xs:List Int} {v:Value} {nb:Bool} (hI:Lims W xs v) (hg:Nm.Good 4294967296 xs) (hv:Nm.val 4294967296 xs=z.natAbs) (hb:nb=decide (z < 0)):WhoAt W z (.agg #[.bool nb,v]):=⟨xs,v,by rw [hb],hI,hg,hv⟩
theorem wof_any (n:Int) (w:World) (hlo:-9223372036854775808≤n) (hhi:n < 9223372036854775808):Calls Tryz.prog 94 #[.int .i64 n] w (WhoPost w n):=by
 by_cases h:n < 0
 ·exact wof_neg n w hlo hhi h
 ·exact wof_pos n w hlo hhi h
theorem who_zero {ds:List Int} {z:Int} (hg:Nm.Good 4294967296 ds) (hv:Nm.val 4294967296 ds=z.natAbs):ds=[]↔z=0:=by
 have:=Nm.val_zero (by decide) hg
 rw [hv] at this
 rw [←this]
 omega
open Go.RowKit
theorem who_nil (W:World):WhoAt W 0 (.agg #[.bool false,.slice none 0 0]):=⟨[],_,rfl,LimsB.nil _ _,Nm.Good.nil _,rfl⟩
theorem wlen_le {a b:List Int} (ha:Nm.Good 4294967296 a) (hb:Nm.Good 4294967296 b) (h:Nm.val 4294967296 a≤Nm.val 4294967296 b):a.length≤b.length:=by
 rcases Nat.lt_or_ge b.length a.length with h1 | h1
 ·have:=Nm.val_longer (by decide) hb.dig ha h1;omega
 ·exact h1
theorem opp {x y:Int} (hs:¬decide (x < 0)=decide (y < 0)):(x < 0∧0≤y)∨(0≤x∧y < 0):=by
 by_cases hx0:x < 0
 ·refine Or.inl ⟨hx0,?_⟩
  rcases Int.lt_or_le y 0 with h | h
  ·exact absurd (by rw [decide_eq_true hx0,decide_eq_true h]) hs
  ·exact h
 ·refine Or.inr ⟨by omega,?_⟩
  rcases Int.lt_or_le y 0 with h | h
  ·exact h
  ·exact absurd (by rw [decide_eq_false hx0,decide_eq_false (by omega)]) hs
theorem wplus_any (w:World) (x y:Int) (u v:Value) (n:Nat) (hx:WhoAt w x u) (hy:WhoAt w y v) (bx:x.natAbs < 2 ^ n) (bY:y.natAbs < 2 ^ n) (hn:n≤1000000000):Calls Tryz.prog 137 #[u,v] w (WhoPost w (x+y)):=by
 obtain ⟨a,ao,cap,rfl,hI,hg,hv⟩:=hx.open
 obtain ⟨b,bo,bap,rfl,hJ,hh,hu⟩:=hy.open
 have hl:=lims_len hg hv bx
 have hk:=lims_len hh hu bY
 by_cases hs:decide (x < 0)=decide (y < 0)
 ·refine wplus_same w _ _ _ _ _ _ _ _ (x+y) _ hs (fun W hW=>addLimbs_any W a b _ _ (hI.below hW) (hJ.below hW) (by omega) (by omega) hg.dig hh.dig) ?_
  rintro W xs r ⟨h1,h2⟩ hr
  have e:(x < 0)=(y < 0):=by simpa using hs
  by_cases hx0:x < 0
  ·have:y < 0:=by rw [←e];exact hx0
   exact who_of hr h1 (by rw [h2,hv,hu];omega) (by simp;omega)
  ·have:¬y < 0:=by rw [←e];exact hx0
   exact who_of hr h1 (by rw [h2,hv,hu];omega) (by simp;omega)
 ·have hs':(decide (x < 0)==decide (y < 0))=false:=by simpa using hs
  have SZ:∀ W,Below w.heap.size w W→Calls Tryz.prog 154 #[.slice ao a.length cap,.slice bo b.length bap] W fun e w'=>e=.returned (.int .i64 (Nm.cmp (Nm.val 4294967296 a) (Nm.val 4294967296 b)))∧Below W.heap.size W w':=fun W hW=>compareLimbs_any W a b _ _ (hI.below hW) (hJ.below hW) (by omega) hg hh
  have hopp:=opp hs
  rcases Int.lt_trichotomy (Nm.val 4294967296 a) (Nm.val 4294967296 b) with h | h | h
  ·rw [Nm.cmp_lt h] at SZ
   refine wplus_lt w _ _ _ _ _ _ _ _ (x+y) _ hs' SZ (fun W hW=>subtractLimbs_any W b a _ _ (hJ.below hW) (hI.below hW) (by omega) (wlen_le hg hh (by omega)) hh.dig hg.dig (by omega)) ?_
   rintro W xs r ⟨h1,h2⟩ hr
   rw [hv,hu] at h h2
   exact who_of hr h1 (by rw [h2];omega) (by simp;omega)
  ·rw [Nm.cmp_eq h] at SZ
   rw [hv,hu] at h
   rw [show x+y=0 by omega]
   exact wplus_eq w _ _ _ _ _ _ _ _ hs' SZ
  ·rw [Nm.cmp_gt h] at SZ
   refine wplus_gt w _ _ _ _ _ _ _ _ (x+y) _ hs' SZ (fun W hW=>subtractLimbs_any W a b _ _ (hI.below hW) (hJ.below hW) (by omega) (wlen_le hh hg (by omega)) hg.dig hh.dig (by omega)) ?_
   rintro W xs r ⟨h1,h2⟩ hr
   rw [hv,hu] at h h2
   exact who_of hr h1 (by rw [h2];omega) (by simp;omega)
open Go.RowKit
theorem isOne_any (w:World) (a:List Int) (v:Value) (ha:Lims w a v):Calls Tryz.prog 167 #[v] w fun e w'=>e=.returned (.bool (decide (a=[1])))∧w'=w:=by
 obtain ⟨ao,cap,rfl,hcap⟩:=ha.shape
 by_cases h1:a.length=1
 ·obtain ⟨x,rfl⟩:∃ x,a=[x]:=by
   match a,h1 with
   | [x],_=>exact ⟨x,rfl⟩
  obtain ⟨g,rfl,hc⟩:=ha.place (by simp)
  have x1:=hc 0 (by simp)
  have e1:Nm.at' [x] 0=x:=rfl
  rw [e1] at x1
  have e2:decide ([x]=[(1:Int)])=(x==1):=by
   by_cases h:x=1
   ·subst h;rfl
   ·simp [h]
  rw [e2]
  clear ha hc
  simp only [List.length_cons,List.length_nil,Nat.zero_add]
  go_enter Tryz.func167,Tryz.ntmps167
  go_wp2_with fail
  go_ret
  first | exact ⟨rfl,rfl⟩ | trace_state
 ·have e2:decide (a=[(1:Int)])=false:=decide_eq_false (fun h=>h1 (by rw [h];rfl))
  rw [e2]
  have h2:((a.length:Int)==1)=false:=by
   rw [beq_eq_false_iff_ne]
   omega
  clear ha
  go_enter Tryz.func167,Tryz.ntmps167
  go_wp2_with fail
  go_ret
  first | exact ⟨rfl,rfl⟩ | trace_state
theorem wtimes_any (w:World) (x y:Int) (u v:Value) (n:Nat) (hx:WhoAt w x u) (hy:WhoAt w y v) (bx:x.natAbs < 2 ^ n) (bY:y.natAbs < 2 ^ n) (hn:n≤1000000000):Calls Tryz.prog 136 #[u,v] w (WhoPost w (x*y)):=by
 obtain ⟨a,ao,cap,rfl,hI,hg,hv⟩:=hx.open
 obtain ⟨b,bo,bap,rfl,hJ,hh,hu⟩:=hy.open
 have hl:=lims_len hg hv bx
 have hk:=lims_len hh hu bY
 have za:=who_zero hg hv
 have zb:=who_zero hh hu
 by_cases h0:a.length=0∨(¬a.length=0∧b.length=0)
 ·have e:x*y=0:=by
   rcases h0 with h | ⟨_,h⟩
   ·rw [za.1 (List.eq_nil_of_length_eq_zero h),Int.zero_mul]
   ·rw [zb.1 (List.eq_nil_of_length_eq_zero h),Int.mul_zero]
  rw [e]
  exact wtimes_zero w _ _ _ _ _ _ _ _ h0
 ·have h1:¬a.length=0:=fun h=>h0 (Or.inl h)
  have h2:¬b.length=0:=fun h=>h0 (Or.inr ⟨h1,h⟩)
  have hx0:x≠0:=fun h=>h1 (by rw [za.2 h];rfl)
  have hy0:y≠0:=fun h=>h2 (by rw [zb.2 h];rfl)
  have sg:(!(decide (x < 0)==decide (y < 0)))=decide (x*y < 0):=by
   rcases Int.lt_or_gt_of_ne hx0 with hx1 | hx1
   ·rcases Int.lt_or_gt_of_ne hy0 with hy1 | hy1
    ·have:=Int.mul_pos_of_neg_of_neg hx1 hy1
     simp [hx1,hy1];omega
    ·have:=Int.mul_neg_of_neg_of_pos hx1 hy1
     simp [hx1,show ¬y < 0 by omega];omega
   ·rcases Int.lt_or_gt_of_ne hy0 with hy1 | hy1
    ·have:=Int.mul_neg_of_pos_of_neg hx1 hy1
     simp [hy1,show ¬x < 0 by omega];omega
    ·have:=Int.mul_pos hx1 hy1
     simp [show ¬y < 0 by omega,show ¬x < 0 by omega];omega
  have key:∀ W (ds:List Int) r,Nm.Good 4294967296 ds→Nm.val 4294967296 ds=((x*y).natAbs:Int)→Lims W ds r→WhoAt W (x*y) (.agg #[.bool (!(decide (x < 0)==decide (y < 0))),r]):=fun W ds r g1 g2 hr=>who_of hr g1 g2 sg
  by_cases ha1:a=[1]
  ·have hx1:(x.natAbs:Int)=1:=by rw [←hv,ha1];rfl
   exact wtimes_one w _ _ _ _ _ _ _ _ (x*y) (by simpa using h1) (by simpa using h2) (fun W hW=>(isOne_any W a _ (hI.below hW)).mono fun e w' ⟨g1,g2⟩=>⟨by rw [g1,decide_eq_true ha1],g2⟩) fun W hW=>key W b _ hh (by rw [hu,Int.natAbs_mul];simp [show x.natAbs=1 by omega]) (hJ.below hW)
  ·by_cases hb1:b=[1]
   ·have hy1:(y.natAbs:Int)=1:=by rw [←hu,hb1];rfl
    exact wtimes_two w _ _ _ _ _ _ _ _ (x*y) (by simpa using h1) (by simpa using h2) (fun W hW=>(isOne_any W a _ (hI.below hW)).mono fun e w' ⟨g1,g2⟩=>⟨by rw [g1,decide_eq_false ha1],g2⟩) (fun W hW=>(isOne_any W b _ (hJ.below hW)).mono fun e w' ⟨g1,g2⟩=>⟨by rw [g1,decide_eq_true hb1],g2⟩) fun W hW=>key W a _ hg (by rw [hv,Int.natAbs_mul];simp [show y.natAbs=1 by omega]) (hI.below hW)
   ·refine wtimes_core w _ _ _ _ _ _ _ _ (x*y) _ (by simpa using h1) (by simpa using h2) (fun W hW=>(isOne_any W a _ (hI.below hW)).mono fun e w' ⟨g1,g2⟩=>⟨by rw [g1,decide_eq_false ha1],g2⟩) (fun W hW=>(isOne_any W b _ (hJ.below hW)).mono fun e w' ⟨g1,g2⟩=>⟨by rw [g1,decide_eq_false hb1],g2⟩) (fun W hW=>multiplyLimbs_any W a b _ _ (hI.below hW) (hJ.below hW) (by omega) (by omega) hg.dig hh.dig) ?_
    rintro W xs r ⟨g1,g2⟩ hr
    exact key W xs r g1 (by rw [g2,hv,hu,Int.natAbs_mul];simp) hr
theorem wminus_any (w:World) (x y:Int) (u v:Value) (n:Nat) (hx:WhoAt w x u) (hy:WhoAt w y v) (bx:x.natAbs < 2 ^ n) (bY:y.natAbs < 2 ^ n) (hn:n≤1000000000):Calls Tryz.prog 146 #[u,v] w (WhoPost w (x - y)):=by
 obtain ⟨a,ao,cap,rfl,_⟩:=hx.open
 obtain ⟨b,bo,bap,rfl,_⟩:=hy.open
 exact wminus_core w _ _ _ _ _ _ _ _ (-y) (x - y) (fun W hW=>wneg_any W y _ (hy.below hW)) (fun W r hW hr=>wplus_any W x (-y) _ _ n (hx.below hW) hr bx (by rwa [Int.natAbs_neg]) hn)
open Go.RowKit
def Nm.dn (a:List Int) (wh p t:Nat):Int:=((Nm.at' a (t+wh)+Nm.at' a (t+wh+1)*4294967296) / 2 ^ p) % 4294967296
theorem Nm.at_ext:∀ {a b:List Int},a.length=b.length→(∀ t,t < a.length→Nm.at' a t=Nm.at' b t)→a=b:=by
 intro a b hl h
 refine List.ext_getElem hl ?_
 intro t h1 h2
 have:=h t h1
 unfold Nm.at' at this
 rw [List.getD_eq_getElem?_getD,List.getD_eq_getElem?_getD,List.getElem?_eq_getElem h1,List.getElem?_eq_getElem h2] at this
 exact this
theorem Nm.at_drop (a:List Int) (n t:Nat):Nm.at' (a.drop n) t=Nm.at' a (t+n):=by
 unfold Nm.at'
 simp [List.getD,List.getElem?_drop,Nat.add_comm]
def Nm.dl (p:Nat):List Int→List Int
 | []=>[]
 | x::r=>((x+Nm.at' r 0*4294967296) / 2 ^ p) % 4294967296::Nm.dl p r
theorem Nm.dl_len (p:Nat):∀ l,(Nm.dl p l).length=l.length:=by
 intro l
 induction l with
 | nil=>rfl
 | cons x r ih=>simp [Nm.dl,ih]
theorem Nm.dl_at (p:Nat):∀ l t,t < l.length→Nm.at' (Nm.dl p l) t=((Nm.at' l t+Nm.at' l (t+1)*4294967296) / 2 ^ p) % 4294967296:=by
 intro l
 induction l with
 | nil=>intro t h;simp at h
 | cons x r ih=>
  intro t h
  cases t with
  | zero=>rfl
  | succ t=>exact ih t (by simpa using h)
theorem Nm.split_low {l:List Int} (hl:Nm.Dig 4294967296 l):∃ V',Nm.val 4294967296 l=Nm.at' l 0+4294967296*V':=by
 cases l with
 | nil=>exact ⟨0,rfl⟩
 | cons x r=>exact ⟨Nm.val 4294967296 r,rfl⟩
theorem Nm.dl_step {x f V' D E:Int} (hD:0 < D) (hE:0 < E) (hW:D*E=4294967296) (x0:0≤x) (x1:x < 4294967296):
  (x+f*4294967296) / D % 4294967296+4294967296*((f+4294967296*V') / D)=(x+4294967296*(f+4294967296*V')) / D:=by
 have e1:(x+f*4294967296) / D=x / D+E*f:=by
  rw [show f*4294967296=(E*f)*D by rw [←hW];grind,Int.add_mul_ediv_right _ _ (by omega)]
 have e2:(x+4294967296*(f+4294967296*V')) / D=x / D+E*(f+4294967296*V'):=by
  rw [show 4294967296*(f+4294967296*V')=(E*(f+4294967296*V'))*D by rw [←hW];grind,Int.add_mul_ediv_right _ _ (by omega)]
 have e3:(f+4294967296*V') / D=f / D+E*V':=by
  rw [show 4294967296*V'=(E*V')*D by rw [←hW];grind,Int.add_mul_ediv_right _ _ (by omega)]
 rw [e1,e2,e3]
 have h1:=Int.emod_add_mul_ediv f D
 have h2:=Int.emod_nonneg f (show D≠0 by omega)
 have h3:=Int.emod_lt_of_pos f hD
 have hx0:0≤x / D:=Int.ediv_nonneg x0 (by omega)
 have hx1:x / D < E:=Int.ediv_lt_of_lt_mul hD (by rw [Int.mul_comm,hW];exact x1)
 generalize f % D=h at*
 generalize f / D=g at*
 generalize x / D=q at*
 have e4:(q+E*f) % 4294967296=q+E*h:=by
  have:q+E*f=(q+E*h)+g*4294967296:=by rw [←h1,←hW];grind
  rw [this,Int.add_mul_emod_self_right]
  refine Int.emod_eq_of_lt (Int.add_nonneg hx0 (Int.mul_nonneg (by omega) h2)) ?_
  have:E*(h+1)≤E*D:=Int.mul_le_mul_of_nonneg_left (by omega) (by omega)
  rw [Int.mul_comm E D,hW,Int.mul_add,Int.mul_one] at this
  omega
 rw [e4,←h1]
 grind
theorem Nm.dl_val {p:Nat} (hp:p < 32):∀ l,Nm.Dig 4294967296 l→Nm.val 4294967296 (Nm.dl p l)=Nm.val 4294967296 l / 2 ^ p:=by
 have hD:(0:Int) < 2 ^ p:=Nm.pow_pos' (by decide) p
 have hE:(0:Int) < 2 ^ (32 - p):=Nm.pow_pos' (by decide) _
 have hW:(2:Int) ^ p*2 ^ (32 - p)=4294967296:=by rw [←Int.pow_add,show p+(32 - p)=32 by omega];rfl
 intro l
 induction l with
 | nil=>intro _;simp [Nm.dl,Nm.val]
 | cons x r ih=>
  intro h
  have hr:Nm.Dig 4294967296 r:=fun d hd=>h d (List.mem_cons_of_mem _ hd)
  have hx:=h x List.mem_cons_self
  obtain ⟨V',hV⟩:=Nm.split_low hr
  rw [Nm.dl,Nm.val,ih hr,Nm.val,hV]
  exact Nm.dl_step hD hE hW hx.1 hx.2
theorem Nm.val_drop_div {B:Int} (hB:0 < B) (l:List Int) (h:Nm.Dig B l) (n:Nat):Nm.val B (l.drop n)=Nm.val B l / B ^ n:=by
 have hP:=Nm.pow_pos' hB n
 by_cases hn:n≤l.length
 ·have e:Nm.val B l=Nm.val B (l.take n)+Nm.val B (l.drop n)*B ^ n:=by
   conv=>lhs;rw [←List.take_append_drop n l,Nm.val_append,List.length_take,Nat.min_eq_left hn]
   rw [Int.mul_comm]
  have h1:=Nm.val_lo hB (h.take n)
  have h2:=Nm.val_hi hB (h.take n)
  rw [List.length_take,Nat.min_eq_left hn] at h2
  rw [e,Int.add_mul_ediv_right _ _ (by omega),Int.ediv_eq_zero_of_lt h1 h2]
  omega
 ·rw [List.drop_eq_nil_of_le (by omega)]
  have h1:=Nm.val_lo hB h
  have h2:=Nm.val_hi hB h
  have h3:=Nm.pow_mono (B:=B) (by omega) (show l.length≤n by omega)
  rw [Int.ediv_eq_zero_of_lt h1 (by omega)]
  rfl
theorem Nm.down_val {a out:List Int} {wh p:Nat} (hp:p < 32) (ha:Nm.Dig 4294967296 a) (hl:out.length=a.length - wh) (h:∀ t,t < a.length - wh→Nm.at' out t=Nm.dn a wh p t):Nm.val 4294967296 out=Nm.val 4294967296 a / 2 ^ (32*wh+p):=by
 have e:out=Nm.dl p (a.drop wh):=by
  refine Nm.at_ext (by rw [Nm.dl_len,List.length_drop];exact hl) ?_
  intro t ht
  rw [Nm.dl_at p _ t (by rw [List.length_drop];omega),h t (by omega),Nm.at_drop,Nm.at_drop]
  unfold Nm.dn
  rw [show t+1+wh=t+wh+1 by omega]
 have hdd:Nm.Dig 4294967296 (a.drop wh):=fun d hd=>ha d (List.mem_of_mem_drop hd)
 rw [e,Nm.dl_val hp _ hdd,Nm.val_drop_div (by decide) a ha,Int.pow_add,Int.pow_mul,show (2:Int) ^ 32=4294967296 from rfl,Int.ediv_ediv_of_nonneg (Int.le_of_lt (Nm.pow_pos' (by decide) _))]
def downRel (w:World) (a:List Int) (wh p:Nat) (i:Value) (wr:World):Prop:=
 ∃ (k:Nat) (out:List Int),i=.int .i64 k∧k≤a.length - wh∧LBlk wr w.heap.size out∧out.length=a.length - wh∧Nm.Dig 4294967296 out∧Below w.heap.size w wr∧∀ t,t < k→Nm.at' out t=Nm.dn a wh p t
theorem shiftDown_any (w:World) (a:List Int) (v:Value) (bits:Nat) (ha:Lims w a v) (hal:a.length≤10000000000) (ga:Nm.Dig 4294967296 a) (hbb:bits≤1000000000000):
  Calls Tryz.prog 155 #[v,.int .i64 bits] w (LimPost w fun xs=>Nm.Good 4294967296 xs∧Nm.val 4294967296 xs=Nm.val 4294967296 a / 2 ^ bits):=by
 obtain ⟨ao,cap,rfl,_⟩:=ha.shape
 by_cases h:bits / 32 < a.length
 ·have:=shiftDown_core w a ao cap (bits / 32) (bits % 32) ha hal ga (by omega) h bits (by omega)
  rw [show 32*(bits / 32)+bits % 32=bits by omega] at this
  exact this
 ·refine (shiftDown_zero w a.length ao cap bits (by omega) (by omega) (by omega)).mono ?_
  rintro e w' ⟨v,xs,rfl,rfl,hI,hb⟩
  refine ⟨v,[],rfl,⟨Nm.Good.nil _,?_⟩,hI,hb⟩
  have h1:=Nm.val_lo (by decide) ga
  have h2:=Nm.val_hi (by decide) ga
  have h3:(4294967296:Int) ^ a.length≤2 ^ bits:=by
   rw [show (4294967296:Int)=2 ^ 32 from rfl,←Int.pow_mul]
   exact Nm.pow_mono (by decide) (by omega)
  rw [Int.ediv_eq_zero_of_lt h1 (by omega)]
  rfl
open Go.RowKit
def Nm.half (z:Int) (n:Nat):Int:=if z < 0 then -((z.natAbs:Int) / 2 ^ n) else (z.natAbs:Int) / 2 ^ n
theorem halved_any (w:World) (z:Int) (v:Value) (times n:Nat) (h:WhoAt w z v) (bz:z.natAbs < 2 ^ n) (hn:n≤1000000000) (ht:1≤times) (ht2:times≤1000000000):Calls Tryz.prog 212 #[v,.int .i64 times] w (WhoPost w (Nm.half z times)):=by
 obtain ⟨ds,ao,cap,rfl,hI,hg,hv⟩:=h.open
 have hl:=lims_len hg hv bz
 refine halved_core w _ ao _ cap _ _ times (by omega) (fun W hW=>shiftDown_any W ds _ times (hI.below hW) (by omega) hg.dig (by omega)) ?_
 rintro W xs r ⟨h1,h2⟩ hr
 rw [hv] at h2
 have hq:0≤((z.natAbs:Nat):Int) / 2 ^ times:=Int.ediv_nonneg (by omega) (Int.le_of_lt (Nm.pow_pos' (by decide) _))
 have h0:=Nm.val_zero (by decide) h1
 rw [h2] at h0
 refine who_of hr h1 (by rw [h2];unfold Nm.half;split <;> omega) ?_
 unfold Nm.half
 by_cases hz:z < 0
 ·rw [if_pos hz,decide_eq_true hz,Bool.true_and]
  by_cases hx:xs=[]
  ·have:=h0.2 hx
   rw [hx,this];rfl
  ·have hp:=List.length_pos_iff.2 hx
   have:((z.natAbs:Nat):Int) / 2 ^ times≠0:=fun e=>hx (h0.1 e)
   rw [decide_eq_true hp,decide_eq_true (by omega)]
 ·rw [if_neg hz,decide_eq_false hz,Bool.false_and,decide_eq_false (by omega)]
open Go.RowKit
theorem Nm.low_zero:∀ (l:List Int) (k:Nat),(∀ t,t < k→Nm.at' l t=0)→Nm.val 4294967296 l=4294967296 ^ k*Nm.val 4294967296 (l.drop k):=by
 intro l k
 induction k generalizing l with
 | zero=>intro _;simp
 | succ k ih=>
  intro h
  cases l with
  | nil=>simp [Nm.val]
  | cons x r=>
   have hx:x=0:=h 0 (by omega)
   have:=ih r (fun t ht=>h (t+1) (by omega))
   rw [List.drop_succ_cons,Nm.val,this,hx,Int.pow_succ]
   grind
theorem Nm.twos_dvd {l:List Int} {k c:Nat} {L:Int} (hk:k < l.length) (h:∀ t,t < k→Nm.at' l t=0) (hL:1≤L) (hx:Nm.at' l k < 4294967296) (he:Nm.at' l k=L*2 ^ c):(2:Int) ^ (32*k+c) ∣ Nm.val 4294967296 l:=by
 have hc:c < 32:=by
  rcases Nat.lt_or_ge c 32 with h1 | h1
  ·exact h1
  ·have h2:(2:Int) ^ 32≤2 ^ c:=Nm.pow_mono (by decide) h1
   have h3:1*(2:Int) ^ c≤L*2 ^ c:=Int.mul_le_mul_of_nonneg_right hL (Int.le_of_lt (Nm.pow_pos' (by decide) _))
   have h4:(2:Int) ^ 32=4294967296:=rfl
   omega
 have hW:(4294967296:Int)=2 ^ c*2 ^ (32 - c):=by rw [←Int.pow_add,show c+(32 - c)=32 by omega];rfl
 rw [Nm.low_zero l k h,Nm.val_drop _ l k hk,he,Int.pow_add,Int.pow_mul,show (2:Int) ^ 32=4294967296 from rfl]
 refine Int.mul_dvd_mul (Int.dvd_refl _) ?_
 refine Int.dvd_add ⟨L,by rw [Int.mul_comm]⟩ ⟨2 ^ (32 - c)*Nm.val 4294967296 (l.drop (k+1)),?_⟩
 rw [←Int.mul_assoc,←hW]
noncomputable def Nm.tz (z:Int):Nat:=open Classical in if h:∃ t:Nat,(2:Int) ^ t ∣ z∧¬(2:Int) ^ (t+1) ∣ z then h.choose else 0
theorem Nm.tz_eq {z:Int} {t:Nat} (h1:(2:Int) ^ t ∣ z) (h2:¬(2:Int) ^ (t+1) ∣ z):Nm.tz z=t:=by
 have h:∃ t:Nat,(2:Int) ^ t ∣ z∧¬(2:Int) ^ (t+1) ∣ z:=⟨t,h1,h2⟩
 unfold Nm.tz
 rw [dif_pos h]
 obtain ⟨g1,g2⟩:=h.choose_spec
 generalize h.choose=s at*
 have key:∀ {a b:Nat},a < b→(2:Int) ^ b ∣ z→(2:Int) ^ (a+1) ∣ z:=fun {a b} hab hb=>Int.dvd_trans ⟨2 ^ (b - (a+1)),by rw [←Int.pow_add];congr 1;omega⟩ hb
 rcases Nat.lt_trichotomy s t with h | h | h
 ·exact absurd (key h h1) g2
 ·exact h
 ·exact absurd (key h g1) h2
theorem Nm.tz_zero:Nm.tz 0=0:=by
 unfold Nm.tz
 rw [dif_neg]
 rintro ⟨t,_,h⟩
 exact h (Int.dvd_zero _)
theorem Nm.tz_dvd (z:Int):(2:Int) ^ Nm.tz z ∣ z:=by
 unfold Nm.tz
 split
 ·rename_i h;exact h.choose_spec.1
 ·simp
theorem Nm.tz_lt {z:Int} {n:Nat} (hz:z≠0) (h:z.natAbs < 2 ^ n):Nm.tz z < n:=by
 have h1:((2:Int) ^ Nm.tz z).natAbs≤z.natAbs:=Nat.le_of_dvd (by omega) (Int.natAbs_dvd_natAbs.2 (Nm.tz_dvd z))
 rw [Int.natAbs_pow] at h1
 have h2:2 ^ Nm.tz z < 2 ^ n:=by
  have:(2:Int).natAbs=2:=rfl
  rw [this] at h1
  omega
 exact (Nat.pow_lt_pow_iff_right (by decide)).1 h2
theorem Nm.twos_not {l:List Int} {k c:Nat} {L:Int} (hk:k < l.length) (h:∀ t,t < k→Nm.at' l t=0) (hL:1≤L) (ho:¬L % 2=0) (hx:Nm.at' l k < 4294967296) (he:Nm.at' l k=L*2 ^ c):¬(2:Int) ^ (32*k+c+1) ∣ Nm.val 4294967296 l:=by
 have hc:c < 32:=by
  rcases Nat.lt_or_ge c 32 with h1 | h1
  ·exact h1
  ·have h2:(2:Int) ^ 32≤2 ^ c:=Nm.pow_mono (by decide) h1
   have h3:1*(2:Int) ^ c≤L*2 ^ c:=Int.mul_le_mul_of_nonneg_right hL (Int.le_of_lt (Nm.pow_pos' (by decide) _))
   have h4:(2:Int) ^ 32=4294967296:=rfl
   omega
 have hW:(4294967296:Int)=2 ^ c*(2*2 ^ (31 - c)):=by rw [Int.mul_comm 2,←Int.pow_succ,←Int.pow_add,show c+(31 - c+1)=32 by omega];rfl
 rw [Nm.low_zero l k h,Nm.val_drop _ l k hk,he]
 generalize Nm.val 4294967296 (l.drop (k+1))=R
 have e1:(4294967296:Int) ^ k*(L*2 ^ c+4294967296*R)=2 ^ (32*k+c)*(L+2*(2 ^ (31 - c)*R)):=by
  rw [Int.pow_add,Int.pow_mul,show (2:Int) ^ 32=4294967296 from rfl]
  have:(4294967296:Int)*R=2 ^ c*(2*(2 ^ (31 - c)*R)):=by
   calc (4294967296:Int)*R=(2 ^ c*(2*2 ^ (31 - c)))*R:=by rw [←hW]
    _=2 ^ c*(2*(2 ^ (31 - c)*R)):=by simp only [Int.mul_assoc]
  rw [this]
  grind
 rw [e1,Int.pow_succ]
 rintro ⟨q,hq⟩
 have hp:(2:Int) ^ (32*k+c)≠0:=by have:=Nm.pow_pos' (B:=2) (by decide) (32*k+c);omega
 have:L+2*(2 ^ (31 - c)*R)=2*q:=Int.eq_of_mul_eq_mul_left hp (by rw [hq,Int.mul_assoc])
 omega
def twosOut (W:World) (l:List Int) (i:Value) (wr:World):Prop:=∃ k:Nat,i=.int .i64 k∧k≤l.length∧(∀ t,t < k→Nm.at' l t=0)∧wr=W
def twosIn (W:World) (k:Nat) (x:Int) (cv lv:Value) (wr:World):Prop:=∃ (c:Nat) (L:Int),cv=.int .i64 ((32*k+c:Nat):Int)∧lv=.int .u32 L∧1≤L∧L < 4294967296∧x=L*2 ^ c∧c≤40∧L < 2 ^ (40 - c)∧wr=W
theorem twos_half {c:Nat} {L x:Int} (h1:1≤L) (h2:L % 2=0) (hx:x=L*2 ^ c) (hb:L < 2 ^ (40 - c)):x=L / 2*2 ^ (c+1)∧L / 2 < 2 ^ (40 - (c+1))∧c+1≤40:=by
 have hc:c < 40:=by
  rcases Nat.lt_or_ge c 40 with h | h
  ·exact h
  ·rw [show 40 - c=0 by omega] at hb;simp at hb;omega
 refine ⟨?_,?_,by omega⟩
 ·rw [hx,Int.pow_succ,←Int.mul_assoc,Int.mul_comm (L / 2*2 ^ c) 2,←Int.mul_assoc,show 2*(L / 2)=L by omega]
 ·rw [show 40 - c=(40 - (c+1))+1 by omega,Int.pow_succ] at hb
  omega
theorem Nm.tz_abs (z:Int):Nm.tz (z.natAbs:Int)=Nm.tz z:=by
 by_cases h:∃ t:Nat,(2:Int) ^ t ∣ z∧¬(2:Int) ^ (t+1) ∣ z
 ·obtain ⟨t,h1,h2⟩:=h
  rw [Nm.tz_eq h1 h2,Nm.tz_eq (Int.dvd_natAbs.2 h1) (fun g=>h2 (Int.dvd_natAbs.1 g))]
 ·unfold Nm.tz
  rw [dif_neg h,dif_neg]
  rintro ⟨t,h1,h2⟩
  exact h ⟨t,Int.dvd_natAbs.1 h1,fun g=>h2 (Int.dvd_natAbs.2 g)⟩
theorem twos_any (w:World) (z:Int) (v:Value) (n:Nat) (h:WhoAt w z v) (bz:z.natAbs < 2 ^ n) (hn:n≤1000000000):
  Calls Tryz.prog 225 #[v] w fun e w'=>e=.returned (.int .i64 (Nm.tz z))∧Below w.heap.size w w':=by
 obtain ⟨ds,ao,cap,rfl,hI,hg,hv⟩:=h.open
 have hl:=lims_len hg hv bz
 refine (twos_core w _ ds ao cap hI (by omega) hg).mono ?_
 rintro e w' ⟨rfl,h3⟩
 rw [hv,Nm.tz_abs]
 exact ⟨rfl,h3⟩
open Go.RowKit
theorem bitLength_any (w:World) (a:List Int) (v:Value) (ha:Lims w a v) (hal:a.length≤10000000000) (hp:0 < a.length) (ga:Nm.Dig 4294967296 a):
  Calls Tryz.prog 149 #[v] w fun e w'=>∃ c:Nat,e=.returned (.int .i64 ((32*(a.length - 1)+c:Nat):Int))∧c≤32∧w=w':=by
 obtain ⟨ao,cap,rfl,_⟩:=ha.shape
 obtain ⟨g,rfl,hc⟩:=ha.place hp
 have x1:=hc (a.length - 1) (by omega)
 have a0:=ga.at' (by decide) (a.length - 1)
 have l0:((a.length:Int)==0)=false:=beq_eq_false_iff_ne.2 (by omega)
 have i2:((a.length:Int) - 1).toNat=a.length - 1:=by omega
 clear ha hc ga
 generalize Nm.at' a (a.length - 1)=x at*
 obtain ⟨a1,a2⟩:=a0
 go_enter Tryz.func149,Tryz.ntmps149
 go_wp2_with fail
 go_loop [3,4] (fun l t=>∃ (c:Nat) (T:Int),l=.int .i64 ((32*(a.length - 1)+c:Nat):Int)∧t=.int .u32 T∧0≤T∧T < 4294967296∧T < 2 ^ (32 - c)∧c≤32) (fun _ t=>(intOf t).toNat)
 case atStart=>exact ⟨0,x,by simp;omega,rfl,a1,a2,by simpa using a2,by omega⟩
 case round=>
  obtain ⟨c,T,rfl,rfl,t0,t3,t1,hc⟩:=hrel
  have HT:=hid t1
  clear t1
  by_cases h:0 < T
  ·have hc2:c < 32:=by
    rcases Nat.lt_or_ge c 32 with h1 | h1
    ·exact h1
    ·have:=HT.out;rw [show 32 - c=0 by omega] at this;simp at this;omega
   have ht:Hid (T / 2 < 2 ^ (32 - (c+1))):=by
    have:=HT.out
    rw [show 32 - c=(32 - (c+1))+1 by omega,Int.pow_succ] at this
    show _ < _
    omega
   go_wp2_with fail
   go_round
   case rel=>exact ⟨c+1,T / 2,by simp;omega,rfl,by omega,by omega,ht.out,by omega⟩
   case measure=>simp [intOf];omega
  ·go_wp2_with fail
   go_ret
   exact ⟨c,rfl,hc,rfl⟩
def upRel (w:World) (a:List Int) (wh p:Nat) (c i:Value) (wr:World):Prop:=
 ∃ (k:Nat) (cc:Int) (out:List Int),i=.int .i64 k∧c=.int .u64 cc∧0≤cc∧cc < 2 ^ p∧k≤a.length∧LBlk wr w.heap.size out∧out.length=a.length+wh+1∧Nm.Dig 4294967296 out∧Below w.heap.size w wr∧
  Nm.val 4294967296 (out.take (k+wh))+cc*4294967296 ^ (k+wh)=Nm.val 4294967296 (a.take k)*2 ^ p*4294967296 ^ wh
theorem up_carry {cc x D:Int} (hD:0 < D) (c0:0≤cc) (c1:cc < D) (x0:0≤x) (x1:x < 4294967296):0≤(cc+x*D) / 4294967296∧(cc+x*D) / 4294967296 < D:=by
 have h1:0≤x*D:=Int.mul_nonneg x0 (by omega)
 have h2:x*D≤4294967295*D:=Int.mul_le_mul_of_nonneg_right (by omega) (by omega)
 refine ⟨Int.ediv_nonneg (by omega) (by decide),Int.ediv_lt_of_lt_mul (by decide) ?_⟩
 omega
theorem up_step {a out:List Int} {wh k:Nat} {cc D:Int} (hk:k+wh < out.length) (h:Nm.val 4294967296 (out.take (k+wh))+cc*4294967296 ^ (k+wh)=Nm.val 4294967296 (a.take k)*D*4294967296 ^ wh):
  Nm.val 4294967296 ((out.set (k+wh) ((cc+Nm.at' a k*D) % 4294967296)).take (k+1+wh))+(cc+Nm.at' a k*D) / 4294967296*4294967296 ^ (k+1+wh)=Nm.val 4294967296 (a.take (k+1))*D*4294967296 ^ wh:=by
 rw [show k+1+wh=(k+wh)+1 by omega,Nm.take_set hk,Nm.val_snoc,List.length_take,Nat.min_eq_left (by omega),Nm.val_take,Int.pow_succ]
 have e:=Int.emod_add_mul_ediv (cc+Nm.at' a k*D) 4294967296
 have e2:(4294967296:Int) ^ (k+wh)=4294967296 ^ k*4294967296 ^ wh:=Int.pow_add _ _ _
 generalize (cc+Nm.at' a k*D) % 4294967296=r at*
 generalize (cc+Nm.at' a k*D) / 4294967296=q at*
 generalize Nm.at' a k=x at*
 rw [e2] at h ⊢
 generalize (4294967296:Int) ^ k=P at*
 generalize (4294967296:Int) ^ wh=R at*
 grind
theorem up_end {a out:List Int} {wh:Nat} {cc D:Int} (hl:out.length=a.length+wh+1) (h:Nm.val 4294967296 (out.take (a.length+wh))+cc*4294967296 ^ (a.length+wh)=Nm.val 4294967296 (a.take a.length)*D*4294967296 ^ wh):
  Nm.val 4294967296 (out.set (a.length+wh) cc)=Nm.val 4294967296 a*D*4294967296 ^ wh:=by
 rw [List.take_length] at h
 rw [←h,←Nm.val_take_all 4294967296 (out.set (a.length+wh) cc) (i:=a.length+wh+1) (by simp;omega),Nm.take_set (by omega),Nm.val_snoc,List.length_take,Nat.min_eq_left (by omega)]
theorem shiftUp_any (w:World) (a:List Int) (v:Value) (bits:Nat) (ha:Lims w a v) (hal:a.length≤10000000000) (ga:Nm.Dig 4294967296 a) (hbb:bits≤300000000000):
  Calls Tryz.prog 150 #[v,.int .i64 bits] w (LimPost w fun xs=>Nm.Good 4294967296 xs∧Nm.val 4294967296 xs=Nm.val 4294967296 a*2 ^ bits):=by
 obtain ⟨ao,cap,rfl,_⟩:=ha.shape
 have:=shiftUp_core w a ao cap (bits / 32) (bits % 32) ha hal ga (by omega) (by omega) bits (by omega)
 rw [show 32*(bits / 32)+bits % 32=bits by omega] at this
 exact this
end Go.Proofs.YteghhlfmcjmnoaaGreatDoor
