import Derived.Test.YteghhlfmcjmnoaaGreatDoorCDe05
set_option linter.unusedSimpArgs false
set_option linter.unusedVariables false
set_option maxRecDepth 100000
set_option maxHeartbeats 2000000
namespace Go.Proofs.YteghhlfmcjmnoaaGreatDoor
open Go.RowKit
namespace Ab
def sgn (ν:List (Int×Nat)):List AC->List AC×List Prop
 | .bool false::.dg k i::r=>match ν[i]? with
  | some zn=>(.sg i::.dg k i::(sgn ν r).1,(0<=zn.1)::(sgn ν r).2)
  | none=>(.bool false::.dg k i::(sgn ν r).1,(sgn ν r).2)
 | c::r=>(c::(sgn ν r).1,(sgn ν r).2)
 | []=>([],[])
theorem sgn_ok {C:Cfg}{φ:Nat->Option (Nat×Nat)}{ν:List (Int×Nat)}{w:World}:∀ (cs:List AC) (xs:List Value),Holds (sgn ν cs).2->All2 (relC C φ ν w) cs xs->All2 (relC C φ ν w) (sgn ν cs).1 xs
 | [],[],_,h=>h
 | [],_::_,_,h=>h.elim
 | _::_,[],_,h=>h.elim
 | [c],[x],hp,⟨h1,h2⟩=>by
  have e:sgn ν [c]=([c],[]):=by cases c<;>(try rfl);rename_i b;cases b<;>rfl
  rw [e]
  exact ⟨h1,trivial⟩
 | [c],_::_::_,_,h=>h.2.elim
 | _::_::_,[_],_,h=>h.2.elim
 | c::d::r,x::y::xs,hp,⟨h1,h2,h3⟩=>by
  by_cases hcd:∃ k i,c=.bool false/\d=.dg k i
  ·obtain ⟨k,i,rfl,rfl⟩:=hcd
   simp only [sgn] at hp ⊢
   cases hi:ν[i]? with
   | none=>
    rw [hi] at hp
    simp only at hp ⊢
    exact ⟨h1,h2,sgn_ok r xs hp h3⟩
   | some zn=>
    rw [hi] at hp
    simp only at hp ⊢
    have hz:0<=zn.1:=hp _ (by simp)
    refine ⟨⟨zn.1,zn.2,hi,?_⟩,h2,sgn_ok r xs (fun q hq=>hp q (by simp [hq])) h3⟩
    have h1:x=.bool false:=h1
    rw [h1,decide_eq_false (by omega)]
  ·have e:sgn ν (c::d::r)=(c::(sgn ν (d::r)).1,(sgn ν (d::r)).2):=by
    cases c<;>try rfl
    rename_i b
    cases b<;>try rfl
    cases d<;>try rfl
    exact absurd ⟨_,_,rfl,rfl⟩ hcd
   rw [e] at hp ⊢
   exact ⟨h1,sgn_ok (d::r) (y::xs) hp ⟨h2,h3⟩⟩
theorem sgn_len {ν:List (Int×Nat)}:∀ (cs:List AC),(sgn ν cs).1.length=cs.length
 | []=>rfl
 | [c]=>by
  have e:sgn ν [c]=([c],[]):=by cases c<;>(try rfl);rename_i b;cases b<;>rfl
  rw [e]
 | c::d::r=>by
  by_cases hcd:∃ k i,c=.bool false/\d=.dg k i
  ·obtain ⟨k,i,rfl,rfl⟩:=hcd
   simp only [sgn]
   cases ν[i]?<;>simp [sgn_len r]
  ·have e:sgn ν (c::d::r)=(c::(sgn ν (d::r)).1,(sgn ν (d::r)).2):=by
    cases c<;>try rfl
    rename_i b
    cases b<;>try rfl
    cases d<;>try rfl
    exact absurd ⟨_,_,rfl,rfl⟩ hcd
   rw [e]
   have:=sgn_len (d::r) (ν:=ν)
   simp only [List.length_cons] at this ⊢
   omega
def sgnB (ν:List (Int×Nat)):List (Nat×Box)->List (Nat×Box)×List Prop
 | []=>([],[])
 | (b,B)::r=>((b,{B with cs:=(sgn ν B.cs).1})::(sgnB ν r).1,(sgn ν B.cs).2++(sgnB ν r).2)
def sgnS (s:AS):AS:={s with boxes:=(sgnB s.nums s.boxes).1}
theorem look_sgn {ν:List (Int×Nat)}:∀ (l:List (Nat×Box)) (b:Nat) (B':Box),look (sgnB ν l).1 b=some B'->∃ B,look l b=some B/\B'={B with cs:=(sgn ν B.cs).1}/\(Holds (sgnB ν l).2->Holds (sgn ν B.cs).2)
 | [],b,B',h=>by simp [sgnB,look] at h
 | (c,D)::l,b,B',h=>by
  simp only [sgnB,look] at h ⊢
  cases hc:(c==b) with
  | true=>
   rw [hc] at h
   simp only [cond_true,Option.some.injEq] at h
   exact ⟨D,by rw [cond_true],h.symm,fun hp q hq=>hp q (by simp [hq])⟩
  | false=>
   rw [hc] at h
   simp only [cond_false] at h
   obtain ⟨B,h1,h2,h3⟩:=look_sgn l b B' h
   exact ⟨B,by rw [cond_false];exact h1,h2,fun hp=>h3 fun q hq=>hp q (by simp [hq])⟩
theorem sgnS_ok {C:Cfg}{w0 w:World}{ψ φ:Nat->Option (Nat×Nat)}{s:AS}{a:Act}(hp:Holds (sgnB s.nums s.boxes).2)(hr:Rep C w0 ψ φ s a w):Rep C w0 ψ φ (sgnS s) a w:=by
 have hl:=fun b B' h=>look_sgn (ν:=s.nums) s.boxes b B' h
 refine ⟨⟨?_,?_,?_,?_,hr.wd.fresh,hr.wd.lt,hr.wd.low,hr.wd.on,hr.wd.base,?_⟩,hr.defers,hr.tmps⟩
 ·intro b B' hb
  obtain ⟨B,h1,h2,h3⟩:=hl b B' hb
  obtain ⟨k,o,pre,ys,post,k1,k2,k3,k4⟩:=hr.wd.box b B h1
  exact ⟨k,o,pre,ys,post,k1,by rw [h2];exact k2,k3,by rw [h2];exact sgn_ok _ _ (h3 hp) k4⟩
 ·intro b B' k o hb ho hk
  obtain ⟨B,h1,h2,_⟩:=hl b B' hb
  rw [h2] at ho
  exact hr.wd.own b B k o h1 ho hk
 ·intro b b' B B' k o o' hb hb' hk hk'
  obtain ⟨D,h1,h2,_⟩:=hl b B hb
  obtain ⟨D',h1',h2',_⟩:=hl b' B' hb'
  rcases hr.wd.inj b b' D D' k o o' h1 h1' hk hk' with e | ⟨e1,e2,e3,e4⟩
  ·exact Or.inl e
  ·refine Or.inr ⟨by rw [h2];exact e1,by rw [h2'];exact e2,by rw [h2,h2'];exact e3,?_⟩
   intro ht
   have ht':D.tip=true:=by rw [h2] at ht;exact ht
   have:=e4 ht'
   rw [h2,h2']
   simp only [sgn_len]
   exact this
 ·intro b B' hb ht
  obtain ⟨B,h1,h2,_⟩:=hl b B' hb
  have ht':B.tip=true:=by rw [h2] at ht;exact ht
  obtain ⟨e1,e2⟩:=hr.wd.tip b B h1 ht'
  rw [h2]
  exact ⟨e1,e2⟩
 ·intro b B' k o hb ho hro hk
  obtain ⟨B,h1,h2,_⟩:=hl b B' hb
  rw [h2] at ho hro
  obtain ⟨e1,e2⟩:=hr.wd.exa b B k o h1 ho hro hk
  refine ⟨e1,?_⟩
  rw [h2]
  simp only [sgn_len]
  exact e2
def rebN:List (Int×Nat)->List Nat->List (Int×Nat)
 | (z,_)::r,N::Ns=>(z,N)::rebN r Ns
 | l,_=>l
def rebP:List (Int×Nat)->List Nat->List Prop
 | (z,_)::r,N::Ns=>Bits N z::rebP r Ns
 | _,_=>[]
def rebS (rb:List Nat)(s:AS):AS:={s with nums:=rebN s.nums rb}
theorem reb_at:∀ (l:List (Int×Nat)) (rb:List Nat) (i:Nat) (z:Int) (n:Nat),l[i]?=some (z,n)->Bits n z->Holds (rebP l rb)->∃ m,(rebN l rb)[i]?=some (z,m)/\Bits m z
 | [],_,i,z,n,h,_,_=>by simp at h
 | (y,k)::r,[],i,z,n,h,hb,_=>⟨n,by simpa [rebN] using h,hb⟩
 | (y,k)::r,N::Ns,0,z,n,h,hb,hp=>by
  simp at h
  obtain ⟨rfl,rfl⟩:=h
  exact ⟨N,by simp [rebN],hp _ (by simp [rebP])⟩
 | (y,k)::r,N::Ns,i+1,z,n,h,hb,hp=>by
  obtain ⟨m,h1,h2⟩:=reb_at r Ns i z n (by simpa using h) hb (fun q hq=>hp q (by simp [rebP,hq]))
  exact ⟨m,by simpa [rebN] using h1,h2⟩
theorem reb_at':∀ (l:List (Int×Nat)) (rb:List Nat) (i:Nat) (z:Int) (n:Nat),l[i]?=some (z,n)->∃ m,(rebN l rb)[i]?=some (z,m)
 | [],_,i,z,n,h=>by simp at h
 | (y,k)::r,[],i,z,n,h=>⟨n,by simpa [rebN] using h⟩
 | (y,k)::r,N::Ns,0,z,n,h=>by
  simp at h
  obtain ⟨rfl,rfl⟩:=h
  exact ⟨N,by simp [rebN]⟩
 | (y,k)::r,N::Ns,i+1,z,n,h=>by
  obtain ⟨m,h1⟩:=reb_at' r Ns i z n (by simpa using h)
  exact ⟨m,by simpa [rebN] using h1⟩
theorem reb_rel {φ:Nat->Option (Nat×Nat)}{ν:List (Int×Nat)}{w:World}{rb:List Nat}(hp:Holds (rebP ν rb))(c:AC)(x:Value)(r:relC Z φ ν w c x):relC Z φ (rebN ν rb) w c x:=by
 cases c<;>try exact r
 ·obtain ⟨z,n,h1,h2⟩:=r
  obtain ⟨m,h3⟩:=reb_at' ν rb _ z n h1
  exact ⟨z,m,h3,h2⟩
 ·obtain ⟨z,n,h1,h2,h3⟩:=r
  obtain ⟨m,h4,h5⟩:=reb_at ν rb _ z n h1 h3 hp
  exact ⟨z,m,h4,h2,h5⟩
theorem reb_relV {φ:Nat->Option (Nat×Nat)}{ν:List (Int×Nat)}{w:World}{rb:List Nat}(hp:Holds (rebP ν rb))(v:AV)(x:Value)(r:relV Z φ ν w v x):relV Z φ (rebN ν rb) w v x:=by
 cases v with
 | one c=>exact reb_rel hp c x r
 | agg cs=>obtain ⟨xs,e,h⟩:=r;exact ⟨xs,e,h.mono (reb_rel hp)⟩
theorem reb_relT {φ:Nat->Option (Nat×Nat)}{ν:List (Int×Nat)}{w:World}{rb:List Nat}(hp:Holds (rebP ν rb))(t:AT)(x:Value)(r:relT Z φ ν w t x):relT Z φ (rebN ν rb) w t x:=by
 cases t with
 | top=>trivial
 | und=>exact r
 | val v=>exact reb_relV hp v x r
 | tup vs=>obtain ⟨xs,e,h⟩:=r;exact ⟨xs,e,h.mono (reb_relV hp)⟩
 | cnd c v=>
  simp only [relT] at r ⊢
  cases c with
  | true=>simp only [if_true] at r ⊢;exact reb_relV hp v x r
  | false=>simpa using r
theorem rebS_ok {w0 w:World}{ψ φ:Nat->Option (Nat×Nat)}{s:AS}{a:Act}{rb:List Nat}(hp:Holds (rebP s.nums rb))(hr:Rep Z w0 ψ φ s a w):Rep Z w0 ψ φ (rebS rb s) a w:=by
 refine ⟨⟨?_,hr.wd.own,hr.wd.inj,hr.wd.tip,hr.wd.fresh,hr.wd.lt,hr.wd.low,hr.wd.on,hr.wd.base,hr.wd.exa⟩,hr.defers,hr.tmps.mono (reb_relT hp)⟩
 intro b B hb
 obtain ⟨k,o,pre,ys,post,k1,k2,k3,k4⟩:=hr.wd.box b B hb
 exact ⟨k,o,pre,ys,post,k1,k2,k3,k4.mono (reb_rel hp)⟩
def turnS (kb kt:List Nat)(nx:Nat)(rb:List Nat)(s:AS):Option (AS×List Prop):=
 (norm kb kt nx (sgnS s)).map fun s'=>(rebS rb s',(sgnB s.nums s.boxes).2++rebP s'.nums rb)
theorem turnS_ok {w0 w:World}{ψ φ:Nat->Option (Nat×Nat)}{kb kt:List Nat}{nx:Nat}{rb:List Nat}{s s':AS}{p:List Prop}{a:Act}(h:turnS kb kt nx rb s=some (s',p))(hp:Holds p)(hψ:∀ b x,ψ b=some x->kb.contains b=true)(hr:Rep Z w0 ψ φ s a w):Rep Z w0 ψ (rst kb φ) s' a w:=by
 unfold turnS at h
 obtain ⟨t,h1,h2⟩:=mpd h
 cases h2
 exact rebS_ok (fun q hq=>hp q (by simp [hq])) (norm_ok h1 hψ (sgnS_ok (fun q hq=>hp q (by simp [hq])) hr))
inductive LT where
 | ret (g:RG)
 | again (ks:List (K (List AT))) (s:AS)
 | br (t:Bool) (a b:LT)
 | need (p:List Prop) (o:LT)
def LT.ok (P:RG->Prop)(Q:List (K (List AT))->AS->Prop):LT->Prop
 | .ret g=>P g
 | .again ks s=>Q ks s
 | .br t a b=>(t=true->a.ok P Q)/\(t=false->b.ok P Q)
 | .need p o=>Holds p/\o.ok P Q
def rgOf (k:Bool):RV->Option RG
 | .val v=>(gT k v).map fun g=>.one g.1
 | .tup vs=>(mapO (gT k) vs).map fun gs=>.tup (gs.map (·.1))
def outL (k:Bool)(kb kt:List Nat)(nx:Nat)(rb:List Nat):Tr->Option LT
 | .ret r s=>bif clean s then ((rvOf s.nums r).bind (rgOf k)).map .ret else none
 | .br t a b=>(outL k kb kt nx rb a).bind fun x=>(outL k kb kt nx rb b).map fun y=>.br t x y
 | .need p t=>(outL k kb kt nx rb t).map (.need p)
 | .stop ks s=>(turnS kb kt nx rb s).map fun x=>match x.2 with | []=>.again ks x.1 | p::ps=>.need (p::ps) (.again ks x.1)
def isL (k:Bool)(P:RG->Prop)(r:AT)(s:AS):Prop:=clean s=true/\∃ r' g,rvOf s.nums r=some r'/\rgOf k r'=some g/\P g
def isN (kb kt:List Nat)(nx:Nat)(rb:List Nat)(Q:List (K (List AT))->AS->Prop)(ks:List (K (List AT)))(s:AS):Prop:=∃ s' p,turnS kb kt nx rb s=some (s',p)/\Holds p/\Q ks s'
theorem outL_ok {k:Bool}{kb kt:List Nat}{nx:Nat}{rb:List Nat}{P:RG->Prop}{Q:List (K (List AT))->AS->Prop}:∀ {tr:Tr} {lt:LT},outL k kb kt nx rb tr=some lt->lt.ok P Q->tr.ok (isL k P) (isN kb kt nx rb Q)
 | .ret r s,lt,h,hk=>by
  simp only [outL] at h
  cases hc:clean s with
  | false=>rw [hc] at h;cases h
  | true=>
   rw [hc] at h
   simp only [cond_true] at h
   obtain ⟨g,h1,rfl⟩:=mpd h
   obtain ⟨r',h2,h3⟩:=bnd h1
   exact ⟨hc,r',g,h2,h3,hk⟩
 | .br t a b,lt,h,hk=>by
  simp only [outL] at h
  obtain ⟨x,h1,h2⟩:=bnd h
  obtain ⟨y,h3,rfl⟩:=mpd h2
  exact ⟨fun e=>outL_ok h1 (hk.1 e),fun e=>outL_ok h3 (hk.2 e)⟩
 | .need p t,lt,h,hk=>by
  simp only [outL] at h
  obtain ⟨x,h1,rfl⟩:=mpd h
  exact ⟨hk.1,outL_ok h1 hk.2⟩
 | .stop ks s,lt,h,hk=>by
  simp only [outL] at h
  obtain ⟨⟨s',q⟩,h1,h2⟩:=mpd h
  cases q with
  | nil=>
   simp only at h2
   subst h2
   exact ⟨s',[],h1,holds_nil,hk⟩
  | cons p ps=>
   simp only at h2
   subst h2
   exact ⟨s',p::ps,h1,hk.1,hk.2⟩
theorem loopL {w0:World}{ψ:Nat->Option (Nat×Nat)}{sp:Spec}{bodies:FuncId->Option Func}{R:Ending->World->Prop}(hsp:SpecOk Z w0 ψ sp)(hbo:BodiesOk Z bodies){k:Bool}{P:RG->Prop}(hG:∀ r s φ v w,isL k P r s->relT Z φ s.nums w r v->RepW Z w0 ψ φ s w->R (.returned v) w){b:Code}{ks0:List (K (List AT))}(hfr:noFr ks0=true){kb kt:List Nat}{nx:Nat}{rb:List Nat}(hψ:∀ b x,ψ b=some x->kb.contains b=true)(I:Nat->AS->Prop)
  (hI:∀ m s,I m s->∀ n,∃ f lt,(run Z sp bodies (drawA Z sp) atRound f (.code b::.lp b n::ks0) s).bind (outL k kb kt nx rb)=some lt/\lt.ok P fun ks s'=>ks=.lp b n::ks0/\∃ m',m'<m/\I m' s'):
  ∀ (m n:Nat) (s:AS),I m s->m<n->∀ (kcs:List (K Act)) (φ:Nat->Option (Nat×Nat)) (a:Act) (w:World),SR Z φ s.nums w (.lp b n::ks0) kcs->Rep Z w0 ψ φ s a w->sem Z.P R kcs .normal a w:=by
 intro m
 induction m using Nat.strongRecOn with
 | _ m ih=>
  intro n s hs hmn kcs φ a w hsr hr
  cases n with
  | zero=>omega
  | succ n=>
   match kcs,hsr with
   | .lp b' n'::kcs,⟨e1,e2,hsr2⟩=>
    subst e1
    subst e2
    obtain ⟨f,lt,h1,h2⟩:=hI m s hs n
    obtain ⟨tr,h3,h4⟩:=bnd h1
    have key:sem Z.P R (.code b'::.lp b' n::kcs) .normal a w:=by
     refine run_ok (stp:=atRound) hsp hbo (drawA_ok mixed hsp) (isL k P) _ ?_ hG f _ s tr h3 (outL_ok h4 h2) (.code b'::.lp b' n::kcs) φ a w ⟨rfl,rfl,rfl,hsr2⟩ hr
     rintro ks s' ⟨s'',p,hn,hp,rfl,m',hm',hi⟩ kcs' φ' a' w' hsr' hr'
     exact ih m' hm' n s'' hi (by omega) kcs' (rst kb φ') a' w' (SR.any (by simpa [noFr] using hfr) hsr') (turnS_ok hn hp hψ hr')
    exact key
theorem walkS {l:List (FuncId×TE)}(hl:AllTE Z l){sp:Spec}(hsp:∀ w0 ψ,SpecOk Z w0 ψ sp){bodies:FuncId->Option Func}(hbo:BodiesOk Z bodies){f:FuncId}{fn:Func}(Fn':Fn f fn){k:Bool}{F:List G->Option RG}{nd:List G->List Prop}{bo:List Nat->Nat}{lim:List Nat}(hbits:∀ gs ns out,F gs=some out->Holds (nd gs)->GBs gs ns->GBs gs lim->RGB (bo ns) out)
  (h:∀ gs out,F gs=some out->∃ ps,((run Z (orSp sp (tabSp l)) bodies (drawA Z (orSp sp (tabSp l))) (fun _=>false) 2000 [.code (bodyOf fn),.top fn] (start fn (tokGs k gs lim))).bind outcome).bind (outG k)=some (ps,out)/\(Holds (nd gs)->GBs gs lim->Holds ps)):TEok Z f (teG k F nd bo lim):=by
 refine teG_ok Fn'.en hbits fun gs out hF hnd hgb w vs hvs=>?_
 obtain ⟨ps,h1,h2⟩:=h gs out hF
 obtain ⟨o,h3,h4⟩:=bnd h1
 obtain ⟨tr,h5,h6⟩:=bnd h3
 have hA:At (avsOf 0 (tokGs k gs lim)).2 0 (avsOf 0 (tokGs k gs lim)).2:=fun i y hy=>by rw [Nat.zero_add];exact hy
 have hs:SpecOk Z w (fun _=>none) (orSp sp (tabSp l)):=orSp_ok (hsp _ _) (tabSp_ok hl)
 obtain ⟨n0,hn0⟩:=walkG.someB out
 have key:Calls Z.P f vs.toArray w fun e w'=>∃ v,e=.returned v/\RRV Z w' (rvG k n0 out) v/\Below w.heap.size w w':=by
  refine engine (w0:=w) (ψ:=fun _=>none) (φ:=fun _=>none) (s:=start fn (tokGs k gs lim)) (vs:=(avsOf 0 (tokGs k gs lim)).1) hs hbo (drawA_ok mixed hs) Fn'.at' Fn'.body rfl (avsOf_ok _ 0 vs hA hvs) (rep_start fn _ w) 2000 h5 _ (fun _ _=>False) (fun _ _ h=>h.elim) (outcome_ok h6 (outG_ok (n:=n0) h4 (h2 hnd hgb) hn0)) ?_
  rintro r0 s φ v w' ⟨hc,r',h7,h8⟩ hr hw
  exact ⟨v,rfl,h8 w' v (rvOf_ok h7 hr),RepF.below hw hc⟩
 refine key.mono ?_
 rintro e w' ⟨v,rfl,hv,hb⟩
 exact ⟨v,rfl,fun n hn=>walkG.anyB hv hn,hb⟩
theorem te_congr {f:FuncId}{k:Bool}{F F':List G->Option RG}{nd nd':List G->List Prop}{bo bo':List Nat->Nat}{lim:List Nat}(h:TEok Z f (teG k F nd bo lim))(hF:∀ gs out,F' gs=some out->Holds (nd' gs)->GBs gs lim->F gs=some out/\Holds (nd gs))(hbits:∀ gs ns out,F' gs=some out->Holds (nd' gs)->GBs gs ns->GBs gs lim->RGB (bo' ns) out):TEok Z f (teG k F' nd' bo' lim):=by
 refine ⟨h.1,fun ts r p hts hp w vs hvs=>?_⟩
 unfold teG at hts
 obtain ⟨xs,h1,h2⟩:=bnd hts
 cases hle:leAll (xs.map (·.2)) lim with
 | false=>rw [hle] at h2;cases h2
 | true=>
  rw [hle] at h2
  simp only [cond_true] at h2
  obtain ⟨out,h3,h4⟩:=mpd h2
  cases h4
  obtain ⟨g1,g2,g3⟩:=argsG_ok ts xs lim vs h1 hle hvs
  obtain ⟨k1,k2⟩:=hF _ out h3 hp g3
  have key:=h.2 ts (rvG k (bo (xs.map (·.2))) out) (nd (xs.map (·.1))) (by unfold teG;rw [h1];simp only [Option.bind_some,hle,cond_true,k1,Option.map_some]) k2 w vs hvs
  refine key.mono ?_
  rintro e w' ⟨v,rfl,hv,hb⟩
  exact ⟨v,rfl,walkG.anyB hv (hbits _ _ out h3 hp g2 g3),hb⟩
theorem walkL {l:List (FuncId×TE)}(hl:AllTE Z l){sp:Spec}(hsp:∀ w0 ψ,SpecOk Z w0 ψ sp){f:FuncId}{fn:Func}(Fn':Fn f fn){k:Bool}{F:List G->Option RG}{nd:List G->List Prop}{bo:List Nat->Nat}{lim:List Nat}(hbits:∀ gs ns out,F gs=some out->Holds (nd gs)->GBs gs ns->GBs gs lim->RGB (bo ns) out)
  {kb kt:List Nat} {nx:Nat} {rb:List Nat} (hfr:noFr (lpK (bodyOf fn) fn)=true)
  (h:∀ gs out,F gs=some out->Holds (nd gs)->GBs gs lim->∃ I:Nat->AS->Prop,
   (∃ n lt,(run Z (orSp sp (tabSp l)) (fun _=>none) (drawA Z (orSp sp (tabSp l))) atLoop n [.code (bodyOf fn),.top fn] (start fn (tokGs k gs lim))).bind (outL k kb kt nx rb)=some lt/\lt.ok (fun g=>g=out) fun ks s=>ks=.code (.loop (lpB (bodyOf fn) fn))::lpK (bodyOf fn) fn/\∃ m,I m s)/\
   ∀ m s,I m s->∀ n,∃ f lt,(run Z (orSp sp (tabSp l)) (fun _=>none) (drawA Z (orSp sp (tabSp l))) atRound f (.code (lpB (bodyOf fn) fn)::.lp (lpB (bodyOf fn) fn) n::lpK (bodyOf fn) fn) s).bind (outL k kb kt nx rb)=some lt/\lt.ok (fun g=>g=out) fun ks s'=>ks=.lp (lpB (bodyOf fn) fn) n::lpK (bodyOf fn) fn/\∃ m',m'<m/\I m' s'):TEok Z f (teG k F nd bo lim):=by
 refine teG_ok Fn'.en hbits fun gs out hF hnd hgb w vs hvs=>?_
 obtain ⟨I,⟨n,lt,h1,h2⟩,hI⟩:=h gs out hF hnd hgb
 obtain ⟨tr,h3,h4⟩:=bnd h1
 have hA:At (avsOf 0 (tokGs k gs lim)).2 0 (avsOf 0 (tokGs k gs lim)).2:=fun i y hy=>by rw [Nat.zero_add];exact hy
 have hs:SpecOk Z w (fun _=>none) (orSp sp (tabSp l)):=orSp_ok (hsp _ _) (tabSp_ok hl)
 have hG:∀ r s φ v w',isL k (fun g=>g=out) r s->relT Z φ s.nums w' r v->RepW Z w (fun _=>none) φ s w'->(fun (e:Ending) (w':World)=>∃ v,e=.returned v/\(∀ n,RGB n out->RRV Z w' (rvG k n out) v)/\Below w.heap.size w w') (.returned v) w':=by
  rintro r s φ v w' ⟨hc,r',g,g1,g2,rfl⟩ hr hw
  exact ⟨v,rfl,fun n hn=>rgOf_ok g2 (rvOf_ok g1 hr) hn,RepF.below hw hc⟩
 refine engine hs nobody (drawA_ok mixed hs) Fn'.at' Fn'.body rfl (avsOf_ok _ 0 vs hA hvs) (rep_start fn _ w) n h3 (isL k fun g=>g=out) _ ?_ (outL_ok h4 h2) hG
 rintro ks s' ⟨s'',p,hn,hp,rfl,m,hi⟩ kcs φ' a w' hsr hr
 match kcs,hsr with
 | .code c'::kcs,⟨e,hsr2⟩=>
  subst e
  have:=loopL (R:=fun (e:Ending) (w':World)=>∃ v,e=.returned v/\(∀ n,RGB n out->RRV Z w' (rvG k n out) v)/\Below w.heap.size w w') hs nobody hG hfr (fun _ _ e=>by cases e) I hI m (m+1) s'' hi (by omega) (.lp (lpB (bodyOf fn) fn) (m+1)::kcs) (rst kb φ') a w' ⟨rfl,rfl,SR.any hfr hsr2⟩ (turnS_ok hn hp (fun _ _ e=>by cases e) hr)
  exact wp_loop_rounds (m+1) this
where
 rgOf_ok {k:Bool} {w:World} {r:RV} {g:RG} {v:Value} (h:rgOf k r=some g) (hv:RRV Z w r v) {n:Nat} (hn:RGB n g):RRV Z w (rvG k n g) v:=by
  cases r with
  | val t=>
   simp only [rgOf] at h
   obtain ⟨⟨x,m⟩,h1,rfl⟩:=mpd h
   exact (gT_ok h1 hv).2 n hn
  | tup vs=>
   simp only [rgOf] at h
   obtain ⟨gs,h1,rfl⟩:=mpd h
   obtain ⟨xs,e,hx⟩:=hv
   exact ⟨xs,e,outGs_ok h1 hn hx⟩
end Ab
open Go.RowKit
theorem Nm.at_noneW {xs:List Int}{i:Nat}(h:¬i<xs.length):Nm.at' xs i=0:=by
 unfold Nm.at'
 rw [List.getD_eq_getElem?_getD,List.getElem?_eq_none (by omega)];rfl
theorem Nm.strip_lastW {xs:List Int}{k:Nat}(h:k<xs.length)(h0:Nm.at' xs k=0):Nm.strip (xs.take (k+1))=Nm.strip (xs.take k):=by
 rw [List.take_succ_eq_append_getElem h]
 unfold Nm.at' at h0
 rw [List.getD_eq_getElem?_getD,List.getElem?_eq_getElem h] at h0
 rw [show xs[k]=0 from h0,Nm.strip_snoc_zero]
theorem Nm.strip_doneW {xs:List Int}{k:Nat}(h:k<xs.length)(h0:Nm.at' xs k≠0):Nm.strip (xs.take (k+1))=xs.take (k+1):=by
 rw [List.take_succ_eq_append_getElem h]
 unfold Nm.at' at h0
 rw [List.getD_eq_getElem?_getD,List.getElem?_eq_getElem h] at h0
 exact Nm.strip_snoc _ h0
theorem used_any (w:World)(xs:List Int)(v:Value)(B:Nat)(h:LimsB B w xs v)(hl:xs.length<=100000000000):
  Calls Tryz.prog 115 #[v] w fun e w'=>e=.returned (.int .i64 (Nm.strip xs).length)/\w=w':=by
 obtain ⟨ao,cap,rfl,hcap⟩:=h.shape
 have HI:=hid h
 clear h
 go_enter Tryz.func115,Tryz.ntmps115
 go_wp2_with fail
 go_loop [3] (fun n=>∃ k:Nat,k<=xs.length/\n=.int .i64 k/\Nm.strip (xs.take k)=Nm.strip xs) (fun n=>(intOf n).toNat)
 case atStart=>exact ⟨xs.length,Nat.le_refl _,rfl,by rw [List.take_length]⟩
 case round=>
  obtain ⟨k,hk,rfl,hs⟩:=hrel
  have HS:=hid hs
  clear hs
  cases k with
  | zero=>
   have hz:Hid (Nm.strip xs=[]):=by have:=HS.out;show _=_;rw [<-this];rfl
   go_wp2_with fail
   go_ret
   exact ⟨by rw [hz.out];rfl,rfl⟩
  | succ k=>
   obtain ⟨g,rfl,hc⟩:=HI.out.place (by omega)
   have hc':=hc k (by omega)
   clear hc
   by_cases h0:Nm.at' xs k=0
   ·have HS2:=hid (Nm.strip_lastW (by omega) h0)
    rw [h0] at hc'
    go_wp2_with fail
    go_round
    case rel=>exact ⟨k,by omega,by simp,by rw [<-HS2.out,HS.out]⟩
    case measure=>simp [intOf]
   ·have hb:(Nm.at' xs k==0)=false:=by simpa using h0
    have HS2:=hid (show (Nm.strip xs).length=k+1 by rw [<-HS.out,Nm.strip_doneW (by omega) h0,List.length_take];omega)
    generalize Nm.at' xs k=x at*
    go_wp2_with fail
    go_ret
    exact ⟨by rw [HS2.out];rfl,rfl⟩
open Go.RowKit
def limbsRel (w:World)(N:Int)(m d:Value)(wr:World):Prop:=
 ∃ (k:Int) (done:List Int),m=.int .u64 k/\0<=k/\k<=N/\done.length<=2/\wr.ownsRow w.heap.size 142 1 d done.length (done.map (Value.int .u32))/\Below w.heap.size w wr/\Nm.Dig 4294967296 done/\(k=0->Nm.Top done)/\Nm.val 4294967296 done+k*4294967296^done.length=N/\(done.length=1->k<4294967296)/\(2<=done.length->k=0)
theorem limbsOf_any (N:Int)(w:World)(h0:0<=N)(h1:N<18446744073709551616):Calls Tryz.prog 119 #[.int .u64 N] w (LimPost w fun xs=>Nm.Good 4294967296 xs/\Nm.val 4294967296 xs=N/\xs.length<=2):=by
 obtain ⟨i,hi,hz,hsize,hby⟩:=info_parts infoU
 go_enter Tryz.func119,Tryz.ntmps119
 go_wp2_with fail
 go_loopw [0,3] (fun m d wr=>limbsRel w N m d wr) (fun m _ _=>(intOf m).toNat)
 case atStart=>
  refine ⟨N,[],rfl,h0,Int.le_refl _,by simp,?_,belowW (Below.refl _ _) (Nat.le_refl _) _,Nm.Dig.nil _,fun _=>Nm.Top.nil,by simp [Nm.val],fun h=>by simp at h,fun h=>by simp at h⟩
  exact ⟨rfl,Or.inr ⟨w.heap.size,0,#[],rfl,Nat.le_refl _,at_newW _ _,Nat.le_refl _,by decide,rfl,rfl⟩⟩
 case round=>
  obtain ⟨k,done,rfl,k0,k1,hl,hown,hbel,hdd,htop,hval,hl1,hl2⟩:=hrel
  have HV:=hid hval
  have HT:=hid htop
  have HD:=hid hdd
  have HBEL:=hid hbel
  have HL1:=hid hl1
  have HL2:=hid hl2
  have hsz:=hbel.size
  clear hval htop hdd hbel hl1 hl2
  by_cases hk0:(0:Int)<k
  ·have hl':done.length<=1:=by have:=HL2.out;omega
   go_wp2_with (at_builtin;refine wpList_append_own _ rfl _ _ 78 rfl _ 142 i (.int .u32 0) 1 4 Tryz.underlying78 hi hz hsize hby rfl (by decide) _ _ _ rfl (hown.alloc _) ⟨wr.heap.size,0,none⟩ 1 1 [.int .u32 (k%4294967296)] rfl rfl (cell_one_new _ _ _) (fun u hu=>by simp at hu;subst hu;rfl) (by unfold maxLen;omega) (by omega) (by simp;omega) ?_;intro v' w3 hown' hgrow3 hnil3)
   go_roundw
   case rel=>
    refine ⟨k/4294967296,done++[k%4294967296],rfl,by omega,by omega,by simp;omega,by simpa using hown',below_own hown HBEL.out HBEL.out.size _ hgrow3,HD.out.snoc (by omega) (by omega),?_,?_,?_,?_⟩
    ·intro h
     exact Nm.top_snoc (by omega)
    ·rw [Nm.val_snoc,<-HV.out,List.length_append,List.length_singleton,Int.pow_succ]
     have e:=Int.emod_add_mul_ediv k 4294967296
     generalize k%4294967296=r at*
     generalize k/4294967296=q at*
     generalize (4294967296:Int)^done.length=P at*
     clear HV HT HD HBEL HL1 HL2
     subst e
     grind
    ·intro h
     simp only [List.length_append,List.length_singleton] at h
     omega
    ·intro h
     simp only [List.length_append,List.length_singleton] at h
     have:=HL1.out (by omega)
     omega
   case measure=>simp [intOf];omega
  ·obtain rfl:k=0:=by omega
   go_wp2_with fail
   go_ret
   refine ⟨_,done,rfl,⟨⟨HD.out,HT.out (by simp)⟩,by have:=HV.out;simpa using this,hl⟩,hown,HBEL.out⟩
def cmpRel (W:World)(a b:List Int)(i:Value)(wr:World):Prop:=
 ∃ k:Nat,k<=a.length/\i=.int .i64 ((k:Int)-1)/\a.drop k=b.drop k/\Below W.heap.size W wr
theorem compareLimbs_any (w:World)(a b:List Int)(u v:Value)(ha:Lims w a u)(hb:Lims w b v)(hal:a.length<=100000000000)(ga:Nm.Good 4294967296 a)(gb:Nm.Good 4294967296 b):
  Calls Tryz.prog 154 #[u,v] w fun e w'=>e=.returned (.int .i64 (Nm.cmp (Nm.val 4294967296 a) (Nm.val 4294967296 b)))/\Below w.heap.size w w':=by
 obtain ⟨ao,cap,rfl,hcap⟩:=ha.shape
 obtain ⟨bo,bap,rfl,hbap⟩:=hb.shape
 have HA:=hid ha
 have HB:=hid hb
 have GA:=hid ga
 have GB:=hid gb
 clear ha hb ga gb
 by_cases c1:(a.length:Int)<b.length
 ·rw [Nm.cmp_lt (Nm.val_longer (by decide) GA.out.dig GB.out (by omega))]
  go_enter Tryz.func154,Tryz.ntmps154
  go_wp2_with fail
  go_ret
  exact ⟨rfl,Below.refl _ _⟩
 ·by_cases c3:(b.length:Int)<a.length
  ·rw [Nm.cmp_gt (Nm.val_longer (by decide) GB.out.dig GA.out (by omega))]
   go_enter Tryz.func154,Tryz.ntmps154
   go_wp2_with fail
   go_ret
   exact ⟨rfl,Below.refl _ _⟩
  ·have c3':a.length=b.length:=by omega
   clear c3 c1
   rw [<-c3']
   have HL:=hid c3'
   clear c3'
   go_enter Tryz.func154,Tryz.ntmps154
   go_wp2_with fail
   go_loopw [5] (fun i wr=>cmpRel w a b i wr) (fun i _=>(intOf i+1).toNat)
   case atStart=>exact ⟨a.length,Nat.le_refl _,rfl,by rw [List.drop_length,HL.out,List.drop_length],Below.refl _ _⟩
   case round=>
    obtain ⟨k,hk,rfl,hs,hbw⟩:=hrel
    have HS:=hid hs
    have HBW:=hid hbw
    clear hs hbw
    cases k with
    | zero=>
     have he:Hid (Nm.cmp (Nm.val 4294967296 a) (Nm.val 4294967296 b)=0):=Nm.cmp_eq (by have:=HS.out;simp at this;rw [this])
     go_wp2_with fail
     go_ret
     exact ⟨by rw [he.out];rfl,HBW.out⟩
    | succ k=>
     obtain ⟨g,rfl,hc⟩:=(HA.out.below HBW.out).place (by omega)
     obtain ⟨g2,rfl,hc2⟩:=(HB.out.below HBW.out).place (by rw [<-HL.out];omega)
     have x1:=hc k (by omega)
     have x2:=hc2 k (by rw [<-HL.out];omega)
     clear hc hc2
     have hk2:k<b.length:=by rw [<-HL.out];omega
     by_cases e1:Nm.at' a k<Nm.at' b k
     ·have he:Hid (Nm.cmp (Nm.val 4294967296 a) (Nm.val 4294967296 b)=-1):=Nm.cmp_lt (Nm.val_lex (by decide) GA.out.dig GB.out.dig k HS.out e1 (by omega) hk2)
      generalize Nm.at' a k=y at*
      generalize Nm.at' b k=z at*
      go_wp2_with fail
      go_quiet (fail)
      go_wp2_with fail
      go_ret
      exact ⟨by rw [he.out];rfl,below_drewN HBW.out _⟩
     ·by_cases e2:Nm.at' b k<Nm.at' a k
      ·have he:Hid (Nm.cmp (Nm.val 4294967296 a) (Nm.val 4294967296 b)=1):=Nm.cmp_gt (Nm.val_lex (by decide) GB.out.dig GA.out.dig k HS.out.symm e2 hk2 (by omega))
       generalize Nm.at' a k=y at*
       generalize Nm.at' b k=z at*
       go_wp2_with fail
       go_quiet (fail)
       go_wp2_with fail
       go_quiet (fail)
       go_wp2_with fail
       go_ret
       exact ⟨by rw [he.out];rfl,by first | exact below_drewN HBW.out _ | exact below_drewN (below_drewN HBW.out _) _⟩
      ·have e3:Nm.at' a k=Nm.at' b k:=by omega
       have HS2:=hid (Nm.lex_down HL.out (by omega) HS.out e3)
       rw [<-e3] at x2
       clear e1 e2 e3
       generalize Nm.at' a k=y at*
       go_wp2_with fail
       go_quiet (fail)
       go_wp2_with fail
       go_quiet (fail)
       go_wp2_with fail
       go_roundw
       case rel=>exact ⟨k,by omega,by simp,HS2.out,by first | exact below_drewN HBW.out _ | exact below_drewN (below_drewN HBW.out _) _⟩
       case measure=>simp [intOf]
open Go.RowKit
theorem Nm.take_set {l:List Int}{k:Nat}{x:Int}(h:k<l.length):(l.set k x).take (k+1)=l.take k++[x]:=by
 rw [List.take_succ_eq_append_getElem (by simpa using h),List.take_set_of_le (Nat.le_refl _)]
 simp
theorem Nm.plus_end {B c:Int}(hB:2<=B){N:Nat}{out a b:List Int}(ho:out.length=N+1)(hd:Nm.Dig B out)(ha:a.length<=N)(hb:b.length<=N)(da:Nm.Dig B a)(db:Nm.Dig B b)(c0:0<=c)
  (h:Nm.val B (out.take (N+1))+c*B^(N+1)=Nm.val B (a.take (N+1))+Nm.val B (b.take (N+1))):Nm.val B out=Nm.val B a+Nm.val B b:=by
 rw [Nm.val_take_all B out (by omega),Nm.val_take_all B a (by omega),Nm.val_take_all B b (by omega)] at h
 have h1:=Nm.val_hi (by omega) da
 have h2:=Nm.val_hi (by omega) db
 have h3:=Nm.pow_mono (B:=B) (by omega) ha
 have h4:=Nm.pow_mono (B:=B) (by omega) hb
 have h5:=Nm.val_lo (by omega) hd
 have hP:=Nm.pow_pos' (B:=B) (by omega) N
 have h6:2*B^N<=B*B^N:=Int.mul_le_mul_of_nonneg_right hB (Int.le_of_lt hP)
 rw [Int.pow_succ,Int.mul_comm (B^N) B] at h
 have h7:c*(B*B^N)<1*(B*B^N):=by omega
 have h8:=Int.lt_of_mul_lt_mul_right h7 (by omega)
 have:c=0:=by omega
 subst this
 omega
theorem LBlk.used {w:World}{G:Nat}{xs:List Int}(h:LBlk w G xs)(hl:xs.length<=100000000000){B:Nat}(hB:B<=G):LimsB B w (Nm.strip xs) (.slice (some ⟨G,0,none⟩) (Nm.strip xs).length xs.length):=by
 obtain ⟨cur,h1,h2⟩:=h
 have hle:=Nm.strip_len xs
 refine ⟨by simp,Or.inr ⟨G,xs.length,cur,rfl,hB,h1,hle,by unfold maxLen;omega,?_,?_⟩⟩
 ·rw [<-Array.length_toList,h2];simp
 ·rw [h2,Nat.mul_one,<-List.map_take,<-Nm.strip_take]
def addRel (w:World)(a b:List Int)(N:Nat)(c i:Value)(wr:World):Prop:=
 ∃ (k:Nat) (cc:Int) (out:List Int),i=.int .i64 k/\c=.int .u64 cc/\0<=cc/\cc<=1/\k<=N+1/\LBlk wr w.heap.size out/\out.length=N+1/\Nm.Dig 4294967296 out/\Below w.heap.size w wr/\
  Nm.val 4294967296 (out.take k)+cc*4294967296^k=Nm.val 4294967296 (a.take k)+Nm.val 4294967296 (b.take k)
theorem addRel_step {w wr:World}{a b out:List Int}{N k:Nat}{cc x:Int}(c0:0<=cc)(c1:cc<=1)(hk:k<N+1)(hblk:LBlk wr w.heap.size out)(hlen:out.length=N+1)(hdig:Nm.Dig 4294967296 out)(hbel:Below w.heap.size w wr)(ga:Nm.Dig 4294967296 a)(gb:Nm.Dig 4294967296 b)
  (hval:Nm.val 4294967296 (out.take k)+cc*4294967296^k=Nm.val 4294967296 (a.take k)+Nm.val 4294967296 (b.take k)) (hx:x=cc+Nm.at' a k+Nm.at' b k):
  addRel w a b N (.int .u64 (x/4294967296)) (.int .i64 ((k:Int)+1)) (wr.setCell ⟨w.heap.size,k,none⟩ (.int .u32 (x%4294967296))):=by
 have a0:=ga.at' (by decide) k
 have b0:=gb.at' (by decide) k
 refine ⟨k+1,x/4294967296,out.set k (x%4294967296),by simp,rfl,by omega,by omega,by omega,hblk.set _ _,by simpa using hlen,hdig.set _ (by omega) (by omega),hbel.setCell (by simp) _,?_⟩
 rw [Nm.take_set (by omega)]
 exact Nm.plus_step (by rw [List.length_take];omega) hval hx
theorem addLimbs_lt (w:World)(a b:List Int)(u v:Value)(ha:Lims w a u)(hb:Lims w b v)(hal:a.length<=10000000000)(hbl:b.length<=10000000000)(ga:Nm.Dig 4294967296 a)(gb:Nm.Dig 4294967296 b)(hlt:(a.length:Int)<b.length):
  Calls Tryz.prog 118 #[u,v] w (LimPost w fun xs=>Nm.Good 4294967296 xs/\Nm.val 4294967296 xs=Nm.val 4294967296 a+Nm.val 4294967296 b):=by
 obtain ⟨ao,cap,rfl,hcap⟩:=ha.shape
 obtain ⟨bo,bap,rfl,hbap⟩:=hb.shape
 have hmk:=run_make_row' (P:=Tryz.prog) 78 142 (.int .u32 0) 4 Tryz.underlying78 infoU rfl .i64 .i64 (b.length+1) (by omega) (by omega)
 rw [show ((b.length+1:Nat):Int)=(b.length:Int)+1 by omega] at hmk
 have HA:=hid ha
 have HB:=hid hb
 have GA:=hid ga
 have GB:=hid gb
 clear ha hb ga gb
 go_enter Tryz.func118,Tryz.ntmps118
 go_wp2_with fail
 go_loopw [7,8] (fun c i wr=>addRel w a b b.length c i wr) (fun _ i _=>b.length+1-(intOf i).toNat)
 case atStart=>exact ⟨0,0,List.replicate (b.length+1) 0,rfl,rfl,by omega,by omega,by omega,LBlk.made w _,by simp,Nm.Dig.zeros (by decide) _,belowW (Below.refl _ _) (Nat.le_refl _) _,rfl⟩
 case round=>
  obtain ⟨k,cc,out,rfl,rfl,c0,c1,hk,hblk,hlen,hdig,hbel,hval⟩:=hrel
  by_cases hkn:(k:Int)<(b.length:Int)+1
  ·have k1:=hblk.cell k (by omega)
   have k2:=hblk.frozen k
   have ST:=hid (fun x hx=>addRel_step (x:=x) c0 c1 (by omega) hblk hlen hdig hbel GA.out GB.out hval hx)
   have a0:=GA.out.at' (by decide) k
   have b0:=GB.out.at' (by decide) k
   have HLEN:=hid hlen
   by_cases g1:(k:Int)<a.length
   ·obtain ⟨ga,rfl,hca⟩:=(HA.out.below hbel).place (by omega)
    have x1:=hca k (by omega)
    clear hca
    by_cases g2:(k:Int)<b.length
    ·obtain ⟨gb,rfl,hcb⟩:=(HB.out.below hbel).place (by omega)
     have x2:=hcb k (by omega)
     clear hcb hval hlen hdig hbel hblk
     generalize Nm.at' a k=x at*
     generalize Nm.at' b k=y at*
     generalize Nm.at' out k=o at*
     obtain ⟨a1,a2⟩:=a0
     obtain ⟨b1,b2⟩:=b0
     go_wp2_with fail
     go_roundw
     case rel=>exact ST.out _ (by omega)
     case measure=>simp [intOf];omega
    ·exfalso;omega
   ·have e1:=Nm.at_noneW (xs:=a) (i:=k) (by omega)
    by_cases g2:(k:Int)<b.length
    ·obtain ⟨gb,rfl,hcb⟩:=(HB.out.below hbel).place (by omega)
     have x2:=hcb k (by omega)
     clear hcb hval hlen hdig hbel hblk
     generalize Nm.at' a k=x at*
     generalize Nm.at' b k=y at*
     generalize Nm.at' out k=o at*
     obtain ⟨b1,b2⟩:=b0
     have HE1:=hid e1
     clear e1 a0
     go_wp2_with fail
     go_roundw
     case rel=>exact ST.out _ (by have:=HE1.out;omega)
     case measure=>simp [intOf];omega
    ·have e2:=Nm.at_noneW (xs:=b) (i:=k) (by omega)
     clear hval hlen hdig hbel hblk
     generalize Nm.at' a k=x at*
     generalize Nm.at' b k=y at*
     generalize Nm.at' out k=o at*
     have HE1:=hid e1
     have HE2:=hid e2
     clear e1 a0 e2 b0
     go_wp2_with fail
     go_roundw
     case rel=>
      have h:=ST.out cc (by have:=HE1.out;have:=HE2.out;omega)
      first
       | exact h
       | (rw [Int.emod_eq_of_lt c0 (by omega)] at h;exact h)
       | (rw [Int.emod_eq_of_lt c0 (by omega),Int.ediv_eq_zero_of_lt c0 (by omega)] at h;exact h)
     case measure=>simp [intOf];omega
  ·obtain rfl:k=b.length+1:=by omega
   have HE:=hid (Nm.plus_end (by decide) hlen hdig (by omega) (by omega) GA.out GB.out c0 hval)
   have US:=hid (used_any wr out _ 0 (hblk.lims (by omega)) (by omega))
   rw [hlen] at US
   have hsl:=Nm.strip_len out
   rw [hlen] at hsl
   have HL:=hid (hblk.used (B:=w.heap.size) (by omega) (Nat.le_refl _))
   rw [hlen] at HL
   have HD:=hid hdig
   have HBEL:=hid hbel
   clear hval hlen hdig hbel hblk
   generalize hn:(Nm.strip out).length=n at*
   clear hn
   go_wp2_with fail
   refine (US.out).mono ?_
   rintro e w1 ⟨rfl,rfl⟩
   go_wp2_with fail
   go_ret
   exact ⟨_,Nm.strip out,rfl,⟨Nm.good_strip HD.out,by rw [Nm.val_strip,HE.out]⟩,HL.out,HBEL.out⟩
theorem addLimbs_ge (w:World)(a b:List Int)(u v:Value)(ha:Lims w a u)(hb:Lims w b v)(hal:a.length<=10000000000)(hbl:b.length<=10000000000)(ga:Nm.Dig 4294967296 a)(gb:Nm.Dig 4294967296 b)(hlt:¬(a.length:Int)<b.length):
  Calls Tryz.prog 118 #[u,v] w (LimPost w fun xs=>Nm.Good 4294967296 xs/\Nm.val 4294967296 xs=Nm.val 4294967296 a+Nm.val 4294967296 b):=by
 obtain ⟨ao,cap,rfl,hcap⟩:=ha.shape
 obtain ⟨bo,bap,rfl,hbap⟩:=hb.shape
 have hmk:=run_make_row' (P:=Tryz.prog) 78 142 (.int .u32 0) 4 Tryz.underlying78 infoU rfl .i64 .i64 (a.length+1) (by omega) (by omega)
 rw [show ((a.length+1:Nat):Int)=(a.length:Int)+1 by omega] at hmk
 have HA:=hid ha
 have HB:=hid hb
 have GA:=hid ga
 have GB:=hid gb
 clear ha hb ga gb
 go_enter Tryz.func118,Tryz.ntmps118
 go_wp2_with fail
 go_loopw [7,8] (fun c i wr=>addRel w a b a.length c i wr) (fun _ i _=>a.length+1-(intOf i).toNat)
 case atStart=>exact ⟨0,0,List.replicate (a.length+1) 0,rfl,rfl,by omega,by omega,by omega,LBlk.made w _,by simp,Nm.Dig.zeros (by decide) _,belowW (Below.refl _ _) (Nat.le_refl _) _,rfl⟩
 case round=>
  obtain ⟨k,cc,out,rfl,rfl,c0,c1,hk,hblk,hlen,hdig,hbel,hval⟩:=hrel
  by_cases hkn:(k:Int)<(a.length:Int)+1
  ·have k1:=hblk.cell k (by omega)
   have k2:=hblk.frozen k
   have ST:=hid (fun x hx=>addRel_step (x:=x) c0 c1 (by omega) hblk hlen hdig hbel GA.out GB.out hval hx)
   have a0:=GA.out.at' (by decide) k
   have b0:=GB.out.at' (by decide) k
   have HLEN:=hid hlen
   by_cases g1:(k:Int)<a.length
   ·obtain ⟨ga,rfl,hca⟩:=(HA.out.below hbel).place (by omega)
    have x1:=hca k (by omega)
    clear hca
    by_cases g2:(k:Int)<b.length
    ·obtain ⟨gb,rfl,hcb⟩:=(HB.out.below hbel).place (by omega)
     have x2:=hcb k (by omega)
     clear hcb hval hlen hdig hbel hblk
     generalize Nm.at' a k=x at*
     generalize Nm.at' b k=y at*
     generalize Nm.at' out k=o at*
     obtain ⟨a1,a2⟩:=a0
     obtain ⟨b1,b2⟩:=b0
     go_wp2_with fail
     go_roundw
     case rel=>exact ST.out _ (by omega)
     case measure=>simp [intOf];omega
    ·have e2:=Nm.at_noneW (xs:=b) (i:=k) (by omega)
     clear hval hlen hdig hbel hblk
     generalize Nm.at' a k=x at*
     generalize Nm.at' b k=y at*
     generalize Nm.at' out k=o at*
     obtain ⟨a1,a2⟩:=a0
     have HE2:=hid e2
     clear e2 b0
     go_wp2_with fail
     go_roundw
     case rel=>exact ST.out _ (by have:=HE2.out;omega)
     case measure=>simp [intOf];omega
   ·have e1:=Nm.at_noneW (xs:=a) (i:=k) (by omega)
    by_cases g2:(k:Int)<b.length
    ·exfalso;omega
    ·have e2:=Nm.at_noneW (xs:=b) (i:=k) (by omega)
     clear hval hlen hdig hbel hblk
     generalize Nm.at' a k=x at*
     generalize Nm.at' b k=y at*
     generalize Nm.at' out k=o at*
     have HE1:=hid e1
     have HE2:=hid e2
     clear e1 a0 e2 b0
     go_wp2_with fail
     go_roundw
     case rel=>
      have h:=ST.out cc (by have:=HE1.out;have:=HE2.out;omega)
      first
       | exact h
       | (rw [Int.emod_eq_of_lt c0 (by omega)] at h;exact h)
       | (rw [Int.emod_eq_of_lt c0 (by omega),Int.ediv_eq_zero_of_lt c0 (by omega)] at h;exact h)
     case measure=>simp [intOf];omega
  ·obtain rfl:k=a.length+1:=by omega
   have HE:=hid (Nm.plus_end (by decide) hlen hdig (by omega) (by omega) GA.out GB.out c0 hval)
   have US:=hid (used_any wr out _ 0 (hblk.lims (by omega)) (by omega))
   rw [hlen] at US
   have hsl:=Nm.strip_len out
   rw [hlen] at hsl
   have HL:=hid (hblk.used (B:=w.heap.size) (by omega) (Nat.le_refl _))
   rw [hlen] at HL
   have HD:=hid hdig
   have HBEL:=hid hbel
   clear hval hlen hdig hbel hblk
   generalize hn:(Nm.strip out).length=n at*
   clear hn
   go_wp2_with fail
   refine (US.out).mono ?_
   rintro e w1 ⟨rfl,rfl⟩
   go_wp2_with fail
   go_ret
   exact ⟨_,Nm.strip out,rfl,⟨Nm.good_strip HD.out,by rw [Nm.val_strip,HE.out]⟩,HL.out,HBEL.out⟩
theorem addLimbs_any (w:World)(a b:List Int)(u v:Value)(ha:Lims w a u)(hb:Lims w b v)(hal:a.length<=10000000000)(hbl:b.length<=10000000000)(ga:Nm.Dig 4294967296 a)(gb:Nm.Dig 4294967296 b):
  Calls Tryz.prog 118 #[u,v] w (LimPost w fun xs=>Nm.Good 4294967296 xs/\Nm.val 4294967296 xs=Nm.val 4294967296 a+Nm.val 4294967296 b):=by
 by_cases h:(a.length:Int)<b.length
 ·exact addLimbs_lt w a b u v ha hb hal hbl ga gb h
 ·exact addLimbs_ge w a b u v ha hb hal hbl ga gb h
open Go.RowKit
def subRel (w:World)(a b:List Int)(c i:Value)(wr:World):Prop:=
 ∃ (k:Nat) (cc:Int) (out:List Int),i=.int .i64 k/\c=.int .u64 cc/\0<=cc/\cc<=1/\k<=a.length/\LBlk wr w.heap.size out/\out.length=a.length/\Nm.Dig 4294967296 out/\Below w.heap.size w wr/\
  Nm.val 4294967296 (out.take k)+Nm.val 4294967296 (b.take k)=Nm.val 4294967296 (a.take k)+cc*4294967296^k
theorem subRel_step {w wr:World}{a b out:List Int}{k:Nat}{cc c' d:Int}(c0:0<=c')(c1:c'<=1)(hk:k<a.length)(hblk:LBlk wr w.heap.size out)(hlen:out.length=a.length)(hdig:Nm.Dig 4294967296 out)(hbel:Below w.heap.size w wr)
  (hval:Nm.val 4294967296 (out.take k)+Nm.val 4294967296 (b.take k)=Nm.val 4294967296 (a.take k)+cc*4294967296^k) (d0:0<=d) (d1:d<4294967296) (hd:d=Nm.at' a k-Nm.at' b k-cc+c'*4294967296):
  subRel w a b (.int .u64 c') (.int .i64 ((k:Int)+1)) (wr.setCell ⟨w.heap.size,k,none⟩ (.int .u32 d)):=by
 refine ⟨k+1,c',out.set k d,by simp,rfl,c0,c1,by omega,hblk.set _ _,by simpa using hlen,hdig.set _ d0 d1,hbel.setCell (by simp) _,?_⟩
 rw [Nm.take_set (by omega)]
 exact Nm.less_step (by rw [List.length_take];omega) hval hd
theorem subtractLimbs_any (w:World)(a b:List Int)(u v:Value)(ha:Lims w a u)(hb:Lims w b v)(hal:a.length<=10000000000)(hbl:b.length<=a.length)(ga:Nm.Dig 4294967296 a)(gb:Nm.Dig 4294967296 b)(hle:Nm.val 4294967296 b<=Nm.val 4294967296 a):
  Calls Tryz.prog 120 #[u,v] w (LimPost w fun xs=>Nm.Good 4294967296 xs/\Nm.val 4294967296 xs=Nm.val 4294967296 a-Nm.val 4294967296 b):=by
 obtain ⟨ao,cap,rfl,hcap⟩:=ha.shape
 obtain ⟨bo,bap,rfl,hbap⟩:=hb.shape
 have hmk:=run_make_row' (P:=Tryz.prog) 78 142 (.int .u32 0) 4 Tryz.underlying78 infoU rfl .i64 .i64 a.length (by omega) (by omega)
 have HA:=hid ha
 have HB:=hid hb
 have GA:=hid ga
 have GB:=hid gb
 have HLE:=hid hle
 clear ha hb ga gb hle
 go_enter Tryz.func120,Tryz.ntmps120
 go_wp2_with fail
 go_loopw [6,7] (fun c i wr=>subRel w a b c i wr) (fun _ i _=>a.length-(intOf i).toNat)
 case atStart=>exact ⟨0,0,List.replicate a.length 0,rfl,rfl,by omega,by omega,by omega,LBlk.made w _,by simp,Nm.Dig.zeros (by decide) _,belowW (Below.refl _ _) (Nat.le_refl _) _,rfl⟩
 case round=>
  obtain ⟨k,cc,out,rfl,rfl,c0,c1,hk,hblk,hlen,hdig,hbel,hval⟩:=hrel
  by_cases hkn:(k:Int)<a.length
  ·have k1:=hblk.cell k (by omega)
   have k2:=hblk.frozen k
   have ST:=hid (fun c' d c0' c1' d0 d1 hd=>subRel_step (c':=c') (d:=d) c0' c1' (by omega) hblk hlen hdig hbel hval d0 d1 hd)
   have a0:=GA.out.at' (by decide) k
   have b0:=GB.out.at' (by decide) k
   have HLEN:=hid hlen
   obtain ⟨ga,rfl,hca⟩:=(HA.out.below hbel).place (by omega)
   have x1:=hca k (by omega)
   clear hca
   by_cases g2:(k:Int)<b.length
   ·obtain ⟨gb,rfl,hcb⟩:=(HB.out.below hbel).place (by omega)
    have x2:=hcb k (by omega)
    clear hcb hval hlen hdig hbel hblk
    generalize Nm.at' a k=x at*
    generalize Nm.at' b k=y at*
    generalize Nm.at' out k=o at*
    obtain ⟨a1,a2⟩:=a0
    obtain ⟨b1,b2⟩:=b0
    by_cases hc:x<cc+y
    ·go_wp2_with fail
     go_roundw
     case rel=>exact ST.out 1 _ (by omega) (by omega) (by omega) (by omega) (by omega)
     case measure=>simp [intOf];omega
    ·go_wp2_with fail
     go_roundw
     case rel=>exact ST.out 0 _ (by omega) (by omega) (by omega) (by omega) (by omega)
     case measure=>simp [intOf];omega
   ·have e2:=Nm.at_noneW (xs:=b) (i:=k) (by omega)
    clear hval hlen hdig hbel hblk
    generalize Nm.at' a k=x at*
    generalize Nm.at' b k=y at*
    generalize Nm.at' out k=o at*
    obtain ⟨a1,a2⟩:=a0
    have HE2:=hid e2
    clear e2 b0
    by_cases hc:x<cc
    ·go_wp2_with fail
     go_roundw
     case rel=>exact ST.out 1 _ (by omega) (by omega) (by omega) (by omega) (by have:=HE2.out;omega)
     case measure=>simp [intOf];omega
    ·go_wp2_with fail
     go_roundw
     case rel=>exact ST.out 0 _ (by omega) (by omega) (by omega) (by omega) (by have:=HE2.out;omega)
     case measure=>simp [intOf];omega
  ·obtain rfl:k=a.length:=by omega
   have hl1:(out.take a.length).length=a.length:=by rw [List.length_take];omega
   have HE:=hid (Nm.less_end (by decide) rfl hl1 (hdig.take _) c0 HLE.out hbl hval)
   have HT:=hid (show out.take a.length=out from List.take_of_length_le (by omega))
   have US:=hid (used_any wr out _ 0 (hblk.lims (by omega)) (by omega))
   rw [hlen] at US
   have hsl:=Nm.strip_len out
   rw [hlen] at hsl
   have HL:=hid (hblk.used (B:=w.heap.size) (by omega) (Nat.le_refl _))
   rw [hlen] at HL
   have HD:=hid hdig
   have HBEL:=hid hbel
   clear hval hlen hdig hbel hblk hl1
   generalize hn:(Nm.strip out).length=n at*
   clear hn
   go_wp2_with fail
   refine (US.out).mono ?_
   rintro e w1 ⟨rfl,rfl⟩
   go_wp2_with fail
   go_ret
   exact ⟨_,Nm.strip out,rfl,⟨Nm.good_strip HD.out,by rw [Nm.val_strip,<-HE.out.2,HT.out]⟩,HL.out,HBEL.out⟩
open Go.RowKit
theorem Nm.at_set_ne {l:List Int}{k j:Nat}{x:Int}(h:k≠j):Nm.at' (l.set k x) j=Nm.at' l j:=by
 unfold Nm.at'
 simp [List.getD,List.getElem?_set_ne h]
theorem Nm.at_zeros (n i:Nat):Nm.at' (List.replicate n 0) i=0:=by
 unfold Nm.at'
 rw [List.getD_eq_getElem?_getD]
 cases h:(List.replicate n (0:Int))[i]? with
 | none=>rfl
 | some x=>have:=List.mem_of_getElem? h;rw [List.mem_replicate] at this;rw [this.2];rfl
def wmOut (w:World)(S L:List Int)(i:Value)(wr:World):Prop:=
 ∃ (k:Nat) (out:List Int),i=.int .i64 k/\k<=S.length/\LBlk wr w.heap.size out/\out.length=S.length+L.length/\Nm.Dig 4294967296 out/\Below w.heap.size w wr/\Nm.val 4294967296 out=Nm.val 4294967296 (S.take k)*Nm.val 4294967296 L/\(∀ t,k+L.length<=t->Nm.at' out t=0)
def wmIn (w:World)(S L:List Int)(i:Nat)(c jv:Value)(wr:World):Prop:=
 ∃ (j:Nat) (cc:Int) (out:List Int),jv=.int .i64 j/\c=.int .u64 cc/\0<=cc/\cc<4294967296/\j<=L.length/\LBlk wr w.heap.size out/\out.length=S.length+L.length/\Nm.Dig 4294967296 out/\Below w.heap.size w wr/\
  Nm.val 4294967296 out+cc*4294967296^(i+j)=Nm.val 4294967296 (S.take i)*Nm.val 4294967296 L+Nm.at' S i*Nm.val 4294967296 (L.take j)*4294967296^i/\(∀ t,i+L.length<=t->Nm.at' out t=0)
theorem wm_row {a b out:List Int}{k:Nat}{cc:Int}(hk:k+b.length<out.length)(hz:Nm.at' out (k+b.length)=0)(h:Nm.val 4294967296 out+cc*4294967296^(k+b.length)=Nm.val 4294967296 (a.take k)*Nm.val 4294967296 b+Nm.at' a k*Nm.val 4294967296 (b.take b.length)*4294967296^k):
  Nm.val 4294967296 (out.set (k+b.length) cc)=Nm.val 4294967296 (a.take (k+1))*Nm.val 4294967296 b:=by
 rw [List.take_length] at h
 rw [Nm.val_set _ _ _ _ hk,hz,Nm.val_take]
 generalize (4294967296:Int)^(k+b.length)=P at*
 grind
theorem multiplyLimbs_any (w:World)(a b:List Int)(u v:Value)(ha:Lims w a u)(hb:Lims w b v)(hal:a.length<=10000000000)(hbl:b.length<=10000000000)(ga:Nm.Dig 4294967296 a)(gb:Nm.Dig 4294967296 b):
  Calls Tryz.prog 153 #[u,v] w (LimPost w fun xs=>Nm.Good 4294967296 xs/\Nm.val 4294967296 xs=Nm.val 4294967296 a*Nm.val 4294967296 b):=by
 obtain ⟨ao,cap,rfl,hcap⟩:=ha.shape
 obtain ⟨bo,bap,rfl,hbap⟩:=hb.shape
 have hmk:=run_make_row' (P:=Tryz.prog) 78 142 (.int .u32 0) 4 Tryz.underlying78 infoU rfl .i64 .i64 (a.length+b.length) (by omega) (by omega)
 rw [show ((a.length+b.length:Nat):Int)=(a.length:Int)+b.length by omega] at hmk
 by_cases hab:(b.length:Int)<a.length
 ·have HS:=hid hb
  have HL:=hid ha
  have GS:=hid gb
  have GL:=hid ga
  clear ha hb ga gb
  go_enter Tryz.func153,Tryz.ntmps153
  go_wp2_with fail
  go_loopw [8] (fun i wr=>wmOut w b a i wr) (fun i _=>b.length-(intOf i).toNat)
  case atStart=>exact ⟨0,List.replicate (a.length+b.length) 0,rfl,Nat.zero_le _,LBlk.made w _,by simp;try omega,Nm.Dig.zeros (by decide) _,belowW (Below.refl _ _) (Nat.le_refl _) _,by rw [Nm.val_zeros];simp [Nm.val],fun t _=>Nm.at_zeros _ _⟩
  case round=>
   obtain ⟨k,out,rfl,hk,hblk,hlen,hdig,hbel,hval,hzz⟩:=hrel
   have HV:=hid hval
   have HLEN:=hid hlen
   have HDIG:=hid hdig
   have HBEL:=hid hbel
   have HBLK:=hid hblk
   have HZZ:=hid hzz
   have hs:=hblk.lt
   by_cases hka:(k:Int)<b.length
   ·obtain ⟨g,rfl,_⟩:=HS.out.place (by omega)
    obtain ⟨wo,hwo⟩:∃ wo:World,wo=wr:=⟨_,rfl⟩
    subst hwo
    have x1:=(HS.out.below HBEL.out).cellG k (by omega)
    clear hval hlen hdig hbel hblk hzz
    have a0:=GS.out.at' (by decide) k
    have i5:(k:Int)+a.length<=(a.length:Int)+b.length:=by omega
    have i6:IntKind.i64.wrap ((k:Int)+a.length)=(k:Int)+a.length:=by rw [IntKind.wrap_i64];omega
    have i7:((k:Int)+a.length).toNat=k+a.length:=by omega
    have i8:k+a.length-k=a.length:=by omega
    have i9:(0:Int)<=(k:Int)+a.length:=by omega
    have i10:(k:Int)<=(k:Int)+a.length:=by omega
    have i11:k+a.length<=a.length+b.length:=by omega
    have i12:k<=k+a.length:=by omega
    go_wp2_with fail
    go_loopw [11,12] (fun c j wr=>wmIn w b a k c j wr) (fun _ j _=>a.length-(intOf j).toNat)
    case atStart=>
     refine ⟨0,0,out,rfl,rfl,by omega,by omega,by omega,HBLK.out,HLEN.out,HDIG.out,HBEL.out,?_,HZZ.out⟩
     rw [HV.out]
     simp [Nm.val]
    case round=>
     obtain ⟨j,cc,out',rfl,rfl,c0,c1,hj,hblk,hlen,hdig,hbel,hval,hzz⟩:=hrel
     have hs':=hblk.lt
     by_cases gg:(j:Int)<a.length
     ·have hij:k+j<out'.length:=by rw [hlen];omega
      obtain ⟨g2,rfl,_⟩:=HL.out.place (by omega)
      have y1:=(HL.out.below hbel).cellG j (by omega)
      have x2:=hblk.cell (k+j) hij
      have x3:=hblk.frozen (k+j)
      have b0:=GL.out.at' (by decide) j
      have o0:=hdig.at' (by decide) (k+j)
      have hcar:=Nm.mul_carry (x:=cc+Nm.at' out' (k+j)+Nm.at' b k*Nm.at' a j) (by decide) c0 c1 o0.1 o0.2 a0.1 a0.2 b0.1 b0.2 rfl
      have ST:=hid (Nm.mul_step (x:=cc+Nm.at' out' (k+j)+Nm.at' b k*Nm.at' a j) hij hval rfl)
      have REL:Hid (∀ X q,X=cc+Nm.at' out' (k+j)+Nm.at' b k*Nm.at' a j->wmIn w b a k (.int .u64 (X/4294967296)) (.int .i64 ((j:Int)+1)) ((wr.drewN q).setCell ⟨w.heap.size,k+j,none⟩ (.int .u32 (X%4294967296)))):=by
       rintro X q rfl
       refine ⟨j+1,_,out'.set (k+j) ((cc+Nm.at' out' (k+j)+Nm.at' b k*Nm.at' a j)%4294967296),by simp,rfl,hcar.2.1,hcar.2.2.1,by omega,(show LBlk (wr.drewN q) w.heap.size out' from hblk).set _ _,by simpa using hlen,hdig.set _ (by omega) (by omega),(below_drewN hbel q).setCell (by simp) _,ST.out,?_⟩
       intro t ht
       rw [Nm.at_set_ne (by omega)]
       exact hzz t ht
      clear hval hlen hdig hbel hblk hzz ST
      generalize Nm.at' b k=x at*
      generalize Nm.at' a j=y at*
      generalize Nm.at' out' (k+j)=o at*
      obtain ⟨a1,a2⟩:=a0
      obtain ⟨b1,b2⟩:=b0
      obtain ⟨o1,o2⟩:=o0
      obtain ⟨k0,k1,k2,k3⟩:=hcar
      have p0:0<=x*y:=Int.mul_nonneg a1 b1
      have p1:x*y<=4294967295*4294967295:=Int.mul_le_mul (by omega) (by omega) b1 (by omega)
      go_wp2_with fail
      go_quiet (fail)
      go_wp2_with fail
      go_roundw
      case rel=>exact REL.out (cc+(x*y+o)) _ (by rw [Int.add_comm (x*y) o,Int.add_assoc])
      case measure=>simp [intOf];omega
     ·obtain rfl:j=a.length:=by omega
      have hij:k+a.length<out'.length:=by rw [hlen];omega
      have ROW:=hid (wm_row hij (hzz _ (Nat.le_refl _)) hval)
      have x2:=hblk.cell (k+a.length) hij
      have x3:=hblk.frozen (k+a.length)
      have REL:Hid (wmOut w b a (.int .i64 ((k:Int)+1)) (wr.setCell ⟨w.heap.size,k+a.length,none⟩ (.int .u32 cc))):=by
       refine ⟨k+1,out'.set (k+a.length) cc,by simp,by omega,hblk.set _ _,by simpa using hlen,hdig.set _ c0 c1,hbel.setCell (by simp) _,ROW.out,?_⟩
       intro t ht
       rw [Nm.at_set_ne (by omega)]
       exact hzz t (by omega)
      have i1:(k:Int)+a.length<(a.length:Int)+b.length:=by omega
      clear hval hlen hdig hbel hblk hzz ROW
      generalize Nm.at' out' (k+a.length)=o at*
      go_wp2_with fail
      go_roundw
      case rel=>exact REL.out
      case measure=>simp [intOf];omega
   ·obtain rfl:k=b.length:=by omega
    have HE:=hid (show Nm.val 4294967296 out=Nm.val 4294967296 b*Nm.val 4294967296 a by rw [hval,List.take_length])
    have US:=hid (used_any wr out _ 0 (hblk.lims (by omega)) (by omega))
    have hlen2:out.length=a.length+b.length:=by omega
    rw [hlen2] at US
    have hsl:=Nm.strip_len out
    rw [hlen2] at hsl
    have HL:=hid (hblk.used (B:=w.heap.size) (by omega) (Nat.le_refl _))
    rw [hlen2] at HL
    clear hval hlen hdig hbel hblk hzz hlen2
    generalize hn:(Nm.strip out).length=n at*
    clear hn
    go_wp2_with fail
    refine (US.out).mono ?_
    rintro e w1 ⟨rfl,rfl⟩
    go_wp2_with fail
    go_ret
    exact ⟨_,Nm.strip out,rfl,⟨Nm.good_strip HDIG.out,by rw [Nm.val_strip,HE.out];exact Int.mul_comm _ _⟩,HL.out,HBEL.out⟩
 ·have HS:=hid ha
  have HL:=hid hb
  have GS:=hid ga
  have GL:=hid gb
  clear ha hb ga gb
  go_enter Tryz.func153,Tryz.ntmps153
  go_wp2_with fail
  go_loopw [8] (fun i wr=>wmOut w a b i wr) (fun i _=>a.length-(intOf i).toNat)
  case atStart=>exact ⟨0,List.replicate (a.length+b.length) 0,rfl,Nat.zero_le _,LBlk.made w _,by simp;try omega,Nm.Dig.zeros (by decide) _,belowW (Below.refl _ _) (Nat.le_refl _) _,by rw [Nm.val_zeros];simp [Nm.val],fun t _=>Nm.at_zeros _ _⟩
  case round=>
   obtain ⟨k,out,rfl,hk,hblk,hlen,hdig,hbel,hval,hzz⟩:=hrel
   have HV:=hid hval
   have HLEN:=hid hlen
   have HDIG:=hid hdig
   have HBEL:=hid hbel
   have HBLK:=hid hblk
   have HZZ:=hid hzz
   have hs:=hblk.lt
   by_cases hka:(k:Int)<a.length
   ·obtain ⟨g,rfl,_⟩:=HS.out.place (by omega)
    obtain ⟨wo,hwo⟩:∃ wo:World,wo=wr:=⟨_,rfl⟩
    subst hwo
    have x1:=(HS.out.below HBEL.out).cellG k (by omega)
    clear hval hlen hdig hbel hblk hzz
    have a0:=GS.out.at' (by decide) k
    have i5:(k:Int)+b.length<=(a.length:Int)+b.length:=by omega
    have i6:IntKind.i64.wrap ((k:Int)+b.length)=(k:Int)+b.length:=by rw [IntKind.wrap_i64];omega
    have i7:((k:Int)+b.length).toNat=k+b.length:=by omega
    have i8:k+b.length-k=b.length:=by omega
    have i9:(0:Int)<=(k:Int)+b.length:=by omega
    have i10:(k:Int)<=(k:Int)+b.length:=by omega
    have i11:k+b.length<=a.length+b.length:=by omega
    have i12:k<=k+b.length:=by omega
    go_wp2_with fail
    go_loopw [11,12] (fun c j wr=>wmIn w a b k c j wr) (fun _ j _=>b.length-(intOf j).toNat)
    case atStart=>
     refine ⟨0,0,out,rfl,rfl,by omega,by omega,by omega,HBLK.out,HLEN.out,HDIG.out,HBEL.out,?_,HZZ.out⟩
     rw [HV.out]
     simp [Nm.val]
    case round=>
     obtain ⟨j,cc,out',rfl,rfl,c0,c1,hj,hblk,hlen,hdig,hbel,hval,hzz⟩:=hrel
     have hs':=hblk.lt
     by_cases gg:(j:Int)<b.length
     ·have hij:k+j<out'.length:=by rw [hlen];omega
      obtain ⟨g2,rfl,_⟩:=HL.out.place (by omega)
      have y1:=(HL.out.below hbel).cellG j (by omega)
      have x2:=hblk.cell (k+j) hij
      have x3:=hblk.frozen (k+j)
      have b0:=GL.out.at' (by decide) j
      have o0:=hdig.at' (by decide) (k+j)
      have hcar:=Nm.mul_carry (x:=cc+Nm.at' out' (k+j)+Nm.at' a k*Nm.at' b j) (by decide) c0 c1 o0.1 o0.2 a0.1 a0.2 b0.1 b0.2 rfl
      have ST:=hid (Nm.mul_step (x:=cc+Nm.at' out' (k+j)+Nm.at' a k*Nm.at' b j) hij hval rfl)
      have REL:Hid (∀ X q,X=cc+Nm.at' out' (k+j)+Nm.at' a k*Nm.at' b j->wmIn w a b k (.int .u64 (X/4294967296)) (.int .i64 ((j:Int)+1)) ((wr.drewN q).setCell ⟨w.heap.size,k+j,none⟩ (.int .u32 (X%4294967296)))):=by
       rintro X q rfl
       refine ⟨j+1,_,out'.set (k+j) ((cc+Nm.at' out' (k+j)+Nm.at' a k*Nm.at' b j)%4294967296),by simp,rfl,hcar.2.1,hcar.2.2.1,by omega,(show LBlk (wr.drewN q) w.heap.size out' from hblk).set _ _,by simpa using hlen,hdig.set _ (by omega) (by omega),(below_drewN hbel q).setCell (by simp) _,ST.out,?_⟩
       intro t ht
       rw [Nm.at_set_ne (by omega)]
       exact hzz t ht
      clear hval hlen hdig hbel hblk hzz ST
      generalize Nm.at' a k=x at*
      generalize Nm.at' b j=y at*
      generalize Nm.at' out' (k+j)=o at*
      obtain ⟨a1,a2⟩:=a0
      obtain ⟨b1,b2⟩:=b0
      obtain ⟨o1,o2⟩:=o0
      obtain ⟨k0,k1,k2,k3⟩:=hcar
      have p0:0<=x*y:=Int.mul_nonneg a1 b1
      have p1:x*y<=4294967295*4294967295:=Int.mul_le_mul (by omega) (by omega) b1 (by omega)
      go_wp2_with fail
      go_quiet (fail)
      go_wp2_with fail
      go_roundw
      case rel=>exact REL.out (cc+(x*y+o)) _ (by rw [Int.add_comm (x*y) o,Int.add_assoc])
      case measure=>simp [intOf];omega
     ·obtain rfl:j=b.length:=by omega
      have hij:k+b.length<out'.length:=by rw [hlen];omega
      have ROW:=hid (wm_row hij (hzz _ (Nat.le_refl _)) hval)
      have x2:=hblk.cell (k+b.length) hij
      have x3:=hblk.frozen (k+b.length)
      have REL:Hid (wmOut w a b (.int .i64 ((k:Int)+1)) (wr.setCell ⟨w.heap.size,k+b.length,none⟩ (.int .u32 cc))):=by
       refine ⟨k+1,out'.set (k+b.length) cc,by simp,by omega,hblk.set _ _,by simpa using hlen,hdig.set _ c0 c1,hbel.setCell (by simp) _,ROW.out,?_⟩
       intro t ht
       rw [Nm.at_set_ne (by omega)]
       exact hzz t (by omega)
      have i1:(k:Int)+b.length<(a.length:Int)+b.length:=by omega
      clear hval hlen hdig hbel hblk hzz ROW
      generalize Nm.at' out' (k+b.length)=o at*
      go_wp2_with fail
      go_roundw
      case rel=>exact REL.out
      case measure=>simp [intOf];omega
   ·obtain rfl:k=a.length:=by omega
    have HE:=hid (show Nm.val 4294967296 out=Nm.val 4294967296 a*Nm.val 4294967296 b by rw [hval,List.take_length])
    have US:=hid (used_any wr out _ 0 (hblk.lims (by omega)) (by omega))
    have hlen2:out.length=a.length+b.length:=by omega
    rw [hlen2] at US
    have hsl:=Nm.strip_len out
    rw [hlen2] at hsl
    have HL:=hid (hblk.used (B:=w.heap.size) (by omega) (Nat.le_refl _))
    rw [hlen2] at HL
    clear hval hlen hdig hbel hblk hzz hlen2
    generalize hn:(Nm.strip out).length=n at*
    clear hn
    go_wp2_with fail
    refine (US.out).mono ?_
    rintro e w1 ⟨rfl,rfl⟩
    go_wp2_with fail
    go_ret
    exact ⟨_,Nm.strip out,rfl,⟨Nm.good_strip HDIG.out,by rw [Nm.val_strip,HE.out]⟩,HL.out,HBEL.out⟩
end Go.Proofs.YteghhlfmcjmnoaaGreatDoor
