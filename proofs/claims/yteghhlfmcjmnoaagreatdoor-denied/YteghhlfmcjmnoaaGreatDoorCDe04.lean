import Derived.Test.YteghhlfmcjmnoaaGreatDoorCDe03
import Derived.Test.YteghhlfmcjmnoaaGreatDoorRows
import Derived.Test.YteghhlfmcjmnoaaGreatDoorProg
import Derived.WalkKit
import Derived.WalkSpells
import Derived.WalkLawsBesides
import Derived.WalkSmall
import Derived.BigQuiet
import Derived.Lib.OthersKept
import Derived.Deep.LoopGhost
import Derived.Deep.OwnRows
set_option linter.unusedSimpArgs false
set_option linter.unusedVariables false
set_option maxRecDepth 100000
set_option maxHeartbeats 2000000
namespace Go.Proofs.YteghhlfmcjmnoaaGreatDoor
open Go.RowKit
namespace Ab
inductive Tok where
 | num (k:Bool) (z:Int) (n:Nat)
 | c (x:AC)
inductive VT where
 | one (c:AC)
 | agg (ts:List Tok)
inductive RV where
 | val (v:VT)
 | tup (vs:List VT)
def plainC:AC->Bool
 | .sg _=>false
 | .dg _ _=>false
 | .ptr _ _=>false
 | .slc _ _ _ _=>false
 | .dsl _ _ _ _=>false
 | _=>true
def toks (ν:List (Int×Nat)):List AC->Option (List Tok)
 | []=>some []
 | .sg i::.dg k j::r=>bif i==j then (ν[i]?).bind fun (z,n)=>(toks ν r).map (.num k z n::·) else none
 | c::r=>bif plainC c then (toks ν r).map (.c c::·) else none
def vtOf (ν:List (Int×Nat)):AV->Option VT
 | .one c=>bif plainC c then some (.one c) else none
 | .agg cs=>(toks ν cs).map .agg
section
variable (C:Cfg)
def RT (w:World):List Tok->List Value->Prop
 | [],[]=>True
 | .num k z n::ts,x::y::xs=>x=.bool (decide (z<0))/\C.dig k w z y/\C.bits n z/\RT w ts xs
 | .c c::ts,x::xs=>plainC c=true/\relC C (fun _=>none) [] w c x/\RT w ts xs
 | _,_=>False
def RVT (w:World):VT->Value->Prop
 | .one c,x=>plainC c=true/\relC C (fun _=>none) [] w c x
 | .agg ts,x=>∃ xs:List Value,x=.agg xs.toArray/\RT C w ts xs
def RRV (w:World):RV->Value->Prop
 | .val v,x=>RVT C w v x
 | .tup vs,x=>∃ xs:List Value,x=.tuple xs.toArray/\All2 (RVT C w) vs xs
end
def cellsT:Nat->List Tok->List AC×List (Int×Nat)
 | _,[]=>([],[])
 | b,.num k z n::r=>(.sg b::.dg k b::(cellsT (b+1) r).1,(z,n)::(cellsT (b+1) r).2)
 | b,.c x::r=>(x::(cellsT b r).1,(cellsT b r).2)
def avOf (b:Nat):VT->AV×List (Int×Nat)
 | .one c=>(.one c,[])
 | .agg ts=>(.agg (cellsT b ts).1,(cellsT b ts).2)
def avsOf:Nat->List VT->List AV×List (Int×Nat)
 | _,[]=>([],[])
 | b,v::r=>((avOf b v).1::(avsOf (b+(avOf b v).2.length) r).1,(avOf b v).2++(avsOf (b+(avOf b v).2.length) r).2)
def atOf (b:Nat):RV->AT×List (Int×Nat)
 | .val v=>(.val (avOf b v).1,(avOf b v).2)
 | .tup vs=>(.tup (avsOf b vs).1,(avsOf b vs).2)
section
variable {C:Cfg} {φ:Nat->Option (Nat×Nat)} {w:World}
theorem plain_rel {c:AC}(h:plainC c=true){φ φ':Nat->Option (Nat×Nat)}{ν ν':List (Int×Nat)}{x:Value}(r:relC C φ ν w c x):relC C φ' ν' w c x:=by
 cases c<;>first | exact r | (simp [plainC] at h)
theorem toks_ok {ν μ:List (Int×Nat)}(hμ:∀ (i:Nat) (x:Int×Nat),ν[i]?=some x->μ[i]?=some x):∀ (cs:List AC) (ts:List Tok) (xs:List Value),toks ν cs=some ts->All2 (relC C φ μ w) cs xs->RT C w ts xs
 | [],ts,[],h,_=>by simp [toks] at h;subst h;trivial
 | [],_,_::_,_,h=>h.elim
 | _::_,_,[],_,h=>h.elim
 | [c],ts,[x],h,⟨hx,_⟩=>by
  cases c<;>simp [toks,plainC] at h<;>subst h<;>exact ⟨rfl,plain_rel rfl hx,trivial⟩
 | [c],_,_::_::_,_,h=>h.2.elim
 | _::_::_,_,[_],_,h=>h.2.elim
 | c::d::r,ts,x::y::xs,h,⟨hx,hy,hr⟩=>by
  by_cases hc:plainC c=true
  ·have e:toks ν (c::d::r)=(toks ν (d::r)).map (.c c::·):=by
    cases c<;>first | (simp [plainC] at hc;done) | rfl
   rw [e] at h
   obtain ⟨ts',h1,rfl⟩:=mpd h
   exact ⟨hc,plain_rel hc hx,toks_ok hμ (d::r) ts' (y::xs) h1 ⟨hy,hr⟩⟩
  ·cases c<;>simp [plainC] at hc
   case sg i=>
    cases d<;>try (simp [toks,plainC] at h;done)
    case dg k j=>
     simp only [toks] at h
     cases hij:i==j with
     | false=>rw [hij] at h;cases h
     | true=>
      rw [hij] at h
      simp only [cond_true] at h
      have:i=j:=by simpa using hij
      subst this
      obtain ⟨⟨z,n⟩,h1,h2⟩:=bnd h
      obtain ⟨ts',h3,rfl⟩:=mpd h2
      obtain ⟨z1,n1,e1,e2⟩:=hx
      obtain ⟨z2,n2,f1,f2,f3⟩:=hy
      have:=hμ _ _ h1
      rw [this] at e1 f1
      cases e1
      cases f1
      exact ⟨e2,f2,f3,toks_ok hμ r ts' xs h3 hr⟩
   all_goals simp [toks,plainC] at h
theorem vtOf_ok {ν μ:List (Int×Nat)}(hμ:∀ (i:Nat) (x:Int×Nat),ν[i]?=some x->μ[i]?=some x){v:AV}{t:VT}{x:Value}(h:vtOf ν v=some t)(r:relV C φ μ w v x):RVT C w t x:=by
 cases v with
 | one c=>
  simp only [vtOf] at h
  cases hc:plainC c with
  | false=>rw [hc] at h;cases h
  | true=>rw [hc] at h;cases h;exact ⟨hc,plain_rel hc r⟩
 | agg cs=>
  simp only [vtOf] at h
  obtain ⟨ts,h1,rfl⟩:=mpd h
  obtain ⟨xs,e,hr⟩:=r
  exact ⟨xs,e,toks_ok hμ cs ts xs h1 hr⟩
theorem vtsOf_ok {ν μ:List (Int×Nat)}(hμ:∀ (i:Nat) (x:Int×Nat),ν[i]?=some x->μ[i]?=some x):∀ {vs:List AV} {ts:List VT} {xs:List Value},mapO (vtOf ν) vs=some ts->All2 (relV C φ μ w) vs xs->All2 (RVT C w) ts xs
 | [],ts,[],h,_=>by simp [mapO] at h;subst h;trivial
 | v::vs,ts,x::xs,h,⟨h1,h2⟩=>by
  unfold mapO at h
  obtain ⟨t,g1,g2⟩:=bnd h
  obtain ⟨ts',g3,rfl⟩:=mpd g2
  exact ⟨vtOf_ok hμ g1 h1,vtsOf_ok hμ g3 h2⟩
 | [],_,_::_,_,h=>h.elim
 | _::_,_,[],_,h=>h.elim
def At (μ:List (Int×Nat))(b:Nat)(ns:List (Int×Nat)):Prop:=∀ (i:Nat) (y:Int×Nat),ns[i]?=some y->μ[b+i]?=some y
theorem At.tail {μ:List (Int×Nat)}{b:Nat}{y:Int×Nat}{ns:List (Int×Nat)}(h:At μ b (y::ns)):At μ (b+1) ns:=fun i z hz=>by rw [show b+1+i=b+(i+1) by omega];exact h (i+1) z (by simpa using hz)
theorem At.left {μ:List (Int×Nat)}{b:Nat}{ms ns:List (Int×Nat)}(h:At μ b (ms++ns)):At μ b ms:=fun i z hz=>h i z (app_ext _ _ i z hz)
theorem At.right {μ:List (Int×Nat)}{b:Nat}{ms ns:List (Int×Nat)}(h:At μ b (ms++ns)):At μ (b+ms.length) ns:=fun i z hz=>by
 rw [show b+ms.length+i=b+(ms.length+i) by omega]
 exact h (ms.length+i) z (by rw [List.getElem?_append_right (by omega)];simpa using hz)
theorem cellsT_ok {μ:List (Int×Nat)}:∀ (ts:List Tok) (b:Nat) (xs:List Value),At μ b (cellsT b ts).2->RT C w ts xs->All2 (relC C φ μ w) (cellsT b ts).1 xs
 | [],b,[],_,_=>trivial
 | .num k z n::r,b,x::y::xs,hA,⟨h1,h2,h3,h4⟩=>by
  simp only [cellsT] at hA ⊢
  have h0:=hA 0 (z,n) rfl
  exact ⟨⟨z,n,h0,h1⟩,⟨z,n,h0,h2,h3⟩,cellsT_ok r (b+1) xs hA.tail h4⟩
 | .c c::r,b,x::xs,hA,⟨h1,h2,h3⟩=>by
  simp only [cellsT] at hA ⊢
  exact ⟨plain_rel h1 h2,cellsT_ok r b xs hA h3⟩
 | [],_,_::_,_,h=>h.elim
 | .num ..::_,_,[],_,h=>h.elim
 | .num ..::_,_,[_],_,h=>h.elim
 | .c _::_,_,[],_,h=>h.elim
theorem avOf_ok {μ:List (Int×Nat)}{v:VT}{b:Nat}{x:Value}(hA:At μ b (avOf b v).2)(h:RVT C w v x):relV C φ μ w (avOf b v).1 x:=by
 cases v with
 | one c=>exact plain_rel h.1 h.2
 | agg ts=>obtain ⟨xs,e,hr⟩:=h;exact ⟨xs,e,cellsT_ok ts b xs hA hr⟩
theorem avsOf_ok {μ:List (Int×Nat)}:∀ (vs:List VT) (b:Nat) (xs:List Value),At μ b (avsOf b vs).2->All2 (RVT C w) vs xs->All2 (relV C φ μ w) (avsOf b vs).1 xs
 | [],_,[],_,_=>trivial
 | v::vs,b,x::xs,hA,⟨h1,h2⟩=>by
  simp only [avsOf] at hA ⊢
  exact ⟨avOf_ok hA.left h1,avsOf_ok vs _ xs hA.right h2⟩
 | [],_,_::_,_,h=>h.elim
 | _::_,_,[],_,h=>h.elim
theorem atOf_ok {μ:List (Int×Nat)}{r:RV}{b:Nat}{x:Value}(hA:At μ b (atOf b r).2)(h:RRV C w r x):relT C φ μ w (atOf b r).1 x:=by
 cases r with
 | val v=>exact avOf_ok hA h
 | tup vs=>obtain ⟨xs,e,hr⟩:=h;exact ⟨xs,e,avsOf_ok vs b xs hA hr⟩
end
abbrev TE:=List VT->Option (RV×List Prop)
def TEok (C:Cfg)(f:FuncId)(te:TE):Prop:=Enters C.P f/\∀ ts r p,te ts=some (r,p)->Holds p->∀ w (xs:List Value),All2 (RVT C w) ts xs->Calls C.P f xs.toArray w fun e w'=>∃ v,e=.returned v/\RRV C w' r v/\Below w.heap.size w w'
def adapt (te:TE):List (Int×Nat)->List AV->Option (List (Int×Nat)×AT×List Prop×Option Box):=fun ν vs=>
 (mapO (vtOf ν) vs).bind fun ts=>(te ts).map fun (r,p)=>((atOf ν.length r).2,(atOf ν.length r).1,p,none)
def lookTE:List (FuncId×TE)->FuncId->Option TE
 | [],_=>none
 | (g,te)::l,f=>bif g==f then some te else lookTE l f
def tabSp (l:List (FuncId×TE)):Spec:=fun f _ ν _ _ vs=>(lookTE l f).bind fun te=>adapt te ν vs
def AllTE (C:Cfg):List (FuncId×TE)->Prop
 | []=>True
 | (f,te)::l=>TEok C f te/\AllTE C l
theorem lookTE_ok {C:Cfg}{f:FuncId}{te:TE}:∀ {l:List (FuncId×TE)},AllTE C l->lookTE l f=some te->TEok C f te
 | [],_,h=>by simp [lookTE] at h
 | (g,t)::l,hl,h=>by
  unfold lookTE at h
  cases e:g==f with
  | true=>
   rw [e] at h
   cases h
   have:g=f:=by simpa using e
   subst this
   exact hl.1
  | false=>rw [e] at h;exact lookTE_ok hl.2 h
theorem tabSp_ok {C:Cfg}{w0:World}{ψ:Nat->Option (Nat×Nat)}{l:List (FuncId×TE)}(hl:AllTE C l):SpecOk C w0 ψ (tabSp l):=by
 intro f d ν id bx vs ν' r p nbx h
 unfold tabSp at h
 obtain ⟨te,h1,h2⟩:=bnd h
 obtain ⟨hen,hok⟩:=lookTE_ok hl h1
 refine ⟨hen,fun hp μ hμ φ w xs _ _ _ _ hxs=>?_⟩
 unfold adapt at h2
 obtain ⟨ts,h3,h4⟩:=bnd h2
 obtain ⟨⟨r',p'⟩,h5,h6⟩:=mpd h4
 simp only [Prod.mk.injEq] at h6
 obtain ⟨rfl,rfl,rfl,rfl⟩:=h6
 refine (hok ts r' p' h5 hp w xs (vtsOf_ok (fun i x hx=>hμ i x (app_ext _ _ i x hx)) h3 hxs)).mono ?_
 rintro e w' ⟨v,rfl,hv,hb⟩
 refine ⟨v,rfl,hb,atOf_ok ?_ hv⟩
 intro i y hy
 exact hμ _ _ (by rw [List.getElem?_append_right (by omega)];simpa using hy)
inductive Out where
 | ret (r:RV)
 | br (t:Bool) (a b:Out)
 | need (p:List Prop) (o:Out)
def Out.ok (G:RV->Prop):Out->Prop
 | .ret r=>G r
 | .br t a b=>(t=true->a.ok G)/\(t=false->b.ok G)
 | .need p o=>Holds p/\o.ok G
def rvOf (ν:List (Int×Nat)):AT->Option RV
 | .val v=>(vtOf ν v).map .val
 | .tup vs=>(mapO (vtOf ν) vs).map .tup
 | _=>none
def outcome:Tr->Option Out
 | .ret r s=>bif clean s then (rvOf s.nums r).map .ret else none
 | .br t a b=>(outcome a).bind fun x=>(outcome b).map fun y=>.br t x y
 | .need p t=>(outcome t).map (.need p)
 | .stop _ _=>none
def start (fn:Func)(ts:List VT):AS:=⟨(avsOf 0 ts).1.map .val++List.replicate (fn.ntmps-(avsOf 0 ts).1.length) .und,[],0,(avsOf 0 ts).2,[]⟩
theorem outcome_ok {G:RV->Prop}:∀ {tr:Tr} {o:Out},outcome tr=some o->o.ok G->tr.ok (fun r s=>clean s=true/\∃ r',rvOf s.nums r=some r'/\G r') (fun _ _=>False)
 | .ret r s,o,h,hg=>by
  simp only [outcome] at h
  cases hc:clean s with
  | false=>rw [hc] at h;cases h
  | true=>rw [hc] at h;obtain ⟨r',h1,rfl⟩:=mpd h;exact ⟨hc,r',h1,hg⟩
 | .br t a b,o,h,hg=>by
  simp only [outcome] at h
  obtain ⟨x,h1,h2⟩:=bnd h
  obtain ⟨y,h3,rfl⟩:=mpd h2
  exact ⟨fun e=>outcome_ok h1 (hg.1 e),fun e=>outcome_ok h3 (hg.2 e)⟩
 | .need p t,o,h,hg=>by
  simp only [outcome] at h
  obtain ⟨x,h1,rfl⟩:=mpd h
  exact ⟨hg.1,outcome_ok h1 hg.2⟩
 | .stop _ _,o,h,_=>by cases h
theorem rvOf_ok {C:Cfg}{φ:Nat->Option (Nat×Nat)}{w:World}{ν:List (Int×Nat)}{r:AT}{r':RV}{v:Value}(h:rvOf ν r=some r')(hr:relT C φ ν w r v):RRV C w r' v:=by
 cases r with
 | val x=>simp only [rvOf] at h;obtain ⟨t,h1,rfl⟩:=mpd h;exact vtOf_ok (fun _ _ h=>h) h1 hr
 | tup vs=>simp only [rvOf] at h;obtain ⟨ts,h1,rfl⟩:=mpd h;obtain ⟨xs,e,hx⟩:=hr;exact ⟨xs,e,vtsOf_ok (fun _ _ h=>h) h1 hx⟩
 | _=>simp [rvOf] at h
theorem rep_start {C:Cfg}(fn:Func)(ts:List VT)(w:World):RepW C w (fun _=>none) (fun _=>none) (start fn ts) w:=
 ⟨fun b B hB=>(by simp [start,look] at hB),fun b B k o hB=>(by simp [start,look] at hB),fun b b' B B' k o o' hB=>(by simp [start,look] at hB),fun b B hB=>(by simp [start,look] at hB),fun b _=>rfl,fun b k o e=>(by cases e),fun k _ _=>rfl,On.refl _ _,fun b x e=>e,fun b B k o hB=>(by simp [start,look] at hB)⟩
end Ab
namespace Rd
def isDig (n:Int):Bool:=decide (48<=n/\n<=57)
def isLet (n:Int):Bool:=decide (97<=n/\n<=122)
def kindOf (n:Int):Int:=bif isDig n then 1 else bif isLet n then 2 else 3
def byteAt (s:ByteArray)(k:Nat):Int:=((s.data.toList.getD k 0).toNat:Int)
theorem byteAt_eq (s:ByteArray)(k:Nat)(h:k<s.size):byteAt s k=(s[k].toNat:Int):=by
 unfold byteAt
 have h':k<s.data.size:=h
 have e:s.data[k]?=some (s[k]):=by rw [Array.getElem?_eq_getElem h'];rfl
 simp [List.getD,e]
def numEnd (s:ByteArray)(a:Nat):Nat->Nat->Nat
 | 0,e=>e
 | f+1,e=>bif decide (e<s.size/\e-a<9)&&isDig (byteAt s e) then numEnd s a f (e+1) else e
def nameEnd (s:ByteArray):Nat->Nat->Nat
 | 0,e=>e
 | f+1,e=>bif decide (e<s.size)&&(isLet (byteAt s e)||isDig (byteAt s e)) then nameEnd s f (e+1) else e
theorem numEnd_lo (s:ByteArray)(a:Nat):∀ f e,e<=numEnd s a f e:=by
 intro f
 induction f with
 | zero=>intro e;exact Nat.le_refl _
 | succ f ih=>
  intro e
  unfold numEnd
  cases decide (e<s.size/\e-a<9)&&isDig (byteAt s e) with
  | false=>exact Nat.le_refl _
  | true=>exact Nat.le_trans (by omega) (ih (e+1))
theorem numEnd_hi (s:ByteArray)(a:Nat):∀ f e,e<=s.size->numEnd s a f e<=s.size:=by
 intro f
 induction f with
 | zero=>intro e h;exact h
 | succ f ih=>
  intro e h
  unfold numEnd
  cases hc:decide (e<s.size/\e-a<9)&&isDig (byteAt s e) with
  | false=>exact h
  | true=>
   simp only [Bool.and_eq_true,decide_eq_true_eq] at hc
   exact ih (e+1) (by omega)
theorem nameEnd_lo (s:ByteArray):∀ f e,e<=nameEnd s f e:=by
 intro f
 induction f with
 | zero=>intro e;exact Nat.le_refl _
 | succ f ih=>
  intro e
  unfold nameEnd
  cases decide (e<s.size)&&(isLet (byteAt s e)||isDig (byteAt s e)) with
  | false=>exact Nat.le_refl _
  | true=>exact Nat.le_trans (by omega) (ih (e+1))
theorem nameEnd_hi (s:ByteArray):∀ f e,e<=s.size->nameEnd s f e<=s.size:=by
 intro f
 induction f with
 | zero=>intro e h;exact h
 | succ f ih=>
  intro e h
  unfold nameEnd
  cases hc:decide (e<s.size)&&(isLet (byteAt s e)||isDig (byteAt s e)) with
  | false=>exact h
  | true=>
   simp only [Bool.and_eq_true,decide_eq_true_eq] at hc
   exact ih (e+1) (by omega)
structure Wd where
 kind:Int
 text:ByteArray
 pos:Nat
def wordEnd (s:ByteArray)(a:Nat):Nat:=
 bif Rd.isDig (byteAt s a) then numEnd s a 9 (a+1) else bif Rd.isLet (byteAt s a) then nameEnd s s.size (a+1) else a+1
def split (s:ByteArray):Nat->Nat->List Wd
 | 0,_=>[]
 | f+1,a=>
  bif decide (a<s.size) then
   bif byteAt s a != 32 then ⟨kindOf (byteAt s a),s.extract a (wordEnd s a),a⟩::split s f (wordEnd s a)
   else split s f (wordEnd s a)
  else [⟨0,⟨#[]⟩,s.size⟩]
theorem wordEnd_lo (s:ByteArray)(a:Nat):a+1<=wordEnd s a:=by
 unfold wordEnd
 cases isDig (byteAt s a) with
 | true=>exact numEnd_lo s a 9 (a+1)
 | false=>
  cases isLet (byteAt s a) with
  | true=>exact nameEnd_lo s s.size (a+1)
  | false=>exact Nat.le_refl _
theorem wordEnd_hi (s:ByteArray)(a:Nat)(h:a<s.size):wordEnd s a<=s.size:=by
 unfold wordEnd
 cases isDig (byteAt s a) with
 | true=>exact numEnd_hi s a 9 (a+1) (by omega)
 | false=>
  cases isLet (byteAt s a) with
  | true=>exact nameEnd_hi s s.size (a+1) (by omega)
  | false=>exact h
def wcells:List Wd->List Value
 | []=>[]
 | w::r=>.int .i64 w.kind::.string w.text::.int .i64 w.pos::wcells r
theorem wcells_append (a b:List Wd):wcells (a++b)=wcells a++wcells b:=by
 induction a with
 | nil=>rfl
 | cons x r ih=>simp [wcells,ih]
def valTo (t:ByteArray):Nat->Int
 | 0=>0
 | k+1=>bif isDig (byteAt t k) then valTo t k*10+(byteAt t k-48) else valTo t k
theorem valTo_lo (t:ByteArray):∀ k,0<=valTo t k:=by
 intro k
 induction k with
 | zero=>exact Int.le_refl _
 | succ k ih=>
  unfold valTo
  cases h:isDig (byteAt t k) with
  | false=>exact ih
  | true=>
   simp [isDig] at h
   simp
   omega
theorem valTo_hi (t:ByteArray):∀ k,valTo t k<(10:Int)^k:=by
 intro k
 induction k with
 | zero=>simp [valTo]
 | succ k ih=>
  unfold valTo
  rw [Int.pow_succ]
  have h0:=valTo_lo t k
  cases h:isDig (byteAt t k) with
  | false=>simp;omega
  | true=>
   simp [isDig] at h
   simp
   omega
theorem valTo_bd (t:ByteArray)(k:Nat)(h:k<=9):valTo t k<1000000000:=by
 have h1:=valTo_hi t k
 have h2:(10:Int)^k<=10^9:=by
  have:=Nat.pow_le_pow_right (n:=10) (by omega) h
  exact_mod_cast this
 omega
def isT (t:ByteArray)(c:List UInt8):Bool:=t.data.toList==c
theorem isT_eq (t:ByteArray)(c:List UInt8):(t.toList==c)=isT t c:=by unfold isT;rw [ByteArray.toList_eq]
def named (t:ByteArray):Int:=
 bif isT t [112,105] then 2 else bif isT t [101] then 3 else bif isT t [99,102] then 4 else bif isT t [115,113,114,116] then 10
 else bif isT t [101,120,112] then 11 else bif isT t [108,110,49,112] then 12 else bif isT t [97,116,97,110] then 13 else 0
structure St where
 next:Nat
 around:Nat
 deepest:Nat
 nodes:Nat
def wordAt (ws:List Wd)(n:Nat):Wd:=ws.getD n ⟨0,⟨#[]⟩,0⟩
theorem wcells_at:∀ (ws:List Wd) (n:Nat),n<ws.length->(wcells ws)[n*3]?=some (.int .i64 (wordAt ws n).kind)/\(wcells ws)[n*3+1]?=some (.string (wordAt ws n).text)/\(wcells ws)[n*3+2]?=some (.int .i64 (wordAt ws n).pos):=by
 intro ws
 induction ws with
 | nil=>intro n h;simp at h
 | cons x r ih=>
  intro n h
  cases n with
  | zero=>simp [wcells,wordAt]
  | succ n=>
   have:=ih n (by simpa using h)
   simpa [wcells,wordAt,Nat.add_mul] using this
end Rd
open Go.RowKit
theorem ret_int {k:IntKind}{a b:Int}(h:a=b):Ending.returned (.int k a)=.returned (.int k b):=by rw [h]
theorem isDigit_any (n:Int)(w:World):
  Calls Tryz.prog 168 #[.int .u8 n] w fun e w'=>e=.returned (.bool (Rd.isDig n))/\w=w':=by
 by_cases h1:48<=n
 all_goals by_cases h2:n<=57
 all_goals
  go_enter Tryz.func168,Tryz.ntmps168
  go_wp2
  go_ret
  exact ⟨by simp [Rd.isDig];omega,rfl⟩
theorem isLetter_any (n:Int)(w:World):
  Calls Tryz.prog 169 #[.int .u8 n] w fun e w'=>e=.returned (.bool (Rd.isLet n))/\w=w':=by
 by_cases h1:97<=n
 all_goals by_cases h2:n<=122
 all_goals
  go_enter Tryz.func169,Tryz.ntmps169
  go_wp2
  go_ret
  exact ⟨by simp [Rd.isLet];omega,rfl⟩
theorem kindOf_any (n:Int)(w:World):
  Calls Tryz.prog 139 #[.int .u8 n] w fun e w'=>e=.returned (.int .i64 (Rd.kindOf n))/\w=w':=by
 cases h1:Rd.isDig n
 all_goals cases h2:Rd.isLet n
 all_goals
  go_enter Tryz.func139,Tryz.ntmps139
  go_wp2_with (first | (go_at_call 168;refine (isDigit_any _ _).mono ?_;rintro e w' ⟨rfl,rfl⟩) | (go_at_call 169;refine (isLetter_any _ _).mono ?_;rintro e w' ⟨rfl,rfl⟩))
  go_ret
  exact ⟨by simp [Rd.kindOf,h1,h2],rfl⟩
theorem numberEnd_any (s:ByteArray)(a:Nat)(w:World)(hs:s.size<=120)(ha:a<s.size):
  Calls Tryz.prog 140 #[.string s,.int .i64 a] w fun e w'=>e=.returned (.int .i64 (Rd.numEnd s a 9 (a+1)))/\w=w':=by
 go_enter Tryz.func140,Tryz.ntmps140
 go_wp2_with fail
 go_loop [5] (fun e=>∃ k:Nat,a+1<=k/\k<=a+9/\k<=s.size/\e=.int .i64 k/\Hid (Rd.numEnd s a (a+10-k) k=Rd.numEnd s a 9 (a+1))) (fun e=>s.size-(intOf e).toNat)
 case atStart=>exact ⟨a+1,by omega,by omega,by omega,by go_num,by rw [show a+10-(a+1)=9 by omega];rfl⟩
 case round=>
  obtain ⟨k,h1,h2,h3,rfl,HE⟩:=hrel
  obtain ⟨f,hf⟩:∃ f,a+10-k=f+1:=⟨a+9-k,by omega⟩
  have HF:Hid (a+10-k=f+1):=hf
  clear hf
  by_cases c1:k<s.size
  ·by_cases c2:(k:Int)-a<9
   ·cases c3:Rd.isDig (s[k].toNat:Int)
    ·go_wp2_with (go_at_call 168;refine (isDigit_any _ _).mono ?_;rintro e w' ⟨rfl,rfl⟩)
     go_ret
     refine ⟨ret_int ?_,rfl⟩
     rw [<-HE.out,HF.out,Rd.numEnd,Rd.byteAt_eq s k c1,c3]
     simp
    ·go_wp2_with (go_at_call 168;refine (isDigit_any _ _).mono ?_;rintro e w' ⟨rfl,rfl⟩)
     go_round
     case rel=>
      refine ⟨k+1,by omega,by omega,by omega,by go_num,?_⟩
      show Rd.numEnd s a (a+10-(k+1)) (k+1)=_
      have e1:a+10-(k+1)=f:=by have:=HF.out;omega
      rw [e1,<-HE.out,HF.out]
      conv=>rhs;rw [Rd.numEnd,Rd.byteAt_eq s k c1,c3]
      simp [c1,show k-a<9 by omega]
     case measure=>simp [intOf];omega
   ·go_wp2_with fail
    go_ret
    refine ⟨ret_int ?_,rfl⟩
    rw [<-HE.out,HF.out,Rd.numEnd,decide_eq_false (by omega)]
    simp
  ·go_wp2_with fail
   go_ret
   refine ⟨ret_int ?_,rfl⟩
   rw [<-HE.out,HF.out,Rd.numEnd,decide_eq_false (by omega)]
   simp
theorem nameEnd_any (s:ByteArray)(a:Nat)(w:World)(hs:s.size<=120)(ha:a<s.size):
  Calls Tryz.prog 141 #[.string s,.int .i64 a] w fun e w'=>e=.returned (.int .i64 (Rd.nameEnd s s.size (a+1)))/\w=w':=by
 go_enter Tryz.func141,Tryz.ntmps141
 go_wp2_with fail
 go_loop [5] (fun e=>∃ k:Nat,a+1<=k/\k<=s.size/\e=.int .i64 k/\Hid (Rd.nameEnd s (s.size+a+1-k) k=Rd.nameEnd s s.size (a+1))) (fun e=>s.size-(intOf e).toNat)
 case atStart=>exact ⟨a+1,by omega,by omega,by go_num,by rw [show s.size+a+1-(a+1)=s.size by omega];rfl⟩
 case round=>
  obtain ⟨k,h1,h3,rfl,HE⟩:=hrel
  obtain ⟨f,hf⟩:∃ f,s.size+a+1-k=f+1:=⟨s.size+a-k,by omega⟩
  have HF:Hid (s.size+a+1-k=f+1):=hf
  clear hf
  by_cases c1:k<s.size
  ·cases c2:Rd.isLet (s[k].toNat:Int)
   ·cases c3:Rd.isDig (s[k].toNat:Int)
    ·go_wp2_with (first | (go_at_call 168;refine (isDigit_any _ _).mono ?_;rintro e w' ⟨rfl,rfl⟩) | (go_at_call 169;refine (isLetter_any _ _).mono ?_;rintro e w' ⟨rfl,rfl⟩))
     go_ret
     refine ⟨ret_int ?_,rfl⟩
     rw [<-HE.out,HF.out,Rd.nameEnd,Rd.byteAt_eq s k c1,c2,c3]
     simp
    ·go_wp2_with (first | (go_at_call 168;refine (isDigit_any _ _).mono ?_;rintro e w' ⟨rfl,rfl⟩) | (go_at_call 169;refine (isLetter_any _ _).mono ?_;rintro e w' ⟨rfl,rfl⟩))
     go_round
     case rel=>
      refine ⟨k+1,by omega,by omega,by go_num,?_⟩
      show Rd.nameEnd s (s.size+a+1-(k+1)) (k+1)=_
      have e1:s.size+a+1-(k+1)=f:=by have:=HF.out;omega
      rw [e1,<-HE.out,HF.out]
      conv=>rhs;rw [Rd.nameEnd,Rd.byteAt_eq s k c1,c2,c3]
      simp [c1]
     case measure=>simp [intOf];omega
   ·go_wp2_with (first | (go_at_call 168;refine (isDigit_any _ _).mono ?_;rintro e w' ⟨rfl,rfl⟩) | (go_at_call 169;refine (isLetter_any _ _).mono ?_;rintro e w' ⟨rfl,rfl⟩))
    go_round
    case rel=>
     refine ⟨k+1,by omega,by omega,by go_num,?_⟩
     show Rd.nameEnd s (s.size+a+1-(k+1)) (k+1)=_
     have e1:s.size+a+1-(k+1)=f:=by have:=HF.out;omega
     rw [e1,<-HE.out,HF.out]
     conv=>rhs;rw [Rd.nameEnd,Rd.byteAt_eq s k c1,c2]
     simp [c1]
    case measure=>simp [intOf];omega
  ·go_wp2_with fail
   go_ret
   refine ⟨ret_int ?_,rfl⟩
   rw [<-HE.out,HF.out,Rd.nameEnd,decide_eq_false (by omega)]
   simp
open Go.RowKit
theorem infoWord:(Tryz.prog.info? 127).map (fun i=>(i.zero,i.size,i.bytes))=some (some (.agg #[.int .i64 0,.string ⟨#[]⟩,.int .i64 0]),3,32):=by kernel_rfl
theorem cell_three_new (w:World)(x y z:Value)(t:TypeId):∀ j u,[x,y,z][j]?=some u->(w.alloc (.cells #[x,y,z] t)).cell? ((⟨w.heap.size,0,none⟩:Addr).add j)=some u:=by
 intro j u hj
 match j,hj with
 | 0,hj=>simp at hj;subst hj;simp [Addr.add]
 | 1,hj=>simp at hj;subst hj;simp [Addr.add]
 | 2,hj=>simp at hj;subst hj;simp [Addr.add]
theorem Below.heap_alloc_at (w:World)(o:Obj):(w.alloc o).heap[w.heap.size]?=some o:=by
 show (w.heap.push o)[w.heap.size]?=some o
 simp
def splitRel (s:ByteArray)(w:World)(l i:Value)(wr:World):Prop:=
 ∃ (k f:Nat) (done:List Rd.Wd),k<=s.size/\i=.int .i64 k/\done.length<=k/\s.size<f+k/\wr.ownsRow w.heap.size 127 3 l done.length (Rd.wcells done)/\Below w.heap.size w wr/\done++Rd.split s f k=Rd.split s (s.size+1) 0
theorem three_one {x y z:Value}(hx:x.oneCell'=true)(hy:y.oneCell'=true)(hz:z.oneCell'=true):∀ u∈[x,y,z],u.oneCell'=true:=by
 intro u hu
 simp at hu
 rcases hu with rfl | rfl | rfl<;>assumption
theorem below_own {w wr w3:World}{B e size n:Nat}{l:Value}{xs:List Value}(hown:wr.ownsRow B e size l n xs)(hbel:Below B w wr)(hB:B<=wr.heap.size)(o:Obj)(hg:(wr.alloc o).grownBy w3 l.ownBlock):Below B w w3:=by
 refine Below.grown (hbel.alloc hB o) hg (by simp;omega) ?_
 intro k hk
 rcases hown.2 with ⟨h,_⟩ | ⟨g,cap,cur,h,hg',_⟩
 ·rw [h] at hk;cases hk
 ·rw [h] at hk
  cases hk
  exact hg'
theorem split_word (s:ByteArray)(f k:Nat)(h:k<s.size)(hb:(Rd.byteAt s k != 32)=true)(done:List Rd.Wd):
  done++[⟨Rd.kindOf (Rd.byteAt s k),s.extract k (Rd.wordEnd s k),k⟩]++Rd.split s f (Rd.wordEnd s k)=done++Rd.split s (f+1) k:=by
 conv=>rhs;rw [Rd.split,decide_eq_true h,hb]
 simp
theorem split_blank (s:ByteArray)(f k:Nat)(h:k<s.size)(hb:(Rd.byteAt s k != 32)=false):Rd.split s f (Rd.wordEnd s k)=Rd.split s (f+1) k:=by
 conv=>rhs;rw [Rd.split,decide_eq_true h,hb]
 simp
theorem split_end (s:ByteArray)(f k:Nat)(h:¬k<s.size):Rd.split s (f+1) k=[⟨0,⟨#[]⟩,s.size⟩]:=by
 rw [Rd.split,decide_eq_false h];rfl
theorem rel_word (s:ByteArray)(w w1:World)(k f:Nat)(done:List Rd.Wd)(l':Value)(x:Rd.Wd)(e:Nat)(hx:x=⟨Rd.kindOf (Rd.byteAt s k),s.extract k (Rd.wordEnd s k),k⟩)(he:e=Rd.wordEnd s k)
  (h:k<s.size) (hb:(Rd.byteAt s k != 32)=true) (hd:done.length<=k) (hf:s.size<f+k) (hown:w1.ownsRow w.heap.size 127 3 l' (done.length+1) (Rd.wcells done++[.int .i64 x.kind,.string x.text,.int .i64 x.pos]))
  (hbel:Below w.heap.size w w1) (heq:done++Rd.split s f k=Rd.split s (s.size+1) 0):splitRel s w l' (.int .i64 e) w1:=by
 obtain ⟨f',rfl⟩:∃ f',f=f'+1:=⟨f-1,by omega⟩
 have h1:=Rd.wordEnd_lo s k
 have h2:=Rd.wordEnd_hi s k h
 subst he
 refine ⟨_,f',done++[x],h2,rfl,by simp;omega,by omega,?_,hbel,?_⟩
 ·rw [Rd.wcells_append]
  simpa [Rd.wcells] using hown
 ·rw [<-heq,hx];exact split_word s f' k h hb done
theorem rel_blank (s:ByteArray)(w w1:World)(k f:Nat)(done:List Rd.Wd)(l:Value)(e:Nat)(he:e=Rd.wordEnd s k)
  (h:k<s.size) (hb:(Rd.byteAt s k != 32)=false) (hd:done.length<=k) (hf:s.size<f+k) (hown:w1.ownsRow w.heap.size 127 3 l done.length (Rd.wcells done))
  (hbel:Below w.heap.size w w1) (heq:done++Rd.split s f k=Rd.split s (s.size+1) 0):splitRel s w l (.int .i64 e) w1:=by
 obtain ⟨f',rfl⟩:∃ f',f=f'+1:=⟨f-1,by omega⟩
 have h1:=Rd.wordEnd_lo s k
 have h2:=Rd.wordEnd_hi s k h
 subst he
 exact ⟨_,f',done,h2,rfl,by omega,by omega,hown,hbel,by rw [<-heq,split_blank s f' k h hb]⟩
theorem split_any (s:ByteArray)(w:World)(hs:s.size<=120):
  Calls Tryz.prog 97 #[.string s] w fun e w'=>∃ v,e=.returned v/\w'.ownsRow w.heap.size 127 3 v (Rd.split s (s.size+1) 0).length (Rd.wcells (Rd.split s (s.size+1) 0))/\Below w.heap.size w w':=by
 obtain ⟨i,hi,hz,hsize,hby⟩:=info_parts infoWord
 go_enter Tryz.func97,Tryz.ntmps97
 go_wp2_with fail
 go_loopw [3,4] (fun l i wr=>splitRel s w l i wr) (fun _ i _=>s.size-(intOf i).toNat)
 case atStart=>
  refine ⟨0,s.size+1,[],Nat.zero_le _,rfl,Nat.le_refl _,by omega,?_,(Below.refl _ _).alloc (Nat.le_refl _) _,rfl⟩
  refine ⟨rfl,Or.inr ⟨w.heap.size,0,#[],rfl,Nat.le_refl _,Below.heap_alloc_at _ _,Nat.le_refl _,Nat.zero_le _,rfl,rfl⟩⟩
 case round=>
  obtain ⟨k,f,done,hk,rfl,hd,hf,hown,hbel,heq⟩:=hrel
  have HEQ:Hid (done++Rd.split s f k=Rd.split s (s.size+1) 0):=heq
  clear heq
  have hsz:=hbel.size
  by_cases c1:k<s.size
  ·have hbe:=Rd.byteAt_eq s k c1
   cases c2:Rd.isDig (s[k].toNat:Int)
   ·cases c3:Rd.isLet (s[k].toNat:Int)
    ·cases c4:((s[k].toNat:Int) != 32)
     ·have hko:Rd.kindOf (s[k].toNat:Int)=3:=by simp [Rd.kindOf,c2,c3]
      have hwe:Hid (Rd.wordEnd s k=k+1):=by show Rd.wordEnd s k=k+1;simp [Rd.wordEnd,hbe,c2,c3]
      have HB:Hid (Rd.byteAt s k=(s[k].toNat:Int)):=hbe
      clear hbe
      go_wp2_with (go_at_call 139;refine (kindOf_any _ _).mono ?_;rintro e w' ⟨rfl,rfl⟩)
      go_roundw
      case rel=>exact rel_blank s w _ k f done _ (k+1) hwe.out.symm c1 (by rw [HB.out];exact c4) hd hf hown hbel HEQ.out
      case measure=>simp [intOf];omega
     ·have hko:Rd.kindOf (s[k].toNat:Int)=3:=by simp [Rd.kindOf,c2,c3]
      have hwe:Hid (Rd.wordEnd s k=(k+1)):=by show Rd.wordEnd s k=(k+1);simp [Rd.wordEnd,hbe,c2,c3]
      have he1:k<(k+1):=by have h1:=Rd.wordEnd_lo s k;rw [hwe.out] at h1;omega
      have he2:(k+1)<=s.size:=by have h1:=Rd.wordEnd_hi s k c1;rw [hwe.out] at h1;omega
      have HB:Hid (Rd.byteAt s k=(s[k].toNat:Int)):=hbe
      clear hbe
      go_wp2_with (first | (go_at_call 139;refine (kindOf_any _ _).mono ?_;rintro e w' ⟨rfl,rfl⟩) | (at_builtin;(refine wpList_append_own _ rfl _ _ 129 rfl w.heap.size 127 i (.agg #[.int .i64 0,.string ⟨#[]⟩,.int .i64 0]) 3 32 Tryz.underlying129 hi hz hsize hby rfl (by decide) _ _ _ rfl (hown.alloc _) ⟨wr.heap.size,0,none⟩ 1 1 [.int .i64 3,.string (s.extract k (k+1)),.int .i64 k] rfl rfl (cell_three_new _ _ _ _ _) (three_one rfl rfl rfl) (by unfold maxLen;omega) (by omega) (by simp;omega) ?_);intro v' w3 hown' hgrow3 hnil3))
      go_roundw
      case rel=>exact rel_word s w _ k f done _ ⟨3,s.extract k (k+1),k⟩ (k+1) (by rw [HB.out,hko,hwe.out]) hwe.out.symm c1 (by rw [HB.out];exact c4) hd hf hown' (below_own hown hbel hsz _ hgrow3) HEQ.out
      case measure=>simp [intOf];omega
    ·have c4:((s[k].toNat:Int) != 32)=true:=by simp [Rd.isLet] at c3;rw [bne_iff_ne];omega
     have hko:Rd.kindOf (s[k].toNat:Int)=2:=by simp [Rd.kindOf,c2,c3]
     have hwe:Hid (Rd.wordEnd s k=(Rd.nameEnd s s.size (k+1))):=by show Rd.wordEnd s k=(Rd.nameEnd s s.size (k+1));simp [Rd.wordEnd,hbe,c2,c3]
     have he1:k<(Rd.nameEnd s s.size (k+1)):=by have h1:=Rd.wordEnd_lo s k;rw [hwe.out] at h1;omega
     have he2:(Rd.nameEnd s s.size (k+1))<=s.size:=by have h1:=Rd.wordEnd_hi s k c1;rw [hwe.out] at h1;omega
     have HB:Hid (Rd.byteAt s k=(s[k].toNat:Int)):=hbe
     clear hbe
     go_wp2_with (first | (go_at_call 139;refine (kindOf_any _ _).mono ?_;rintro e w' ⟨rfl,rfl⟩) | (go_at_call 141;refine (nameEnd_any _ _ _ hs c1).mono ?_;rintro e w' ⟨rfl,rfl⟩) | (at_builtin;(refine wpList_append_own _ rfl _ _ 129 rfl w.heap.size 127 i (.agg #[.int .i64 0,.string ⟨#[]⟩,.int .i64 0]) 3 32 Tryz.underlying129 hi hz hsize hby rfl (by decide) _ _ _ rfl (hown.alloc _) ⟨wr.heap.size,0,none⟩ 1 1 [.int .i64 2,.string (s.extract k (Rd.nameEnd s s.size (k+1))),.int .i64 k] rfl rfl (cell_three_new _ _ _ _ _) (three_one rfl rfl rfl) (by unfold maxLen;omega) (by omega) (by simp;omega) ?_);intro v' w3 hown' hgrow3 hnil3))
     go_roundw
     case rel=>exact rel_word s w _ k f done _ ⟨2,s.extract k (Rd.nameEnd s s.size (k+1)),k⟩ (Rd.nameEnd s s.size (k+1)) (by rw [HB.out,hko,hwe.out]) hwe.out.symm c1 (by rw [HB.out];exact c4) hd hf hown' (below_own hown hbel hsz _ hgrow3) HEQ.out
     case measure=>simp [intOf];omega
   ·have c4:((s[k].toNat:Int) != 32)=true:=by simp [Rd.isDig] at c2;rw [bne_iff_ne];omega
    have hko:Rd.kindOf (s[k].toNat:Int)=1:=by simp [Rd.kindOf,c2]
    have hwe:Hid (Rd.wordEnd s k=(Rd.numEnd s k 9 (k+1))):=by show Rd.wordEnd s k=(Rd.numEnd s k 9 (k+1));simp [Rd.wordEnd,hbe,c2]
    have he1:k<(Rd.numEnd s k 9 (k+1)):=by have h1:=Rd.wordEnd_lo s k;rw [hwe.out] at h1;omega
    have he2:(Rd.numEnd s k 9 (k+1))<=s.size:=by have h1:=Rd.wordEnd_hi s k c1;rw [hwe.out] at h1;omega
    have HB:Hid (Rd.byteAt s k=(s[k].toNat:Int)):=hbe
    clear hbe
    go_wp2_with (first | (go_at_call 139;refine (kindOf_any _ _).mono ?_;rintro e w' ⟨rfl,rfl⟩) | (go_at_call 140;refine (numberEnd_any _ _ _ hs c1).mono ?_;rintro e w' ⟨rfl,rfl⟩) | (at_builtin;(refine wpList_append_own _ rfl _ _ 129 rfl w.heap.size 127 i (.agg #[.int .i64 0,.string ⟨#[]⟩,.int .i64 0]) 3 32 Tryz.underlying129 hi hz hsize hby rfl (by decide) _ _ _ rfl (hown.alloc _) ⟨wr.heap.size,0,none⟩ 1 1 [.int .i64 1,.string (s.extract k (Rd.numEnd s k 9 (k+1))),.int .i64 k] rfl rfl (cell_three_new _ _ _ _ _) (three_one rfl rfl rfl) (by unfold maxLen;omega) (by omega) (by simp;omega) ?_);intro v' w3 hown' hgrow3 hnil3))
    go_roundw
    case rel=>exact rel_word s w _ k f done _ ⟨1,s.extract k (Rd.numEnd s k 9 (k+1)),k⟩ (Rd.numEnd s k 9 (k+1)) (by rw [HB.out,hko,hwe.out]) hwe.out.symm c1 (by rw [HB.out];exact c4) hd hf hown' (below_own hown hbel hsz _ hgrow3) HEQ.out
    case measure=>simp [intOf];omega
  ·obtain ⟨f',hf'⟩:∃ f',f=f'+1:=⟨f-1,by omega⟩
   have HS:Hid (Rd.split s (s.size+1) 0=done++[⟨0,⟨#[]⟩,s.size⟩]):=by
    show _=_
    rw [<-HEQ.out,hf',split_end s f' k c1]
   clear hf'
   go_wp2_with (at_builtin;refine wpList_append_own _ rfl _ _ 129 rfl w.heap.size 127 i (.agg #[.int .i64 0,.string ⟨#[]⟩,.int .i64 0]) 3 32 Tryz.underlying129 hi hz hsize hby rfl (by decide) _ _ _ rfl (hown.alloc _) ⟨wr.heap.size,0,none⟩ 1 1 [.int .i64 0,.string ⟨#[]⟩,.int .i64 s.size] rfl rfl (cell_three_new _ _ _ _ _) (three_one rfl rfl rfl) (by unfold maxLen;omega) (by omega) (by simp;omega) ?_;intro v' w3 hown' hgrow3 hnil3)
   go_ret
   refine ⟨_,rfl,?_,below_own hown hbel hsz _ hgrow3⟩
   rw [HS.out,Rd.wcells_append]
   simpa [Rd.wcells] using hown'
open Go.RowKit
theorem value_any (kd p:Int)(t:ByteArray)(w:World)(ht:t.size<=9):
  Calls Tryz.prog 183 #[.agg #[.int .i64 kd,.string t,.int .i64 p]] w fun e w'=>e=.returned (.int .i64 (Rd.valTo t t.size))/\w.alloc (.cells #[.int .i64 kd,.string t,.int .i64 p] 127)=w':=by
 go_enter Tryz.func183,Tryz.ntmps183
 go_wp2_with fail
 go_loop [3,4] (fun v i=>∃ k:Nat,k<=t.size/\i=.int .i64 k/\v=.int .i64 (Rd.valTo t k)) (fun _ i=>t.size-(intOf i).toNat)
 case atStart=>exact ⟨0,Nat.zero_le _,rfl,rfl⟩
 case round=>
  obtain ⟨k,hk,rfl,rfl⟩:=hrel
  have v0:=Rd.valTo_lo t k
  have v1:=Rd.valTo_bd t k (by omega)
  by_cases c1:k<t.size
  ·have HB:Hid (Rd.byteAt t k=(t[k].toNat:Int)):=Rd.byteAt_eq t k c1
   cases c2:Rd.isDig (t[k].toNat:Int)
   ·go_wp2_with (go_at_call 168;refine (isDigit_any _ _).mono ?_;rintro e w' ⟨rfl,rfl⟩)
    go_round
    case rel=>exact ⟨k+1,by omega,by go_num,by rw [Rd.valTo,HB.out,c2];rfl⟩
    case measure=>simp [intOf];omega
   ·have b0:48<=(t[k].toNat:Int):=by simp [Rd.isDig] at c2;omega
    have b1:(t[k].toNat:Int)<=57:=by simp [Rd.isDig] at c2;omega
    go_wp2_with (go_at_call 168;refine (isDigit_any _ _).mono ?_;rintro e w' ⟨rfl,rfl⟩)
    go_round
    case rel=>exact ⟨k+1,by omega,by go_num,by rw [Rd.valTo,HB.out,c2];simp⟩
    case measure=>simp [intOf];omega
  ·go_wp2_with fail
   go_ret
   exact ⟨ret_int (by rw [show k=t.size by omega]),rfl⟩
theorem named_any (t:ByteArray)(w:World):
  Calls Tryz.prog 185 #[.string t] w fun e w'=>e=.returned (.int .i64 (Rd.named t))/\w=w':=by
 go_enter Tryz.func185,Tryz.ntmps185
 go_wp2
 all_goals
  go_ret
  exact ⟨ret_int (by simp [Rd.named,<-Rd.isT_eq, *]),rfl⟩
open Go.RowKit
structure Keep (rb:Nat) (w w':World):Prop where
 os:w'.os=w.os
 tape:w'.tape=w.tape
 output:w'.output=w.output
 size:w.heap.size<=w'.heap.size
 block:∀ k,k<w.heap.size->k≠rb->w'.heap[k]?=w.heap[k]?
theorem Keep.refl (rb:Nat)(w:World):Keep rb w w:=⟨rfl,rfl,rfl,Nat.le_refl _,fun _ _ _=>rfl⟩
theorem Keep.trans {rb:Nat}{a b c:World}(h:Keep rb a b)(k:Keep rb b c):Keep rb a c:=
 ⟨k.os.trans h.os,k.tape.trans h.tape,k.output.trans h.output,Nat.le_trans h.size k.size,fun i hi hn=>(k.block i (Nat.lt_of_lt_of_le hi h.size) hn).trans (h.block i hi hn)⟩
theorem Keep.of_below {rb:Nat}{w w':World}(h:Below w.heap.size w w'):Keep rb w w':=⟨h.os,h.tape,h.output,h.size,fun k hk _=>h.block k hk⟩
theorem Keep.drewN {rb:Nat}{a w:World}(h:Keep rb a w)(n:Nat):Keep rb a (w.drewN n):=⟨h.os,h.tape,h.output,h.size,h.block⟩
theorem Keep.alloc {rb:Nat}{a w:World}(h:Keep rb a w)(o:Obj):Keep rb a (w.alloc o):=
 h.trans (Keep.of_below ((Below.refl _ _).alloc (Nat.le_refl _) o))
theorem Keep.setCell {rb:Nat}{a w:World}(h:Keep rb a w)(o:Nat)(u:Value):Keep rb a (w.setCell ⟨rb,o,none⟩ u):=
 h.trans ⟨rfl,rfl,rfl,by simp [World.setCell],fun k _ hn=>Below.heap_setCell _ _ _ _ hn⟩
structure Rdr (w:World) (rb g cap:Nat) (ws:List Rd.Wd) (st:Rd.St):Prop where
 rd:w.heap[rb]?=some (.cells #[.slice (some ⟨g,0,none⟩) ws.length cap,.int .i64 st.next,.int .i64 st.around,.int .i64 st.deepest,.int .i64 st.nodes] 131 (0,0))
 row:∃ cur,w.heap[g]?=some (.cells cur 127 (0,0))/\cur.toList.take (ws.length*3)=Rd.wcells ws
 ne:g≠rb
theorem heap_lt {w:World}{k:Nat}{o:Obj}(h:w.heap[k]?=some o):k<w.heap.size:=by
 rcases Nat.lt_or_ge k w.heap.size with h1 | h1
 ·exact h1
 ·rw [Array.getElem?_eq_none h1] at h;cases h
theorem Rdr.lt {w:World}{rb g cap:Nat}{ws:List Rd.Wd}{st:Rd.St}(h:Rdr w rb g cap ws st):rb<w.heap.size:=heap_lt h.rd
theorem Rdr.keep {w w':World}{rb g cap:Nat}{ws:List Rd.Wd}{st st':Rd.St}(h:Rdr w rb g cap ws st)(hk:Keep rb w w')
  (hr:w'.heap[rb]?=some (.cells #[.slice (some ⟨g,0,none⟩) ws.length cap,.int .i64 st'.next,.int .i64 st'.around,.int .i64 st'.deepest,.int .i64 st'.nodes] 131 (0,0))):Rdr w' rb g cap ws st':=by
 obtain ⟨cur,h1,h2⟩:=h.row
 exact ⟨hr,⟨cur,by rw [hk.block g (heap_lt h1) h.ne];exact h1,h2⟩,h.ne⟩
theorem Rdr.below {w w':World}{rb g cap:Nat}{ws:List Rd.Wd}{st:Rd.St}(h:Rdr w rb g cap ws st)(hb:Below w.heap.size w w'):Rdr w' rb g cap ws st:=
 h.keep (Keep.of_below hb) (by rw [hb.block rb h.lt];exact h.rd)
theorem cell_of_block {w:World}{b o:Nat}{xs:Array Value}{t:TypeId}{v:Value}(h:w.heap[b]?=some (.cells xs t (0,0)))(hv:xs[o]?=some v):w.cell? ⟨b,o,none⟩=some v:=by
 simp [World.cell?,h,hv]
theorem frozen_of_block {w:World}{b o:Nat}{xs:Array Value}{t:TypeId}(h:w.heap[b]?=some (.cells xs t (0,0))):w.frozen? ⟨b,o,none⟩=false:=by
 simp [World.frozen?,h]
theorem heap_set {w:World}{b o:Nat}{xs:Array Value}{t:TypeId}{m:Nat×Nat}(h:w.heap[b]?=some (.cells xs t m))(u:Value):(w.setCell ⟨b,o,none⟩ u).heap[b]?=some (.cells (xs.setIfInBounds o u) t m):=by
 simp [World.setCell,Array.getElem?_modify,h]
section
variable {w:World} {rb g cap:Nat} {ws:List Rd.Wd} {st:Rd.St}
theorem Rdr.c0 (h:Rdr w rb g cap ws st):w.cell? ⟨rb,0,none⟩=some (.slice (some ⟨g,0,none⟩) ws.length cap):=cell_of_block h.rd rfl
theorem Rdr.c1 (h:Rdr w rb g cap ws st):w.cell? ⟨rb,1,none⟩=some (.int .i64 st.next):=cell_of_block h.rd rfl
theorem Rdr.c2 (h:Rdr w rb g cap ws st):w.cell? ⟨rb,2,none⟩=some (.int .i64 st.around):=cell_of_block h.rd rfl
theorem Rdr.c3 (h:Rdr w rb g cap ws st):w.cell? ⟨rb,3,none⟩=some (.int .i64 st.deepest):=cell_of_block h.rd rfl
theorem Rdr.c4 (h:Rdr w rb g cap ws st):w.cell? ⟨rb,4,none⟩=some (.int .i64 st.nodes):=cell_of_block h.rd rfl
theorem Rdr.fz (h:Rdr w rb g cap ws st)(o:Nat):w.frozen? ⟨rb,o,none⟩=false:=frozen_of_block h.rd
theorem Rdr.alloc (h:Rdr w rb g cap ws st)(o:Obj):Rdr (w.alloc o) rb g cap ws st:=h.below ((Below.refl _ _).alloc (Nat.le_refl _) o)
theorem Rdr.drewN (h:Rdr w rb g cap ws st)(n:Nat):Rdr (w.drewN n) rb g cap ws st:=⟨h.rd,h.row,h.ne⟩
theorem Rdr.set1 (h:Rdr w rb g cap ws st)(n:Nat){m:Int}(hm:m=(n:Int)):Rdr (w.setCell ⟨rb,1,none⟩ (.int .i64 m)) rb g cap ws {st with next:=n}:=
 h.keep ((Keep.refl _ _).setCell 1 _) (by subst hm;rw [heap_set h.rd];rfl)
theorem Rdr.set2 (h:Rdr w rb g cap ws st)(n:Nat){m:Int}(hm:m=(n:Int)):Rdr (w.setCell ⟨rb,2,none⟩ (.int .i64 m)) rb g cap ws {st with around:=n}:=
 h.keep ((Keep.refl _ _).setCell 2 _) (by subst hm;rw [heap_set h.rd];rfl)
theorem Rdr.set3 (h:Rdr w rb g cap ws st)(n:Nat){m:Int}(hm:m=(n:Int)):Rdr (w.setCell ⟨rb,3,none⟩ (.int .i64 m)) rb g cap ws {st with deepest:=n}:=
 h.keep ((Keep.refl _ _).setCell 3 _) (by subst hm;rw [heap_set h.rd];rfl)
theorem Rdr.set4 (h:Rdr w rb g cap ws st)(n:Nat){m:Int}(hm:m=(n:Int)):Rdr (w.setCell ⟨rb,4,none⟩ (.int .i64 m)) rb g cap ws {st with nodes:=n}:=
 h.keep ((Keep.refl _ _).setCell 4 _) (by subst hm;rw [heap_set h.rd];rfl)
end
namespace Nm
def val (B:Int):List Int->Int
 | []=>0
 | d::r=>d+B*val B r
def Dig (B:Int)(l:List Int):Prop:=∀ d∈l,0<=d/\d<B
def Top (l:List Int):Prop:=∀ (h:l≠[]),l.getLast h≠0
def at' (l:List Int)(i:Nat):Int:=l.getD i 0
theorem val_append (B:Int):∀ l r,val B (l++r)=val B l+B^l.length*val B r:=by
 intro l r
 induction l with
 | nil=>simp [val]
 | cons d l ih=>simp only [List.cons_append,val,List.length_cons,ih,Int.pow_succ];grind
theorem val_snoc (B:Int)(l:List Int)(d:Int):val B (l++[d])=val B l+d*B^l.length:=by
 rw [val_append];simp only [val];grind
theorem val_take (B:Int)(l:List Int)(i:Nat):val B (l.take (i+1))=val B (l.take i)+at' l i*B^i:=by
 rcases Nat.lt_or_ge i l.length with h | h
 ·rw [List.take_succ_eq_append_getElem h,val_snoc,List.length_take,Nat.min_eq_left (by omega)]
  unfold at'
  rw [List.getD_eq_getElem?_getD,List.getElem?_eq_getElem h];rfl
 ·rw [List.take_of_length_le (by omega),List.take_of_length_le h]
  unfold at'
  rw [List.getD_eq_getElem?_getD,List.getElem?_eq_none h];simp
theorem val_take_all (B:Int)(l:List Int){i:Nat}(h:l.length<=i):val B (l.take i)=val B l:=by
 rw [List.take_of_length_le h]
theorem val_set (B:Int):∀ (l:List Int) (k:Nat) (x:Int),k<l.length->val B (l.set k x)=val B l+(x-at' l k)*B^k:=by
 intro l
 induction l with
 | nil=>intro k x h;simp at h
 | cons d l ih=>
  intro k x h
  cases k with
  | zero=>simp [val,at'];grind
  | succ k=>
   have:=ih k x (by simpa using h)
   simp only [List.set_cons_succ,val,this,Int.pow_succ,at',List.getD_cons_succ]
   grind
theorem Dig.nil (B:Int):Dig B []:=fun d h=>by cases h
theorem Dig.cons {B d:Int}{l:List Int}(h0:0<=d)(h1:d<B)(h:Dig B l):Dig B (d::l):=by
 intro x hx
 rcases List.mem_cons.1 hx with rfl | hx
 ·exact ⟨h0,h1⟩
 ·exact h x hx
theorem Dig.snoc {B d:Int}{l:List Int}(h:Dig B l)(h0:0<=d)(h1:d<B):Dig B (l++[d]):=by
 intro x hx
 rcases List.mem_append.1 hx with hx | hx
 ·exact h x hx
 ·rw [List.mem_singleton.1 hx];exact ⟨h0,h1⟩
theorem Dig.take {B:Int}{l:List Int}(h:Dig B l)(n:Nat):Dig B (l.take n):=fun d hd=>h d (List.mem_of_mem_take hd)
theorem Dig.set {B:Int}{l:List Int}(h:Dig B l)(k:Nat){x:Int}(h0:0<=x)(h1:x<B):Dig B (l.set k x):=by
 intro d hd
 rcases List.mem_or_eq_of_mem_set hd with h' | rfl
 ·exact h d h'
 ·exact ⟨h0,h1⟩
theorem Dig.at' {B:Int}{l:List Int}(hB:0<B)(h:Dig B l)(i:Nat):0<=at' l i/\at' l i<B:=by
 unfold Nm.at'
 rw [List.getD_eq_getElem?_getD]
 cases hx:l[i]? with
 | none=>exact ⟨Int.le_refl _,hB⟩
 | some x=>exact h x (List.mem_of_getElem? hx)
theorem Dig.zeros {B:Int}(hB:0<B)(n:Nat):Dig B (List.replicate n 0):=by
 intro d hd
 rw [(List.mem_replicate.1 hd).2]
 exact ⟨Int.le_refl _,hB⟩
theorem val_zeros (B:Int)(n:Nat):val B (List.replicate n 0)=0:=by
 induction n with
 | zero=>rfl
 | succ n ih=>rw [List.replicate_succ,val,ih];simp
theorem pow_pos' {B:Int}(hB:0<B)(n:Nat):0<B^n:=Int.pow_pos hB
theorem val_lo {B:Int}(hB:0<B):∀ {l},Dig B l->0<=val B l:=by
 intro l
 induction l with
 | nil=>intro _;exact Int.le_refl _
 | cons d l ih=>
  intro h
  have h1:=ih (fun x hx=>h x (List.mem_cons_of_mem _ hx))
  have h2:=h d List.mem_cons_self
  have:=Int.mul_nonneg (Int.le_of_lt hB) h1
  simp only [val];omega
theorem val_hi {B:Int}(hB:0<B):∀ {l},Dig B l->val B l<B^l.length:=by
 intro l
 induction l with
 | nil=>intro _;simp [val]
 | cons d l ih=>
  intro h
  have h1:=ih (fun x hx=>h x (List.mem_cons_of_mem _ hx))
  have h2:=h d List.mem_cons_self
  have:B*(val B l+1)<=B*B^l.length:=Int.mul_le_mul_of_nonneg_left (by omega) (Int.le_of_lt hB)
  rw [Int.mul_add,Int.mul_one,Int.mul_comm B (B^l.length)] at this
  simp only [val,List.length_cons,Int.pow_succ];omega
def strip (l:List Int):List Int:=(l.reverse.dropWhile (·==0)).reverse
theorem strip_snoc_zero (l:List Int):strip (l++[0])=strip l:=by simp [strip]
theorem strip_snoc (l:List Int){d:Int}(h:d≠0):strip (l++[d])=l++[d]:=by simp [strip,h]
theorem snoc_ind {p:List Int->Prop}(h0:p [])(h1:∀ l d,p l->p (l++[d])):∀ l,p l:=by
 intro l
 rw [<-List.reverse_reverse l]
 induction l.reverse with
 | nil=>exact h0
 | cons d r ih=>rw [List.reverse_cons];exact h1 _ _ ih
theorem val_strip (B:Int):∀ l,val B (strip l)=val B l:=by
 refine snoc_ind rfl ?_
 intro l d ih
 by_cases h:d=0
 ·subst h;rw [strip_snoc_zero,ih,val_snoc];simp
 ·rw [strip_snoc l h]
theorem strip_len:∀ l,(strip l).length<=l.length:=by
 refine snoc_ind (Nat.le_refl _) ?_
 intro l d ih
 by_cases h:d=0
 ·subst h;rw [strip_snoc_zero];simp;omega
 ·rw [strip_snoc l h];exact Nat.le_refl _
theorem strip_take:∀ l,strip l=l.take (strip l).length:=by
 refine snoc_ind rfl ?_
 intro l d ih
 by_cases h:d=0
 ·subst h
  rw [strip_snoc_zero,List.take_append_of_le_length (strip_len l)];exact ih
 ·rw [strip_snoc l h,List.take_length]
theorem Dig.strip {B:Int}{l:List Int}(h:Dig B l):Dig B (strip l):=by
 rw [strip_take];exact h.take _
theorem top_strip:∀ l,Top (strip l):=by
 refine snoc_ind ?_ ?_
 ·intro h;exact absurd rfl h
 ·intro l d ih
  by_cases h:d=0
  ·subst h;rw [strip_snoc_zero];exact ih
  ·rw [strip_snoc l h];intro _;simpa using h
theorem Top.nil:Top []:=fun h=>absurd rfl h
theorem top_snoc {l:List Int}{d:Int}(h:d≠0):Top (l++[d]):=by intro _;simpa using h
structure Good (B:Int) (l:List Int):Prop where
 dig:Dig B l
 top:Top l
theorem Good.nil (B:Int):Good B []:=⟨Dig.nil B,Top.nil⟩
theorem good_strip {B:Int}{l:List Int}(h:Dig B l):Good B (strip l):=⟨h.strip,top_strip l⟩
theorem good_cases {B:Int}{l:List Int}(h:Good B l):l=[]\/∃ r d,l=r++[d]/\Dig B r/\1<=d/\d<B:=by
 rcases List.eq_nil_or_concat l with h0 | ⟨r,d,h0⟩
 ·exact Or.inl h0
 ·refine Or.inr ⟨r,d,by rw [h0];simp,fun x hx=>h.dig x (by rw [h0];simp [hx]),?_⟩
  have h1:=h.dig d (by rw [h0];simp)
  have h2:=h.top (by rw [h0];simp)
  have h3:l.getLast (by rw [h0];simp)=d:=by simp [h0]
  rw [h3] at h2
  omega
theorem val_top {B:Int}(hB:0<B){l:List Int}(h:Good B l)(hn:l≠[]):B^(l.length-1)<=val B l:=by
 rcases good_cases h with rfl | ⟨r,d,rfl,hr,hd,_⟩
 ·exact absurd rfl hn
 ·rw [val_snoc]
  have h1:=val_lo hB hr
  have h2:=Int.mul_le_mul_of_nonneg_right hd (Int.le_of_lt (pow_pos' hB r.length))
  simp only [List.length_append,List.length_cons,List.length_nil,Nat.add_sub_cancel]
  omega
theorem val_zero {B:Int}(hB:0<B){l:List Int}(h:Good B l):val B l=0↔l=[]:=by
 constructor
 ·intro h0
  by_cases hn:l=[]
  ·exact hn
  ·have h1:=val_top hB h hn
   have:=pow_pos' hB (l.length-1)
   omega
 ·intro h0;rw [h0];rfl
theorem pow_mono {B:Int}(hB:1<=B){m n:Nat}(h:m<=n):B^m<=B^n:=by
 obtain ⟨k,rfl⟩:=Nat.exists_eq_add_of_le h
 rw [Int.pow_add]
 have h1:1<=B^k:=by have:=pow_pos' (B:=B) (by omega) k;omega
 have:=Int.mul_le_mul_of_nonneg_left h1 (Int.le_of_lt (pow_pos' (B:=B) (by omega) m))
 omega
theorem val_longer {B:Int}(hB:1<=B){a b:List Int}(ha:Dig B a)(hb:Good B b)(h:a.length<b.length):val B a<val B b:=by
 have h1:=val_hi (by omega) ha
 have h2:=val_top (by omega) hb (by intro h0;rw [h0] at h;simp at h)
 have h3:=pow_mono hB (show a.length<=b.length-1 by omega)
 omega
theorem val_lex {B:Int}(hB:1<=B){a b:List Int}(ha:Dig B a)(hb:Dig B b)(i:Nat)(hu:a.drop (i+1)=b.drop (i+1))(h:at' a i<at' b i)(hal:i<a.length)(hbl:i<b.length):val B a<val B b:=by
 have e1:val B a=val B (a.take (i+1))+B^(i+1)*val B (a.drop (i+1)):=by
  conv=>lhs;rw [<-List.take_append_drop (i+1) a,val_append,List.length_take,Nat.min_eq_left (by omega)]
 have e2:val B b=val B (b.take (i+1))+B^(i+1)*val B (b.drop (i+1)):=by
  conv=>lhs;rw [<-List.take_append_drop (i+1) b,val_append,List.length_take,Nat.min_eq_left (by omega)]
 rw [e1,e2,hu,val_take,val_take]
 have h1:=val_hi (by omega) (ha.take i)
 have h2:=val_lo (by omega) (hb.take i)
 rw [List.length_take,Nat.min_eq_left (by omega)] at h1
 have h3:(at' a i+1)*B^i<=at' b i*B^i:=Int.mul_le_mul_of_nonneg_right (by omega) (Int.le_of_lt (pow_pos' (by omega) i))
 rw [Int.add_mul,Int.one_mul] at h3
 omega
theorem good_len {B:Int}(hB:2<=B){l:List Int}(h:Good B l){n:Nat}(hv:val B l<2^n):l.length<=n:=by
 by_cases hn:l=[]
 ·subst hn;simp
 ·have h1:=val_top (by omega) h hn
  have h2:(2:Int)^(l.length-1)<=B^(l.length-1):=by
   generalize l.length-1=k
   induction k with
   | zero=>simp
   | succ k ih=>
    rw [Int.pow_succ,Int.pow_succ]
    exact Int.mul_le_mul ih hB (by omega) (Int.le_of_lt (pow_pos' (by omega) k))
  rcases Nat.lt_or_ge n l.length with h3 | h3
  ·have h4:=pow_mono (B:=2) (by omega) (show n<=l.length-1 by omega)
   omega
  ·exact h3
end Nm
namespace Nm
theorem plus_step {B c:Int}{i:Nat}{out a b:List Int}(hl:out.length=i)(h:val B out+c*B^i=val B (a.take i)+val B (b.take i)){x:Int}(hx:x=c+at' a i+at' b i):
  val B (out++[x%B])+x/B*B^(i+1)=val B (a.take (i+1))+val B (b.take (i+1)):=by
 rw [val_snoc,val_take,val_take,hl,Int.pow_succ]
 have:=Int.emod_add_mul_ediv x B
 generalize x%B=d at*
 generalize x/B=e at*
 grind
theorem less_step {B c c' d:Int}{i:Nat}{out a b:List Int}(hl:out.length=i)(h:val B out+val B (b.take i)=val B (a.take i)+c*B^i)(hd:d=at' a i-at' b i-c+c'*B):
  val B (out++[d])+val B (b.take (i+1))=val B (a.take (i+1))+c'*B^(i+1):=by
 rw [val_snoc,val_take,val_take,hl,Int.pow_succ]
 grind
theorem less_end {B c:Int}(hB:0<B){i:Nat}{out a b:List Int}(ha:a.length=i)(hl:out.length=i)(ho:Dig B out)(hc:0<=c)(hge:val B b<=val B a)(hbl:b.length<=i)
  (h:val B out+val B (b.take i)=val B (a.take i)+c*B^i):c=0/\val B out=val B a-val B b:=by
 rw [val_take_all B a (by omega),val_take_all B b hbl] at h
 have h1:=val_hi hB ho
 rw [hl] at h1
 have hP:=pow_pos' hB i
 have h2:c*B^i<1*B^i:=by omega
 have h3:=Int.lt_of_mul_lt_mul_right h2 (Int.le_of_lt hP)
 have h4:c=0:=by omega
 subst h4
 exact ⟨rfl,by omega⟩
theorem mul_step {B c S ai:Int}{i j:Nat}{out b:List Int}(hk:i+j<out.length)(h:val B out+c*B^(i+j)=S+ai*val B (b.take j)*B^i){x:Int}(hx:x=c+at' out (i+j)+ai*at' b j):
  val B (out.set (i+j) (x%B))+x/B*B^(i+(j+1))=S+ai*val B (b.take (j+1))*B^i:=by
 rw [val_set B out (i+j) (x%B) hk,val_take,<-Nat.add_assoc,Int.pow_succ]
 have:=Int.emod_add_mul_ediv x B
 have hp:B^(i+j)=B^i*B^j:=Int.pow_add B i j
 generalize x%B=d at*
 generalize x/B=e at*
 generalize at' out (i+j)=o at*
 rw [hp] at h ⊢
 generalize B^i=P at*
 generalize B^j=Q at*
 grind
theorem mul_carry {B c o a b x:Int}(hB:1<=B)(c0:0<=c)(c1:c<B)(o0:0<=o)(o1:o<B)(a0:0<=a)(a1:a<B)(b0:0<=b)(b1:b<B)(hx:x=c+o+a*b):0<=x/\0<=x/B/\x/B<B/\x<B*B:=by
 have h1:a*b<=(B-1)*(B-1):=Int.mul_le_mul (by omega) (by omega) b0 (by omega)
 have h2:(B-1)*(B-1)=B*B-2*B+1:=by grind
 have h3:0<=a*b:=Int.mul_nonneg a0 b0
 have h4:x<B*B:=by omega
 exact ⟨by omega,Int.ediv_nonneg (by omega) (by omega),Int.ediv_lt_of_lt_mul (by omega) h4,h4⟩
def cmp (x y:Int):Int:=bif decide (x<y) then -1 else bif decide (x=y) then 0 else 1
theorem cmp_lt {x y:Int}(h:x<y):cmp x y=-1:=by rw [cmp,decide_eq_true h];rfl
theorem cmp_gt {x y:Int}(h:y<x):cmp x y=1:=by rw [cmp,decide_eq_false (by omega),decide_eq_false (by omega)];rfl
theorem cmp_eq {x y:Int}(h:x=y):cmp x y=0:=by rw [cmp,decide_eq_false (by omega),decide_eq_true h];rfl
theorem lex_down {a b:List Int}{i:Nat}(hl:a.length=b.length)(hi:i<a.length)(hu:a.drop (i+1)=b.drop (i+1))(h:at' a i=at' b i):a.drop i=b.drop i:=by
 have hb:i<b.length:=by omega
 rw [List.drop_eq_getElem_cons hi,List.drop_eq_getElem_cons hb,hu]
 congr 1
 unfold at' at h
 rw [List.getD_eq_getElem?_getD,List.getD_eq_getElem?_getD,List.getElem?_eq_getElem hi,List.getElem?_eq_getElem hb] at h
 exact h
theorem val_drop (B:Int)(l:List Int)(i:Nat)(h:i<l.length):val B (l.drop i)=at' l i+B*val B (l.drop (i+1)):=by
 rw [List.drop_eq_getElem_cons h,val]
 unfold at'
 rw [List.getD_eq_getElem?_getD,List.getElem?_eq_getElem h];rfl
theorem floor_unique {a b q r:Int}(hb:0<b)(h:a=q*b+r)(r0:0<=r)(r1:r<b):a/b=q/\a%b=r:=by
 subst h
 refine ⟨?_,?_⟩
 ·rw [Int.add_comm,Int.add_mul_ediv_right _ _ (by omega),Int.ediv_eq_zero_of_lt r0 r1];omega
 ·rw [Int.add_comm,Int.add_mul_emod_self_right,Int.emod_eq_of_lt r0 r1]
theorem floor_neg {a b q r:Int}(hb:0<b)(h:a=q*b+r)(r0:0<=r)(r1:r<b):(-a)/b=if r=0 then -q else -q-1:=by
 by_cases hr:r=0
 ·rw [if_pos hr]
  exact (floor_unique hb (q:=-q) (r:=0) (by subst h hr;grind) (by omega) hb).1
 ·rw [if_neg hr]
  exact (floor_unique hb (q:=-q-1) (r:=b-r) (by subst h;grind) (by omega) (by omega)).1
end Nm
open Go.RowKit
theorem hid {p:Prop}(h:p):Hid p:=h
def IntsB (B:Nat)(w:World)(xs:List Int)(v:Value):Prop:=w.ownsRow B 3 1 v xs.length (xs.map (Value.int .i64))
abbrev Ints (w:World)(xs:List Int)(v:Value):Prop:=IntsB 0 w xs v
theorem own_below {w w':World}{B e s n:Nat}{v:Value}{xs:List Value}(h:w.ownsRow B e s v n xs)(hb:Below w.heap.size w w'):w'.ownsRow B e s v n xs:=by
 obtain ⟨h1,h2⟩:=h
 refine ⟨h1,?_⟩
 rcases h2 with h2 | ⟨g,cap,cur,hv,hg,hh,r⟩
 ·exact Or.inl h2
 ·exact Or.inr ⟨g,cap,cur,hv,hg,by rw [hb.block g (heap_lt hh)];exact hh,r⟩
theorem own_base {w:World}{B B' e s n:Nat}{v:Value}{xs:List Value}(h:w.ownsRow B e s v n xs)(hb:B'<=B):w.ownsRow B' e s v n xs:=by
 obtain ⟨h1,h2⟩:=h
 refine ⟨h1,?_⟩
 rcases h2 with h2 | ⟨g,cap,cur,hv,hg,hh,r⟩
 ·exact Or.inl h2
 ·exact Or.inr ⟨g,cap,cur,hv,by omega,hh,r⟩
theorem IntsB.below {B:Nat}{w w':World}{xs:List Int}{v:Value}(h:IntsB B w xs v)(hb:Below w.heap.size w w'):IntsB B w' xs v:=own_below h hb
theorem IntsB.alloc {B:Nat}{w:World}{xs:List Int}{v:Value}(h:IntsB B w xs v)(o:Obj):IntsB B (w.alloc o) xs v:=h.below ((Below.refl _ _).alloc (Nat.le_refl _) o)
theorem IntsB.nil (B:Nat)(w:World):IntsB B w [] (.slice none 0 0):=⟨rfl,Or.inl ⟨rfl,rfl⟩⟩
theorem IntsB.shape {B:Nat}{w:World}{xs:List Int}{v:Value}(h:IntsB B w xs v):∃ ao cap,v=.slice ao xs.length cap/\xs.length<=cap:=by
 rcases h.2 with ⟨h,h'⟩ | ⟨g,cap,cur,h,_,_,hc,_⟩
 ·exact ⟨none,0,by rw [h,h'],by omega⟩
 ·exact ⟨_,_,h,hc⟩
theorem IntsB.place {B:Nat}{w:World}{xs:List Int}{ao:Option Addr}{n cap:Nat}(h:IntsB B w xs (.slice ao n cap))(hp:0<xs.length):∃ g,ao=some ⟨g,0,none⟩/\∀ j,j<xs.length->w.cell? ⟨g,j,none⟩=some (.int .i64 (Nm.at' xs j)):=by
 rcases h.2 with ⟨_,h'⟩ | ⟨g,cap',cur,h,_,hh,hc,_,_,ht⟩
 ·omega
 ·cases h
  refine ⟨g,rfl,fun j hj=>cell_of_block hh ?_⟩
  have:(xs.map (Value.int .i64))[j]?=some (.int .i64 (Nm.at' xs j)):=by
   simp [Nm.at',List.getD,List.getElem?_eq_getElem hj]
  rw [<-ht,List.getElem?_take_of_lt (by omega)] at this
  simpa using this
def NumAt (w:World)(z:Int)(v:Value):Prop:=∃ ds dv,v=.agg #[.bool (decide (z<0)),dv]/\Ints w ds dv/\Nm.Good 10000 ds/\Nm.val 10000 ds=z.natAbs
theorem NumAt.below {w w':World}{z:Int}{v:Value}(h:NumAt w z v)(hb:Below w.heap.size w w'):NumAt w' z v:=by
 obtain ⟨ds,dv,h1,h2,h3⟩:=h
 exact ⟨ds,dv,h1,h2.below hb,h3⟩
theorem NumAt.alloc {w:World}{z:Int}{v:Value}(h:NumAt w z v)(o:Obj):NumAt (w.alloc o) z v:=h.below ((Below.refl _ _).alloc (Nat.le_refl _) o)
end Go.Proofs.YteghhlfmcjmnoaaGreatDoor
