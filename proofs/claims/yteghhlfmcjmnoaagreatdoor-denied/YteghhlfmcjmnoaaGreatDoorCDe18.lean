import Derived.Test.YteghhlfmcjmnoaaGreatDoorCDe17
import Derived.Test.YteghhlfmcjmnoaaGreatDoorCDe04
import Derived.BigQuiet
import Derived.Deep.Trees
import Derived.Deep.LoopGhost
set_option linter.unusedSimpArgs false
set_option linter.unusedVariables false
set_option maxRecDepth 100000
set_option maxHeartbeats 2000000
namespace Go.Proofs.YteghhlfmcjmnoaaGreatDoor
open Go.RowKit
namespace Ab
open Rf (Nd Inv NInv Wt)
def woN (k a b c d:Int):Int:=bif k==6 then a*d+c*b else bif k==7 then a*d+-c*b else bif k==8 then a*c else a*d
def woD (k a b c d:Int):Int:=bif k==6 then b*d else bif k==7 then b*d else bif k==8 then b*d else b*c
def fWo:List G→Option RG
 | [.i .i64 k,.ns [a,b],.ns [c,d]]=>some (.one (.ns [bif k==6 then lowT (a*d+c*b) (b*d) else bif k==7 then lowT (a*d+-c*b) (b*d) else bif k==8 then lowT (a*c) (b*d) else lowT (a*d) (b*c),bif k==6 then lowB (a*d+c*b) (b*d) else bif k==7 then lowB (a*d+-c*b) (b*d) else bif k==8 then lowB (a*c) (b*d) else lowB (a*d) (b*c)]))
 | _=>none
def ndWo:List G→List Prop
 | [.i .i64 k,.ns [a,b],.ns [c,d]]=>[0 < gcdZ (woN k a b c d) (woD k a b c d)]
 | _=>[]
noncomputable def tP:List (FuncId×TE):=(144,teN true fWo ndWo 41 [0,10,10])::tS
theorem tP_ok:AllTE Z tP:=⟨wo_te,tS_ok⟩
noncomputable def bP:FuncId→Option Func:=fun f=>bif f==40 then some Tryz.f40 else bif f==101 then some Tryz.f101 else bif f==143 then some Tryz.f143 else none
theorem bP_ok:BodiesOk Z bP:=by
 intro f fn h
 unfold bP at h
 exact body_if h (fn_of Tryz.func40 rfl rfl) fun h=>body_if h (fn_of Tryz.func101 rfl rfl) fun h=>body_if h (fn_of Tryz.func143 rfl rfl) fun h=>by cases h
def pFr (i:Nat):Box:=ext (.int .i64 1::numCs true i 2) 93
def pKd (kd:Int):Box:=ext [.int .i64 kd] 93
def stP (fn:Func) (vs:List AV) (bx:List (Nat×Box)) (ns:List (Int×Nat)):AS:=⟨vs.map .val++List.replicate (fn.ntmps - vs.length) .und,bx,3,ns,[]⟩
noncomputable def goP (fn:Func) (s:AS):Option Tr:=run Z (tabSp tP) bP (drawA Z (tabSp tP)) (fun _=>false) 400 [.code (bodyOf fn),.top fn] s
noncomputable def lP (fn:Func) (s:AS) (l:List Bool):AS:=(((goP fn s).bind (leafT l)).map (·.2)).getD ⟨[],[],0,[],[]⟩
abbrev q1V:AV:=.one (.ptr 1 0)
abbrev q2V:AV:=.one (.ptr 2 0)
abbrev inV (k:Int):AV:=.one (.int .i64 k)
noncomputable def mnF (p q:Int):AS:=stP Tryz.f104 [q1V] [(1,pFr 0)] [(p,1),(q,1)]
noncomputable def mnK (kd':Int):AS:=stP Tryz.f104 [q1V] [(1,pKd kd')] []
noncomputable def fuF (kd p q:Int):AS:=stP Tryz.f105 [inV kd,q1V] [(1,pFr 0)] [(p,1),(q,1)]
noncomputable def fuK (kd kd':Int):AS:=stP Tryz.f105 [inV kd,q1V] [(1,pKd kd')] []
noncomputable def opFK (kd p q kd':Int):AS:=stP Tryz.f106 [inV kd,q1V,q2V] [(1,pFr 0),(2,pKd kd')] [(p,1),(q,1)]
noncomputable def opKF (kd kd' p q:Int):AS:=stP Tryz.f106 [inV kd,q1V,q2V] [(1,pKd kd'),(2,pFr 0)] [(p,1),(q,1)]
noncomputable def opKK (kd kd1 kd2:Int):AS:=stP Tryz.f106 [inV kd,q1V,q2V] [(1,pKd kd1),(2,pKd kd2)] []
structure IsPt (s:AS) (b:Nat) (kd:Int) (zs:List Int) (lc rc:AC):Prop where
 look:look s.boxes b=some ⟨.int .i64 kd::((bxc s b).drop 1).take 4++[.lit nilS',lc,rc],93,true,false,false⟩
 num:numOf s.nums (((bxc s b).drop 1).take 4)=some zs
abbrev tupE (c:AC) (e:Int):AT:=.tup [.one c,.one (.int .i64 e)]
section
variable (p q:Int)
end
end Ab
open Go.RowKit
namespace Ab
open Rf (Nd Inv NInv Wt)
noncomputable def opFF (kd p q a b:Int):AS:=stP Tryz.f106 [inV kd,q1V,q2V] [(1,pFr 0),(2,pFr 2)] [(p,1),(q,1),(a,1),(b,1)]
def opS2 (p q a b:Int) (tm:List AT):AS:=⟨tm,[(1,pFr 0),(2,pFr 2)],3,[(p,1),(q,1),(a,1),(b,1)],[]⟩
noncomputable def rO:Nat×Array Oper×List (K (List AT)):=drwR (opCalls 101) Tryz.f106
noncomputable def oK:List (K (List AT)):=[.code (bodyOf Tryz.f106),.top Tryz.f106]
noncomputable def xFF (kd p q a b:Int):Option XT:=(run Z (tabSp tP) bP (drawA Z (tabSp tP)) (atDrw (opCalls 101)) 400 oK (opFF kd p q a b)).bind (outX (nrm [1,2] [] 3 []) (nrm [1,2] [0,1,2] 3 []))
abbrev oSl (kd:Int):List AT:=slot [(0,.val (inV kd)),(1,.val q1V),(2,.val q2V)] 0 44
noncomputable def dO (kd p q a b:Int):AS:=((drawA Z (tabSp tP) (rO.2.1.extract 0 10) (opS2 p q a b (oSl kd))).getD (⟨[],[],0,[],[]⟩,[])).1
noncomputable def zO (kd p q a b:Int):Option Tr:=run Z (tabSp tP) bP (drawA Z (tabSp tP)) (fun _=>false) 100 (.ops rO.2.1 [10,11,12]::rO.2.2) (dO kd p q a b)
noncomputable def zS (kd p q a b:Int):AS:=(((zO kd p q a b).bind (leafT [])).map (·.2)).getD ⟨[],[],0,[],[]⟩
def lowTo (kk:Rf.Kind) (p q a b:Int):Int:=lowT (woN (kdK kk) p q a b) (woD (kdK kk) p q a b)
def lowBo (kk:Rf.Kind) (p q a b:Int):Int:=lowB (woN (kdK kk) p q a b) (woD (kdK kk) p q a b)
section
variable (p q a b:Int)
end
end Ab
open Go.RowKit
namespace Ab
open Rf (Nd Inv NInv Wt)
theorem IsPt.at {w0 w:World} {ψ φ:Nat→Option (Nat×Nat)} {s:AS} {b:Nat} {kd:Int} {zs:List Int} {lc rc:AC} {lv rv:Value} (h:IsPt s b kd zs lc rc) (hw:RepW Z w0 ψ φ s w) (e1:∀ x,relC Z φ s.nums w lc x→x=lv) (e2:∀ x,relC Z φ s.nums w rc x→x=rv):
  ∃ m,∃ xs:List Value,φ b=some (m,0)∧PartB w m kd xs nilS' lv rv∧Hold true w zs xs:=by
 obtain ⟨m,ys,k1,k2,k3,k4⟩:=own_blk hw h.look rfl rfl
 have hz:=h.num
 match ys,k3 with
 | y::ys,⟨hy,g5⟩=>
 have hy:y=.int .i64 kd:=hy
 subst hy
 have g5:All2 (relC Z φ s.nums w) (((bxc s b).drop 1).take 4++[.lit nilS',lc,rc]) ys:=g5
 generalize (((bxc s b).drop 1).take 4)=cc at g5 hz
 have hl:=g5.len
 simp only [List.length_append,List.length_cons,List.length_nil] at hl
 have ga:All2 (relC Z φ s.nums w) cc (ys.take cc.length):=by
  have:=g5.take cc.length
  rw [List.take_append_of_le_length (by omega),List.take_of_length_le (by omega)] at this
  exact this
 have gb:All2 (relC Z φ s.nums w) [.lit nilS',lc,rc] (ys.drop cc.length):=by
  have:=g5.drop cc.length
  rw [List.drop_append_of_le_length (by omega),List.drop_of_length_le (by omega)] at this
  exact this
 refine ⟨m,ys.take cc.length,k1,?_,numOf_ok cc zs _ hz ga⟩
 match hd:ys.drop cc.length,gb with
 | [a0,a1,a2],⟨b0,b1,b2,_⟩=>
 have c0:a0=nilS':=b0.1
 have c1:=e1 a1 b1
 have c2:=e2 a2 b2
 subst c0 c1 c2
 have e:ys=ys.take cc.length++[nilS',a1,a2]:=by rw [←hd];exact (List.take_append_drop _ _).symm
 unfold PartB
 rw [k2]
 generalize ys.take cc.length=t at e
 subst e
 rfl
def negW:Wt→Wt
 | .fr p q=>.fr (-p) q
 | t=>.neg t
def fnW (op:Rf.Op):Wt→Option Wt
 | .fr p q=>if p < 0 then none else if p=0 then some (.fr (if op=.exp then 1 else 0) 1) else some (.fn op (.fr p q))
 | t=>some (.fn op t)
def opW (kk:Rf.Kind):Wt→Wt→Option Wt
 | .fr p q,.fr a b=>if kk=.div∧a=0 then none else some (.fr (lowTo kk p q a b) (lowBo kk p q a b))
 | t,.fr a b=>if kk=.div∧a=0 then none else some (.two kk t (.fr a b))
 | t,u=>some (.two kk t u)
section
variable {w:World}
theorem rep_1 {k:Nat} {B:Box} {tm:List AT} {ν:List (Int×Nat)} {cs ys:List Value} {ty:TypeId} (hB:B.own=false∧B.ro=true∧B.tip=false) (hk:w.heap[k]?=some (.cells (cs++ys).toArray B.ty (0,0))) (hc:All2 (relC Z (ph1 1 k) ν w) B.cs cs):RepW Z w (ph1 1 k) (ph1 1 k) ⟨tm,[(1,B)],3,ν,[]⟩ w:=by
 refine rep_ext rfl ?_ ?_ ?_
 ·intro b B' hB'
  have:=look_mem hB'
  simp only [List.mem_singleton,Prod.mk.injEq] at this
  obtain ⟨rfl,rfl⟩:=this
  exact ⟨hB.1,hB.2.1,hB.2.2,k,0,rfl,[],cs,ys,(by simpa using hk),rfl,hc⟩
 ·intro b hb
  have:3≤b:=hb
  unfold ph1
  rw [if_neg (by omega)]
 ·intro b k' o hb'
  unfold ph1 at hb'
  split at hb'
  ·cases hb';exact lt_of_heap hk
  ·cases hb'
theorem rep_2 {k k2:Nat} {B B2:Box} {tm:List AT} {ν:List (Int×Nat)} {cs ys cs2 ys2:List Value} (hB:B.own=false∧B.ro=true∧B.tip=false) (hB2:B2.own=false∧B2.ro=true∧B2.tip=false) (hk:w.heap[k]?=some (.cells (cs++ys).toArray B.ty (0,0))) (hc:All2 (relC Z (phQ k k2) ν w) B.cs cs) (hk2:w.heap[k2]?=some (.cells (cs2++ys2).toArray B2.ty (0,0))) (hc2:All2 (relC Z (phQ k k2) ν w) B2.cs cs2):RepW Z w (phQ k k2) (phQ k k2) ⟨tm,[(1,B),(2,B2)],3,ν,[]⟩ w:=by
 refine rep_ext rfl ?_ ?_ ?_
 ·intro b B' hB'
  have:=look_mem hB'
  simp only [List.mem_cons,List.not_mem_nil,or_false,Prod.mk.injEq] at this
  rcases this with ⟨rfl,rfl⟩ | ⟨rfl,rfl⟩
  ·exact ⟨hB.1,hB.2.1,hB.2.2,k,0,rfl,[],cs,ys,(by simpa using hk),rfl,hc⟩
  ·exact ⟨hB2.1,hB2.2.1,hB2.2.2,k2,0,rfl,[],cs2,ys2,(by simpa using hk2),rfl,hc2⟩
 ·intro b hb
  have:3≤b:=hb
  match b,this with
  | b+3,_=>rfl
 ·intro b k' o hb'
  match b,hb' with
  | 0,hb'=>cases hb'
  | 1,hb'=>cases hb';exact lt_of_heap hk
  | 2,hb'=>cases hb';exact lt_of_heap hk2
  | b+3,hb'=>cases hb'
theorem fr_cs {p q:Int} {xs:List Value} {i:Nat} {φ:Nat→Option (Nat×Nat)} {ν:List (Int×Nat)} (hh:Hold true w [p,q] xs) (bp:Bits 1 p) (bq:Bits 1 q) (h1:ν[i]?=some (p,1)) (h2:ν[i+1]?=some (q,1)):All2 (relC Z φ ν w) (.int .i64 1::numCs true i 2) (.int .i64 1::xs):=by
 refine ⟨rfl,hold_cs (n:=1) [p,q] xs i _ hh ?_ ?_⟩
 ·intro z hz
  simp at hz
  rcases hz with rfl | rfl
  ·exact bp
  ·exact bq
 ·intro j z hz
  match j,hz with
  | 0,hz=>cases hz;exact h1
  | 1,hz=>cases hz;exact h2
  | j+2,hz=>simp at hz
theorem part_cases {t:Wt} {v:Value} (hok:t.Ok) (hp:PartAt w t v):∃ k,v=ptrB k∧((∃ p q,t=.fr p q∧∃ xs tv lv rv,PartB w k 1 xs tv lv rv∧Hold true w [p,q] xs∧Bits 1 p∧Bits 1 q∧0 < q)∨((∀ p q,t≠.fr p q)∧∃ kd'∈kds,∃ zs:List Value,w.heap[k]?=some (.cells (.int .i64 kd'::zs).toArray 93 (0,0)))):=by
 by_cases h:∃ p q,t=.fr p q
 ·obtain ⟨p,q,rfl⟩:=h
  obtain ⟨k,xs,tv,lv,rv,rfl,hB,hH,_⟩:=hp
  exact ⟨k,rfl,Or.inl ⟨p,q,rfl,xs,tv,lv,rv,hB,hH,bit1 hok.2.1,bit1 hok.2.2,hok.1⟩⟩
 ·have hn:∀ p q,t≠.fr p q:=fun p q e=>h ⟨p,q,e⟩
  obtain ⟨k,rfl,h2⟩:=part_kd hn hok hp
  exact ⟨k,rfl,Or.inr ⟨hn,h2⟩⟩
theorem pt_fr {w':World} {m:Nat} {p q:Int} {xs:List Value} (hB:PartB w' m 1 xs nilS' nilP nilP) (hH:Hold true w' [p,q] xs):PartAt w' (.fr p q) (ptrB m):=⟨m,xs,nilS',nilP,nilP,rfl,hB,hH,rfl,rfl,rfl⟩
theorem minus_ok {t:Wt} {v:Value} (hok:t.Ok) (hp:PartAt w t v):Calls Tryz.prog 104 #[v] w fun e w'=>∃ v',e=.returned v'∧Chg w w' []∧PartAt w' (negW t) v':=by
 obtain ⟨k,rfl,⟨p,q,rfl,xs,tv,lv,rv,hB,hH,bp,bq,_⟩ | ⟨hn,kd',hkd',zs,hblk⟩⟩:=part_cases hok hp
 ·refine ext_run (φ:=ph1 1 k) (s:=mnF p q) (vs:=[q1V]) (args:=[ptrB k]) (fn_of Tryz.func104 rfl rfl) (tabSp_ok tP_ok) bP_ok (by kernel_rfl) ⟨⟨k,0,rfl,rfl⟩,trivial⟩ (rep_1 (ty:=93) ⟨rfl,rfl,rfl⟩ (cs:=.int .i64 1::xs) (ys:=[tv,lv,rv]) hB (fr_cs hH bp bq rfl rfl)) (mnF_t p q) (fun r s=>r=.val (.one (.ptr 4 0))∧IsPt s 4 1 [-p,q] (.lit nilP) (.lit nilP)∧clean s=true) ⟨rfl,mnF_p p q,mnF_c p q⟩ ?_
  rintro r s φ v w' ⟨rfl,hn,hc⟩ hrel hw
  obtain ⟨m,ys,k1,k2,k3⟩:=hn.at hw lit_val lit_val
  have hv:v=ptrB m:=ptr_v (ν:=s.nums) (w:=w') k1 v hrel
  exact ⟨v,rfl,Chg.of_below (RepF.below hw hc),by rw [hv];exact pt_fr k2 k3⟩
 ·obtain ⟨t1,t2,t3⟩:=mnK_t hkd'
  refine ext_run (φ:=ph1 1 k) (s:=mnK kd') (vs:=[q1V]) (args:=[ptrB k]) (fn_of Tryz.func104 rfl rfl) (tabSp_ok tP_ok) bP_ok (by kernel_rfl) ⟨⟨k,0,rfl,rfl⟩,trivial⟩ (rep_1 (ty:=93) ⟨rfl,rfl,rfl⟩ (cs:=[.int .i64 kd']) (ys:=zs) hblk ⟨rfl,trivial⟩) t1 (fun r s=>r=.val (.one (.ptr 3 0))∧IsPt s 3 5 [0,0] (.ptr 1 0) (.lit nilP)∧clean s=true) ⟨rfl,t2,t3⟩ ?_
  rintro r s φ v w' ⟨rfl,hn',hc⟩ hrel hw
  obtain ⟨m,ys,k1,k2,k3⟩:=hn'.at hw (ptr_v (hw.base 1 (k,0) rfl)) lit_val
  have hv:v=ptrB m:=ptr_v (ν:=s.nums) (w:=w') k1 v hrel
  have hch:Chg w w' []:=Chg.of_below (RepF.below hw hc)
  have hW:negW t=.neg t:=by
   cases t with
   | fr p q=>exact absurd rfl (hn p q)
   | _=>rfl
  refine ⟨v,rfl,hch,?_⟩
  rw [hv,hW]
  exact ⟨m,ys,[0,0],nilS',ptrB k,nilP,rfl,k2,k3,rfl,fun z hz=>zeros1 z (by simp at hz;simp [hz]),rfl,rfl,PartAt.keep hch.on t _ hp⟩
def Told2 (w:World) (x:Option Wt) (e:Ending) (w':World):Prop:=Chg w w' []∧match x with
 | none=>e=.returned (.tuple #[nilP,.int .i64 5])
 | some t=>∃ v,e=.returned (.tuple #[v,.int .i64 0])∧PartAt w' t v
theorem Told2.no {w w':World} {x:Option Wt} {e:Ending} (hx:x=none) (hc:Chg w w' []) (he:e=.returned (.tuple #[nilP,.int .i64 5])):Told2 w x e w':=by subst hx;exact ⟨hc,he⟩
theorem Told2.yes {w w':World} {x:Option Wt} {t:Wt} {e:Ending} {v:Value} (hx:x=some t) (hc:Chg w w' []) (he:e=.returned (.tuple #[v,.int .i64 0])) (hp:PartAt w' t v):Told2 w x e w':=by subst hx;exact ⟨hc,v,he,hp⟩
theorem tup_val {φ:Nat→Option (Nat×Nat)} {ν:List (Int×Nat)} {w:World} {c:AC} {e:Int} {v u:Value} (h:relT Z φ ν w (tupE c e) v) (hc:∀ x,relC Z φ ν w c x→x=u):v=.tuple #[u,.int .i64 e]:=by
 obtain ⟨xs,rfl,hx⟩:=h
 match xs,hx with
 | [a,b],⟨h1,h2,_⟩=>
  have h2:b=.int .i64 e:=h2
  rw [hc a h1,h2]
theorem function_ok {op:Rf.Op} (hop:Rf.fn op) {t:Wt} {v:Value} (hok:t.Ok) (hp:PartAt w t v):Calls Tryz.prog 105 #[.int .i64 (kindZ op),v] w (Told2 w (fnW op t)):=by
 have hku:=kind_uns hop
 have he:kindZ op=11↔op=.exp:=kd_11 hop
 obtain ⟨k,rfl,⟨p,q,rfl,xs,tv,lv,rv,hB,hH,bp,bq,_⟩ | ⟨hn,kd',hkd',zs,hblk⟩⟩:=part_cases hok hp
 ·obtain ⟨t1,t2,t3,t4,t5,t6⟩:=fuF_t p q hku
  refine ext_run (φ:=ph1 1 k) (s:=fuF (kindZ op) p q) (vs:=[inV (kindZ op),q1V]) (args:=[.int .i64 (kindZ op),ptrB k]) (fn_of Tryz.func105 rfl rfl) (tabSp_ok tP_ok) bP_ok (by kernel_rfl) ⟨rfl,⟨k,0,rfl,rfl⟩,trivial⟩ (rep_1 (ty:=93) ⟨rfl,rfl,rfl⟩ (cs:=.int .i64 1::xs) (ys:=[tv,lv,rv]) hB (fr_cs hH bp bq rfl rfl)) t1 (fun r s=>clean s=true∧((p < 0∧r=tupE (.lit nilP) 5)∨(p=0∧r=tupE (.ptr 4 0) 0∧IsPt s 4 1 [if kindZ op=11 then 1 else 0,1] (.lit nilP) (.lit nilP))∨(0 < p∧r=tupE (.ptr 3 0) 0∧IsPt s 3 (kindZ op) [0,0] (.ptr 1 0) (.lit nilP)))) ?_ ?_
  ·rcases Int.lt_trichotomy p 0 with h | h | h
   ·refine ⟨fun _=>⟨t2,Or.inl ⟨h,rfl⟩⟩,fun e=>?_⟩
    rw [Nm.cmp_lt h] at e
    cases e
   ·have e0:Nm.cmp p 0=0:=Nm.cmp_eq h
    rw [e0]
    exact ⟨fun e=>(by cases e),fun _=>⟨fun _=>⟨t4,Or.inr (Or.inl ⟨h,rfl,t3⟩)⟩,fun e=>by cases e⟩⟩
   ·rw [Nm.cmp_gt h]
    exact ⟨fun e=>(by cases e),fun _=>⟨fun e=>(by cases e),fun _=>⟨t6,Or.inr (Or.inr ⟨h,rfl,t5⟩)⟩⟩⟩
  ·rintro r s φ v w' ⟨hc,h⟩ hrel hw
   have hch:Chg w w' []:=Chg.of_below (RepF.below hw hc)
   rcases h with ⟨h,rfl⟩ | ⟨h,rfl,hI⟩ | ⟨h,rfl,hI⟩
   ·exact .no (show (if p < 0 then _ else _)=_ from if_pos h) hch (by rw [tup_val hrel lit_val])
   ·obtain ⟨m,ys,k1,k2,k3⟩:=hI.at hw lit_val lit_val
    have:(if kindZ op=11 then (1:Int) else 0)=if op=.exp then 1 else 0:=by simp only [he]
    rw [this] at k3
    exact .yes (show (if p < 0 then _ else if p=0 then _ else _)=_ by rw [if_neg (by omega),if_pos h]) hch (by rw [tup_val hrel (ptr_v k1)]) (pt_fr k2 k3)
   ·obtain ⟨m,ys,k1,k2,k3⟩:=hI.at hw (ptr_v (hw.base 1 (k,0) rfl)) lit_val
    exact .yes (t:=.fn op (.fr p q)) (v:=ptrB m) (show (if p < 0 then _ else if p=0 then _ else some (Wt.fn op (.fr p q)))=_ by rw [if_neg (by omega),if_neg (by omega)]) hch (by rw [tup_val hrel (ptr_v k1)]) ⟨m,ys,[0,0],nilS',ptrB k,nilP,rfl,k2,k3,rfl,fun z hz=>zeros1 z (by simp at hz;simp [hz]),rfl,rfl,PartAt.keep hch.on (.fr p q) _ hp⟩
 ·obtain ⟨t1,t2,t3⟩:=fuK_t (kindZ op) hkd'
  refine ext_run (φ:=ph1 1 k) (s:=fuK (kindZ op) kd') (vs:=[inV (kindZ op),q1V]) (args:=[.int .i64 (kindZ op),ptrB k]) (fn_of Tryz.func105 rfl rfl) (tabSp_ok tP_ok) bP_ok (by kernel_rfl) ⟨rfl,⟨k,0,rfl,rfl⟩,trivial⟩ (rep_1 (ty:=93) ⟨rfl,rfl,rfl⟩ (cs:=[.int .i64 kd']) (ys:=zs) hblk ⟨rfl,trivial⟩) t1 (fun r s=>r=tupE (.ptr 3 0) 0∧IsPt s 3 (kindZ op) [0,0] (.ptr 1 0) (.lit nilP)∧clean s=true) ⟨rfl,t2,t3⟩ ?_
  rintro r s φ v w' ⟨rfl,hI,hc⟩ hrel hw
  have hch:Chg w w' []:=Chg.of_below (RepF.below hw hc)
  obtain ⟨m,ys,k1,k2,k3⟩:=hI.at hw (ptr_v (hw.base 1 (k,0) rfl)) lit_val
  have hW:fnW op t=some (.fn op t):=by
   cases t with
   | fr p q=>exact absurd rfl (hn p q)
   | _=>rfl
  exact .yes (v:=ptrB m) hW hch (by rw [tup_val hrel (ptr_v k1)]) ⟨m,ys,[0,0],nilS',ptrB k,nilP,rfl,k2,k3,rfl,fun z hz=>zeros1 z (by simp at hz;simp [hz]),rfl,rfl,PartAt.keep hch.on t _ hp⟩
end
end Ab
open Go.RowKit
namespace Ab
open Rf (Nd Inv NInv Wt)
theorem gcd_pos_of {t b:Int} (hb:b≠0):0 < gcdZ t b:=by
 unfold gcdZ
 have:0 < Nat.gcd t.natAbs b.natAbs:=Nat.gcd_pos_of_pos_right _ (by omega)
 omega
theorem lowB_pos {t b:Int} (hb:b≠0):0 < lowB t b:=by
 have hg:=gcd_pos_of (t:=t) hb
 have d2:gcdZ t b ∣ b:=by
  unfold gcdZ
  exact Int.ofNat_dvd_left.2 (Nat.gcd_dvd_right _ _)
 unfold lowB
 rcases Int.lt_or_lt_of_ne hb with h | h
 ·rw [Nm.cmp_lt h]
  show 0 < -b / gcdZ t b
  have m2:-b=gcdZ t b*(-b / gcdZ t b):=(Int.mul_ediv_cancel' (Int.dvd_neg.2 d2)).symm
  rcases Int.lt_or_le 0 (-b / gcdZ t b) with h1 | h1
  ·exact h1
  ·have:=Int.mul_nonpos_of_nonneg_of_nonpos (show (0:Int)≤gcdZ t b by omega) h1
   omega
 ·rw [Nm.cmp_gt h]
  show 0 < b / gcdZ t b
  have m2:b=gcdZ t b*(b / gcdZ t b):=(Int.mul_ediv_cancel' d2).symm
  rcases Int.lt_or_le 0 (b / gcdZ t b) with h1 | h1
  ·exact h1
  ·have:=Int.mul_nonpos_of_nonneg_of_nonpos (show (0:Int)≤gcdZ t b by omega) h1
   omega
theorem woD_ne {kk:Rf.Kind} {p q a b:Int} (hq:0 < q) (hb:0 < b) (ha:¬(kk=.div∧a=0)):woD (kdK kk) p q a b≠0:=by
 cases kk with
 | add=>exact Int.ne_of_gt (Int.mul_pos hq hb)
 | sub=>exact Int.ne_of_gt (Int.mul_pos hq hb)
 | mul=>exact Int.ne_of_gt (Int.mul_pos hq hb)
 | div=>exact Int.mul_ne_zero (by omega) (fun e=>ha ⟨rfl,e⟩)
theorem cmp0 (a:Int):decide (Nm.cmp a 0=0)=decide (a=0):=by
 rcases Int.lt_trichotomy a 0 with h | h | h
 ·rw [Nm.cmp_lt h];simp;omega
 ·rw [Nm.cmp_eq h];simp [h]
 ·rw [Nm.cmp_gt h];simp;omega
theorem xrunT {w0:World} {ψ:Nat→Option (Nat×Nat)} {sp:Spec} {bodies:FuncId→Option Func} {stp:List (K (List AT))→Bool} {R:Ending→World→Prop} (hsp:SpecOk Z w0 ψ sp) (hbo:BodiesOk Z bodies) {kb:List Nat} {nx:Nat} {rb:List Nat} {ns:AS→Option (AS×List Prop)} (hψ:∀ b x,ψ b=some x→kb.contains b=true) (hns:NrmR ψ ns) {n:Nat} {ks:List (K (List AT))} {s:AS} {xt:XT}
  (ht:(run Z sp bodies (drawA Z sp) stp n ks s).bind (outX (nrm kb [] nx rb) ns)=some xt) (G:AT→AS→Prop) (H:List (K (List AT))→AS→Prop) (hok:xt.ok G H)
  (hG:∀ r s' φ' v w',G r s'→(∃ φ0 ν0,relT Z φ0 ν0 w' r v)→RepW Z w0 ψ φ' s' w'→R (.returned v) w')
  (hH:∀ ks' s',H ks' s'→noFr ks'=true∧∀ (kcs:List (K Act)) (φ':Nat→Option (Nat×Nat)) (a:Act) (w':World),(∀ φ1 ν1 w1,SR Z φ1 ν1 w1 ks' kcs)→Rep Z w0 ψ φ' s' a w'→sem Z.P R kcs .normal a w'):
  ∀ (kcs:List (K Act)) (φ:Nat→Option (Nat×Nat)) (a:Act) (w:World),SR Z φ s.nums w ks kcs→Rep Z w0 ψ φ s a w→sem Z.P R kcs .normal a w:=by
 intro kcs φ a w hsr hr
 obtain ⟨tr,h1,h2⟩:=bnd ht
 refine run_ok hsp hbo (drawA_ok mixed hsp) _ _ ?_ ?_ n ks s tr h1 (outX_ok h2 hok) kcs φ a w hsr hr
 ·rintro ks' s' ⟨s2,p,g1,g2,g3⟩ kcs' φ' a' w' hsr' hr'
  obtain ⟨hf,hk⟩:=hH ks' s2 g3
  obtain ⟨φ2,hr2⟩:=hns _ _ _ _ _ _ _ g1 g2 hr'
  exact hk kcs' φ2 a' w' (fun φ1 ν1 w1=>SR.any hf hsr') hr2
 ·rintro r s' φ' v w' ⟨s2,p,g1,g2,g3⟩ hv hw'
  exact hG r s2 _ v w' g3 ⟨_,_,hv⟩ (nrmW_ok g1 g2 hψ hw')
section
variable {w:World}
theorem two_zero {w':World} {kk:Rf.Kind} {t u:Wt} {m k1 k2:Nat} {ys:List Value} (hB:PartB w' m (kdK kk) ys nilS' (ptrB k1) (ptrB k2)) (hH:Hold true w' [0,0] ys) (ht:PartAt w' t (ptrB k1)) (hu:PartAt w' u (ptrB k2)):PartAt w' (.two kk t u) (ptrB m):=
 ⟨m,ys,[0,0],nilS',ptrB k1,ptrB k2,rfl,hB,hH,rfl,fun z hz=>zeros1 z (by simp at hz;simp [hz]),rfl,ht,hu⟩
theorem oper_run {s0:AS} {kd:Int} {k1 k2:Nat} {tr:Tr} (hs:s0.tmps=[inV kd,q1V,q2V].map .val++List.replicate (Tryz.f106.ntmps - 3) .und) (hr:RepW Z w (phQ k1 k2) (phQ k1 k2) s0 w) (ht:goP Tryz.f106 s0=some tr) (G:AT→AS→Prop) (hok:tr.ok G fun _ _=>False) {R:Ending→World→Prop} (hG:∀ r s φ v w',G r s→relT Z φ s.nums w' r v→RepW Z w (phQ k1 k2) φ s w'→R (.returned v) w'):Calls Tryz.prog 106 #[.int .i64 kd,ptrB k1,ptrB k2] w R:=
 ext_run (s:=s0) (vs:=[inV kd,q1V,q2V]) (args:=[.int .i64 kd,ptrB k1,ptrB k2]) (fn_of Tryz.func106 rfl rfl) (tabSp_ok tP_ok) bP_ok hs ⟨rfl,⟨k1,0,rfl,rfl⟩,⟨k2,0,rfl,rfl⟩,trivial⟩ hr ht G hok hG
theorem oper_two {s0:AS} {kk:Rf.Kind} {k1 k2:Nat} {t u:Wt} (hs:s0.tmps=[inV (kdK kk),q1V,q2V].map .val++List.replicate (Tryz.f106.ntmps - 3) .und) (hr:RepW Z w (phQ k1 k2) (phQ k1 k2) s0 w) (ht:goP Tryz.f106 s0=some (.ret (tupE (.ptr 3 0) 0) (lP Tryz.f106 s0 []))∧IsPt (lP Tryz.f106 s0 []) 3 (kdK kk) [0,0] (.ptr 1 0) (.ptr 2 0)∧clean (lP Tryz.f106 s0 [])=true) (hW:opW kk t u=some (.two kk t u)) (hp:PartAt w t (ptrB k1)) (hu:PartAt w u (ptrB k2)):Calls Tryz.prog 106 #[.int .i64 (kdK kk),ptrB k1,ptrB k2] w (Told2 w (opW kk t u)):=by
 obtain ⟨t1,t2,t3⟩:=ht
 refine oper_run hs hr t1 (fun r s=>r=tupE (.ptr 3 0) 0∧IsPt s 3 (kdK kk) [0,0] (.ptr 1 0) (.ptr 2 0)∧clean s=true) ⟨rfl,t2,t3⟩ ?_
 rintro r s φ v w' ⟨rfl,hI,hc⟩ hrel hw
 have hch:Chg w w' []:=Chg.of_below (RepF.below hw hc)
 obtain ⟨m,ys,j1,j2,j3⟩:=hI.at hw (ptr_v (hw.base 1 (k1,0) rfl)) (ptr_v (hw.base 2 (k2,0) rfl))
 exact .yes (v:=ptrB m) hW hch (by rw [tup_val hrel (ptr_v j1)]) (two_zero j2 j3 (PartAt.keep hch.on t _ hp) (PartAt.keep hch.on u _ hu))
theorem phQ_kb {k k2:Nat}:∀ b x,phQ k k2 b=some x→[1,2].contains b=true:=by
 intro b x e
 match b,e with
 | 0,e=>cases e
 | 1,_=>rfl
 | 2,_=>rfl
 | b+3,e=>cases e
end
end Ab
open Go.RowKit
def wagg (x:Rd.Wd):Value:=.agg #[.int .i64 x.kind,.string x.text,.int .i64 x.pos]
theorem Rdr.cells {w:World} {rb g cap:Nat} {ws:List Rd.Wd} {st:Rd.St} (h:Rdr w rb g cap ws st) (n:Nat) (hn:n < ws.length):
  w.cell? ⟨g,n*3,none⟩=some (.int .i64 (Rd.wordAt ws n).kind)∧w.cell? ⟨g,n*3+1,none⟩=some (.string (Rd.wordAt ws n).text)∧w.cell? ⟨g,n*3+2,none⟩=some (.int .i64 (Rd.wordAt ws n).pos):=by
 obtain ⟨cur,h1,h2⟩:=h.row
 have key:∀ i v,i < ws.length*3→(Rd.wcells ws)[i]?=some v→w.cell? ⟨g,i,none⟩=some v:=by
  intro i v hi hv
  refine cell_of_block h1 ?_
  rw [←h2,List.getElem?_take_of_lt hi] at hv
  simpa using hv
 obtain ⟨a,b,c⟩:=Rd.wcells_at ws n hn
 exact ⟨key _ _ (by omega) a,key _ _ (by omega) b,key _ _ (by omega) c⟩
theorem word_in (w:World) (rb g cap:Nat) (ws:List Rd.Wd) (st:Rd.St) (h:Rdr w rb g cap ws st) (hn:st.next < ws.length):
  Calls Tryz.prog 65 #[.pointer (some ⟨rb,0,none⟩)] w fun e w'=>e=.returned (wagg (Rd.wordAt ws st.next))∧Below w.heap.size w w':=by
 have c0:=h.c0
 have c1:=h.c1
 obtain ⟨e0,e1,e2⟩:=h.cells st.next hn
 have hlt:=h.lt
 have hglt:g < w.heap.size:=by obtain ⟨cur,h1,_⟩:=h.row;exact heap_lt h1
 clear h
 go_enter Tryz.func65,Tryz.ntmps65
 go_wp2_with fail
 go_quiet (fail)
 go_wp2_with fail
 go_region
 all_goals go_wp2_with fail
 exact bodyPost_ret (v:=.agg #[.int .i64 (Rd.wordAt ws st.next).kind,.string (Rd.wordAt ws st.next).text,.int .i64 (Rd.wordAt ws st.next).pos]) (by simp [results,Tryz.results65,go_sem]) rfl
  ⟨rfl,(((below_drewN ((Below.refl _ _).alloc (Nat.le_refl _) _) _).setCell (Nat.le_refl _) _).setCell (Nat.le_refl _) _).setCell (Nat.le_refl _) _⟩
theorem word_out (w:World) (rb g cap:Nat) (ws:List Rd.Wd) (st:Rd.St) (h:Rdr w rb g cap ws st) (hn:¬st.next < ws.length):
  Calls Tryz.prog 65 #[.pointer (some ⟨rb,0,none⟩)] w fun e w'=>e=.returned (.agg #[.int .i64 0,.string ⟨#[]⟩,.int .i64 0])∧Below w.heap.size w w':=by
 have c0:=h.c0
 have c1:=h.c1
 have hlt:=h.lt
 clear h
 go_enter Tryz.func65,Tryz.ntmps65
 go_wp2_with fail
 go_quiet (fail)
 go_wp2_with fail
 exact bodyPost_ret (v:=.agg #[.int .i64 0,.string ⟨#[]⟩,.int .i64 0]) (by simp [results,Tryz.results65,go_sem]) rfl
  ⟨rfl,(((below_drewN ((Below.refl _ _).alloc (Nat.le_refl _) _) _).setCell (Nat.le_refl _) _).setCell (Nat.le_refl _) _).setCell (Nat.le_refl _) _⟩
theorem word_any (w:World) (rb g cap:Nat) (ws:List Rd.Wd) (st:Rd.St) (h:Rdr w rb g cap ws st):
  Calls Tryz.prog 65 #[.pointer (some ⟨rb,0,none⟩)] w fun e w'=>e=.returned (wagg (Rd.wordAt ws st.next))∧Below w.heap.size w w':=by
 by_cases hn:st.next < ws.length
 ·exact word_in w rb g cap ws st h hn
 ·have e:Rd.wordAt ws st.next=⟨0,⟨#[]⟩,0⟩:=by
   unfold Rd.wordAt List.getD
   rw [List.getElem?_eq_none (by omega)];rfl
  rw [e]
  exact word_out w rb g cap ws st h hn
namespace Rd
abbrev Tr:=Go.Deep.BT (Int×Int×List Int)
def leafT (k v:Int) (ts:List Int):Tr:=.node 0 0 (k,v,ts) .nil .nil
def unT (k:Int) (x:Tr):Tr:=.node 0 0 (k,0,[]) x .nil
def opT (k:Int) (l r:Tr):Tr:=.node 0 0 (k,0,[]) l r
def tk (ws:List Wd) (st:St) (c:ByteArray):Bool:=(!((wordAt ws st.next).kind==0))&&isT (wordAt ws st.next).text c.data.toList
def St.ok (st:St):Prop:=st.next < 1000∧st.around < 1000∧st.deepest < 1000∧st.nodes < 1000
def St.okB (st:St):Bool:=decide (st.next < 1000∧st.around < 1000∧st.deepest < 1000∧st.nodes < 1000)
def St.leaf (st:St):St:={ st with nodes:=st.nodes+1,deepest:=bif decide (st.deepest < st.around) then st.around else st.deepest }
def St.node (st:St):St:={ st with nodes:=st.nodes+1 }
def St.adv (st:St):St:={ st with next:=st.next+1 }
def St.inn (st:St):St:={ st with around:=st.around+1 }
def St.out (st:St):St:={ st with around:=st.around - 1 }
def St.okOut (st:St):Bool:=st.okB&&decide (1≤st.around)
theorem St.okB_ok {st:St} (h:st.okB=true):st.ok:=by simpa [St.okB,St.ok] using h
abbrev Ans:=Option (Option Tr×St)
def term (ws:List Wd) (st:St):Int×St:=
 bif (wordAt ws st.next).kind==1 then
  bif valTo (wordAt ws st.next).text (wordAt ws st.next).text.size==0 then (0,st) else (valTo (wordAt ws st.next).text (wordAt ws st.next).text.size,st.adv)
 else (0,st)
def terms (ws:List Wd):Nat→Nat→List Int→St→Option (Option (List Int)×St)
 | 0,_,_,_=>none
 | f+1,c,ts,st=>
  bif st.okB&&(term ws st).2.okB then
   bif (term ws st).1==0 then some (none,(term ws st).2)
   else bif tk ws (term ws st).2 ⟨#[93]⟩ then some (some (ts++[(term ws st).1]),(term ws st).2.adv)
   else bif c==8 then some (none,(term ws st).2)
   else bif tk ws (term ws st).2 ⟨#[44]⟩ then terms ws f (c+1) (ts++[(term ws st).1]) (term ws st).2.adv
   else some (none,(term ws st).2)
  else none
def cfOf:Option (Option (List Int)×St)→Ans
 | none=>none
 | some (none,st)=>some (none,st)
 | some (some ts,st)=>bif st.okB then some (some (leafT 4 0 ts),st.leaf) else none
def continued (ws:List Wd) (st:St):Ans:=
 bif decide (st.next < 900)&&st.okB then
  bif tk ws st ⟨#[91]⟩ then
   bif (wordAt ws st.adv.next).kind==1 then
    bif tk ws st.adv.adv ⟨#[59]⟩ then cfOf (terms ws 8 1 [valTo (wordAt ws st.adv.next).text (wordAt ws st.adv.next).text.size] st.adv.adv.adv)
    else some (none,st.adv.adv)
   else some (none,st.adv)
  else some (none,st)
 else none
def unaryOf (k:Int):Option Tr→St→Ans
 | none,st=>some (none,st)
 | some x,st=>bif st.okB then some (some (unT k x),st.node) else none
def operOf (k:Int) (l:Tr):Option Tr→St→Ans
 | none,st=>some (none,st)
 | some r,st=>bif st.okB then some (some (opT k l r),st.node) else none
def Ans.next (a:Ans) (f:Option Tr→St→Ans):Ans:=
 match a with
 | none=>none
 | some (x,st)=>f x st
def nameOf (ws:List Wd) (k:Int) (st:St) (b:St→Ans):Ans:=
 bif k==0 then some (none,st)
 else bif k==2 || k==3 then (bif st.adv.okB then some (some (leafT k 0 []),st.adv.leaf) else none)
 else bif k==4 then continued ws st.adv
 else (b st.adv).next fun x st2=>unaryOf k x st2
def closeOf (ws:List Wd) (x:Option Tr) (st:St):Ans:=
 bif st.okOut then
  match x with
  | none=>some (none,st.out)
  | some t=>bif tk ws st.out ⟨#[41]⟩ then some (some t,st.out.adv) else some (none,st.out)
 else none
def parse (ws:List Wd):Nat→Nat→Option Tr→St→Ans
 | 0,_,_,_=>none
 | f+1,0,_,st=>(parse ws f 2 none st).next fun l st1=>parse ws f 1 l st1
 | _+1,1,none,st=>some (none,st)
 | f+1,1,some l,st=>
  bif st.okB then
   bif tk ws st ⟨#[43]⟩ then (parse ws f 2 none st.adv).next fun r st2=>(operOf 6 l r st2).next fun l' st3=>parse ws f 1 l' st3
   else bif tk ws st ⟨#[45]⟩ then (parse ws f 2 none st.adv).next fun r st2=>(operOf 7 l r st2).next fun l' st3=>parse ws f 1 l' st3
   else some (some l,st)
  else none
 | f+1,2,_,st=>(parse ws f 4 none st).next fun l st1=>parse ws f 3 l st1
 | _+1,3,none,st=>some (none,st)
 | f+1,3,some l,st=>
  bif st.okB then
   bif tk ws st ⟨#[42]⟩ then (parse ws f 4 none st.adv).next fun r st2=>(operOf 8 l r st2).next fun l' st3=>parse ws f 3 l' st3
   else bif tk ws st ⟨#[47]⟩ then (parse ws f 4 none st.adv).next fun r st2=>(operOf 9 l r st2).next fun l' st3=>parse ws f 3 l' st3
   else some (some l,st)
  else none
 | f+1,4,_,st=>
  bif st.okB then
   bif tk ws st ⟨#[45]⟩ then (parse ws f 4 none st.adv.inn).next fun x st2=>bif st2.okOut then unaryOf 5 x st2.out else none
   else parse ws f 5 none st
  else none
 | f+1,5,_,st=>
  bif st.okB then
   bif (wordAt ws st.next).kind==1 then
    (bif st.adv.okB then some (some (leafT 1 (valTo (wordAt ws st.next).text (wordAt ws st.next).text.size) []),st.adv.leaf) else none)
   else bif (wordAt ws st.next).kind==2 then nameOf ws (named (wordAt ws st.next).text) st (fun st'=>parse ws f 6 none st')
   else parse ws f 6 none st
  else none
 | f+1,_,_,st=>
  bif st.okB then
   bif tk ws st ⟨#[40]⟩ then (parse ws f 0 none st.adv.inn).next fun x st2=>closeOf ws x st2
   else some (none,st)
  else none
def read (f:Nat) (s:ByteArray):Option (Option Tr×Int×Int):=
 bif decide (120 < s.size) then some (none,1,0)
 else
  match parse (split s (s.size+1) 0) f 0 none ⟨0,0,0,0⟩ with
  | none=>none
  | some (none,st)=>some (none,2,(wordAt (split s (s.size+1) 0) st.next).pos)
  | some (some t,st)=>
   bif (wordAt (split s (s.size+1) 0) st.next).kind==0 then
    bif decide (12 < st.deepest) || decide (40 < st.nodes) then some (none,3,0) else some (some t,0,0)
   else some (none,2,(wordAt (split s (s.size+1) 0) st.next).pos)
end Rd
open Go.RowKit
theorem take_any (w:World) (rb g cap:Nat) (ws:List Rd.Wd) (st:Rd.St) (c:ByteArray) (h:Rdr w rb g cap ws st) (hn:st.next < 1000):
  Calls Tryz.prog 99 #[.pointer (some ⟨rb,0,none⟩),.string c] w fun e w'=>e=.returned (.bool (Rd.tk ws st c))∧Rdr w' rb g cap ws (bif Rd.tk ws st c then { st with next:=st.next+1 } else st)∧Keep rb w w':=by
 have key:=word_any w rb g cap ws st h
 unfold wagg at key
 have HT:Hid (Rd.tk ws st c=((!((Rd.wordAt ws st.next).kind==0))&&((Rd.wordAt ws st.next).text.toList==c.toList))):=by
  show _=_
  rw [Rd.isT_eq,ByteArray.toList_eq];rfl
 generalize Rd.wordAt ws st.next=x at*
 have KEY:Hid (Calls Tryz.prog 65 #[.pointer (some ⟨rb,0,none⟩)] w fun e w'=>e=.returned (.agg #[.int .i64 x.kind,.string x.text,.int .i64 x.pos])∧Below w.heap.size w w'):=key
 clear key
 cases t1:(x.kind==0)
 all_goals cases t2:(x.text.toList==c.toList)
 all_goals
  go_enter Tryz.func99,Tryz.ntmps99
  go_wp2_with fail
  refine (KEY.out).mono ?_
  rintro e w1 ⟨rfl,hb⟩
  have h1:=h.below hb
  have d1:=h1.c1
  have f1:=h1.fz 1
  have l1:=h1.lt
  go_wp2_with fail
  go_ret
  rw [HT.out,t1,t2]
 ·exact ⟨rfl,h1.alloc _,(Keep.of_below hb).alloc _⟩
 ·exact ⟨rfl,(h1.set1 (st.next+1) (by simp)).alloc _,((Keep.of_below hb).setCell 1 _).alloc _⟩
 ·exact ⟨rfl,h1.alloc _,(Keep.of_below hb).alloc _⟩
 ·exact ⟨rfl,h1.alloc _,(Keep.of_below hb).alloc _⟩
theorem leaf_any (w:World) (rb g cap:Nat) (ws:List Rd.Wd) (st:Rd.St) (v:Value) (h:Rdr w rb g cap ws st) (hn:st.ok):
  Calls Tryz.prog 184 #[.pointer (some ⟨rb,0,none⟩),v] w fun e w'=>e=.returned v∧Rdr w' rb g cap ws st.leaf∧Keep rb w w':=by
 obtain ⟨b1,b2,b3,b4⟩:=hn
 have d2:=h.c2
 have d3:=h.c3
 have d4:=h.c4
 have f3:=h.fz 3
 have f4:=h.fz 4
 have l1:=h.lt
 by_cases t:(st.deepest:Int) < st.around
 ·go_enter Tryz.func184,Tryz.ntmps184
  go_wp2_with fail
  go_quiet (fail)
  go_wp2_with fail
  go_ret
  have e:st.leaf={ { st with nodes:=st.nodes+1 } with deepest:=st.around }:=by simp [Rd.St.leaf,show st.deepest < st.around by omega]
  rw [e]
  exact ⟨rfl,((h.set4 (st.nodes+1) (by simp)).drewN _).set3 st.around rfl,(((Keep.refl _ _).setCell 4 _).drewN _).setCell 3 _⟩
 ·go_enter Tryz.func184,Tryz.ntmps184
  go_wp2_with fail
  go_quiet (fail)
  go_wp2_with fail
  go_ret
  have e:st.leaf={ st with nodes:=st.nodes+1 }:=by simp [Rd.St.leaf,show ¬st.deepest < st.around by omega]
  rw [e]
  exact ⟨rfl,(h.set4 (st.nodes+1) (by simp)).drewN _,((Keep.refl _ _).setCell 4 _).drewN _⟩
theorem unary_nil (w:World) (r:Value) (kd:Int):
  Calls Tryz.prog 171 #[r,.int .i64 kd,.pointer none] w fun e w'=>e=.returned (.pointer none)∧w=w':=by
 go_enter Tryz.func171,Tryz.ntmps171
 go_wp2_with fail
 go_ret
 exact ⟨rfl,rfl⟩
theorem cells_new (w:World) (o:Obj):(w.alloc o).heap[w.heap.size]?=some o:=by
 show (w.heap.push o)[w.heap.size]?=some o
 simp
theorem size_set (w:World) (a:Addr) (u:Value):(w.setCell a u).heap.size=w.heap.size:=by simp [World.setCell]
theorem unary_some (w:World) (rb g cap:Nat) (ws:List Rd.Wd) (st:Rd.St) (kd:Int) (a:Addr) (h:Rdr w rb g cap ws st) (hn:st.ok):
  Calls Tryz.prog 171 #[.pointer (some ⟨rb,0,none⟩),.int .i64 kd,.pointer (some a)] w fun e w'=>e=.returned (.pointer (some ⟨w.heap.size,0,none⟩))∧Rdr w' rb g cap ws st.node∧Keep rb w w'∧
   w'.heap[w.heap.size]?=some (.cells #[.int .i64 kd,.int .i64 0,.slice none 0 0,.pointer (some a),.pointer none] 163 (0,0)):=by
 obtain ⟨b1,b2,b3,b4⟩:=hn
 have d4:=h.c4
 have f4:=h.fz 4
 have l1:=h.lt
 go_enter Tryz.func171,Tryz.ntmps171
 go_wp2_with fail
 go_ret
 refine ⟨rfl,(h.set4 (st.nodes+1) (by simp)).alloc _,((Keep.refl _ _).setCell 4 _).alloc _,?_⟩
 rw [←size_set w ⟨rb,4,none⟩ (.int .i64 (st.nodes+1))]
 exact cells_new _ _
theorem operation_nil (w:World) (r l:Value) (kd:Int):
  Calls Tryz.prog 100 #[r,.int .i64 kd,l,.pointer none] w fun e w'=>e=.returned (.pointer none)∧w=w':=by
 go_enter Tryz.func100,Tryz.ntmps100
 go_wp2_with fail
 go_ret
 exact ⟨rfl,rfl⟩
theorem operation_some (w:World) (rb g cap:Nat) (ws:List Rd.Wd) (st:Rd.St) (kd:Int) (a b:Addr) (h:Rdr w rb g cap ws st) (hn:st.ok):
  Calls Tryz.prog 100 #[.pointer (some ⟨rb,0,none⟩),.int .i64 kd,.pointer (some a),.pointer (some b)] w fun e w'=>e=.returned (.pointer (some ⟨w.heap.size,0,none⟩))∧Rdr w' rb g cap ws st.node∧Keep rb w w'∧
   w'.heap[w.heap.size]?=some (.cells #[.int .i64 kd,.int .i64 0,.slice none 0 0,.pointer (some a),.pointer (some b)] 163 (0,0)):=by
 obtain ⟨b1,b2,b3,b4⟩:=hn
 have d4:=h.c4
 have f4:=h.fz 4
 have l1:=h.lt
 go_enter Tryz.func100,Tryz.ntmps100
 go_wp2_with fail
 go_ret
 refine ⟨rfl,(h.set4 (st.nodes+1) (by simp)).alloc _,((Keep.refl _ _).setCell 4 _).alloc _,?_⟩
 rw [←size_set w ⟨rb,4,none⟩ (.int .i64 (st.nodes+1))]
 exact cells_new _ _
open Go.RowKit
open Go.Deep (BT)
def TermsAt (rb:Nat) (w:World) (ts:List Int) (tv:Value):Prop:=
 (ts=[]∧tv=.slice none 0 0)∨∃ tb cap cur,tv=.slice (some ⟨tb,0,none⟩) ts.length cap∧tb≠rb∧w.heap[tb]?=some (.cells cur 3 (0,0))∧ts.length≤cap∧cur.toList.take ts.length=ts.map (Value.int .i64)
def Enc (rb:Nat) (w:World):Rd.Tr→Value→Prop
 | .nil,v=>v=.pointer none
 | .node _ _ a l r,v=>∃ b tv lv rv,v=.pointer (some ⟨b,0,none⟩)∧b≠rb∧w.heap[b]?=some (.cells #[.int .i64 a.1,.int .i64 a.2.1,tv,lv,rv] 163 (0,0))∧TermsAt rb w a.2.2 tv∧Enc rb w l lv∧Enc rb w r rv
def EncO (rb:Nat) (w:World):Option Rd.Tr→Value→Prop
 | none,v=>v=.pointer none
 | some t,v=>(∃ b,v=.pointer (some ⟨b,0,none⟩))∧Enc rb w t v
theorem TermsAt.keep {rb:Nat} {w w':World} {ts:List Int} {tv:Value} (h:TermsAt rb w ts tv) (hk:Keep rb w w'):TermsAt rb w' ts tv:=by
 rcases h with h | ⟨tb,cap,cur,h1,h2,h3,h4⟩
 ·exact Or.inl h
 ·exact Or.inr ⟨tb,cap,cur,h1,h2,by rw [hk.block tb (heap_lt h3) h2];exact h3,h4⟩
theorem Enc.keep {rb:Nat} {w w':World} (hk:Keep rb w w'):∀ {t:Rd.Tr} {v:Value},Enc rb w t v→Enc rb w' t v:=by
 intro t
 induction t with
 | nil=>intro v h;exact h
 | node _ _ a l r ihl ihr=>
  intro v h
  obtain ⟨b,tv,lv,rv,h1,h2,h3,h4,h5,h6⟩:=h
  exact ⟨b,tv,lv,rv,h1,h2,by rw [hk.block b (heap_lt h3) h2];exact h3,h4.keep hk,ihl h5,ihr h6⟩
theorem enc_node {rb b:Nat} {w:World} {k v:Int} {ts:List Int} {tv lv rv:Value} {l r:Rd.Tr} (hb:b≠rb) (h:w.heap[b]?=some (.cells #[.int .i64 k,.int .i64 v,tv,lv,rv] 163 (0,0)))
  (ht:TermsAt rb w ts tv) (hl:Enc rb w l lv) (hr:Enc rb w r rv):EncO rb w (some (.node 0 0 (k,v,ts) l r)) (.pointer (some ⟨b,0,none⟩)):=
 ⟨⟨b,rfl⟩,b,tv,lv,rv,rfl,hb,h,ht,hl,hr⟩
def WsOk (ws:List Rd.Wd):Prop:=∀ n,(Rd.wordAt ws n).kind=1→(Rd.wordAt ws n).text.size≤9
theorem term_any (w:World) (rb g cap:Nat) (ws:List Rd.Wd) (st:Rd.St) (h:Rdr w rb g cap ws st) (hn:st.next < 1000) (hws:WsOk ws):
  Calls Tryz.prog 213 #[.pointer (some ⟨rb,0,none⟩)] w fun e w'=>e=.returned (.int .i64 (Rd.term ws st).1)∧Rdr w' rb g cap ws (Rd.term ws st).2∧Keep rb w w':=by
 have key:=word_any w rb g cap ws st h
 unfold wagg at key
 have hsz:=hws st.next
 have HT:Hid (Rd.term ws st=bif (Rd.wordAt ws st.next).kind==1 then bif Rd.valTo (Rd.wordAt ws st.next).text (Rd.wordAt ws st.next).text.size==0 then (0,st) else (Rd.valTo (Rd.wordAt ws st.next).text (Rd.wordAt ws st.next).text.size,st.adv) else (0,st)):=rfl
 clear hws
 generalize Rd.wordAt ws st.next=x at*
 have KEY:Hid (Calls Tryz.prog 65 #[.pointer (some ⟨rb,0,none⟩)] w fun e w'=>e=.returned (.agg #[.int .i64 x.kind,.string x.text,.int .i64 x.pos])∧Below w.heap.size w w'):=key
 have HSZ:Hid (x.kind=1→x.text.size≤9):=hsz
 clear key hsz
 cases t1:(x.kind==1)
 ·have t1':(x.kind != 1)=true:=by simp [bne,t1]
  go_enter Tryz.func213,Tryz.ntmps213
  go_wp2_with fail
  refine (KEY.out).mono ?_
  rintro e w1 ⟨rfl,hb⟩
  go_wp2_with fail
  go_ret
  rw [HT.out,t1]
  exact ⟨rfl,(h.below hb).alloc _,(Keep.of_below hb).alloc _⟩
 ·have hs9:x.text.size≤9:=HSZ.out (by simpa using t1)
  cases t2:(Rd.valTo x.text x.text.size==0)
  all_goals
   go_enter Tryz.func213,Tryz.ntmps213
   go_wp2_with fail
   refine (KEY.out).mono ?_
   rintro e w1 ⟨rfl,hb⟩
   have h1:=h.below hb
   have d1:=h1.c1
   have f1:=h1.fz 1
   have l1:=h1.lt
   go_wp2_with (go_at_call 183;refine (value_any _ _ _ _ hs9).mono ?_;rintro e w' ⟨rfl,rfl⟩)
   go_ret
   rw [HT.out,t1,t2]
  ·exact ⟨rfl,((h1.set1 (st.next+1) (by simp)).alloc _).alloc _,(((Keep.of_below hb).setCell 1 _).alloc _).alloc _⟩
  ·exact ⟨ret_int (by simpa using t2),(h1.alloc _).alloc _,((Keep.of_below hb).alloc _).alloc _⟩
theorem take_yes (w:World) (rb g cap:Nat) (ws:List Rd.Wd) (st:Rd.St) (c:ByteArray) (h:Rdr w rb g cap ws st) (hn:st.next < 1000) (t:Rd.tk ws st c=true):
  Calls Tryz.prog 99 #[.pointer (some ⟨rb,0,none⟩),.string c] w fun e w'=>e=.returned (.bool true)∧Rdr w' rb g cap ws st.adv∧Keep rb w w':=by
 have:=take_any w rb g cap ws st c h hn
 rw [t] at this
 exact this
theorem take_no (w:World) (rb g cap:Nat) (ws:List Rd.Wd) (st:Rd.St) (c:ByteArray) (h:Rdr w rb g cap ws st) (hn:st.next < 1000) (t:Rd.tk ws st c=false):
  Calls Tryz.prog 99 #[.pointer (some ⟨rb,0,none⟩),.string c] w fun e w'=>e=.returned (.bool false)∧Rdr w' rb g cap ws st∧Keep rb w w':=by
 have:=take_any w rb g cap ws st c h hn
 rw [t] at this
 exact this
def Post (rb g cap:Nat) (ws:List Rd.Wd) (w:World) (res:Option Rd.Tr) (st':Rd.St) (e:Ending) (w':World):Prop:=
 ∃ v,e=.returned v∧EncO rb w' res v∧Rdr w' rb g cap ws st'∧Keep rb w w'
theorem Post.nil {rb g cap:Nat} {ws:List Rd.Wd} {w w':World} {st':Rd.St} (h:Rdr w' rb g cap ws st') (hk:Keep rb w w'):Post rb g cap ws w none st' (.returned (.pointer none)) w':=
 ⟨_,rfl,rfl,h,hk⟩
theorem own_keep {rb:Nat} {wr w':World} {B e size n:Nat} {v:Value} {xs:List Value} (hown:wr.ownsRow B e size v n xs) (hk:Keep rb wr w') (hrb:rb < B):w'.ownsRow B e size v n xs:=by
 obtain ⟨h1,h2⟩:=hown
 refine ⟨h1,?_⟩
 rcases h2 with h2 | ⟨g,cap,cur,hv,hg,hh,r⟩
 ·exact Or.inl h2
 ·exact Or.inr ⟨g,cap,cur,hv,hg,by rw [hk.block g (heap_lt hh) (by omega)];exact hh,r⟩
theorem keep_own {rb:Nat} {w wr w3:World} {B e size n:Nat} {l:Value} {xs:List Value} (hown:wr.ownsRow B e size l n xs) (hk:Keep rb w wr) (hB:w.heap.size≤B) (o:Obj) (hg:(wr.alloc o).grownBy w3 l.ownBlock):Keep rb w w3:=by
 have ha:=hk.alloc o
 refine ⟨hg.os.trans ha.os,hg.tape.trans ha.tape,hg.output.trans ha.output,Nat.le_trans ha.size hg.size,fun k hk' hn=>?_⟩
 rw [hg.block k (Nat.lt_of_lt_of_le hk' ha.size) ?_]
 ·exact ha.block k hk' hn
 ·intro e
  rcases hown.2 with ⟨h,_⟩ | ⟨g,cap,cur,h,hg',_⟩
  ·rw [h] at e;cases e
  ·rw [h] at e
   simp only [Value.ownBlock,Option.some.injEq] at e
   omega
theorem rdr_own {rb g cap:Nat} {ws:List Rd.Wd} {st:Rd.St} {wr w3:World} {B e size n:Nat} {l:Value} {xs:List Value} (h:Rdr wr rb g cap ws st) (hown:wr.ownsRow B e size l n xs) (hrb:rb < B) (hgB:g < B) (o:Obj) (hg:(wr.alloc o).grownBy w3 l.ownBlock):Rdr w3 rb g cap ws st:=by
 have h':=h.alloc o
 have key:∀ k,k < B→k < (wr.alloc o).heap.size→w3.heap[k]?=(wr.alloc o).heap[k]?:=by
  intro k hk hs
  refine hg.block k hs ?_
  intro e
  rcases hown.2 with ⟨h,_⟩ | ⟨g,cap,cur,h,hg',_⟩
  ·rw [h] at e;cases e
  ·rw [h] at e
   simp only [Value.ownBlock,Option.some.injEq] at e
   omega
 obtain ⟨cur,h1,h2⟩:=h'.row
 exact ⟨by rw [key rb hrb h'.lt];exact h'.rd,⟨cur,by rw [key g hgB (heap_lt h1)];exact h1,h2⟩,h'.ne⟩
theorem terms_own {rb B n:Nat} {w:World} {v:Value} {ts:List Int} (hown:w.ownsRow B 3 1 v n (ts.map (Value.int .i64))) (hrb:rb < B) (hn:n=ts.length) (hp:0 < n):TermsAt rb w ts v:=by
 rcases hown.2 with ⟨_,h⟩ | ⟨g,cap,cur,h,hg',h3,h4,_,_,h5⟩
 ·omega
 ·subst hn
  exact Or.inr ⟨g,cap,cur,h,by omega,h3,h4,by simpa using h5⟩
open Go.RowKit
theorem infoInt:(Tryz.prog.info? 3).map (fun i=>(i.zero,i.size,i.bytes))=some (some (.int .i64 0),1,8):=by kernel_rfl
theorem cont_no1 (w:World) (rb g cap:Nat) (ws:List Rd.Wd) (st:Rd.St) (h:Rdr w rb g cap ws st) (hn:st.next < 1000) (t1:Rd.tk ws st ⟨#[91]⟩=false):
  Calls Tryz.prog 201 #[.pointer (some ⟨rb,0,none⟩)] w (Post rb g cap ws w none st):=by
 go_enter Tryz.func201,Tryz.ntmps201
 go_wp2_with fail
 refine (take_no _ rb g cap ws st _ h hn t1).mono ?_
 rintro e w1 ⟨rfl,hR1,hK1⟩
 go_wp2_with fail
 go_ret
 exact Post.nil hR1 hK1
theorem cont_no2 (w:World) (rb g cap:Nat) (ws:List Rd.Wd) (st:Rd.St) (h:Rdr w rb g cap ws st) (hn:st.next < 900) (t1:Rd.tk ws st ⟨#[91]⟩=true) (t2:((Rd.wordAt ws st.adv.next).kind != 1)=true):
  Calls Tryz.prog 201 #[.pointer (some ⟨rb,0,none⟩)] w (Post rb g cap ws w none st.adv):=by
 go_enter Tryz.func201,Tryz.ntmps201
 go_wp2_with fail
 refine (take_yes _ rb g cap ws st _ h (by omega) t1).mono ?_
 rintro e w1 ⟨rfl,hR1,hK1⟩
 go_wp2_with fail
 refine (word_any _ rb g cap ws _ hR1).mono ?_
 unfold wagg
 rintro e w2 ⟨rfl,hb2⟩
 go_wp2_with fail
 go_ret
 exact Post.nil ((hR1.below hb2).alloc _) ((hK1.trans (Keep.of_below hb2)).alloc _)
theorem cont_no3 (w:World) (rb g cap:Nat) (ws:List Rd.Wd) (st:Rd.St) (h:Rdr w rb g cap ws st) (hn:st.next < 900) (t1:Rd.tk ws st ⟨#[91]⟩=true) (t2:((Rd.wordAt ws st.adv.next).kind != 1)=false) (t3:Rd.tk ws st.adv.adv ⟨#[59]⟩=false):
  Calls Tryz.prog 201 #[.pointer (some ⟨rb,0,none⟩)] w (Post rb g cap ws w none st.adv.adv):=by
 have b1:st.adv.next < 901:=by show st.next+1 < 901;omega
 go_enter Tryz.func201,Tryz.ntmps201
 go_wp2_with fail
 refine (take_yes _ rb g cap ws st _ h (by omega) t1).mono ?_
 rintro e w1 ⟨rfl,hR1,hK1⟩
 go_wp2_with fail
 refine (word_any _ rb g cap ws _ hR1).mono ?_
 unfold wagg
 rintro e w2 ⟨rfl,hb2⟩
 have hR2:=hR1.below hb2
 have d1:=hR2.c1
 have f1:=hR2.fz 1
 have l1:=hR2.lt
 go_wp2_with fail
 refine (take_no _ rb g cap ws st.adv.adv _ ((hR2.set1 (st.adv.next+1) (by simp)).alloc _) (by show st.adv.next+1 < 1000;omega) t3).mono ?_
 rintro e w3 ⟨rfl,hR3,hK3⟩
 go_wp2_with fail
 go_ret
 exact Post.nil hR3 ((((hK1.trans (Keep.of_below hb2)).setCell 1 _).alloc _).trans hK3)
theorem cells_new2 (w:World) (o o':Obj):((w.alloc o).alloc o').heap[w.heap.size+1]?=some o':=by
 have:=cells_new (w.alloc o) o'
 simpa using this
theorem terms_round {ws:List Rd.Wd} {c:Nat} {ts:List Int} {st1 st2:Rd.St} {tv:Int} {R:Option (Option (List Int)×Rd.St)} {x:Option Rd.Tr×Rd.St} (h8:c≤8) (h:Rd.terms ws (9 - c) c ts st1=R) (hp:Rd.cfOf R=some x) (ht:Rd.term ws st1=(tv,st2)):
  st1.ok∧st2.ok∧R=bif tv==0 then some (none,st2) else bif Rd.tk ws st2 ⟨#[93]⟩ then some (some (ts++[tv]),st2.adv) else bif c==8 then some (none,st2) else bif Rd.tk ws st2 ⟨#[44]⟩ then Rd.terms ws (9 - (c+1)) (c+1) (ts++[tv]) st2.adv else some (none,st2):=by
 obtain ⟨f,hf⟩:∃ f,9 - c=f+1:=⟨8 - c,by omega⟩
 have hf':9 - (c+1)=f:=by omega
 rw [hf,Rd.terms,ht] at h
 rw [hf']
 cases hg:(st1.okB&&st2.okB) with
 | false=>
  simp only [hg,cond_false] at h
  rw [←h] at hp
  cases hp
 | true=>
  simp only [hg,cond_true] at h
  simp only [Bool.and_eq_true] at hg
  exact ⟨Rd.St.okB_ok hg.1,Rd.St.okB_ok hg.2,h.symm⟩
def contRel (rb g cap:Nat) (ws:List Rd.Wd) (w:World) (R:Option (Option (List Int)×Rd.St)) (l i:Value) (wr:World):Prop:=
 ∃ (c:Nat) (ts:List Int) (st:Rd.St),i=.int .i64 c∧1≤c∧c≤8∧ts.length=c∧wr.ownsRow w.heap.size 3 1 l c (ts.map (Value.int .i64))∧Rdr wr rb g cap ws st∧Keep rb w wr∧Rd.terms ws (9 - c) c ts st=R
theorem block_new {rb b:Nat} {w w':World} {o:Obj} (hk:Keep rb (w.alloc o) w') (hb:b=w.heap.size) (hn:b≠rb):w'.heap[b]?=some o:=by
 subst hb
 rw [hk.block w.heap.size (by simp) hn]
 exact cells_new _ _
theorem continued_any (w:World) (rb g cap:Nat) (ws:List Rd.Wd) (st:Rd.St) (h:Rdr w rb g cap ws st) (hws:WsOk ws) (res:Option Rd.Tr) (st':Rd.St) (hp:Rd.continued ws st=some (res,st')):
  Calls Tryz.prog 201 #[.pointer (some ⟨rb,0,none⟩)] w (Post rb g cap ws w res st'):=by
 unfold Rd.continued at hp
 cases ho:(decide (st.next < 900)&&st.okB) with
 | false=>rw [ho] at hp;cases hp
 | true=>
  rw [ho] at hp
  simp only [Bool.and_eq_true,decide_eq_true_eq] at ho
  have hn:=ho.1
  cases t1:Rd.tk ws st ⟨#[91]⟩ with
  | false=>
   rw [t1] at hp
   simp only [cond_true,cond_false,Option.some.injEq,Prod.mk.injEq] at hp
   obtain ⟨rfl,rfl⟩:=hp
   exact cont_no1 w rb g cap ws st h (by omega) t1
  | true=>
   cases t2:((Rd.wordAt ws st.adv.next).kind==1) with
   | false=>
    rw [t1,t2] at hp
    simp only [cond_true,cond_false,Option.some.injEq,Prod.mk.injEq] at hp
    obtain ⟨rfl,rfl⟩:=hp
    exact cont_no2 w rb g cap ws st h hn t1 (by simp [bne,t2])
   | true=>
    cases t3:Rd.tk ws st.adv.adv ⟨#[59]⟩ with
    | false=>
     rw [t1,t2,t3] at hp
     simp only [cond_true,cond_false,Option.some.injEq,Prod.mk.injEq] at hp
     obtain ⟨rfl,rfl⟩:=hp
     exact cont_no3 w rb g cap ws st h hn t1 (by simp [bne,t2]) t3
    | true=>
     rw [t1,t2,t3] at hp
     exact cont_yes w rb g cap ws st h hn hws t1 (by simp [bne,t2]) t3 res st' hp
def Said (rb g cap:Nat) (ws:List Rd.Wd) (fn:FuncId) (tag f:Nat):Prop:=
 ∀ (w:World) (st:Rd.St) (res:Option Rd.Tr) (st':Rd.St),Rdr w rb g cap ws st→Rd.parse ws f tag none st=some (res,st')→Calls Tryz.prog fn #[.pointer (some ⟨rb,0,none⟩)] w (Post rb g cap ws w res st')
theorem next_some {a:Rd.Ans} {F:Option Rd.Tr→Rd.St→Rd.Ans} {y:Option Rd.Tr×Rd.St} (h:Rd.Ans.next a F=some y):∃ l st,a=some (l,st)∧F l st=some y:=by
 cases a with
 | none=>cases h
 | some x=>exact ⟨x.1,x.2,rfl,h⟩
theorem hideq {p:Prop} (h:p):Hid p:=h
theorem oper_some {k:Int} {l r:Rd.Tr} {st:Rd.St} {F:Option Rd.Tr→Rd.St→Rd.Ans} {y:Option Rd.Tr×Rd.St} (h:Rd.Ans.next (Rd.operOf k l (some r) st) F=some y):st.ok∧F (some (Rd.opT k l r)) st.node=some y:=by
 simp only [Rd.operOf] at h
 cases ho:st.okB with
 | false=>rw [ho] at h;cases h
 | true=>
  rw [ho] at h
  exact ⟨Rd.St.okB_ok ho,h⟩
open Go.RowKit
theorem sum_step (rb g cap:Nat) (ws:List Rd.Wd) (f:Nat) (IH:Hid (∀ k,k < f→Said rb g cap ws 98 2 k)):Said rb g cap ws 64 0 f:=by
 intro w st res st' hR hp
 obtain ⟨f0,rfl⟩:∃ f0,f=f0+1:=by
  cases f with
  | zero=>cases hp
  | succ f0=>exact ⟨f0,rfl⟩
 obtain ⟨l0,st1,hp1,hp2⟩:=next_some hp
 have HP1:Hid (Rd.parse ws f0 2 none st=some (l0,st1)):=hp1
 have HP2:Hid (Rd.parse ws f0 1 l0 st1=some (res,st')):=hp2
 clear hp hp1 hp2
 go_enter Tryz.func64,Tryz.ntmps64
 go_wp2_with fail
 refine (IH.out f0 (by omega) _ st l0 st1 hR HP1.out).mono ?_
 rintro e w1 ⟨v1,rfl,hE1,hR1,hK1⟩
 clear hR HP1
 go_wp2_with fail
 go_loopg [3] f0 (fun k l wr=>∃ lt st2,k≤f0∧EncO rb wr lt l∧Rdr wr rb g cap ws st2∧Keep rb w wr∧Rd.parse ws k 1 lt st2=some (res,st'))
 case atStart=>exact ⟨l0,st1,Nat.le_refl _,hE1,hR1,hK1,HP2.out⟩
 case round=>
  obtain ⟨lt,st2,hk,hE,hR,hK,hp⟩:=hrel
  clear HP2 hE1 hR1 hK1
  obtain ⟨k,hgk⟩:∃ k,gk=k+1:=by
   cases gk with
   | zero=>cases hp
   | succ k=>exact ⟨k,rfl⟩
  rw [hgk] at hp
  have HGK:Hid (gk=k+1):=hgk
  have hkf:k < f0+1:=by omega
  clear hgk
  cases lt with
  | none=>
   simp only [Rd.parse,Option.some.injEq,Prod.mk.injEq] at hp
   obtain ⟨rfl,rfl⟩:=hp
   rw [show _=Value.pointer none from hE]
   clear hE
   go_wp2_with fail
   go_ret
   exact Post.nil hR hK
  | some t=>
   obtain ⟨⟨b,hb⟩,hE2⟩:=hE
   rw [hb]
   rw [hb] at hE2
   clear hb
   rw [Rd.parse] at hp
   cases ho:st2.okB with
   | false=>rw [ho] at hp;cases hp
   | true=>
    rw [ho] at hp
    simp only [cond_true] at hp
    have ok:=Rd.St.okB_ok ho
    have b2:st2.next < 1000:=ok.1
    clear ho ok
    cases u1:Rd.tk ws st2 ⟨#[43]⟩
    ·cases u2:Rd.tk ws st2 ⟨#[45]⟩
     ·rw [u1,u2] at hp
      simp only [cond_false,Option.some.injEq,Prod.mk.injEq] at hp
      obtain ⟨rfl,rfl⟩:=hp
      go_wp2_with fail
      refine (take_no _ rb g cap ws st2 _ hR b2 u1).mono ?_
      rintro e w2 ⟨rfl,hR2,hK2⟩
      go_wp2_with fail
      refine (take_no _ rb g cap ws st2 _ hR2 b2 u2).mono ?_
      rintro e w3 ⟨rfl,hR3,hK3⟩
      go_wp2_with fail
      go_ret
      exact ⟨_,rfl,⟨⟨b,rfl⟩,Enc.keep (hK2.trans hK3) hE2⟩,hR3,(hK.trans hK2).trans hK3⟩
     ·rw [u1,u2] at hp
      simp only [cond_true,cond_false] at hp
      obtain ⟨r,st3,hp1,hp2⟩:=next_some hp
      have HP1:Hid (Rd.parse ws k 2 none st2.adv=some (r,st3)):=hp1
      have HP2:=hideq hp2
      clear hp hp1 hp2
      go_wp2_with fail
      refine (take_no _ rb g cap ws st2 _ hR b2 u1).mono ?_
      rintro e w2 ⟨rfl,hR2,hK2⟩
      go_wp2_with fail
      refine (take_yes _ rb g cap ws st2 _ hR2 b2 u2).mono ?_
      rintro e w3 ⟨rfl,hR3,hK3⟩
      go_wp2_with fail
      refine (IH.out k hkf _ st2.adv r st3 hR3 HP1.out).mono ?_
      rintro e w4 ⟨v4,rfl,hE4,hR4,hK4⟩
      have hE5:Enc rb w4 t (.pointer (some ⟨b,0,none⟩)):=Enc.keep ((hK2.trans hK3).trans hK4) hE2
      have hK5:Keep rb w w4:=((hK.trans hK2).trans hK3).trans hK4
      clear hK hK2 hK3 hK4 hR hR2 hR3 hE2 HP1
      cases r with
      | none=>
       rw [show v4=Value.pointer none from hE4]
       clear hE4
       go_wp2_with fail
       refine (operation_nil _ _ _ _).mono ?_
       rintro e w5 ⟨rfl,rfl⟩
       go_wp2_with fail
       go_roundg k
       case measure=>have:=HGK.out;omega
       case rel=>exact ⟨none,st3,by omega,rfl,hR4,hK5,HP2.out⟩
      | some r=>
       obtain ⟨⟨b4,hb4⟩,hE6⟩:=hE4
       rw [hb4]
       rw [hb4] at hE6
       clear hb4
       obtain ⟨ok3,hp3⟩:=oper_some HP2.out
       clear HP2
       have HP3:=hideq hp3
       have hlt:=hR4.lt
       clear hp3
       go_wp2_with fail
       refine (operation_some _ rb g cap ws st3 _ _ _ hR4 ok3).mono ?_
       rintro e w5 ⟨rfl,hR5,hK6,hnew⟩
       clear hR4
       go_wp2_with fail
       go_roundg k
       case measure=>have:=HGK.out;omega
       case rel=>exact ⟨some (Rd.opT 7 t r),st3.node,by omega,enc_node (by omega) hnew (Or.inl ⟨rfl,rfl⟩) (Enc.keep hK6 hE5) (Enc.keep hK6 hE6),hR5,hK5.trans hK6,HP3.out⟩
    ·rw [u1] at hp
     simp only [cond_true,cond_false] at hp
     obtain ⟨r,st3,hp1,hp2⟩:=next_some hp
     have HP1:Hid (Rd.parse ws k 2 none st2.adv=some (r,st3)):=hp1
     have HP2:=hideq hp2
     clear hp hp1 hp2
     go_wp2_with fail
     refine (take_yes _ rb g cap ws st2 _ hR b2 u1).mono ?_
     rintro e w3 ⟨rfl,hR3,hK3⟩
     go_wp2_with fail
     refine (IH.out k hkf _ st2.adv r st3 hR3 HP1.out).mono ?_
     rintro e w4 ⟨v4,rfl,hE4,hR4,hK4⟩
     have hE5:Enc rb w4 t (.pointer (some ⟨b,0,none⟩)):=Enc.keep (hK3.trans hK4) hE2
     have hK5:Keep rb w w4:=(hK.trans hK3).trans hK4
     clear hK hK3 hK4 hR hR3 hE2 HP1
     cases r with
     | none=>
      rw [show v4=Value.pointer none from hE4]
      clear hE4
      go_wp2_with fail
      refine (operation_nil _ _ _ _).mono ?_
      rintro e w5 ⟨rfl,rfl⟩
      go_wp2_with fail
      go_roundg k
      case measure=>have:=HGK.out;omega
      case rel=>exact ⟨none,st3,by omega,rfl,hR4,hK5,HP2.out⟩
     | some r=>
      obtain ⟨⟨b4,hb4⟩,hE6⟩:=hE4
      rw [hb4]
      rw [hb4] at hE6
      clear hb4
      obtain ⟨ok3,hp3⟩:=oper_some HP2.out
      clear HP2
      have HP3:=hideq hp3
      have hlt:=hR4.lt
      clear hp3
      go_wp2_with fail
      refine (operation_some _ rb g cap ws st3 _ _ _ hR4 ok3).mono ?_
      rintro e w5 ⟨rfl,hR5,hK6,hnew⟩
      clear hR4
      go_wp2_with fail
      go_roundg k
      case measure=>have:=HGK.out;omega
      case rel=>exact ⟨some (Rd.opT 6 t r),st3.node,by omega,enc_node (by omega) hnew (Or.inl ⟨rfl,rfl⟩) (Enc.keep hK6 hE5) (Enc.keep hK6 hE6),hR5,hK5.trans hK6,HP3.out⟩
open Go.RowKit
theorem product_step (rb g cap:Nat) (ws:List Rd.Wd) (f:Nat) (IH:Hid (∀ k,k < f→Said rb g cap ws 142 4 k)):Said rb g cap ws 98 2 f:=by
 intro w st res st' hR hp
 obtain ⟨f0,rfl⟩:∃ f0,f=f0+1:=by
  cases f with
  | zero=>cases hp
  | succ f0=>exact ⟨f0,rfl⟩
 obtain ⟨l0,st1,hp1,hp2⟩:=next_some hp
 have HP1:Hid (Rd.parse ws f0 4 none st=some (l0,st1)):=hp1
 have HP2:Hid (Rd.parse ws f0 3 l0 st1=some (res,st')):=hp2
 clear hp hp1 hp2
 go_enter Tryz.func98,Tryz.ntmps98
 go_wp2_with fail
 refine (IH.out f0 (by omega) _ st l0 st1 hR HP1.out).mono ?_
 rintro e w1 ⟨v1,rfl,hE1,hR1,hK1⟩
 clear hR HP1
 go_wp2_with fail
 go_loopg [3] f0 (fun k l wr=>∃ lt st2,k≤f0∧EncO rb wr lt l∧Rdr wr rb g cap ws st2∧Keep rb w wr∧Rd.parse ws k 3 lt st2=some (res,st'))
 case atStart=>exact ⟨l0,st1,Nat.le_refl _,hE1,hR1,hK1,HP2.out⟩
 case round=>
  obtain ⟨lt,st2,hk,hE,hR,hK,hp⟩:=hrel
  clear HP2 hE1 hR1 hK1
  obtain ⟨k,hgk⟩:∃ k,gk=k+1:=by
   cases gk with
   | zero=>cases hp
   | succ k=>exact ⟨k,rfl⟩
  rw [hgk] at hp
  have HGK:Hid (gk=k+1):=hgk
  have hkf:k < f0+1:=by omega
  clear hgk
  cases lt with
  | none=>
   simp only [Rd.parse,Option.some.injEq,Prod.mk.injEq] at hp
   obtain ⟨rfl,rfl⟩:=hp
   rw [show _=Value.pointer none from hE]
   clear hE
   go_wp2_with fail
   go_ret
   exact Post.nil hR hK
  | some t=>
   obtain ⟨⟨b,hb⟩,hE2⟩:=hE
   rw [hb]
   rw [hb] at hE2
   clear hb
   rw [Rd.parse] at hp
   cases ho:st2.okB with
   | false=>rw [ho] at hp;cases hp
   | true=>
    rw [ho] at hp
    simp only [cond_true] at hp
    have ok:=Rd.St.okB_ok ho
    have b2:st2.next < 1000:=ok.1
    clear ho ok
    cases u1:Rd.tk ws st2 ⟨#[42]⟩
    ·cases u2:Rd.tk ws st2 ⟨#[47]⟩
     ·rw [u1,u2] at hp
      simp only [cond_false,Option.some.injEq,Prod.mk.injEq] at hp
      obtain ⟨rfl,rfl⟩:=hp
      go_wp2_with fail
      refine (take_no _ rb g cap ws st2 _ hR b2 u1).mono ?_
      rintro e w2 ⟨rfl,hR2,hK2⟩
      go_wp2_with fail
      refine (take_no _ rb g cap ws st2 _ hR2 b2 u2).mono ?_
      rintro e w3 ⟨rfl,hR3,hK3⟩
      go_wp2_with fail
      go_ret
      exact ⟨_,rfl,⟨⟨b,rfl⟩,Enc.keep (hK2.trans hK3) hE2⟩,hR3,(hK.trans hK2).trans hK3⟩
     ·rw [u1,u2] at hp
      simp only [cond_true,cond_false] at hp
      obtain ⟨r,st3,hp1,hp2⟩:=next_some hp
      have HP1:Hid (Rd.parse ws k 4 none st2.adv=some (r,st3)):=hp1
      have HP2:=hideq hp2
      clear hp hp1 hp2
      go_wp2_with fail
      refine (take_no _ rb g cap ws st2 _ hR b2 u1).mono ?_
      rintro e w2 ⟨rfl,hR2,hK2⟩
      go_wp2_with fail
      refine (take_yes _ rb g cap ws st2 _ hR2 b2 u2).mono ?_
      rintro e w3 ⟨rfl,hR3,hK3⟩
      go_wp2_with fail
      refine (IH.out k hkf _ st2.adv r st3 hR3 HP1.out).mono ?_
      rintro e w4 ⟨v4,rfl,hE4,hR4,hK4⟩
      have hE5:Enc rb w4 t (.pointer (some ⟨b,0,none⟩)):=Enc.keep ((hK2.trans hK3).trans hK4) hE2
      have hK5:Keep rb w w4:=((hK.trans hK2).trans hK3).trans hK4
      clear hK hK2 hK3 hK4 hR hR2 hR3 hE2 HP1
      cases r with
      | none=>
       rw [show v4=Value.pointer none from hE4]
       clear hE4
       go_wp2_with fail
       refine (operation_nil _ _ _ _).mono ?_
       rintro e w5 ⟨rfl,rfl⟩
       go_wp2_with fail
       go_roundg k
       case measure=>have:=HGK.out;omega
       case rel=>exact ⟨none,st3,by omega,rfl,hR4,hK5,HP2.out⟩
      | some r=>
       obtain ⟨⟨b4,hb4⟩,hE6⟩:=hE4
       rw [hb4]
       rw [hb4] at hE6
       clear hb4
       obtain ⟨ok3,hp3⟩:=oper_some HP2.out
       clear HP2
       have HP3:=hideq hp3
       have hlt:=hR4.lt
       clear hp3
       go_wp2_with fail
       refine (operation_some _ rb g cap ws st3 _ _ _ hR4 ok3).mono ?_
       rintro e w5 ⟨rfl,hR5,hK6,hnew⟩
       clear hR4
       go_wp2_with fail
       go_roundg k
       case measure=>have:=HGK.out;omega
       case rel=>exact ⟨some (Rd.opT 9 t r),st3.node,by omega,enc_node (by omega) hnew (Or.inl ⟨rfl,rfl⟩) (Enc.keep hK6 hE5) (Enc.keep hK6 hE6),hR5,hK5.trans hK6,HP3.out⟩
    ·rw [u1] at hp
     simp only [cond_true,cond_false] at hp
     obtain ⟨r,st3,hp1,hp2⟩:=next_some hp
     have HP1:Hid (Rd.parse ws k 4 none st2.adv=some (r,st3)):=hp1
     have HP2:=hideq hp2
     clear hp hp1 hp2
     go_wp2_with fail
     refine (take_yes _ rb g cap ws st2 _ hR b2 u1).mono ?_
     rintro e w3 ⟨rfl,hR3,hK3⟩
     go_wp2_with fail
     refine (IH.out k hkf _ st2.adv r st3 hR3 HP1.out).mono ?_
     rintro e w4 ⟨v4,rfl,hE4,hR4,hK4⟩
     have hE5:Enc rb w4 t (.pointer (some ⟨b,0,none⟩)):=Enc.keep (hK3.trans hK4) hE2
     have hK5:Keep rb w w4:=(hK.trans hK3).trans hK4
     clear hK hK3 hK4 hR hR3 hE2 HP1
     cases r with
     | none=>
      rw [show v4=Value.pointer none from hE4]
      clear hE4
      go_wp2_with fail
      refine (operation_nil _ _ _ _).mono ?_
      rintro e w5 ⟨rfl,rfl⟩
      go_wp2_with fail
      go_roundg k
      case measure=>have:=HGK.out;omega
      case rel=>exact ⟨none,st3,by omega,rfl,hR4,hK5,HP2.out⟩
     | some r=>
      obtain ⟨⟨b4,hb4⟩,hE6⟩:=hE4
      rw [hb4]
      rw [hb4] at hE6
      clear hb4
      obtain ⟨ok3,hp3⟩:=oper_some HP2.out
      clear HP2
      have HP3:=hideq hp3
      have hlt:=hR4.lt
      clear hp3
      go_wp2_with fail
      refine (operation_some _ rb g cap ws st3 _ _ _ hR4 ok3).mono ?_
      rintro e w5 ⟨rfl,hR5,hK6,hnew⟩
      clear hR4
      go_wp2_with fail
      go_roundg k
      case measure=>have:=HGK.out;omega
      case rel=>exact ⟨some (Rd.opT 8 t r),st3.node,by omega,enc_node (by omega) hnew (Or.inl ⟨rfl,rfl⟩) (Enc.keep hK6 hE5) (Enc.keep hK6 hE6),hR5,hK5.trans hK6,HP3.out⟩
end Go.Proofs.YteghhlfmcjmnoaaGreatDoor
