import Derived.Test.YteghhlfmcjmnoaaGreatDoorCDe13
import Derived.Test.YteghhlfmcjmnoaaGreatDoorCDe05
import Derived.Test.YteghhlfmcjmnoaaGreatDoorCDe11
set_option linter.unusedSimpArgs false
set_option linter.unusedVariables false
set_option maxRecDepth 100000
set_option maxHeartbeats 2000000
namespace Go.Proofs.YteghhlfmcjmnoaaGreatDoor
open Go.RowKit
namespace Ab
open Rf (Nd Inv NInv)
def ndW (hs:Bool)(uns mt lr rr pl:Int)(lp rp cst nst gv:AC):Box:=wrt (ndC hs uns mt lr rr pl lp rp cst nst gv) 205
def fuW (c:Int):Box:=wrt [.sint .i64 c] 195
def sWn (ns:List (Int×Nat))(hs:Bool)(uns mt lr rr pl c:Int)(lp rp cst nst gv:AC)(ex:List (Nat×Box))(dirty:List Nat)(tm:List AT):AS:=⟨tm,(0,ndW hs uns mt lr rr pl lp rp cst nst gv)::(6,fuW c)::ex,7,ns,dirty⟩
def sW (zs:List Int)(hs:Bool)(uns mt lr rr pl c:Int)(lp rp cst nst gv:AC)(ex:List (Nat×Box))(tm:List AT):AS:=sWn (zs.map fun z=>(z,10)) hs uns mt lr rr pl c lp rp cst nst gv ex [] tm
def argT (m:Nat):List AT:=.val (.one (.ptr 0 0))::.val (.one (.ptr 6 0))::List.replicate m .und
def slot (l:List (Nat×AT)):Nat->Nat->List AT
 | _,0=>[]
 | i,m+1=>(match l.find? (fun x=>x.1==i) with | some x=>x.2 | none=>.top)::slot l (i+1) m
def sl0 (m:Nat):List AT:=slot [] 0 m
noncomputable def bW:FuncId->Option Func:=fun f=>bif f==198 then some Tryz.f198 else none
theorem bW_ok:BodiesOk Z bW:=by
 intro f fn h
 unfold bW at h
 cases h1:f==198 with
 | true=>
  rw [h1] at h
  cases h
  have:f=198:=by simpa using h1
  subst this
  exact ⟨(fn_of Tryz.func198 rfl rfl).at',(fn_of Tryz.func198 rfl rfl).en⟩
 | false=>rw [h1] at h;cases h
theorem cs_hold {φ:Nat->Option (Nat×Nat)}{ν:List (Int×Nat)}{w:World}:∀ (zs:List Int) (i:Nat) (xs:List Value),All2 (relC Z φ ν w) (numCs true i zs.length) xs->(∀ (j:Nat) (z:Int),zs[j]?=some z->∃ b,ν[i+j]?=some (z,b))->Hold true w zs xs
 | [],i,[],_,_=>trivial
 | [],i,_::_,h,_=>h.elim
 | z::zs,i,[],h,_=>by simp [numCs] at h;exact h.elim
 | z::zs,i,[x],h,_=>by simp [numCs] at h;exact h.2.elim
 | z::zs,i,x::y::xs,h,hν=>by
  have h':All2 (relC Z φ ν w) (.sg i::.dg true i::numCs true (i+1) zs.length) (x::y::xs):=h
  obtain ⟨⟨z1,n1,e1,e2⟩,⟨z2,n2,f1,f2,f3⟩,h3⟩:=h'
  obtain ⟨b,hb⟩:=hν 0 z rfl
  rw [Nat.add_zero] at hb
  rw [hb] at e1 f1
  cases e1
  cases f1
  exact ⟨e2,f2,cs_hold zs (i+1) xs h3 fun j y hy=>by rw [show i+1+j=i+(j+1) by omega];exact hν (j+1) y (by simpa using hy)⟩
def phW (k fb:Nat)(ex:Nat->Option (Nat×Nat)):Nat->Option (Nat×Nat):=fun b=>if b=0 then some (k,0) else if b=6 then some (fb,0) else if b<6 then ex b else none
theorem phW_0 (k fb:Nat)(ex:Nat->Option (Nat×Nat)):phW k fb ex 0=some (k,0):=rfl
theorem phW_6 (k fb:Nat)(ex:Nat->Option (Nat×Nat)):phW k fb ex 6=some (fb,0):=rfl
theorem phW_ge (k fb:Nat)(ex:Nat->Option (Nat×Nat)){b:Nat}(h:7<=b):phW k fb ex b=none:=by
 unfold phW
 rw [if_neg (by omega),if_neg (by omega),if_neg (by omega)]
theorem sW_rep {w:World}{k fb:Nat}{exφ:Nat->Option (Nat×Nat)}{ex:List (Nat×Box)}{zs:List Int}{hs:Bool}{uns mt lr rr pl c:Int}{lp rp gv cv nv:Value}{lpC rpC gvC cvC nvC:AC}(hn:NodeAt w k zs hs uns mt lr rr pl lp rp gv cv nv)(h8:zs.length=8)(hb:∀ z∈zs,Bits 10 z)(hf:w.heap[fb]?=some (.cells #[.int .i64 c] 195 (0,0)))
  (hl:relC Z (phW k fb exφ) (zs.map fun z=>(z,10)) w lpC lp) (hr:relC Z (phW k fb exφ) (zs.map fun z=>(z,10)) w rpC rp) (hg:relC Z (phW k fb exφ) (zs.map fun z=>(z,10)) w gvC gv) (hc:relC Z (phW k fb exφ) (zs.map fun z=>(z,10)) w cvC cv) (hm:relC Z (phW k fb exφ) (zs.map fun z=>(z,10)) w nvC nv)
  (hex:∀ b B,look ex b=some B->B.own=false/\B.tip=false/\B.ro=true/\∃ k' o,phW k fb exφ b=some (k',o)/\k'≠k/\k'≠fb/\Seg Z (phW k fb exφ) (zs.map fun z=>(z,10)) w k' o B.ty B.cs) (hlt:∀ b k' o,exφ b=some (k',o)->k'<w.heap.size) (tm:List AT):
  RepW Z w (phW k fb exφ) (phW k fb exφ) (sW zs hs uns mt lr rr pl c lpC rpC cvC nvC gvC ex tm) w:=by
 obtain ⟨xs,h1,h2⟩:=hn.ex
 have hkf:k≠fb:=by
  intro e
  subst e
  rw [h1] at hf
  have:=(Obj.cells.inj (Option.some.inj hf)).2.1
  exact absurd this (by decide)
 have hcs:All2 (relC Z (phW k fb exφ) (zs.map fun z=>(z,10)) w) (ndC hs uns mt lr rr pl lpC rpC cvC nvC gvC) (.bool hs::xs++[cv,.int .i64 mt,lp,.int .i64 lr,rp,.int .i64 rr,gv,.int .i64 uns,nv,.int .i64 pl]):=by
  have hx:All2 (relC Z (phW k fb exφ) (zs.map fun z=>(z,10)) w) (numCs true 0 8) xs:=by
   rw [<-h8]
   exact hold_cs zs xs 0 _ h2 hb fun j z hz=>by rw [Nat.zero_add,List.getElem?_map,hz];rfl
  exact All2.append (show All2 (relC Z (phW k fb exφ) (zs.map fun z=>(z,10)) w) (.sbool hs::numCs true 0 8) (.bool hs::xs) from ⟨rfl,hx⟩) ⟨hc,rfl,hl,rfl,hr,rfl,hg,rfl,hm,rfl,trivial⟩
 have s0:Seg Z (phW k fb exφ) (zs.map fun z=>(z,10)) w k 0 205 (ndC hs uns mt lr rr pl lpC rpC cvC nvC gvC):=⟨[],_,[],by simpa using h1,rfl,hcs⟩
 have s6:Seg Z (phW k fb exφ) (zs.map fun z=>(z,10)) w fb 0 195 [.sint .i64 c]:=⟨[],[.int .i64 c],[],by simpa using hf,rfl,rfl,trivial⟩
 have hbox:∀ b B,look (sW zs hs uns mt lr rr pl c lpC rpC cvC nvC gvC ex tm).boxes b=some B->(b=0/\B=ndW hs uns mt lr rr pl lpC rpC cvC nvC gvC)\/(b=6/\B=fuW c)\/look ex b=some B:=by
  intro b B h
  simp only [sW,sWn,look] at h
  cases e0:(0==b) with
  | true=>
   rw [e0] at h
   simp only [cond_true,Option.some.injEq] at h
   exact Or.inl ⟨(show 0=b by simpa using e0).symm,h.symm⟩
  | false=>
   rw [e0] at h
   simp only [cond_false] at h
   cases e6:(6==b) with
   | true=>
    rw [e6] at h
    simp only [cond_true,Option.some.injEq] at h
    exact Or.inr (Or.inl ⟨(show 6=b by simpa using e6).symm,h.symm⟩)
   | false=>
    rw [e6] at h
    exact Or.inr (Or.inr h)
 refine rep_wr rfl ?_ ?_ (fun b hb=>phW_ge k fb exφ hb) ?_
 ·intro b B hB
  rcases hbox b B hB with ⟨rfl,rfl⟩ | ⟨rfl,rfl⟩ | h
  ·exact ⟨rfl,rfl,k,0,rfl,s0⟩
  ·exact ⟨rfl,rfl,fb,0,rfl,s6⟩
  ·obtain ⟨g1,g2,_,k',o,g3,_,_,g4⟩:=hex b B h
   exact ⟨g1,g2,k',o,g3,g4⟩
 ·intro b b' B B' kk o o' hB hB' hk hk'
  rcases hbox b B hB with ⟨rfl,rfl⟩ | ⟨rfl,rfl⟩ | h
  ·rw [phW_0] at hk
   cases hk
   rcases hbox b' B' hB' with ⟨rfl,rfl⟩ | ⟨rfl,rfl⟩ | h'
   ·exact Or.inl rfl
   ·rw [phW_6] at hk';cases hk';exact absurd rfl hkf
   ·obtain ⟨_,_,_,k',o,g3,g5,_⟩:=hex b' B' h'
    rw [hk'] at g3;cases g3;exact absurd rfl g5
  ·rw [phW_6] at hk
   cases hk
   rcases hbox b' B' hB' with ⟨rfl,rfl⟩ | ⟨rfl,rfl⟩ | h'
   ·rw [phW_0] at hk';cases hk';exact absurd rfl hkf
   ·exact Or.inl rfl
   ·obtain ⟨_,_,_,k',o,g3,_,g5,_⟩:=hex b' B' h'
    rw [hk'] at g3;cases g3;exact absurd rfl g5
  ·obtain ⟨_,_,g0,k',o,g3,g5,g6,_⟩:=hex b B h
   rw [hk] at g3
   cases g3
   rcases hbox b' B' hB' with ⟨rfl,rfl⟩ | ⟨rfl,rfl⟩ | h'
   ·rw [phW_0] at hk';cases hk';exact absurd rfl g5
   ·rw [phW_6] at hk';cases hk';exact absurd rfl g6
   ·exact Or.inr ⟨g0,(hex b' B' h').2.2.1⟩
 ·intro b kk o h
  unfold phW at h
  split at h
  ·cases h;exact lt_of_heap h1
  ·split at h
   ·cases h;exact lt_of_heap hf
   ·split at h
    ·exact hlt b kk o h
    ·cases h
theorem sW_out {w w':World}{k fb:Nat}{exφ φ':Nat->Option (Nat×Nat)}{zs:List Int}{ns:List (Int×Nat)}{hs:Bool}{uns mt lr rr pl c:Int}{lpC rpC gvC cvC nvC:AC}{s:AS}(hw:RepW Z w (phW k fb exφ) φ' s w')(h0:look s.boxes 0=some (ndW hs uns mt lr rr pl lpC rpC cvC nvC gvC))(h6:look s.boxes 6=some (fuW c))(hk:w.shape? k=some (205,27))(hf:w.shape? fb=some (195,1))(h8:zs.length=8)(hz:∀ (j:Nat) (z:Int),zs[j]?=some z->∃ b,s.nums[j]?=some (z,b)):
  (∃ lp rp gv cv nv,NodeAt w' k zs hs uns mt lr rr pl lp rp gv cv nv/\relC Z φ' s.nums w' lpC lp/\relC Z φ' s.nums w' rpC rp/\relC Z φ' s.nums w' gvC gv/\relC Z φ' s.nums w' cvC cv/\relC Z φ' s.nums w' nvC nv)/\w'.heap[fb]?=some (.cells #[.int .i64 c] 195 (0,0)):=by
 have p0:=hw.base 0 (k,0) rfl
 have p6:=hw.base 6 (fb,0) rfl
 constructor
 ·obtain ⟨k',o,pre,ys,post,g1,g2,g3,g4⟩:=hw.box 0 _ h0
  rw [p0] at g1
  cases g1
  have hpre:pre=[]:=List.length_eq_zero_iff.1 g3
  subst hpre
  have hsh:=hw.on.shape hk
  unfold World.shape? at hsh
  rw [g2] at hsh
  simp only [Option.some.injEq,Prod.mk.injEq,List.size_toArray,List.nil_append,List.length_append] at hsh
  have hl:=g4.len
  have hl27:(ndW hs uns mt lr rr pl lpC rpC cvC nvC gvC).cs.length=27:=rfl
  have hpost:post=[]:=List.length_eq_zero_iff.1 (by omega)
  subst hpost
  simp only [List.nil_append,List.append_nil] at g2
  have g4':All2 (relC Z φ' s.nums w') (.sbool hs::numCs true 0 8++[cvC,.sint .i64 mt,lpC,.sint .i64 lr,rpC,.sint .i64 rr,gvC,.sint .i64 uns,nvC,.sint .i64 pl]) ys:=g4
  match ys,g4',hl,g2 with
  | y::ys,⟨hy,g5⟩,hl,g2=>
   have hlen:ys.length=26:=by rw [hl27] at hl;simp at hl;omega
   have e:ys=ys.take 16++ys.drop 16:=(List.take_append_drop 16 ys).symm
   have ga:All2 (relC Z φ' s.nums w') (numCs true 0 8) (ys.take 16):=by
    have:=g5.take 16
    simpa [numCs] using this
   have gb:=g5.drop 16
   have gb':All2 (relC Z φ' s.nums w') [cvC,.sint .i64 mt,lpC,.sint .i64 lr,rpC,.sint .i64 rr,gvC,.sint .i64 uns,nvC,.sint .i64 pl] (ys.drop 16):=gb
   have hold:Hold true w' zs (ys.take 16):=cs_hold zs 0 _ (by rw [h8];exact ga) (by simpa using hz)
   have hy:y=.bool hs:=hy
   match hd:ys.drop 16,gb' with
   | [a0,a1,a2,a3,a4,a5,a6,a7,a8,a9],gb'=>
    obtain ⟨b0,b1,b2,b3,b4,b5,b6,b7,b8,b9,_⟩:=gb'
    have b1:a1=.int .i64 mt:=b1
    have b3:a3=.int .i64 lr:=b3
    have b5:a5=.int .i64 rr:=b5
    have b7:a7=.int .i64 uns:=b7
    have b9:a9=.int .i64 pl:=b9
    refine ⟨a2,a4,a6,a0,a8,⟨ys.take 16,?_,hold⟩,b2,b4,b6,b0,b8⟩
    have e2:ys=ys.take 16++[a0,.int .i64 mt,a2,.int .i64 lr,a4,.int .i64 rr,a6,.int .i64 uns,a8,.int .i64 pl]:=by
     rw [<-b1,<-b3,<-b5,<-b7,<-b9,<-hd]
     exact e
    rw [g2,hy]
    generalize ys.take 16=t at e2
    subst e2
    rfl
 ·obtain ⟨k',o,pre,ys,post,g1,g2,g3,g4⟩:=hw.box 6 _ h6
  rw [p6] at g1
  cases g1
  have hpre:pre=[]:=List.length_eq_zero_iff.1 g3
  subst hpre
  have hsh:=hw.on.shape hf
  unfold World.shape? at hsh
  rw [g2] at hsh
  simp only [Option.some.injEq,Prod.mk.injEq,List.size_toArray,List.nil_append,List.length_append] at hsh
  have g4':All2 (relC Z φ' s.nums w') [.sint .i64 c] ys:=g4
  match ys,g4' with
  | [y],⟨hy,_⟩=>
   have hy:y=.int .i64 c:=hy
   have hpost:post=[]:=by have:=hsh.2;simpa using this
   subst hpost
   rw [g2,hy]
   rfl
  | _::_::_,⟨_,h⟩=>exact h.elim
theorem NodeAt.shape {w:World}{k:Nat}{zs:List Int}{hs:Bool}{uns mt lr rr pl:Int}{lp rp gv cv nv:Value}(h:NodeAt w k zs hs uns mt lr rr pl lp rp gv cv nv)(h8:zs.length=8):w.shape? k=some (205,27):=by
 obtain ⟨xs,h1,h2⟩:=h.ex
 have:=hold_len zs xs h2
 unfold World.shape?
 rw [h1]
 simp
 omega
theorem fuel_shape {w:World}{fb:Nat}{c:Int}(h:w.heap[fb]?=some (.cells #[.int .i64 c] 195 (0,0))):w.shape? fb=some (195,1):=by
 unfold World.shape?
 rw [h]
 rfl
theorem sW_chg {w w':World}{k fb:Nat}{exφ φ':Nat->Option (Nat×Nat)}{s:AS}(hw:RepW Z w (phW k fb exφ) φ' s w')(hd:s.dirty.all (fun b=>b==0||b==6)=true):Chg w w' [k,fb]:=by
 refine ⟨hw.on,fun j hj hn=>hw.low j hj fun b hb o e=>?_⟩
 have:=List.all_eq_true.1 hd b hb
 simp only [Bool.or_eq_true,beq_iff_eq] at this
 rcases this with rfl | rfl
 ·rw [hw.base 0 (k,0) rfl] at e;cases e;exact hn (by simp)
 ·rw [hw.base 6 (fb,0) rfl] at e;cases e;exact hn (by simp)
theorem Chg.below {w w':World}{D:List Nat}{b0:Nat}(h:Chg w w' D)(hb:b0<=w.heap.size)(hD:∀ k∈D,b0<=k):Below b0 w w':=
 ⟨h.on.os,h.on.tape,h.on.output,h.on.size,fun k hk=>h.low k (by omega) fun e=>by have:=hD k e;omega⟩
end Ab
open Go.RowKit
namespace Ab
def appAt (s:AS):List (K (List AT))->Option (TypeId×TypeId×TypeId×AT×AT×Option Tmp×List (K (List AT)))
 | .ops all (i::rest)::ks=>(all[i]?).bind fun o=>
  match gd all s.tmps o with
  | .yes=>match o.op with
   | .call { callee:=.builtin .append,args:=args,argTypes:=ts}=>match ts.toList,args.toList with
    | [t,t'],[x,y]=>some (t,t',o.type,evO s.tmps x,evO s.tmps y,o.dst,.ops all rest::ks)
    | _,_=>none
   | _=>none
  | _=>none
 | _=>none
theorem appAt_ok {C:Cfg}{R:Ending->World->Prop}{w0:World}{ψ φ:Nat->Option (Nat×Nat)}{s:AS}{a:Act}{w:World}{ks ks2:List (K (List AT))}{kcs:List (K Act)}{t t' ty:TypeId}{sv xv:AT}{dst:Option Tmp}(h:appAt s ks=some (t,t',ty,sv,xv,dst,ks2))(hfr:noFr ks=true){φ1:Nat->Option (Nat×Nat)}{ν1:List (Int×Nat)}{w1:World}(hsr:SR C φ1 ν1 w1 ks kcs)(hr:Rep C w0 ψ φ s a w)
  (H:∀ v1 v2,relT C φ s.nums w sv v1->relT C φ s.nums w xv v2->∃ v w',(Builtin.append_ #[t,t'] ty #[v1,v2]).run C.P w=.ok v w'/\∀ kcs2,noFr ks2=true->(∀ φ' ν' w'',SR C φ' ν' w'' ks2 kcs2)->sem C.P R kcs2 .normal (a.put dst v) w'):sem C.P R kcs .normal a w:=by
 unfold appAt at h
 split at h
 ·rename_i all i rest ks'
  obtain ⟨o,ho,h2⟩:=bnd h
  split at h2
  ·rename_i hg
   split at h2
   ·rename_i args ts hop
    split at h2
    ·rename_i t0 t0' x y e1 e2
     cases h2
     match kcs,hsr with
     | .ops all' r'::kcs',⟨q1,q2,hsr2⟩=>
      subst q1 q2
      show wpOps C.P all' (sem C.P R kcs') (i::rest) a w
      rw [wpOps_cons]
      have hw:=gd_ok (all:=all') (o:=o) hr.tmps
      rw [hg] at hw
      have ea:args=#[x,y]:=by apply Array.toList_inj.1;rw [e2]
      have et:ts=#[t,t']:=by apply Array.toList_inj.1;rw [e1]
      subst ea et
      obtain ⟨v,w',r1,r2⟩:=H _ _ (evO_ok hr.tmps x) (evO_ok hr.tmps y)
      unfold wpOp
      simp only [ho]
      rw [if_pos hw]
      refine Or.inl ?_
      unfold Oper.wp
      have r3:(execOp a.eval o).run C.P w=.ok (.value v) w':=by
       unfold execOp
       rw [hop]
       show ((do pure (Next.value (<-Builtin.append_ #[t,t'] o.type (#[x,y].map a.eval))):Sem Next).run C.P w)=_
       have e:#[x,y].map a.eval=#[a.eval x,a.eval y]:=by simp
       rw [e,Sem.run_bind,r1]
       rfl
      rw [r3]
      have hfr2:noFr ks'=true:=by simpa [noFr] using hfr
      exact r2 (.ops all' rest::kcs') (by simpa [noFr] using hfr) fun φ' ν' w''=>⟨rfl,rfl,SR.any hfr2 hsr2⟩
    ·cases h2
   ·cases h2
  ·cases h2
 ·cases h
theorem growBy_le (m:Nat):∀ (r c:Nat),Builtin.growBy m r c<=(c+768)*2^r
 | 0,c=>by simp [Builtin.growBy]
 | r+1,c=>by
  have e:(c+768)*2^(r+1)=((c+768)*2)*2^r:=by rw [Nat.pow_succ];grind
  unfold Builtin.growBy
  split
  ·have h1:1<=2^(r+1):=Nat.one_le_two_pow
   have:(c+768)*1<=(c+768)*2^(r+1):=Nat.mul_le_mul_left _ h1
   omega
  ·refine Nat.le_trans (growBy_le m r _) ?_
   rw [e]
   exact Nat.mul_le_mul_right _ (by omega)
theorem cap_mid {need cap:Nat}(h1:cap<need)(h2:need<=100000):Builtin.nextslicecap need cap<=2000000:=by
 unfold Builtin.nextslicecap
 split
 ·omega
 ·split
  ·omega
  ·refine Nat.le_trans (growBy_le need 4 cap) ?_
   rw [show (2:Nat)^4=16 from rfl]
   omega
theorem app_grow' {P:Program}{t t' e e' ty:TypeId}{size sLen sCap n xc:Nat}{b xb:Option Addr}{old new:Array Value}{zv:Value}{i:TypeInfo}{w:World}(hu:P.underlying t=some (.slice e))(hu':P.underlying t'=some (.slice e'))(hsz:szOf P e=some size)(hi:P.info? e=some i)(hby:i.bytes<=1000000)
  (hz:∀ w,(zeroValue e).run P w=.ok zv w)
  (hold:∀ w',w'.heap=w.heap->(Builtin.firstCells size sLen (.slice b sLen sCap)).run P w'=.ok old w') (hnew:∀ w',w'.heap=w.heap->(Builtin.firstCells size n (.slice xb n xc)).run P w'=.ok new w') (h:¬sLen+n<=sCap) (hs:sLen+n<=100000):
  ∃ cap,sLen+n<=cap/\(Builtin.append_ #[t,t'] ty #[.slice b sLen sCap,.slice xb n xc]).run P w=.ok (.slice (some ⟨w.heap.size,0,none⟩) (sLen+n) cap) {w with heap:=w.heap.push (.cells (old++new++Builtin.zeroCells zv.cells (cap-(sLen+n))) e),drawn:=w.drawn+1}:=by
 have h1:¬((sLen+n:Nat):Int)>IntKind.i64.max:=by
  have:IntKind.i64.max=9223372036854775807:=by decide
  omega
 have h1':¬(IntKind.i64.max<(sLen:Int)+(n:Int)):=by
  have:IntKind.i64.max=9223372036854775807:=by decide
  omega
 have h2:¬(Builtin.nextslicecap (sLen+n) sCap*i.bytes>2^48):=by
  have:=cap_mid (need:=sLen+n) (cap:=sCap) (by omega) hs
  have:Builtin.nextslicecap (sLen+n) sCap*i.bytes<=2000000*1000000:=Nat.mul_le_mul this hby
  omega
 have h2':¬(281474976710656<Builtin.nextslicecap (sLen+n) sCap*i.bytes):=by simpa using h2
 refine ⟨(Question.appendCap (sLen+n) sCap e).cut (w.tape w.drawn (.appendCap (sLen+n) sCap e)),by simp [Question.cut],?_⟩
 have h1'':¬((9223372036854775807:Int)<(sLen:Int)+(n:Int)):=by omega
 have d1:=hold w.drew rfl
 have d2:=hnew w.drew rfl
 simp [Builtin.append_,underlying,hu,hu',run_sizeOf hsz,Builtin.lenOf,h,typeInfo,hi,h1'',h2',Question.forced,d1,d2,hz,newRow]
 rfl
def RowOf (w:World)(e:TypeId)(xs:List Value)(v:Value)(g:Option Nat):Prop:=
 (v=.slice none 0 0/\xs=[]/\g=none)\/∃ b cap,∃ rest:List Value,g=some b/\v=.slice (some ⟨b,0,none⟩) xs.length cap/\w.heap[b]?=some (.cells (xs++rest).toArray e (0,0))/\xs.length<=cap/\cap<=xs.length+rest.length
theorem zeroCells_len (z:Array Value)(n:Nat):(Builtin.zeroCells z n).size=n*z.size:=by
 simp [Builtin.zeroCells]
theorem app_row {bt:List TypeId}{P:Program}{t t' e ty:TypeId}{i:TypeInfo}{zv:Value}(hu:P.underlying t=some (.slice e))(hu':P.underlying t'=some (.slice e))(hsz:szOf P e=some 1)(hi:P.info? e=some i)(hby:i.bytes<=1000000)(hz:∀ w,(zeroValue e).run P w=.ok zv w)(hzs:zv.cells.size=1)(hbt:bt.contains e=true)
  {w:World} {xs:List Value} {v xv x:Value} {g:Option Nat} (hrow:RowOf w e xs v g) {k xc:Nat} {pre post:List Value} {ty':TypeId} (hx:w.heap[k]?=some (.cells (pre++[x]++post).toArray ty' (0,0))) (hxv:xv=.slice (some ⟨k,pre.length,none⟩) 1 xc) (hx1:One x) (hlen:xs.length<=99999):
  ∃ v' w' b,(Builtin.append_ #[t,t'] ty #[v,xv]).run P w=.ok v' w'/\RowOf w' e (xs++[x]) v' (some b)/\(g=some b\/w.heap.size<=b)/\On bt w w'/\∀ j,j<w.heap.size->j≠b->w'.heap[j]?=w.heap[j]?:=by
 subst hxv
 have hnew:∀ w',w'.heap=w.heap->(Builtin.firstCells 1 1 (.slice (some ⟨k,pre.length,none⟩) 1 xc)).run P w'=.ok #[x] w':=fun w' hw=>firstCells_row (ys:=[x]) (by rw [hw];exact hx) rfl
 have grow:∀ (bo:Option Addr) (cap:Nat),v=.slice bo xs.length cap->¬xs.length+1<=cap->(∀ w',w'.heap=w.heap->(Builtin.firstCells 1 xs.length (.slice bo xs.length cap)).run P w'=.ok xs.toArray w')->∃ v' w' b,(Builtin.append_ #[t,t'] ty #[v,.slice (some ⟨k,pre.length,none⟩) 1 xc]).run P w=.ok v' w'/\RowOf w' e (xs++[x]) v' (some b)/\(g=some b\/w.heap.size<=b)/\On bt w w'/\∀ j,j<w.heap.size->j≠b->w'.heap[j]?=w.heap[j]?:=by
  intro bo cap hv hc hold
  obtain ⟨cap',c1,c2⟩:=app_grow' (ty:=ty) hu hu' hsz hi hby hz hold hnew hc (by omega)
  subst hv
  refine ⟨_,_,w.heap.size,c2,Or.inr ⟨w.heap.size,cap',(Builtin.zeroCells zv.cells (cap'-(xs.length+1))).toList,rfl,by simp,?_,by simpa using c1,?_⟩,Or.inr (Nat.le_refl _),⟨rfl,rfl,rfl,by simp,fun j o hj=>Or.inl ?_⟩,fun j hj _=>?_⟩
  ·rw [Array.getElem?_push_size]
   congr 2
   apply Array.toList_inj.1
   simp
  ·have hl:=zeroCells_len zv.cells (cap'-(xs.length+1))
   rw [hzs] at hl
   simp [hl]
   omega
  ·obtain ⟨hj1,hj2⟩:=Array.getElem?_eq_some_iff.1 hj
   rw [Array.getElem?_push_lt hj1,hj2]
  ·rw [Array.getElem?_push_lt hj,Array.getElem?_eq_getElem hj]
 rcases hrow with ⟨h1,h2,h3⟩ | ⟨b,cap,rest,h1,h2,h3,h4,h5⟩
 ·subst h2
  exact grow none 0 h1 (by simp) fun w' _=>firstCells_nil
 ·by_cases hc:xs.length+1<=cap
  ·subst h2
   have pl:=app_place (ty:=ty) (a:=⟨b,0,none⟩) (sLen:=xs.length) hu hu' hsz (hnew w rfl) hc
   obtain ⟨w',s1,s2⟩:=run_storeCells (P:=P) xs.length [x] 0 w (xs++rest) h3 (by simp;omega) (by simpa using hx1)
   have e1:(⟨b,0,none⟩:Addr).add (xs.length*1)=⟨b,xs.length,none⟩:=by rw [add_addr];simp
   rw [e1,show (#[x]:Array Value).toList=[x] from rfl,s1] at pl
   simp only [Result.andThen_ok] at pl
   rw [Nat.add_zero,splice_eq _ _ _ (by simp;omega)] at s2
   have t1:(xs++rest).take xs.length=xs:=by simp
   have t2:(xs++rest).drop (xs.length+[x].length)=rest.drop 1:=by simp
   rw [t1,t2] at s2
   refine ⟨_,w',b,pl,Or.inr ⟨b,cap,rest.drop 1,rfl,by simp,s2.blk,by simpa using hc,by simp;omega⟩,Or.inl h1,⟨s2.os,s2.tape,s2.output,by rw [s2.size];exact Nat.le_refl _,fun j o hj=>?_⟩,fun j _ hj=>s2.others j hj⟩
   by_cases hjb:j=b
   ·subst hjb
    rw [h3] at hj
    cases hj
    refine Or.inr ⟨hbt,?_⟩
    unfold World.shape?
    rw [s2.blk,h3]
    simp
    omega
   ·exact Or.inl (by rw [s2.others j hjb];exact hj)
  ·exact grow _ cap h2 hc fun w' hw=>firstCells_row (pre:=[]) (ys:=xs) (by rw [hw];exact h3) (by simp)
end Ab
open Go.RowKit
namespace Ab
def contD (d:Nat)(p:Oper->Bool):Code->List (K (List AT))->Option (List (K (List AT)))
 | .region _ ops false,ks=>(idxOp p ops.toList 0).map fun j=>.ops ops ((List.range ops.size).drop (j+d))::ks
 | .seq a b,ks=>match contD d p a (.code b::ks) with | some r=>some r | none=>contD d p b ks
 | .block id b,ks=>contD d p b (.blk id::ks)
 | .cond _ a b,ks=>match contD d p a ks with | some r=>some r | none=>contD d p b ks
 | _,_=>none
def bef (p:Oper->Bool)(fn:Func):List (K (List AT)):=(contD 0 p (bodyOf fn) [.top fn]).getD []
def nrmE (ka kta:List Nat)(na:Nat)(kb ktb:List Nat)(nb:Nat)(s:AS):Option (AS×List Prop):=match nrm ka kta na [] s with | some r=>some r | none=>nrm kb ktb nb [] s
def NrmR (ψ:Nat->Option (Nat×Nat))(ns:AS->Option (AS×List Prop)):Prop:=∀ w0 φ s s' p a w,ns s=some (s',p)->Holds p->Rep Z w0 ψ φ s a w->∃ φ',Rep Z w0 ψ φ' s' a w
theorem nrm_R {ψ:Nat->Option (Nat×Nat)}{kb kt:List Nat}{nx:Nat}{rb:List Nat}(hψ:∀ b x,ψ b=some x->kb.contains b=true):NrmR ψ (nrm kb kt nx rb):=fun w0 φ s s' p a w h hp hr=>⟨_,nrm_ok h hp hψ hr⟩
theorem nrmE_R {ψ:Nat->Option (Nat×Nat)}{ka kta:List Nat}{na:Nat}{kb ktb:List Nat}{nb:Nat}(h1:∀ b x,ψ b=some x->ka.contains b=true)(h2:∀ b x,ψ b=some x->kb.contains b=true):NrmR ψ (nrmE ka kta na kb ktb nb):=by
 intro w0 φ s s' p a w h hp hr
 unfold nrmE at h
 split at h
 ·rename_i r e
  cases h
  exact ⟨_,nrm_ok e hp h1 hr⟩
 ·exact ⟨_,nrm_ok h hp h2 hr⟩
theorem xrun' {w0:World}{ψ:Nat->Option (Nat×Nat)}{sp:Spec}{bodies:FuncId->Option Func}{stp:List (K (List AT))->Bool}{R:Ending->World->Prop}(hsp:SpecOk Z w0 ψ sp)(hbo:BodiesOk Z bodies){kb:List Nat}{nx:Nat}{rb:List Nat}{ns:AS->Option (AS×List Prop)}(hψ:∀ b x,ψ b=some x->kb.contains b=true)(hns:NrmR ψ ns){n:Nat}{ks:List (K (List AT))}{s:AS}{xt:XT}
  (ht:(run Z sp bodies (drawA Z sp) stp n ks s).bind (outX (nrm kb [] nx rb) ns)=some xt) (G:AT->AS->Prop) (H:List (K (List AT))->AS->Prop) (hok:xt.ok G H)
  (hG:∀ r s' φ' v w',G r s'->(∀ b,r=.val (.one (.bool b))\/r=.val (.one (.sbool b))->v=.bool b)->(∀ k z,r=.val (.one (.sint k z))\/r=.val (.one (.int k z))->v=.int k z)->RepW Z w0 ψ φ' s' w'->R (.returned v) w')
  (hH:∀ ks' s',H ks' s'->noFr ks'=true/\∀ (kcs:List (K Act)) (φ':Nat->Option (Nat×Nat)) (a:Act) (w':World),(∀ φ1 ν1 w1,SR Z φ1 ν1 w1 ks' kcs)->Rep Z w0 ψ φ' s' a w'->sem Z.P R kcs .normal a w'):
  ∀ (kcs:List (K Act)) (φ:Nat->Option (Nat×Nat)) (a:Act) (w:World),SR Z φ s.nums w ks kcs->Rep Z w0 ψ φ s a w->sem Z.P R kcs .normal a w:=by
 intro kcs φ a w hsr hr
 obtain ⟨tr,h1,h2⟩:=bnd ht
 refine run_ok hsp hbo (drawA_ok mixed hsp) _ _ ?_ ?_ n ks s tr h1 (outX_ok h2 hok) kcs φ a w hsr hr
 ·rintro ks' s' ⟨s2,p,g1,g2,g3⟩ kcs' φ' a' w' hsr' hr'
  obtain ⟨hf,hk⟩:=hH ks' s2 g3
  obtain ⟨φ2,hr2⟩:=hns _ _ _ _ _ _ _ g1 g2 hr'
  exact hk kcs' φ2 a' w' (fun φ1 ν1 w1=>SR.any hf hsr') hr2
 ·rintro r s' φ' v w' ⟨s2,p,g1,g2,g3⟩ hv hw'
  refine hG r s2 _ v w' g3 ?_ ?_ (nrmW_ok g1 g2 hψ hw')
  ·rintro b (rfl | rfl)<;>exact hv
  ·rintro k z (rfl | rfl)<;>exact hv
abbrev P0:AT:=.val (.one (.ptr 0 0))
abbrev P6:AT:=.val (.one (.ptr 6 0))
abbrev litT (v:Value):AT:=.val (.one (.lit v))
abbrev sintT (z:Int):AT:=.val (.one (.sint .i64 z))
theorem ptr_val {φ:Nat->Option (Nat×Nat)}{ν:List (Int×Nat)}{w:World}{b k:Nat}{x:Value}(hφ:φ b=some (k,0))(h:relV Z φ ν w (.one (.ptr b 0)) x):x=ptrB k:=by
 obtain ⟨k',o,h1,h2⟩:=h
 rw [hφ] at h1
 cases h1
 simpa [ptrB] using h2
end Ab
namespace Rf
open Nw
def VBits (n:Nat)(v:V):Prop:=Bits n v.1/\Bits n v.2
theorem VBits.mono {n m:Nat}{v:V}(h:VBits n v)(hnm:n<=m):VBits m v:=⟨bits_mono h.1 hnm,bits_mono h.2 hnm⟩
theorem vat_bits {a b:Nat}{m:Mt}{v:V}(hm:MBits a m)(hv:VBits b v):VBits (a+b+1) (vat m v):=⟨bits_add (bits_mul hm.a hv.1) (bits_mul hm.b hv.2),bits_add (bits_mul hm.c hv.1) (bits_mul hm.d hv.2)⟩
theorem vag_bits {a b:Nat}{m:Mt}{v:V}(hm:MBits a m)(hv:VBits b v):VBits (a+b+1) (vag m v):=⟨bits_add (bits_mul hm.d hv.1) (bits_mul (bits_neg hm.b) hv.2),bits_add (bits_mul hm.a hv.2) (bits_mul (bits_neg hm.c) hv.1)⟩
theorem tensor_bits {n a b:Nat}{t:List V}{x y:V}(ht:∀ v∈t,VBits n v)(hx:VBits a x)(hy:VBits b y):VBits (n+(a+b)+3) (tensor t x y):=by
 unfold tensor
 split
 ·rename_i p q r s
  have h1:=ht p (by simp)
  have h2:=ht q (by simp)
  have h3:=ht r (by simp)
  have h4:=ht s (by simp)
  exact ⟨bits_add (bits_add (bits_add (bits_mul h1.1 (bits_mul hx.1 hy.1)) (bits_mul h2.1 (bits_mul hx.1 hy.2))) (bits_mono (bits_mul h3.1 (bits_mul hx.2 hy.1)) (by omega))) (bits_mono (bits_mul h4.1 (bits_mul hx.2 hy.2)) (by omega)),
   bits_add (bits_add (bits_add (bits_mul h1.2 (bits_mul hx.1 hy.1)) (bits_mul h2.2 (bits_mul hx.1 hy.2))) (bits_mono (bits_mul h3.2 (bits_mul hx.2 hy.1)) (by omega))) (bits_mono (bits_mul h4.2 (bits_mul hx.2 hy.2)) (by omega))⟩
 ·exact ⟨by unfold Bits;simp;exact Nat.pow_pos (by decide),by unfold Bits;simp;exact Nat.pow_pos (by decide)⟩
theorem end_bits {a:Nat}{m:Mt}(hm:MBits a m):VBits a (vat m (1,0))/\VBits a (vat m (0,1)):=by
 have e1:vat m (1,0)=(m.a,m.c):=by simp [vat,Mt.at1,Mt.at2]
 have e2:vat m (0,1)=(m.b,m.d):=by simp [vat,Mt.at1,Mt.at2]
 rw [e1,e2]
 exact ⟨⟨hm.a,hm.c⟩,hm.b,hm.d⟩
theorem unit_bits:VBits 6001 ((1,0):V)/\VBits 6001 ((0,1):V):=by
 have h0:Bits 6001 0:=bits0
 have h1:Bits 6001 1:=bits1 (by decide)
 exact ⟨⟨h1,h0⟩,h0,h1⟩
section
variable {ns:List Nd} {rho:Nat->Nat} {c i:Nat} {n:Nd}
theorem ends_bits (h:Inv ns rho c)(hN:NInv ns rho c i n){sd a:Nat}(ha:n.args[sd]?=some a){e:V×V}(he:ends ns n sd=some e):VBits 6001 e.1/\VBits 6001 e.2:=by
 obtain ⟨m,x,r,h1,h2,h3,h4⟩:=ends_some h hN ha
 rw [h4] at he
 cases he
 have hx:=h.at' a x h1
 have hb:=hx.hadb r m h3
 have hr:=hN.rd sd a r x ha h2 h1
 have ho:=hx.outu
 obtain ⟨k1,k2⟩:=end_bits hb
 exact ⟨k1.mono (by omega),k2.mono (by omega)⟩
theorem bare_bits (h:Inv ns rho c)(hN:NInv ns rho c i n){l:List V}(hl:bare ns n=some l):∀ v∈l,VBits 60000000 v:=by
 have ht:=hN.tb
 have htb:∀ v∈n.t,VBits 13000 v:=ht
 unfold bare at hl
 cases hN.shp with
 | con ht ha hp hc=>
  rw [ht] at hl
  cases hl
  obtain ⟨k1,k2⟩:=end_bits hN.partb
  have hk:=hN.ku
  have hm:1+n.k*18500<=60000000:=by
   have:n.k*18500<=3000*18500:=Nat.mul_le_mul_right _ (by omega)
   omega
  intro v hv
  simp at hv
  rcases hv with rfl | rfl
  ·exact k1.mono hm
  ·exact k2.mono hm
 | frac v ht ha hp hv=>
  rw [ht] at hl htb
  cases hl
  intro u hu
  exact (htb u hu).mono (by decide)
 | una v w a ht ha hp=>
  rw [ht] at hl htb
  obtain ⟨e,h1,rfl⟩:=Option.map_eq_some_iff.1 hl
  obtain ⟨b1,b2⟩:=ends_bits h hN (sd:=0) (a:=a) (by rw [ha];rfl) h1
  have hm:MBits 13000 ⟨v.1,w.1,v.2,w.2⟩:=⟨(htb v (by simp)).1,(htb w (by simp)).1,(htb v (by simp)).2,(htb w (by simp)).2⟩
  intro u hu
  simp at hu
  rcases hu with rfl | rfl
  ·exact (vat_bits hm b1).mono (by decide)
  ·exact (vat_bits hm b2).mono (by decide)
 | bin a b v w x y ht ha hp=>
  rw [ht] at hl htb
  obtain ⟨e,h1,h2⟩:=Option.bind_eq_some_iff.1 hl
  obtain ⟨r,h3,rfl⟩:=Option.map_eq_some_iff.1 h2
  rw [if_pos (by rw [ha];rfl)] at h3
  obtain ⟨b1,b2⟩:=ends_bits h hN (sd:=0) (a:=a) (by rw [ha];rfl) h1
  obtain ⟨b3,b4⟩:=ends_bits h hN (sd:=1) (a:=b) (by rw [ha];rfl) h3
  intro u hu
  simp at hu
  rcases hu with rfl | rfl | rfl | rfl
  ·exact (tensor_bits htb b1 b3).mono (by decide)
  ·exact (tensor_bits htb b1 b4).mono (by decide)
  ·exact (tensor_bits htb b2 b3).mono (by decide)
  ·exact (tensor_bits htb b2 b4).mono (by decide)
 | nest a v w x y ht ha hp hn ok=>
  rw [ht] at hl htb
  obtain ⟨e,h1,h2⟩:=Option.bind_eq_some_iff.1 hl
  obtain ⟨r,h3,rfl⟩:=Option.map_eq_some_iff.1 h2
  rw [if_neg (by rw [ha];simp)] at h3
  cases h3
  obtain ⟨b1,b2⟩:=ends_bits h hN (sd:=0) (a:=a) (by rw [ha];rfl) h1
  obtain ⟨b3,b4⟩:=unit_bits
  intro u hu
  simp at hu
  rcases hu with rfl | rfl | rfl | rfl
  ·exact (tensor_bits htb b1 b3).mono (by decide)
  ·exact (tensor_bits htb b1 b4).mono (by decide)
  ·exact (tensor_bits htb b2 b3).mono (by decide)
  ·exact (tensor_bits htb b2 b4).mono (by decide)
theorem corner_bits (h:Inv ns rho c)(hN:NInv ns rho c i n){l:List V}(hl:corners ns n=some l):∀ v∈l,VBits 70000000 v:=by
 unfold corners at hl
 obtain ⟨b,h1,rfl⟩:=Option.map_eq_some_iff.1 hl
 intro v hv
 rw [List.mem_map] at hv
 obtain ⟨u,hu,rfl⟩:=hv
 have ho:=hN.outu
 exact (vag_bits hN.toldb (bare_bits h hN h1 u hu)).mono (by omega)
end
end Rf
namespace Pg
open Rf Nw
theorem ends_new {ns:List Nd}{n:Nd}{sd a:Nat}{x:Nd}(ha:n.args[sd]?=some a)(hr:n.read[sd]?=some 0)(hx:ns[a]?=some x)(h0:x.had[0]?=some one):ends ns n sd=some ((1,0),(0,1)):=by
 unfold Rf.ends
 rw [ha]
 simp only [Option.bind_some,hx,hr,h0,Option.map_some]
 rw [vat_one,vat_one]
theorem tens {u v y z:V}:tensor [u,v,y,z] (1,0) (1,0)=u/\tensor [u,v,y,z] (1,0) (0,1)=v/\tensor [u,v,y,z] (0,1) (1,0)=y/\tensor [u,v,y,z] (0,1) (0,1)=z:=by
 unfold tensor
 refine ⟨?_,?_,?_,?_⟩<;>ext<;>simp
theorem map_one (l:List V):l.map (vag one)=l:=by
 conv=>rhs;rw [<-List.map_id l]
 exact List.map_congr_left fun v _=>vag_one v
theorem corners_con {ns:List Nd}{n:Nd}(ht:n.t=[])(hp:n.part=one)(hto:n.told=one):corners ns n=some [(1,0),(0,1)]:=by
 unfold Rf.corners
 rw [bare_nil ht,hp,hto,Option.map_some,map_one,vat_one,vat_one]
theorem corners_new2 {ns:List Nd}{n:Nd}{u v:V}{a:Nat}{x:Nd}(ht:n.t=[u,v])(ha:n.args[0]?=some a)(hr:n.read[0]?=some 0)(hx:ns[a]?=some x)(h0:x.had[0]?=some one)(hto:n.told=one):corners ns n=some [u,v]:=by
 unfold Rf.corners
 rw [bare_two ht,ends_new ha hr hx h0,hto,Option.map_some,Option.map_some,map_one]
 unfold vat Mt.at1 Mt.at2
 simp
theorem corners_new4 {ns:List Nd}{n:Nd}{u v y z:V}{a b:Nat}{x x':Nd}(ht:n.t=[u,v,y,z])(ha:n.args=[a,b])(hr:n.read=[0,0])(hx:ns[a]?=some x)(h0:x.had[0]?=some one)(hx':ns[b]?=some x')(h0':x'.had[0]?=some one)(hto:n.told=one):corners ns n=some [u,v,y,z]:=by
 unfold Rf.corners
 rw [bare_four ht,ends_new (a:=a) (by rw [ha];rfl) (by rw [hr];rfl) hx h0,hto,Option.bind_some,if_pos (by rw [ha];rfl),ends_new (a:=b) (by rw [ha];rfl) (by rw [hr];rfl) hx' h0',Option.map_some,Option.map_some,map_one]
 obtain ⟨h1,h2,h3,h4⟩:=@tens u v y z
 simp only [h1,h2,h3,h4]
theorem corners_nest {ns:List Nd}{n:Nd}{u v y z:V}{a:Nat}{x:Nd}(ht:n.t=[u,v,y,z])(ha:n.args=[a])(hr:n.read=[0])(hx:ns[a]?=some x)(h0:x.had[0]?=some one)(hto:n.told=one):corners ns n=some [u,v,y,z]:=by
 unfold Rf.corners
 rw [bare_four ht,ends_new (a:=a) (by rw [ha];rfl) (by rw [hr];rfl) hx h0,hto,Option.bind_some,if_neg (by rw [ha];simp),Option.map_some,Option.map_some,map_one]
 obtain ⟨h1,h2,h3,h4⟩:=@tens u v y z
 simp only [h1,h2,h3,h4]
theorem corners_len4 {ns:List Nd}{n:Nd}{l:List V}(ht:n.t.length=4)(hl:corners ns n=some l):l.length=4:=by
 obtain ⟨u,v,y,z,e⟩:=four ht
 unfold Rf.corners at hl
 obtain ⟨b,h1,rfl⟩:=Option.map_eq_some_iff.1 hl
 rw [bare_four e] at h1
 obtain ⟨e1,h2,h3⟩:=Option.bind_eq_some_iff.1 h1
 obtain ⟨g,h4,rfl⟩:=Option.map_eq_some_iff.1 h3
 rfl
theorem abs_sc {d:Int}(hd:0<d)(x:Int):x.natAbs<=(d*x).natAbs:=by
 rw [Int.natAbs_mul]
 exact Nat.le_mul_of_pos_left _ (by omega)
theorem pad_mem {l:List V}{v:V}(h:v∈pad l):v∈l\/v=(0,0):=by
 unfold pad at h
 split at h
 ·simp at h
  exact Or.inr h
 ·simp at h
  rcases h with h | h
  ·exact Or.inl (by simp [h])
  ·exact Or.inr h
 ·simp at h
  rcases h with h | h | h
  ·exact Or.inl (by simp [h])
  ·exact Or.inl (by simp [h])
  ·exact Or.inr h
 ·simp at h
  rcases h with h | h | h | h
  ·exact Or.inl (by simp [h])
  ·exact Or.inl (by simp [h])
  ·exact Or.inl (by simp [h])
  ·exact Or.inr h
 ·exact Or.inl h
theorem Cof.bits {l cs:List V}{N:Nat}(h:Cof l cs)(hl:∀ v∈l,VBits N v):∀ v∈cs,v.1.natAbs<2^N/\v.2.natAbs<2^N:=by
 obtain ⟨d,hd,e⟩:=h.ex
 intro v hv
 have hm:sc d v∈pad l:=by rw [e];exact List.mem_map_of_mem hv
 have hb:VBits N (sc d v):=by
  rcases pad_mem hm with h1 | h1
  ·exact hl _ h1
  ·rw [h1]
   exact ⟨by unfold Bits;simp;exact Nat.pow_pos (by decide),by unfold Bits;simp;exact Nat.pow_pos (by decide)⟩
 obtain ⟨b1,b2⟩:=hb
 unfold Bits at b1 b2
 exact ⟨Nat.lt_of_le_of_lt (abs_sc hd v.1) b1,Nat.lt_of_le_of_lt (abs_sc hd v.2) b2⟩
theorem near_sc {p q g:Int}(hg:0<g):∀ (k:Nat) (t:Int),near (g*p) (g*q) k t=near p q k t
 | 0,_=>rfl
 | k+1,t=>by
  have e:t*t*(g*p)/(g*q)=t*t*p/q:=by
   rw [show t*t*(g*p)=g*(t*t*p) by grind]
   exact Int.mul_ediv_mul_of_pos _ _ hg
  unfold near
  rw [e,near_sc hg k]
end Pg
open Go.RowKit
namespace Ab
open Rf (Nd Inv NInv)
section
variable {w w':World} {b0 fb:Nat} {own own':Nat->Option Own} {at1 at2:Nat->Nat} {D:List Nat} {i:Nat} {n n':Nd} {s:Rf.St} {rho:Nat->Nat} {c:Nat}
theorem Net.step (h:Net w b0 own at1 fb s)(hI:Inv s.nodes rho c){ns':List Nd}{cl:Int}(hsame:∀ j,j<s.nodes.length->j≠i->ns'[j]?=s.nodes[j]?)(hgo:Pg.Go s.nodes ns')(hc:Chg w w' D)(hD:IsD w own i D)(hown:∀ k o,k<w.heap.size->own k=some o->o≠.pd i->own' k=some o)(hat:∀ a,a<s.nodes.length->at2 a=at1 a)(hfuel:w'.heap[fb]?=some (.cells #[.int .i64 cl] 195 (0,0)))(hnew:∀ j m,ns'[j]?=some m->(j=i\/s.nodes.length<=j)->NodeOk w' b0 own' at2 ns' j m):Net w' b0 own' at2 fb ⟨ns',cl⟩:=by
 refine ⟨fun j m hj=>?_,hfuel,h.fb0⟩
 by_cases hi:j=i
 ·exact hnew j m hj (Or.inl hi)
 ·by_cases hl:j<s.nodes.length
  ·have hj':s.nodes[j]?=some m:=by rw [<-hsame j hl hi];exact hj
   exact (h.nd j m hj').keep hc hD hi hl hgo hown hat (hI.at' j m hj')
  ·exact hnew j m hj (Or.inr (by omega))
theorem Net.put (h:Net w b0 own at1 fb s)(hI:Inv s.nodes rho c)(hn:s.nodes[i]?=some n){cl:Int}(hgo:Pg.Go s.nodes (s.nodes.set i n'))(hc:Chg w w' D)(hD:IsD w own i D)(hown:∀ k o,k<w.heap.size->own k=some o->own' k=some o)(hfuel:w'.heap[fb]?=some (.cells #[.int .i64 cl] 195 (0,0)))(hnew:NodeOk w' b0 own' at1 (s.nodes.set i n') i n'):Net w' b0 own' at1 fb ⟨s.nodes.set i n',cl⟩:=by
 refine h.step (i:=i) hI (fun j _ hj=>List.getElem?_set_ne (fun e=>hj e.symm)) hgo hc hD (fun k o l e _=>hown k o l e) (fun _ _=>rfl) hfuel ?_
 intro j m hj hor
 rcases hor with rfl | hl
 ·rw [List.getElem?_set_self (List.getElem?_eq_some_iff.1 hn).1] at hj
  cases hj
  exact hnew
 ·have:=(List.getElem?_eq_some_iff.1 hj).1
  simp at this
  omega
structure SameN (n n':Nd):Prop where
 pos:n'.pos=n.pos
 t:n'.t=n.t
 args:n'.args=n.args
 op:n'.op=n.op
 probe:n'.probe=n.probe
 nest:n'.nest=n.nest
 p:n'.p=n.p
 q:n'.q=n.q
 terms:n'.terms=n.terms
 x:n'.x=n.x
 square:n'.square=n.square
theorem SameN.constant (h:SameN n n')(k:Nat):Rf.constant n' k=Rf.constant n k:=by
 unfold Rf.constant
 rw [h.op,h.p,h.q,h.terms]
theorem NstAt.same {w:World}{nb:Nat}{pl:Int}(h:NstAt w b0 own at1 i n nb pl)(hs:SameN n n')(hk:n'.k=n.k):NstAt w b0 own at1 i n' nb pl:=by
 obtain ⟨xs,zs,fst,fur,h1,h2,h3,h4,h5,h6⟩:=h
 refine ⟨xs,zs,fst,fur,by rw [hs.op];exact h1,h2,h3,h4,?_,?_⟩
 ·rw [hs.op,hs.args,hs.t];exact h5
 ·rw [hs.op,hk,hs.x,hs.square];exact h6
theorem Blk.upd (hown:∀ k o,k<w.heap.size->own k=some o->own' k=some o){p0 q0 p1 q1 p2 q2 p3 q3 mt pl:Int}{gv cv nv:Value}(h:Blk w b0 own at1 i n p0 q0 p1 q1 p2 q2 p3 q3 mt pl gv cv nv)(hs:SameN n n')(hc:Chg w w' D)(hD:IsD w own i D)(hI:Inv s.nodes rho c)(hn:s.nodes[i]?=some n){r0 s0 r1 s1 r2 s2 r3 s3 mt':Int}{gv':Value}(hk:n'.k=n.k/\mt'=mt\/n.t=[]/\n'.k=n.k+1/\mt'=mt+1)
  (hnd:NodeAt w' (at1 i) [r0,s0,r1,s1,r2,s2,r3,s3] (!n'.pos) (unsZ n') mt' (lRd n') (rRd n') pl (ptrV at1 (lArg n')) (ptrV at1 (rArg n')) gv' cv nv) (hg:GivOk w' b0 own' i n'.out gv'):Blk w' b0 own' at1 i n' r0 s0 r1 s1 r2 s2 r3 s3 mt' pl gv' cv nv:=by
 have hN:=hI.at' i n hn
 refine ⟨hnd,hg,?_,?_,?_⟩
 ·intro ht
  rw [hs.t] at ht
  obtain ⟨h1,cb,h2,h3⟩:=h.con ht
  refine ⟨?_,cb,h2,(h3.keep hc.on).of hs.constant⟩
  rcases hk with ⟨k1,k2⟩ | ⟨_,k1,k2⟩
  ·rw [k1,k2];exact h1
  ·rw [k1,k2,h1];simp
 ·intro ht
  rw [hs.t] at ht
  exact h.nocon ht
 ·refine ⟨fun e=>h.nst.1 (by rw [<-hs.nest];exact e),fun hne=>?_⟩
  obtain ⟨nb,h1,⟨cs,h2⟩,h3⟩:=h.nst.2 (by rw [<-hs.nest];exact hne)
  refine ⟨nb,h1,⟨cs,hc.at h2 ?_⟩,fun ht ha=>?_⟩
  ·intro hk
   rcases hD nb hk _ _ _ h2 with ⟨e,_⟩ | ⟨e,_⟩ | e<;>exact absurd e (by decide)
  ·rw [hs.t] at ht
   rw [hs.args] at ha
   have hk':n'.k=n.k:=by
    rcases hk with ⟨k1,_⟩ | ⟨e,_⟩
    ·exact k1
    ·rw [e] at ht;simp at ht
   have hNest:∃ a,n.args=[a]/\Rf.NestOk s.nodes rho c i n a:=by
    cases hN.shp with
    | con ht' _ _ _=>rw [ht'] at ht;simp at ht
    | frac v ht' _ _ _=>rw [ht'] at ht;simp at ht
    | una v u a ht' _ _=>rw [ht'] at ht;simp at ht
    | bin a b v u x y ht' ha' _=>rw [ha'] at ha;simp at ha
    | nest a v u x y ht' ha' _ _ ok=>exact ⟨a,ha',ok⟩
   obtain ⟨a,ha',ok⟩:=hNest
   obtain ⟨base,ck,_,_,_,_,_,hx⟩:=ok.ex
   have hlt:∀ a,a∈n.args->a<s.nodes.length:=by
    intro a ha
    obtain ⟨j,hj,e⟩:=List.getElem_of_mem ha
    exact (hN.arg j a (by rw [List.getElem?_eq_getElem hj,e])).1
   refine ((h3 ht ha).keep (own':=own') (at2:=at1) (N:=s.nodes.length) hc hD (fun k o l e _=>hown k o l e) (fun _=>Or.inr fun k l e=>hown k _ l e) (fun _ _=>rfl) (fun a e=>hlt a (List.mem_of_getElem? e)) ?_ ?_).same hs hk'
   ·intro hop x e
    obtain ⟨x',g1,g2,_⟩:=hx hop
    rw [g1] at e
    cases e
    exact g2
   ·intro hop sq e
    obtain ⟨x',g1,g2,_,_,g5⟩:=hx hop
    exact (g5 sq e).1
end
end Ab
namespace Rf
open Nw
def nextP (ns:List Nd)(n:Nd):Option (Option Int):=if n.probe then some none else next ns n
noncomputable def step1 (f:Nat)(s:St)(i:Nat)(n:Nd):Option (St×Bool):=
 (nextP s.nodes n).bind fun o=>match o with
 | some c=>if s.clock-1<0 then some (⟨s.nodes,s.clock-1⟩,false) else (give s i n c).map fun s1=>(s1,true)
 | none=>reads (sym f) s i n
theorem sym_step (f:Nat)(s:St)(i j:Nat):sym (f+1) s i j=(s.nodes[i]?).bind fun n=>match n.out[j]? with
  | some c=>some (s,some c)
  | none=>(step1 f s i n).bind fun x=>if x.2 then sym f x.1 i j else some (x.1,none):=by
 rw [sym]
 cases s.nodes[i]? with
 | none=>rfl
 | some n=>
  simp only [Option.bind_some]
  cases n.out[j]? with
  | some c=>rfl
  | none=>
   simp only
   unfold step1 nextP
   cases (if n.probe=true then some none else next s.nodes n) with
   | none=>rfl
   | some o=>
    simp only [Option.bind_some]
    cases o with
    | none=>rfl
    | some g=>
     simp only
     split
     ·rfl
     ·cases give s i n g with
      | none=>rfl
      | some s1=>rfl
section
variable {ns:List Nd} {rho:Nat->Nat} {c i:Nat} {n:Nd}
theorem reads_split {s:St}(hcl:s.clock=(c:Int))(hc3:c<=3000)(h:Inv s.nodes rho c)(hn:s.nodes[i]?=some n)(ht:n.t≠[])(ho:nextP s.nodes n=some none):
  ∃ sd s1 rho1 n1 a r,side s.nodes n=some sd/\wide s i n sd=some s1/\s1.clock=(c:Int)/\Inv s1.nodes rho1 c/\Mid s.nodes rho i s1.nodes rho1/\s1.nodes[i]?=some n1/\n1.args[sd]?=some a/\n1.read[sd]?=some r/\n1.out=n.out/\(n1.probe=true->sd=0)/\
   ((∃ v w,n.t=[v,w]/\n.args=[a]/\sd=0/\s1=s/\n1=n)\/(∃ v w x y,n.t=[v,w,x,y]/\sd<n.args.length/\sd<=1/\s1=s/\n1=n/\n.probe=false)\/(∃ a0 v w x y,n.t=[v,w,x,y]/\n.args=[a0]/\sd=1/\r=0/\n.probe=false/\NestOk s.nodes rho c i n a0/\n.nest=true/\∃ r0 d,n.read=[r0]/\deeper s.nodes n=some d/\a=d.2/\n1={n with args:=n.args++[d.2],read:=n.read++[0]}/\put d.1 i n1=some s1.nodes)):=by
 unfold nextP at ho
 have hN:=h.at' i n hn
 cases hN.shp with
 | con ht' ha hp hc=>exact absurd ht' ht
 | frac v ht' ha hp hv=>
  rw [hp] at ho
  simp only [Bool.false_eq_true,if_false] at ho
  exact absurd ho (frac_gives ht' ha hN.fst hv)
 | una v w a ht' ha hp=>
  obtain ⟨r,hr⟩:∃ r,n.read=[r]:=List.length_eq_one_iff.1 (by rw [hN.len,ha];rfl)
  refine ⟨0,s,rho,n,a,r,side_two ht',?_,hcl,h,Mid.refl _ _ _,hn,by rw [ha];rfl,by rw [hr];rfl,rfl,fun _=>rfl,Or.inl ⟨v,w,ht',ha,rfl,rfl,rfl⟩⟩
  unfold wide
  rw [if_neg (by rw [ha];simp)]
 | bin a b v w x y ht' ha hp=>
  obtain ⟨sd,hsd,hle⟩:=side_some h hN
  have hl:sd<n.args.length:=by rw [ha];simp;omega
  refine ⟨sd,s,rho,n,n.args[sd],n.read[sd]'(by rw [hN.len];exact hl),hsd,?_,hcl,h,Mid.refl _ _ _,hn,List.getElem?_eq_getElem _,List.getElem?_eq_getElem _,rfl,fun e=>(by rw [hp] at e;cases e),Or.inr (Or.inl ⟨v,w,x,y,ht',hl,hle,rfl,rfl,hp⟩)⟩
  unfold wide
  rw [if_neg (by omega)]
 | nest a v w x y ht' ha hp hne ok=>
  obtain ⟨r,hr⟩:∃ r,n.read=[r]:=List.length_eq_one_iff.1 (by rw [hN.len,ha];rfl)
  obtain ⟨sd,hsd,hle⟩:=side_some h hN
  by_cases hz:sd=0
  ·subst hz
   refine ⟨0,s,rho,n,a,r,hsd,?_,hcl,h,Mid.refl _ _ _,hn,by rw [ha];rfl,by rw [hr];rfl,rfl,fun _=>rfl,Or.inr (Or.inl ⟨v,w,x,y,ht',by rw [ha];simp,by omega,rfl,rfl,hp⟩)⟩
   unfold wide
   rw [if_neg (by rw [ha];simp)]
  ·have hz1:sd=1:=by omega
   subst hz1
   have hto:¬(n.read=[0]/\n.out=[]):=by
    rintro ⟨k1,k2⟩
    rw [side_first h hN ht' ha hne ok.first ok.pos k1 k2] at hsd
    simp at hsd
   obtain ⟨ns',rho',d,n',w1,w2,w3,w4,w5⟩:=wide_inv (cl:=s.clock) h hc3 hn ht' ha hp ok hto
   have w1':=w1
   unfold wide at w1'
   rw [if_pos (by rw [ha];rfl)] at w1'
   obtain ⟨dd,d1,d2⟩:=Option.bind_eq_some_iff.1 w1'
   obtain ⟨ns2,d3,d4⟩:=Option.map_eq_some_iff.1 d2
   cases d4
   have hne':ns'[i]?=some {n with args:=n.args++[dd.2],read:=n.read++[0]}:=by
    unfold put at d3
    split at d3
    ·rename_i hh
     cases d3
     exact List.getElem?_set_self hh.2
    ·cases d3
   have hd:d=dd.2:=by
    rw [w4] at hne'
    have:=congrArg Nd.args (Option.some.inj hne')
    rw [w5] at this
    simp at this
    exact this
   subst hd
   exact ⟨1,⟨ns',s.clock⟩,rho',n',dd.2,0,hsd,w1,hcl,w2,w3,w4,by rw [w5];simp [ha],by rw [w5];simp [hr],by rw [w5],fun e=>(by rw [w5] at e;simp only at e;rw [hp] at e;cases e),Or.inr (Or.inr ⟨a,v,w,x,y,ht',ha,rfl,rfl,hp,ok,hne,r,dd,hr,d1,rfl,w5,by rw [w5];exact d3⟩)⟩
theorem reads_inv {f:Nat}{s:St}(hcl:s.clock=(c:Int))(hc3:c<=3000)(h:Inv s.nodes rho c)(hn:s.nodes[i]?=some n)(hf:c+rho i+1<=f)(ho:nextP s.nodes n=some none):
  ∃ s' b,reads (sym f) s i n=some (s',b)/\(b=true->∃ rho' c',c'<c/\s'.clock=(c':Int)/\Inv s'.nodes rho' c'/\Mid s.nodes rho i s'.nodes rho'/\∃ n',s'.nodes[i]?=some n'/\n'.out=n.out):=by
 have hi:=(List.getElem?_eq_some_iff.1 hn).1
 have hN:=h.at' i n hn
 unfold reads
 by_cases ht:n.t=[]
 ·rw [if_pos ht]
  cases c with
  | zero=>
   have hcon:ConOk n:=by
    cases hN.shp with
    | con ht ha hp hc=>exact hc
    | frac v ht' ha hp hv=>rw [ht] at ht';cases ht'
    | una v w a ht' ha hp=>rw [ht] at ht';cases ht'
    | bin a b v w x y ht' ha hp=>rw [ht] at ht';cases ht'
    | nest a v w x y ht' ha hp hn ok=>rw [ht] at ht';cases ht'
   have hku:=hN.ku
   obtain ⟨m,m1,m2⟩:=const_ok hcon (k:=n.k) (by omega) hN.pb hN.qb
   have hok:Ok {n with part:=n.part.mul m,k:=n.k+1}:=by
    have ho:=hN.ok
    refine ⟨ho.t,ho.told,ho.had,MBits.mono (mul_bits hN.partb m2) ?_,ho.p,ho.q,ho.read,ho.out,by simp only;omega⟩
    have:n.k*18500<=3000*18500:=Nat.mul_le_mul_right _ (by omega)
    omega
   have hput:put s.nodes i {n with part:=n.part.mul m,k:=n.k+1}=some (s.nodes.set i {n with part:=n.part.mul m,k:=n.k+1}):=by
    unfold put
    rw [if_pos ⟨hok,hi⟩]
   rw [m1,Option.bind_some,hput,Option.map_some]
   refine ⟨_,_,rfl,fun e=>?_⟩
   rw [hcl] at e
   exact absurd e (by decide)
  | succ c=>
   obtain ⟨m,n',m1,m2,m3,m4,m5⟩:=con_inv h hn ht
   rw [m1,Option.bind_some,m2,Option.map_some]
   have hn':(s.nodes.set i n')[i]?=some n':=List.getElem?_set_self hi
   have hpos:n'.pos=n.pos:=by
    obtain ⟨m,k1,k2,_⟩:=m4.at' i n hn
    rw [hn'] at k1
    cases k1
    exact k2
   exact ⟨_,_,rfl,fun _=>⟨rho,c,by omega,by simp only;rw [hcl];omega,m3,Mid.set hn hpos (by rw [m5];exact Nat.le_refl _),n',hn',m5⟩⟩
 ·rw [if_neg ht]
  obtain ⟨sd,s1,rho1,n1,a,r,e1,e2,e3,e4,e5,e6,e7,e8,e9,e10,_⟩:=reads_split hcl hc3 h hn ht ho
  rw [e1,Option.bind_some,e2,Option.bind_some,e6,Option.bind_some,e7,Option.bind_some,e8,Option.bind_some]
  have hN1:=e4.at' i n1 e6
  obtain ⟨la,ra⟩:=hN1.arg sd a e7
  have hxa:s1.nodes[a]?=some s1.nodes[a]:=List.getElem?_eq_getElem la
  have hr1:rho1 i=rho i:=e5.agree i hi
  obtain ⟨x,x1,x2⟩:=total f s1 a r rho1 c e3 hc3 e4 _ hxa (hN1.rd sd a r _ e7 e8 hxa) (by omega)
  rw [x1,Option.bind_some]
  obtain ⟨s2,o2⟩:=x
  cases o2 with
  | none=>exact ⟨_,_,rfl,fun e=>by cases e⟩
  | some v=>
   obtain ⟨rho2,c2,y1,y2,y3,y4,n',y5,y6⟩:=x2.ex v rfl
   simp only at y2 y3 y4 y5
   have hn2:s2.nodes[i]?=some n1:=y4.same i n1 e6 ra
   have hi1:i<s1.nodes.length:=(List.getElem?_eq_some_iff.1 e6).1
   obtain ⟨s3,b,z1,z2⟩:=after_inv y2 y3 (by omega) hn2 e7 e8 y5 y6 e10
   refine ⟨s3,b,z1,fun hb=>?_⟩
   obtain ⟨rho3,c3,q1,q2,q3,q4,n3,q5,q6⟩:=z2 hb
   refine ⟨rho3,c3,by omega,q2,q3,?_,n3,q5,by rw [q6,e9]⟩
   exact (e5.trans hi ((y4.up ra).trans hi1 q4))
theorem step_inv {f:Nat}{s:St}(hcl:s.clock=(c:Int))(hc3:c<=3000)(h:Inv s.nodes rho c)(hn:s.nodes[i]?=some n)(hf:c+rho i+1<=f):
  ∃ s' b,step1 f s i n=some (s',b)/\(b=true->∃ rho' c',c'<c/\s'.clock=(c':Int)/\Inv s'.nodes rho' c'/\Mid s.nodes rho i s'.nodes rho'/\∃ n',s'.nodes[i]?=some n'/\n.out.length<=n'.out.length):=by
 have hi:=(List.getElem?_eq_some_iff.1 hn).1
 have hN:=h.at' i n hn
 unfold step1
 obtain ⟨o,ho⟩:∃ o,nextP s.nodes n=some o:=by
  unfold nextP
  split
  ·exact ⟨_,rfl⟩
  ·exact next_some h hN
 rw [ho,Option.bind_some]
 cases o with
 | none=>
  obtain ⟨s',b,h1,h2⟩:=reads_inv hcl hc3 h hn hf ho
  refine ⟨s',b,h1,fun e=>?_⟩
  obtain ⟨rho',c',k1,k2,k3,k4,n',k5,k6⟩:=h2 e
  exact ⟨rho',c',k1,k2,k3,k4,n',k5,by rw [k6];exact Nat.le_refl _⟩
 | some g=>
  have hp:n.probe=false:=by
   unfold nextP at ho
   cases hpr:n.probe with
   | false=>rfl
   | true=>rw [hpr] at ho;simp at ho
  unfold nextP at ho
  rw [hp] at ho
  simp only [Bool.false_eq_true,if_false] at ho
  simp only
  cases c with
  | zero=>
   rw [if_pos (by rw [hcl];decide)]
   exact ⟨_,_,rfl,fun e=>by cases e⟩
  | succ c=>
   rw [if_neg (by rw [hcl];omega)]
   obtain ⟨n',g1,g2,g3,g4⟩:=give_inv h hn hp ho
   unfold give
   rw [g1,Option.map_some,Option.map_some]
   have hn':(s.nodes.set i n')[i]?=some n':=List.getElem?_set_self hi
   have hpos:n'.pos=n.pos:=by
    obtain ⟨m,k1,k2,_⟩:=g3.at' i n hn
    rw [hn'] at k1
    cases k1
    exact k2
   exact ⟨_,_,rfl,fun _=>⟨rho,c,by omega,by simp only;rw [hcl];omega,g2,Mid.set hn hpos (by omega),n',hn',by omega⟩⟩
theorem sym_out:∀ (f:Nat) (s:St) (i j:Nat) (s':St) (v:Int),sym f s i j=some (s',some v)->∃ n',s'.nodes[i]?=some n'/\n'.out[j]?=some v
 | 0,s,i,j,s',v,h=>by simp [sym] at h
 | f+1,s,i,j,s',v,h=>by
  rw [sym_step] at h
  obtain ⟨n,hn,h⟩:=Option.bind_eq_some_iff.1 h
  cases ho:n.out[j]? with
  | some c=>
   rw [ho] at h
   cases h
   exact ⟨n,hn,ho⟩
  | none=>
   rw [ho] at h
   obtain ⟨x,hx,h⟩:=Option.bind_eq_some_iff.1 h
   by_cases h2:x.2=true
   ·rw [if_pos h2] at h
    exact sym_out f x.1 i j s' v h
   ·rw [if_neg h2] at h
    cases h
theorem after_split {s:St}{sd:Nat}{y:St×Bool}(hn:s.nodes[i]?=some n)(h:after s i sd=some y):(s.clock<1->y.2=false)/\(1<=s.clock->∃ ns1,settle (s.nodes.set i {n with read:=bump n.read sd}) i {n with read:=bump n.read sd}=some ns1/\y=(⟨ns1,s.clock-1⟩,true)):=by
 unfold after at h
 rw [hn,Option.bind_some] at h
 obtain ⟨ns,h1,h2⟩:=Option.bind_eq_some_iff.1 h
 have e:ns=s.nodes.set i {n with read:=bump n.read sd}:=by
  unfold put at h1
  split at h1
  ·cases h1;rfl
  ·cases h1
 subst e
 constructor
 ·intro hc
  rw [if_pos (by omega)] at h2
  cases h2
  rfl
 ·intro hc
  rw [if_neg (by omega)] at h2
  obtain ⟨ns1,h3,h4⟩:=Option.map_eq_some_iff.1 h2
  exact ⟨ns1,h3,h4.symm⟩
theorem read_inv (h:Inv ns rho (c+1))(hn:ns[i]?=some n){sd a r:Nat}{x:Nd}(ha:n.args[sd]?=some a)(hr:n.read[sd]?=some r)(hx:ns[a]?=some x)(hlt:r<x.out.length):Inv (ns.set i {n with read:=bump n.read sd}) rho c:=((h.tick (show c<=c+1 by omega)).put hn (n':={n with read:=bump n.read sd}) rfl (Nat.le_refl _) (bump_inv h hn ha hr hx hlt)).2.1
end
end Rf
open Go.RowKit
namespace Ab
open Rf (Nd Inv NInv)
theorem Chg.alloc (w:World)(o:Obj):Chg w (w.alloc o) []:=Chg.of_below ((Below.refl _ _).alloc (Nat.le_refl _) o)
theorem unread_calls {w:World}{k fb:Nat}{r:Int}{R:Ending->World->Prop}(H:∀ w1,Chg w w1 []->Calls Tryz.prog 161 #[ptrB k,.int .i64 r,ptrB fb] w1 fun e w'=>∃ z,e=.returned (.int .i64 z)/\R (.returned (.int .i64 z)) w'):Calls Tryz.prog 125 #[.agg #[ptrB k,.int .i64 r],ptrB fb] w R:=by
 have H1:=hid (H _ (Chg.alloc w (.cells #[ptrB k,.int .i64 r] 192)))
 clear H
 unfold ptrB at*
 go_enter Tryz.func125,Tryz.ntmps125
 go_wp2_with fail
 refine (H1.out).mono ?_
 rintro e w' ⟨z,rfl,hR⟩
 have HR:=hid hR
 clear hR
 go_wp2_with fail
 exact HR.out
theorem NodeAt.cell {w:World}{k:Nat}{zs:List Int}{hs:Bool}{uns mt lr rr pl:Int}{lp rp gv cv nv:Value}(h:NodeAt w k zs hs uns mt lr rr pl lp rp gv cv nv)(h8:zs.length=8):w.cell? ⟨k,17,none⟩=some cv/\w.cell? ⟨k,23,none⟩=some gv:=by
 obtain ⟨xs,h1,h2⟩:=h.ex
 have hl:=hold_len zs xs h2
 rw [h8] at hl
 have e:∀ j v,([cv,.int .i64 mt,lp,.int .i64 lr,rp,.int .i64 rr,gv,.int .i64 uns,nv,.int .i64 pl]:List Value)[j]?=some v->(Value.bool hs::xs++[cv,.int .i64 mt,lp,.int .i64 lr,rp,.int .i64 rr,gv,.int .i64 uns,nv,.int .i64 pl]).toArray[17+j]?=some v:=by
  intro j v hj
  rw [List.getElem?_toArray,List.getElem?_append_right (by simp;omega)]
  rw [show 17+j-(Value.bool hs::xs).length=j by simp;omega]
  exact hj
 exact ⟨cell_of_block h1 (e 0 cv rfl),cell_of_block h1 (e 6 gv rfl)⟩
theorem readMore_con {w:World}{k fb cb:Nat}{R:Ending->World->Prop}(hc:w.cell? ⟨k,17,none⟩=some (ptrB cb))(H:Calls Tryz.prog 207 #[ptrB k,ptrB fb] w fun e w'=>∃ b,e=.returned (.bool b)/\R (.returned (.bool b)) w'):Calls Tryz.prog 197 #[ptrB k,ptrB fb] w R:=by
 have H1:=hid H
 clear H
 unfold ptrB at*
 go_enter Tryz.func197,Tryz.ntmps197
 go_wp2_with fail
 refine (H1.out).mono ?_
 rintro e w' ⟨z,rfl,hR⟩
 have HR:=hid hR
 clear hR
 go_wp2_with fail
 exact HR.out
theorem readMore_arg {w:World}{k fb:Nat}{b:Bool}{R:Ending->World->Prop}(hc:w.cell? ⟨k,17,none⟩=some nilP)(H:Calls Tryz.prog 208 #[ptrB k] w fun e w'=>e=.returned (.bool b)/\(b=true->Calls Tryz.prog 209 #[ptrB k,ptrB fb] w' fun e w'=>∃ b,e=.returned (.bool b)/\R (.returned (.bool b)) w')/\(b=false->Calls Tryz.prog 210 #[ptrB k,ptrB fb] w' fun e w'=>∃ b,e=.returned (.bool b)/\R (.returned (.bool b)) w')):Calls Tryz.prog 197 #[ptrB k,ptrB fb] w R:=by
 have H1:=hid H
 clear H
 unfold ptrB nilP at*
 go_enter Tryz.func197,Tryz.ntmps197
 go_wp2_with fail
 refine (H1.out).mono ?_
 rintro e w' ⟨rfl,hL,hR⟩
 cases b with
 | true=>
  have HL:=hid (hL rfl)
  clear hL hR
  go_wp2_with fail
  refine (HL.out).mono ?_
  rintro e w' ⟨z,rfl,hR⟩
  have HR:=hid hR
  clear hR
  go_wp2_with fail
  exact HR.out
 | false=>
  have HL:=hid (hR rfl)
  clear hL hR
  go_wp2_with fail
  refine (HL.out).mono ?_
  rintro e w' ⟨z,rfl,hR⟩
  have HR:=hid hR
  clear hR
  go_wp2_with fail
  exact HR.out
structure SymStep (k fb:Nat) (j:Nat) (R:Ending->World->Prop) (J:Nat->World->Prop):Prop where
 ex:∀ m w,J m w->∃ gb len cap,(∃ gv,w.cell? ⟨k,23,none⟩=some gv/\(gv=.slice gb len cap))/\len<=1000000/\
  ((len<=j/\Calls Tryz.prog 182 #[ptrB k,ptrB fb] w fun e w'=>∃ b,e=.returned (.bool b)/\(b=true->∃ m',m'<m/\J m' w')/\(b=false->R (.returned (.int .i64 0)) w'))\/
   (j<len/\∃ g c,gb=some ⟨g,0,none⟩/\w.cell? ⟨g,j,none⟩=some (.int .i64 c)/\R (.returned (.int .i64 c)) w))
theorem symbol_calls {w:World}{k fb j:Nat}{R:Ending->World->Prop}{J:Nat->World->Prop}{m:Nat}(hj:j<=1000000)(hS:SymStep k fb j R J)(hJ:J m w):Calls Tryz.prog 161 #[ptrB k,.int .i64 j,ptrB fb] w R:=by
 have HS:=hid hS
 have HJ:=hid hJ
 clear hS hJ
 unfold ptrB
 go_enter Tryz.func161,Tryz.ntmps161
 go_wp2_with fail
 go_loopg [] m (fun gk wr=>J gk wr)
 case atStart=>exact HJ.out
 case round=>
  obtain ⟨gb,len,cap,⟨gv,g1,g2⟩,hl,hor⟩:=HS.out.ex _ _ hrel
  subst g2
  have HR:=hid hrel
  clear hrel HJ
  rcases hor with ⟨hle,hc⟩ | ⟨hlt,g,c,rfl,g3,g4⟩
  ·have HC:=hid hc
   clear hc
   have n1:((len:Int)<=(j:Int)):=by omega
   go_wp2_with fail
   refine (HC.out).mono ?_
   rintro e w' ⟨b,rfl,hb1,hb2⟩
   cases b with
   | true=>
    obtain ⟨m',k1,k2⟩:=hb1 rfl
    have K1:=hid k1
    have K2:=hid k2
    clear k1 k2 hb1 hb2
    go_wp2_with fail
    go_roundg m'
    case measure=>exact K1.out
    case rel=>exact K2.out
   | false=>
    have HB:=hid (hb2 rfl)
    clear hb1 hb2
    go_wp2_with fail
    exact HB.out
  ·have G4:=hid g4
   clear g4
   have n1:¬((len:Int)<=(j:Int)):=by omega
   have n2:¬((j:Int)<0):=by omega
   have n3:((j:Int)<(len:Int)):=by omega
   go_wp2_with fail
   exact G4.out
end Ab
end Go.Proofs.YteghhlfmcjmnoaaGreatDoor
