import Derived.Test.YteghhlfmcjmnoaaGreatDoorCDe22
import Derived.Test.YteghhlfmcjmnoaaGreatDoorCDe24
import Derived.Test.YteghhlfmcjmnoaaGreatDoorCDe20
import Derived.Test.YteghhlfmcjmnoaaGreatDoorCDe11
import Derived.Test.YteghhlfmcjmnoaaGreatDoorCDe23
import Derived.KernelRfl
set_option linter.unusedSimpArgs false
set_option linter.unusedVariables false
set_option maxRecDepth 100000
set_option maxHeartbeats 2000000
namespace Go.Proofs.YteghhlfmcjmnoaaGreatDoor
open Go.RowKit
theorem wpList_app {P:Program}{w:World}{ops:Array Oper}{rest:List Oper}{o:Oper}{a:Act}{Q:Exit->Act->World->Prop}(hgd:o.guard=none)(s x:Operand)(t:TypeId)
  (ho:o.op=.call { callee:=.builtin .append,args:=#[s,x],argTypes:=#[t,t]}) (v1 v2:Value) (hs:a.eval s=v1) (hx:a.eval x=v2) (v':Value) (w':World)
  (hr:(Builtin.append_ #[t,t] o.type #[v1,v2]).run P w=.ok v' w') (h:wpList P ops Q rest (a.put o.dst v') w'):wpList P ops Q (o::rest) a w:=by
 refine wpList_plain hgd fun _ hK=>?_
 unfold Oper.wp execOp
 simp only [ho,resolve,invoke,builtin,Sem.run_bind,Sem.run_pure,Result.andThen_ok,List.map_toArray,List.map_cons,List.map_nil,hs,hx,hr]
 exact hK _ _ h
namespace Rf
noncomputable def readK (f:Nat):Nat->St->Nat->Nat->Option (List Int)
 | 0,_,_,_=>some []
 | m+1,s,d,r=>match sym f s d r with
  | some (s',some z)=>(readK f m s' d (r+1)).map (z::·)
  | _=>none
def fuelF (t:Wt):Nat:=3002+3200*t.size
noncomputable def symsT (t:Wt)(k c:Nat):Option (List Int):=
 (of t []).bind fun x=>(x.1[x.2]?).bind fun n=>if n.pos=true then (readK (fuelF t) k ⟨x.1,c⟩ x.2 0).map (43::·) else readK (fuelF t) (k+1) ⟨x.1,c⟩ x.2 0
theorem readK_len {f:Nat}:∀ (m:Nat) (s:St) (d r:Nat) (l:List Int),readK f m s d r=some l->l.length=m
 | 0,s,d,r,l,h=>by cases h;rfl
 | m+1,s,d,r,l,h=>by
  unfold readK at h
  split at h
  ·rename_i s' z hs
   obtain ⟨l',h1,rfl⟩:=Option.map_eq_some_iff.1 h
   simp [readK_len m _ _ _ _ h1]
  ·cases h
theorem symsT_len {t:Wt}{k c:Nat}{l:List Int}(h:symsT t k c=some l):l.length=k+1:=by
 unfold symsT at h
 obtain ⟨x,h1,h2⟩:=Option.bind_eq_some_iff.1 h
 obtain ⟨n,h3,h4⟩:=Option.bind_eq_some_iff.1 h2
 split at h4
 ·obtain ⟨l',h5,rfl⟩:=Option.map_eq_some_iff.1 h4
  simp [readK_len _ _ _ _ _ h5]
 ·exact readK_len _ _ _ _ _ h4
end Rf
namespace Ab
open Rf (Nd Inv NInv Wt fuelF readK symsT)
theorem Net.apart {w w':World}{b0 fb g0:Nat}{own:Nat->Option Own}{at1:Nat->Nat}{s:Rf.St}(h:Net w b0 own at1 fb s)(hc:Chg w w' [g0])(hq:g0<w.heap.size->∃ cs:Array Value,w.heap[g0]?=some (.cells cs 100 (0,0)))(ho:own g0=none):Net w' b0 own at1 fb s:=by
 have ne:∀ {k:Nat} {cs:Array Value} {ty:TypeId},w.heap[k]?=some (.cells cs ty (0,0))->ty≠100->k ∉ [g0]:=by
  intro k cs ty hk hty hm
  simp at hm
  subst hm
  obtain ⟨cs0,hq⟩:=hq (lt_of_heap hk)
  rw [hq] at hk
  cases hk
  exact hty rfl
 have keepN:∀ {k:Nat} {zs:List Int} {hs:Bool} {uns mt lr rr pl:Int} {lp rp gv cv nv:Value},NodeAt w k zs hs uns mt lr rr pl lp rp gv cv nv->NodeAt w' k zs hs uns mt lr rr pl lp rp gv cv nv:=by
  intro k zs hs uns mt lr rr pl lp rp gv cv nv hn
  obtain ⟨xs,h1,_⟩:=hn.ex
  exact hn.keep hc.on (hc.low _ hn.lt (ne h1 (by decide)))
 refine ⟨fun i n hi=>?_,hc.at h.fuel (ne h.fuel (by decide)),h.fb0⟩
 have hk:=h.nd i n hi
 obtain ⟨p0,q0,p1,q1,p2,q2,p3,q3,mt,pl,gv,cv,nv,hb,l,hl1,hl2⟩:=hk.ex
 refine ⟨⟨p0,q0,p1,q1,p2,q2,p3,q3,mt,pl,gv,cv,nv,⟨keepN hb.nd,?_,?_,hb.nocon,?_⟩,l,hl1,hl2⟩,hk.hc,hk.own,hk.lo,hk.prb⟩
 ·rcases hb.giv with h | ⟨g,cap,rest,h1,h2,h3,h4,h5,h6⟩
  ·exact Or.inl h
  ·refine Or.inr ⟨g,cap,rest,h1,hc.at h2 ?_,h3,h4,h5,h6⟩
   intro hm
   simp at hm
   subst hm
   rw [ho] at h5
   cases h5
 ·intro ht
  obtain ⟨h1,cb,h2,h3⟩:=hb.con ht
  exact ⟨h1,cb,h2,h3.keep hc.on⟩
 ·refine ⟨hb.nst.1,fun hne=>?_⟩
  obtain ⟨nb',h1,⟨cs,h2⟩,h3⟩:=hb.nst.2 hne
  refine ⟨nb',h1,⟨cs,hc.at h2 (ne h2 (by decide))⟩,fun ht ha=>?_⟩
  obtain ⟨xs,zs,fst,fur,k1,k2,k3,k4,k5,k6⟩:=h3 ht ha
  refine ⟨xs,zs,fst,fur,hc.at k1 (ne k1 (by decide)),hold_on hc.on k2,k3,k4,k5,fun hop=>?_⟩
  obtain ⟨m1,x,m2,m3,m4,m5⟩:=k6 hop
  refine ⟨m1,x,m2,m3,m4,fun hl=>⟨(m5 hl).1,fun e=>?_⟩⟩
  obtain ⟨pb,r1,r2,r3,r4⟩:=(m5 hl).2 e
  exact ⟨pb,r1,r2,r3,keepN r4⟩
def Run (t:Wt)(c0:Nat)(w:World)(b0 nb fb:Nat)(own:Nat->Option Own)(s:Rf.St)(top r:Nat):Prop:=
 ∃ at1 rho c n,NbAt w b0 nb fb own at1 s top r/\s.clock=((c:Nat):Int)/\c<=c0/\Inv s.nodes rho c/\s.nodes[top]?=some n/\r<=n.out.length/\rho top<=3200*t.size
section
variable {t:Wt} {c0:Nat} {w w':World} {b0 nb fb:Nat} {own:Nat->Option Own} {s:Rf.St} {top r:Nat}
theorem Run.still (h:Run t c0 w b0 nb fb own s top r)(hc:Chg w w' []):Run t c0 w' b0 nb fb own s top r:=by
 obtain ⟨at1,rho,c,n,hN,h1,h2,hI,h4⟩:=h
 exact ⟨at1,rho,c,n,⟨hN.net.still hI hc,hc.at hN.blk (by simp),hN.ow,Nat.le_trans hN.bs hc.on.size,hN.nlo,hN.nw⟩,h1,h2,hI,h4⟩
theorem Run.apart (h:Run t c0 w b0 nb fb own s top r){g0:Nat}(hc:Chg w w' [g0])(hq:g0<w.heap.size->∃ cs:Array Value,w.heap[g0]?=some (.cells cs 100 (0,0)))(ho:own g0=none):Run t c0 w' b0 nb fb own s top r:=by
 obtain ⟨at1,rho,c,n,hN,h1,h2,hI,h4⟩:=h
 refine ⟨at1,rho,c,n,⟨hN.net.apart hc hq ho,hc.at hN.blk ?_,hN.ow,Nat.le_trans hN.bs hc.on.size,hN.nlo,hN.nw⟩,h1,h2,hI,h4⟩
 intro hm
 simp at hm
 subst hm
 obtain ⟨cs,h⟩:=hq (lt_of_heap hN.blk)
 rw [hN.blk] at h
 exact absurd (Obj.cells.inj (Option.some.inj h)).2.1 (by decide)
theorem Run.cut (h:Run t c0 w b0 nb fb own s top r):∃ own',Run t c0 w b0 nb fb own' s top r/\(∀ k,k<w.heap.size->own' k=own k)/\∀ k,w.heap.size<=k->own' k=none:=by
 obtain ⟨at1,rho,c,n,hN,h1,h2,hI,h4⟩:=h
 refine ⟨fun k=>if k<w.heap.size then own k else none,⟨at1,rho,c,n,⟨⟨?_,hN.net.fuel,hN.net.fb0⟩,hN.blk,?_,hN.bs,hN.nlo,fun k hk=>?_⟩,h1,h2,hI,h4⟩,fun k hk=>if_pos hk,fun k hk=>if_neg (by omega)⟩
 ·have:=Nod.more (own':=fun k=>if k<w.heap.size then own k else none) (at2:=at1) (new:=[]) hN.net.nd hI (Chg.refl w) (fun k hk=>if_pos hk) (fun _ _=>rfl) (fun j mm hj=>by simp at hj)
  rw [List.append_nil] at this
  exact this
 ·show (if nb<w.heap.size then own nb else none)=none
  split
  ·exact hN.ow
  ·rfl
 ·show (if k<w.heap.size then own k else none)=none
  split
  ·exact hN.nw k hk
  ·rfl
theorem Run.low (h:Run t c0 w b0 nb fb own s top r):b0<=w.heap.size/\b0<=nb/\b0<=fb/\(∀ k,k<b0->own k=none)/\nb<w.heap.size/\fb<w.heap.size:=by
 obtain ⟨at1,rho,c,n,hN,_⟩:=h
 exact ⟨hN.bs,hN.nlo,hN.net.fb0,hN.nw,lt_of_heap hN.blk,lt_of_heap hN.net.fuel⟩
def NextS (t:Wt)(c0:Nat)(w:World)(b0 nb fb:Nat)(own:Nat->Option Own)(s:Rf.St)(top r:Nat)(e:Ending)(w':World):Prop:=
 On Z.bt w w'/\(∀ k,k<w.heap.size->own k=none->k≠fb->k≠nb->w'.heap[k]?=w.heap[k]?)/\
  ((e=.returned (.int .i64 0)/\∃ s',Rf.sym (fuelF t) s top r=some (s',none))\/∃ s' z own',e=.returned (.int .i64 (code z))/\Rf.sym (fuelF t) s top r=some (s',some z)/\Run t c0 w' b0 nb fb own' s' top (r+1)/\∀ k,k<w.heap.size->own k=none->own' k=none)
theorem next_run (h3:c0<=3000)(h:Run t c0 w b0 nb fb own s top r)(hr:r<=1000000):Calls Tryz.prog 78 #[ptrB nb] w (NextS t c0 w b0 nb fb own s top r):=by
 obtain ⟨at1,rho,c,n,hN,h1,h2,hI,h4,h5,h6⟩:=h
 have hf:c+rho top+2<=fuelF t:=by unfold fuelF;omega
 obtain ⟨x,hx,hp⟩:=Rf.total (fuelF t) s top r rho c h1 (by omega) hI n h4 h5 hf
 refine (next_ok hN h1 (by omega) hI h4 h5 hr hf hx fun hs=>?_).mono ?_
 ·obtain ⟨v,hv⟩:=Option.isSome_iff_exists.1 hs
  obtain ⟨rho',c',_,_,hI',_⟩:=hp.ex v hv
  exact ⟨rho',c',hI'⟩
 ·rintro e w' ⟨rfl,hon,hlow,hkept,hsome⟩
  obtain ⟨s',z⟩:=x
  refine ⟨hon,hkept,?_⟩
  cases z with
  | none=>exact Or.inl ⟨rfl,s',hx⟩
  | some z=>
   obtain ⟨rho',c',g1,g2,g3,g4,n',g5,g6⟩:=hp.ex z rfl
   obtain ⟨own',at2,hN',ho⟩:=hsome rfl
   refine Or.inr ⟨s',z,own',rfl,hx,⟨at2,rho',c',n',hN',g2,by omega,g3,g5,g6,?_⟩,ho⟩
   rw [g4.agree top (List.getElem?_eq_some_iff.1 h4).1]
   exact h6
theorem new_run {v:Value}{c:Nat}(hok:t.Ok)(hp:PartAt w t v)(hc:c<=3000):Calls Tryz.prog 76 #[v,.int .i64 c] w fun e w'=>∃ ns d own nb fb n,Rf.of t []=some (ns,d)/\ns[d]?=some n/\e=.returned (ptrB nb)/\Chg w w' []/\Run t c w' w.heap.size nb fb own ⟨ns,c⟩ d 0:=by
 refine (new_ok hok hp hc).mono ?_
 rintro e w' ⟨ns,d,own,at1,nb,fb,hof,he,hch,hN⟩
 obtain ⟨ns',rho',d',hof',gr,hd,hrk,_⟩:=Rf.of_inv t [] (fun _=>0) hok hc (Rf.inv_nil _ c)
 rw [hof] at hof'
 cases hof'
 exact ⟨ns,d,own,nb,fb,ns[d],hof,List.getElem?_eq_getElem hd,he,hch,at1,rho',c,ns[d],hN,rfl,Nat.le_refl _,gr.inv,List.getElem?_eq_getElem hd,Nat.zero_le _,hrk⟩
theorem sign_run {n:Nd}(h:Run t c0 w b0 nb fb own s top r)(hn:s.nodes[top]?=some n):Calls Tryz.prog 77 #[ptrB nb] w fun e w'=>e=.returned (.bool (!n.pos))/\Chg w w' []:=by
 obtain ⟨at1,rho,c,n',hN,_⟩:=h
 exact hassign_ok hN hn
end
end Ab
namespace Rf
open Nw
open Pg (Go HC)
def Dg (n:Nd):Prop:=∀ (i:Nat) (c:Int),n.out[i]?=some c->(i=0/\n.pos=false)\/c=-1\/c=0\/c=1
def GP (n:Nd):Prop:=HC n/\Dg n
theorem GP.fresh (pos:Bool)(t:List V)(args:List Nat):GP (fresh pos t args):=⟨HC.fresh pos t args,fun i c h=>by simp [Rf.fresh] at h⟩
theorem GP.of {n n':Nd}(h:GP n)(h1:n'.out=n.out)(h2:n'.had=n.had)(h3:n'.told=n.told)(h4:n'.pos=n.pos):GP n':=⟨h.1.of h1 h2 h3,fun i c hi=>by rw [h1] at hi;rw [h4];exact h.2 i c hi⟩
structure GG (ns ns':List Nd):Prop where
 go:Go ns ns'
 all:(∀ n∈ns,GP n)->∀ n∈ns',GP n
theorem GG.refl (ns:List Nd):GG ns ns:=⟨Go.refl _,fun h=>h⟩
theorem GG.trans {a b c:List Nd}(h:GG a b)(g:GG b c):GG a c:=⟨h.go.trans g.go,fun k=>g.all (h.all k)⟩
theorem more_gg {ns r:List Nd}{n:Nd}(h:more ns n=some r)(hn:GP n):GG ns r/\r=ns++[n]:=by
 unfold more at h
 split at h
 ·cases h
  refine ⟨⟨Go.more _ _,fun k m hm=>?_⟩,rfl⟩
  rcases List.mem_append.1 hm with hm | hm
  ·exact k m hm
  ·rw [List.mem_singleton.1 hm];exact hn
 ·cases h
theorem put_gg {ns r:List Nd}{i:Nat}{n n':Nd}(h:put ns i n'=some r)(hi:ns[i]?=some n)(h1:n'.out=n.out)(h2:n'.had=n.had)(h3:n'.told=n.told)(h4:n'.pos=n.pos):GG ns r/\r=ns.set i n':=by
 unfold put at h
 split at h
 ·cases h
  refine ⟨⟨Go.set hi h4 (fun r m e=>by rw [h2];exact e) (fun r c e=>by rw [h1];exact e),fun k m hm=>?_⟩,rfl⟩
  rcases List.mem_or_eq_of_mem_set hm with hm | hm
  ·exact k m hm
  ·rw [hm];exact (k n (List.mem_of_getElem? hi)).of h1 h2 h3 h4
 ·cases h
theorem at_more {ns r:List Nd}{n m:Nd}{i:Nat}(h:r=ns++[m])(hi:ns[i]?=some n):r[i]?=some n:=by
 rw [h,List.getElem?_append_left (List.getElem?_eq_some_iff.1 hi).1]
 exact hi
theorem with_op {pos:Bool}{t:List V}{args:List Nat}{n':Nd}(h1:n'.out=[])(h2:n'.had=[one])(h3:n'.told=one)(h4:n'.pos=pos):GP n':=(GP.fresh pos t args).of h1 h2 h3 h4
theorem outright_gg {ns r:List Nd}{op:Op}{p q:Int}{d i:Nat}{n:Nd}(h:outright ns op p q=some (r,d)):GG ns r/\(ns[i]?=some n->r[i]?=some n):=by
 unfold outright at h
 obtain ⟨n1,e1,h⟩:=Option.bind_eq_some_iff.1 h
 obtain ⟨g1,r1⟩:=more_gg e1 (with_op (t:=[]) (args:=[]) (pos:=true) rfl rfl rfl rfl)
 split at h
 ·obtain ⟨n2,e2,h⟩:=Option.map_eq_some_iff.1 h
  obtain ⟨g2,r2⟩:=more_gg e2 (GP.fresh _ _ _)
  cases h
  exact ⟨g1.trans g2,fun hi=>at_more r2 (at_more r1 hi)⟩
 ·cases h
  exact ⟨g1,fun hi=>at_more r1 hi⟩
theorem nest_gg {ns r:List Nd}{op:Op}{k x d i:Nat}{sq:Option Nat}{n:Nd}(h:nest ns op k x sq=some (r,d)):GG ns r/\(ns[i]?=some n->r[i]?=some n):=by
 have hn:∀ a b c e,GP (nestNd a b c x e):=fun a b c e=>with_op (t:=[]) (args:=[]) (pos:=true) rfl rfl rfl rfl
 unfold nest at h
 split at h
 ·split at h
  ·obtain ⟨n1,e1,h⟩:=Option.map_eq_some_iff.1 h
   obtain ⟨g1,r1⟩:=more_gg e1 (hn _ _ _ _)
   cases h
   exact ⟨g1,fun hi=>at_more r1 hi⟩
  ·obtain ⟨nx,_,h⟩:=Option.bind_eq_some_iff.1 h
   obtain ⟨n1,e1,h⟩:=Option.bind_eq_some_iff.1 h
   obtain ⟨g1,r1⟩:=more_gg e1 (GP.fresh _ _ _)
   obtain ⟨n2,e2,h⟩:=Option.map_eq_some_iff.1 h
   obtain ⟨g2,r2⟩:=more_gg e2 (hn _ _ _ _)
   cases h
   exact ⟨g1.trans g2,fun hi=>at_more r2 (at_more r1 hi)⟩
 ·obtain ⟨n1,e1,h⟩:=Option.map_eq_some_iff.1 h
  obtain ⟨g1,r1⟩:=more_gg e1 (hn _ _ _ _)
  cases h
  exact ⟨g1,fun hi=>at_more r1 hi⟩
theorem deeper_gg {ns r:List Nd}{m:Nd}{d i:Nat}{n:Nd}(h:deeper ns m=some (r,d)):GG ns r/\(ns[i]?=some n->r[i]?=some n):=by
 unfold deeper at h
 split at h
 ·obtain ⟨a,_,h⟩:=Option.bind_eq_some_iff.1 h
  obtain ⟨n1,e1,h⟩:=Option.map_eq_some_iff.1 h
  obtain ⟨g1,r1⟩:=more_gg e1 (with_op (t:=[]) (args:=[]) (pos:=true) rfl rfl rfl rfl)
  cases h
  exact ⟨g1,fun hi=>at_more r1 hi⟩
 ·obtain ⟨x,_,h⟩:=Option.bind_eq_some_iff.1 h
  exact nest_gg h
theorem turn_gg {ns r:List Nd}{i:Nat}{n n0:Nd}{lo:V}(h:turn ns i n lo=some r)(hi:ns[i]?=some n0)(h1:n.out=n0.out)(h2:n.had=n0.had)(h3:n.told=n0.told)(h4:n.pos=n0.pos):GG ns r:=by
 unfold turn at h
 obtain ⟨x,_,h⟩:=Option.bind_eq_some_iff.1 h
 split at h
 ·obtain ⟨ab,_,h⟩:=Option.bind_eq_some_iff.1 h
  exact (put_gg h hi h1 h2 h3 h4).1
 ·obtain ⟨zb,e1,h⟩:=Option.bind_eq_some_iff.1 h
  have g1:GG ns zb.1/\zb.1[i]?=some n0:=by
   split at e1
   ·obtain ⟨n1,e1,h⟩:=Option.map_eq_some_iff.1 e1
    obtain ⟨g1,r1⟩:=more_gg e1 (GP.fresh _ _ _)
    cases h
    exact ⟨g1,at_more r1 hi⟩
   ·cases e1
    exact ⟨GG.refl _,hi⟩
  obtain ⟨⟨nb1,nb2⟩,e2,h⟩:=Option.bind_eq_some_iff.1 h
  obtain ⟨g2,k2⟩:=nest_gg (i:=i) (n:=n0) e2
  have k2:=k2 g1.2
  obtain ⟨rb,e3,h⟩:=Option.bind_eq_some_iff.1 h
  have g3:GG nb1 rb.1/\rb.1[i]?=some n0:=by
   split at e3
   ·obtain ⟨n1,e1,h⟩:=Option.map_eq_some_iff.1 e3
    obtain ⟨g1,r1⟩:=more_gg e1 (GP.fresh _ _ _)
    cases h
    exact ⟨g1,at_more r1 k2⟩
   ·cases e3
    exact ⟨GG.refl _,k2⟩
  have g03:=(g1.1.trans g2).trans g3.1
  split at h
  ·exact g03.trans (put_gg h g3.2 h1 h2 h3 h4).1
  ·obtain ⟨⟨fb1,fb2⟩,e4,h⟩:=Option.bind_eq_some_iff.1 h
   obtain ⟨g4,k4⟩:=outright_gg (i:=i) (n:=n0) e4
   exact (g03.trans g4).trans (put_gg h (k4 g3.2) h1 h2 h3 h4).1
theorem give_gg {s s1:St}{i:Nat}{n:Nd}{c:Int}(h:give s i n c=some s1)(hi:s.nodes[i]?=some n)(hc:c∈tries n):GG s.nodes s1.nodes:=by
 unfold give at h
 obtain ⟨ns,e,h⟩:=Option.map_eq_some_iff.1 h
 cases h
 unfold put at e
 split at e
 ·cases e
  refine ⟨Go.set hi rfl (fun r m e=>?_) (fun r c e=>?_),fun k m hm=>?_⟩
  ·show (n.had++_)[r]?=_
   rw [List.getElem?_append_left (List.getElem?_eq_some_iff.1 e).1]
   exact e
  ·show (n.out++_)[r]?=_
   rw [List.getElem?_append_left (List.getElem?_eq_some_iff.1 e).1]
   exact e
  ·rcases List.mem_or_eq_of_mem_set hm with hm | hm
   ·exact k m hm
   ·rw [hm]
    obtain ⟨k1,k2⟩:=k n (List.mem_of_getElem? hi)
    refine ⟨k1.give c,fun j d hj=>?_⟩
    by_cases hl:j<n.out.length
    ·rw [show (n.out++[c])[j]?=n.out[j]? from List.getElem?_append_left hl] at hj
     exact k2 j d hj
    ·rw [show (n.out++[c])[j]?=[c][j-n.out.length]? from List.getElem?_append_right (by omega)] at hj
     have h0:j-n.out.length=0:=by
      have:=(List.getElem?_eq_some_iff.1 hj).1
      simp at this
      omega
     rw [h0] at hj
     simp at hj
     subst hj
     unfold tries at hc
     split at hc
     ·rename_i hh
      refine Or.inl ⟨?_,hh.1⟩
      rw [hh.2] at h0
      simpa using h0
     ·simp at hc
      omega
 ·cases e
theorem wide_gg {s s1:St}{i sd:Nat}{n:Nd}(h:wide s i n sd=some s1)(hi:s.nodes[i]?=some n):GG s.nodes s1.nodes:=by
 unfold wide at h
 split at h
 ·obtain ⟨⟨d1,d2⟩,e1,h⟩:=Option.bind_eq_some_iff.1 h
  obtain ⟨g1,k1⟩:=deeper_gg (i:=i) (n:=n) e1
  obtain ⟨ns,e2,h⟩:=Option.map_eq_some_iff.1 h
  cases h
  exact g1.trans (put_gg e2 (k1 hi) rfl rfl rfl rfl).1
 ·cases h
  exact GG.refl _
theorem settle_gg {ns r:List Nd}{i:Nat}{n n0:Nd}(h:settle ns i n=some r)(hi:ns[i]?=some n0)(h1:n.out=n0.out)(h2:n.had=n0.had)(h3:n.told=n0.told)(h4:n.pos=n0.pos):GG ns r:=by
 unfold settle at h
 split at h
 ·obtain ⟨e,_,h⟩:=Option.bind_eq_some_iff.1 h
  split at h
  ·obtain ⟨ns1,e1,h⟩:=Option.bind_eq_some_iff.1 h
   obtain ⟨g1,r1⟩:=put_gg e1 hi h1 h2 h3 h4
   have hlt:=(List.getElem?_eq_some_iff.1 hi).1
   exact g1.trans (turn_gg h (n0:={n with read:=n.read.set 0 0,probe:=false}) (by rw [r1];exact List.getElem?_set_self hlt) rfl rfl rfl rfl)
  ·cases h;exact GG.refl _
 ·cases h;exact GG.refl _
theorem after_gg {s:St}{i sd:Nat}{x:St×Bool}(h:after s i sd=some x):GG s.nodes x.1.nodes:=by
 unfold after at h
 obtain ⟨n,hi,h⟩:=Option.bind_eq_some_iff.1 h
 obtain ⟨ns,e1,h⟩:=Option.bind_eq_some_iff.1 h
 obtain ⟨g1,r1⟩:=put_gg e1 hi rfl rfl rfl rfl
 have hlt:=(List.getElem?_eq_some_iff.1 hi).1
 split at h
 ·cases h;exact g1
 ·obtain ⟨ns1,e2,h⟩:=Option.map_eq_some_iff.1 h
  cases h
  exact g1.trans (settle_gg e2 (n0:={n with read:=bump n.read sd}) (by rw [r1];exact List.getElem?_set_self hlt) rfl rfl rfl rfl)
theorem reads_gg {rec:St->Nat->Nat->Option (St×Option Int)}(hrec:∀ s i j x,rec s i j=some x->GG s.nodes x.1.nodes){s:St}{i:Nat}{n:Nd}{x:St×Bool}(h:reads rec s i n=some x)(hi:s.nodes[i]?=some n):GG s.nodes x.1.nodes:=by
 unfold reads at h
 split at h
 ·obtain ⟨m,_,h⟩:=Option.bind_eq_some_iff.1 h
  obtain ⟨ns,e1,h⟩:=Option.map_eq_some_iff.1 h
  cases h
  exact (put_gg e1 hi rfl rfl rfl rfl).1
 ·obtain ⟨sd,_,h⟩:=Option.bind_eq_some_iff.1 h
  obtain ⟨s1,e1,h⟩:=Option.bind_eq_some_iff.1 h
  obtain ⟨n1,_,h⟩:=Option.bind_eq_some_iff.1 h
  obtain ⟨a,_,h⟩:=Option.bind_eq_some_iff.1 h
  obtain ⟨r,_,h⟩:=Option.bind_eq_some_iff.1 h
  obtain ⟨y,e2,h⟩:=Option.bind_eq_some_iff.1 h
  have g:=(wide_gg e1 hi).trans (hrec _ _ _ _ e2)
  split at h
  ·cases h;exact g
  ·exact g.trans (after_gg h)
theorem sym_gg:∀ (f:Nat) (s:St) (i j:Nat) (x:St×Option Int),sym f s i j=some x->GG s.nodes x.1.nodes
 | 0,s,i,j,x,h=>by cases h
 | f+1,s,i,j,x,h=>by
  unfold sym at h
  obtain ⟨n,hi,h⟩:=Option.bind_eq_some_iff.1 h
  split at h
  ·cases h;exact GG.refl _
  ·obtain ⟨o,ho,h⟩:=Option.bind_eq_some_iff.1 h
   split at h
   ·rename_i c
    split at h
    ·cases h;exact GG.refl _
    ·obtain ⟨s1,e1,h⟩:=Option.bind_eq_some_iff.1 h
     have hc:c∈tries n:=by
      split at ho
      ·cases ho
      ·unfold next at ho
       split at ho
       ·cases ho
       ·obtain ⟨l,_,e⟩:=Option.map_eq_some_iff.1 ho
        exact List.mem_of_find?_eq_some e
     exact (give_gg e1 hi hc).trans (sym_gg f _ _ _ _ h)
   ·obtain ⟨y,e1,h⟩:=Option.bind_eq_some_iff.1 h
    have g:=reads_gg (fun s i j x h=>sym_gg f s i j x h) e1 hi
    split at h
    ·exact g.trans (sym_gg f _ _ _ _ h)
    ·cases h;exact g
end Rf
namespace Rf
open Nw
namespace C
def more (ns:List Nd)(n:Nd):Option (List Nd):=some (ns++[n])
def put (ns:List Nd)(i:Nat)(n:Nd):Option (List Nd):=some (ns.set i n)
def outright (ns:List Nd)(op:Op)(p q:Int):Option (List Nd×Nat):=
 (more ns (row op p q)).bind fun ns1=>if op=.exp then (more ns1 (raised ns.length)).map fun ns2=>(ns2,ns.length+1) else some (ns1,ns.length)
def nest (ns:List Nd)(op:Op)(k x:Nat)(sq:Option Nat):Option (List Nd×Nat):=
 if 0<k/\op≠.ln1p then
  match sq with
  | some s=>(more ns (nestNd op k s x (some s))).map fun ns1=>(ns1,ns.length)
  | none=>(ns[x]?).bind fun nx=>(more ns (two .mul nx.pos nx.pos x x)).bind fun ns1=>(more ns1 (nestNd op k ns.length x (some ns.length))).map fun ns2=>(ns2,ns.length+1)
 else (more ns (nestNd op k x x sq)).map fun ns1=>(ns1,ns.length)
def deeper (ns:List Nd)(n:Nd):Option (List Nd×Nat):=
 if n.op=.sqrt then (n.args[0]?).bind fun a=>(more ns { fresh true n.t [a] with op:=n.op,nest:=true}).map fun ns1=>(ns1,ns.length)
 else n.x.bind fun x=>nest ns n.op (n.k+1) x n.square
def turn (ns:List Nd)(i:Nat)(n:Nd)(lo:V):Option (List Nd):=
 (n.args[0]?).bind fun x=>
 if n.op=.sqrt then (near lo.1 lo.2 20000 1).bind fun ab=>put ns i {n with t:=[(0,0),(ab.2,0),(ab.1,ab.2),(0,ab.1)],nest:=true}
 else
  (if 0<lo.1 then (more ns (fresh true (restCols n.op lo) [x])).map fun ns1=>(ns1,ns.length) else some (ns,x)).bind fun zb=>
  (nest zb.1 n.op 0 zb.2 none).bind fun nb=>
  (if n.op=.exp then (more nb.1 (raised nb.2)).map fun ns3=>(ns3,nb.1.length) else some nb).bind fun rb=>
  if lo.1=0 then put rb.1 i {n with args:=[rb.2]}
  else (outright rb.1 n.op lo.1 lo.2).bind fun fb=>
   put fb.1 i {n with t:=(if n.op=.exp then Kind.mul else Kind.add).cols,args:=[fb.2,rb.2],read:=[0,0]}
def give (s:St)(i:Nat)(n:Nd)(c:Int):Option St:=
 (put s.nodes i {n with out:=n.out++[c],told:=n.told.mul (Mt.sym c),had:=n.had++[n.told.mul (Mt.sym c)]}).map fun ns=>⟨ns,s.clock-1⟩
def wide (s:St)(i:Nat)(n:Nd)(sd:Nat):Option St:=
 if sd=n.args.length then
  (deeper s.nodes n).bind fun d=>(put d.1 i {n with args:=n.args++[d.2],read:=n.read++[0]}).map fun ns=>⟨ns,s.clock⟩
 else some s
def settle (ns:List Nd)(i:Nat)(n:Nd):Option (List Nd):=
 if n.probe then
  (ends ns n 0).bind fun e=>
  if known n.op e.2 e.1 then (put ns i {n with read:=n.read.set 0 0,probe:=false}).bind fun ns1=>turn ns1 i {n with read:=n.read.set 0 0,probe:=false} e.2
  else some ns
 else some ns
def after (s:St)(i sd:Nat):Option (St×Bool):=
 (s.nodes[i]?).bind fun n=>
 (put s.nodes i {n with read:=bump n.read sd}).bind fun ns=>
 if s.clock-1<0 then some (⟨ns,s.clock-1⟩,false) else
 (settle ns i {n with read:=bump n.read sd}).map fun ns1=>(⟨ns1,s.clock-1⟩,true)
def reads (rec:St->Nat->Nat->Option (St×Option Int))(s:St)(i:Nat)(n:Nd):Option (St×Bool):=
 if n.t=[] then
  (constant n n.k).bind fun m=>(put s.nodes i {n with part:=n.part.mul m,k:=n.k+1}).map fun ns=>(⟨ns,s.clock-1⟩,decide (0<=s.clock-1))
 else
  (side s.nodes n).bind fun sd=>(wide s i n sd).bind fun s1=>
  (s1.nodes[i]?).bind fun n1=>(n1.args[sd]?).bind fun a=>(n1.read[sd]?).bind fun r=>
  (rec s1 a r).bind fun x=>match x.2 with
   | none=>some (x.1,false)
   | some _=>after x.1 i sd
def sym:Nat->St->Nat->Nat->Option (St×Option Int)
 | 0,_,_,_=>none
 | f+1,s,i,j=>
  (s.nodes[i]?).bind fun n=>
  match n.out[j]? with
  | some c=>some (s,some c)
  | none=>
   (if n.probe then some none else next s.nodes n).bind fun o=>match o with
   | some c=>if s.clock-1<0 then some (⟨s.nodes,s.clock-1⟩,none) else (give s i n c).bind fun s1=>sym f s1 i j
   | none=>(reads (sym f) s i n).bind fun x=>if x.2 then sym f x.1 i j else some (x.1,none)
def of:Wt->List Nd->Option (List Nd×Nat)
 | .fr p q,ns=>(more ns (fresh (decide (0<=p)) [(p,q)] [])).map fun ns1=>(ns1,ns.length)
 | .con op ts,ns=>(more ns { fresh true [] [] with op:=op,terms:=ts}).map fun ns1=>(ns1,ns.length)
 | .neg t,ns=>(of t ns).bind fun x=>(more x.1 (fresh false [(-1,0),(0,1)] [x.2])).map fun ns1=>(ns1,x.1.length)
 | .two k a b,ns=>(of a ns).bind fun x=>(of b x.1).bind fun y=>(y.1[x.2]?).bind fun nx=>(y.1[y.2]?).bind fun ny=>(more y.1 (two k nx.pos ny.pos x.2 y.2)).map fun ns1=>(ns1,y.1.length)
 | .fn op (.fr p q),ns=>outright ns op p q
 | .fn op t,ns=>(of t ns).bind fun x=>(x.1[x.2]?).bind fun nx=>
   (if nx.pos then some x else (more x.1 (fresh true [(1,0),(0,1)] [x.2])).map fun ns1=>(ns1,x.1.length)).bind fun y=>
   (more y.1 { fresh true [(1,0),(0,1)] [y.2] with op:=op,probe:=true}).map fun ns1=>(ns1,y.1.length)
end C
def Le' {α:Type}(x y:Option α):Prop:=∀ a,x=some a->y=some a
theorem Le'.refl {α:Type}(x:Option α):Le' x x:=fun _ h=>h
theorem Le'.bind {α β:Type}{x y:Option α}{f g:α->Option β}(h:Le' x y)(hf:∀ a,Le' (f a) (g a)):Le' (x.bind f) (y.bind g):=by
 intro b hb
 obtain ⟨a,h1,h2⟩:=Option.bind_eq_some_iff.1 hb
 rw [h a h1]
 exact hf a b h2
theorem Le'.map {α β:Type}{x y:Option α}{f:α->β}(h:Le' x y):Le' (x.map f) (y.map f):=by
 intro b hb
 obtain ⟨a,h1,h2⟩:=Option.map_eq_some_iff.1 hb
 rw [h a h1,<-h2];rfl
theorem Le'.ite {α:Type}{c:Prop} [Decidable c] {x y x' y':Option α}(h1:Le' x x')(h2:Le' y y'):Le' (if c then x else y) (if c then x' else y'):=by
 split
 ·exact h1
 ·exact h2
theorem more_le (ns:List Nd)(n:Nd):Le' (more ns n) (C.more ns n):=by
 intro a h
 unfold more at h
 split at h
 ·exact h
 ·cases h
theorem put_le (ns:List Nd)(i:Nat)(n:Nd):Le' (put ns i n) (C.put ns i n):=by
 intro a h
 unfold put at h
 split at h
 ·exact h
 ·cases h
theorem outright_le (ns:List Nd)(op:Op)(p q:Int):Le' (outright ns op p q) (C.outright ns op p q):=
 Le'.bind (more_le _ _) fun _=>Le'.ite (Le'.map (more_le _ _)) (Le'.refl _)
theorem nest_le (ns:List Nd)(op:Op)(k x:Nat)(sq:Option Nat):Le' (nest ns op k x sq) (C.nest ns op k x sq):=by
 unfold nest C.nest
 refine Le'.ite ?_ (Le'.map (more_le _ _))
 cases sq with
 | some s=>exact Le'.map (more_le _ _)
 | none=>exact Le'.bind (Le'.refl _) fun _=>Le'.bind (more_le _ _) fun _=>Le'.map (more_le _ _)
theorem deeper_le (ns:List Nd)(n:Nd):Le' (deeper ns n) (C.deeper ns n):=
 Le'.ite (Le'.bind (Le'.refl _) fun _=>Le'.map (more_le _ _)) (Le'.bind (Le'.refl _) fun _=>nest_le _ _ _ _ _)
theorem turn_le (ns:List Nd)(i:Nat)(n:Nd)(lo:V):Le' (turn ns i n lo) (C.turn ns i n lo):=
 Le'.bind (Le'.refl _) fun _=>Le'.ite (Le'.bind (Le'.refl _) fun _=>put_le _ _ _) <|
  Le'.bind (Le'.ite (Le'.map (more_le _ _)) (Le'.refl _)) fun _=>Le'.bind (nest_le _ _ _ _ _) fun _=>Le'.bind (Le'.ite (Le'.map (more_le _ _)) (Le'.refl _)) fun _=>
  Le'.ite (put_le _ _ _) (Le'.bind (outright_le _ _ _ _) fun _=>put_le _ _ _)
theorem give_le (s:St)(i:Nat)(n:Nd)(c:Int):Le' (give s i n c) (C.give s i n c):=Le'.map (put_le _ _ _)
theorem wide_le (s:St)(i:Nat)(n:Nd)(sd:Nat):Le' (wide s i n sd) (C.wide s i n sd):=Le'.ite (Le'.bind (deeper_le _ _) fun _=>Le'.map (put_le _ _ _)) (Le'.refl _)
theorem settle_le (ns:List Nd)(i:Nat)(n:Nd):Le' (settle ns i n) (C.settle ns i n):=
 Le'.ite (Le'.bind (Le'.refl _) fun _=>Le'.ite (Le'.bind (put_le _ _ _) fun _=>turn_le _ _ _ _) (Le'.refl _)) (Le'.refl _)
theorem after_le' (s:St)(i sd:Nat):Le' (after s i sd) (C.after s i sd):=
 Le'.bind (Le'.refl _) fun _=>Le'.bind (put_le _ _ _) fun _=>Le'.ite (Le'.refl _) (Le'.map (settle_le _ _ _))
theorem reads_le {rec rec':St->Nat->Nat->Option (St×Option Int)}(h:∀ s i j,Le' (rec s i j) (rec' s i j))(s:St)(i:Nat)(n:Nd):Le' (reads rec s i n) (C.reads rec' s i n):=by
 refine Le'.ite (Le'.bind (Le'.refl _) fun _=>Le'.map (put_le _ _ _)) (Le'.bind (Le'.refl _) fun _=>Le'.bind (wide_le _ _ _ _) fun _=>Le'.bind (Le'.refl _) fun _=>Le'.bind (Le'.refl _) fun _=>Le'.bind (Le'.refl _) fun _=>Le'.bind (h _ _ _) fun x=>?_)
 cases x.2 with
 | none=>exact Le'.refl _
 | some _=>exact after_le' _ _ _
theorem sym_le':∀ (f:Nat) (s:St) (i j:Nat),Le' (sym f s i j) (C.sym f s i j)
 | 0,_,_,_=>Le'.refl _
 | f+1,s,i,j=>by
  unfold sym C.sym
  refine Le'.bind (Le'.refl _) fun n=>?_
  cases n.out[j]? with
  | some c=>exact Le'.refl _
  | none=>
   refine Le'.bind (Le'.refl _) fun o=>?_
   cases o with
   | some c=>exact Le'.ite (Le'.refl _) (Le'.bind (give_le _ _ _ _) fun s1=>sym_le' f s1 i j)
   | none=>exact Le'.bind (reads_le (sym_le' f) _ _ _) fun x=>Le'.ite (sym_le' f x.1 i j) (Le'.refl _)
theorem of_le:∀ (t:Wt) (ns:List Nd),Le' (of t ns) (C.of t ns)
 | .fr p q,ns=>by unfold of C.of;exact Le'.map (more_le _ _)
 | .con op ts,ns=>by unfold of C.of;exact Le'.map (more_le _ _)
 | .neg t,ns=>by unfold of C.of;exact Le'.bind (of_le t ns) fun _=>Le'.map (more_le _ _)
 | .two k a b,ns=>by unfold of C.of;exact Le'.bind (of_le a ns) fun x=>Le'.bind (of_le b x.1) fun _=>Le'.bind (Le'.refl _) fun _=>Le'.bind (Le'.refl _) fun _=>Le'.map (more_le _ _)
 | .fn op (.fr p q),ns=>by unfold of C.of;exact outright_le _ _ _ _
 | .fn op (.con o ts),ns=>fn_le (of_le (.con o ts) ns)
 | .fn op (.neg t),ns=>fn_le (of_le (.neg t) ns)
 | .fn op (.two k a b),ns=>fn_le (of_le (.two k a b) ns)
 | .fn op (.fn o t),ns=>fn_le (of_le (.fn o t) ns)
where
 fn_le {x y:Option (List Nd×Nat)} {op:Op} (h:Le' x y):Le' (x.bind fun x=>(x.1[x.2]?).bind fun nx=>
   (if nx.pos then some x else (more x.1 (fresh true [(1,0),(0,1)] [x.2])).map fun ns1=>(ns1,x.1.length)).bind fun y=>
   (more y.1 { fresh true [(1,0),(0,1)] [y.2] with op:=op,probe:=true}).map fun ns1=>(ns1,y.1.length))
   (y.bind fun x=>(x.1[x.2]?).bind fun nx=>
   (if nx.pos then some x else (C.more x.1 (fresh true [(1,0),(0,1)] [x.2])).map fun ns1=>(ns1,x.1.length)).bind fun y=>
   (C.more y.1 { fresh true [(1,0),(0,1)] [y.2] with op:=op,probe:=true}).map fun ns1=>(ns1,y.1.length)):=
  Le'.bind h fun _=>Le'.bind (Le'.refl _) fun _=>Le'.bind (Le'.ite (Le'.refl _) (Le'.map (more_le _ _))) fun _=>Le'.map (more_le _ _)
end Rf
namespace Rf
open Nw
open Pg (Go HC)
structure Cm (m:Mt):Prop where
 a:m.a<=0
 b:m.b<=0
 c:0<=m.c
 d:0<=m.d
 det:m.a*m.d-m.b*m.c≠0
theorem Cm.start:Cm (one.mul (Mt.sym 45)):=⟨by decide,by decide,by decide,by decide,by decide⟩
theorem Cm.digit {m:Mt}(h:Cm m){c:Int}(hc:c=-1\/c=0\/c=1):Cm (m.mul (Mt.sym c)):=by
 obtain ⟨h1,h2,h3,h4,h5⟩:=h
 rcases hc with rfl | rfl | rfl
 ·refine ⟨?_,?_,?_,?_,?_⟩<;>simp [Mt.mul,Mt.sym]
  ·omega
  ·omega
  ·omega
  ·omega
  ·intro e
   apply h5
   have:(m.a+m.b)*(m.d*2)-m.b*2*(m.c+m.d)=2*(m.a*m.d-m.b*m.c):=by grind
   omega
 ·refine ⟨?_,?_,?_,?_,?_⟩<;>simp [Mt.mul,Mt.sym]
  ·omega
  ·omega
  ·omega
  ·omega
  ·intro e
   apply h5
   have:(m.a*3+m.b)*(m.c+m.d*3)-(m.a+m.b*3)*(m.c*3+m.d)=8*(m.a*m.d-m.b*m.c):=by grind
   omega
 ·refine ⟨?_,?_,?_,?_,?_⟩<;>simp [Mt.mul,Mt.sym]
  ·omega
  ·omega
  ·omega
  ·omega
  ·intro e
   apply h5
   have:m.a*2*(m.c+m.d)-(m.a+m.b)*(m.c*2)=2*(m.a*m.d-m.b*m.c):=by grind
   omega
theorem Cm.had {m:Nd}(h:GP m)(h0:m.out[0]?=some 45):∀ (k:Nat) (x:Mt),m.had[k+1]?=some x->Cm x
 | 0,x,hx=>by
  have:=h.1.step 0 45 one h0 h.1.fst
  rw [hx] at this
  cases this
  exact Cm.start
 | k+1,x,hx=>by
  have hl:k+2<m.had.length:=(List.getElem?_eq_some_iff.1 hx).1
  have hk:k+1<m.out.length:=by rw [h.1.len] at hl;omega
  have ho:m.out[k+1]?=some m.out[k+1]:=List.getElem?_eq_getElem hk
  have hy:m.had[k+1]?=some (m.had[k+1]'(by omega)):=List.getElem?_eq_getElem (by omega)
  have:=h.1.step (k+1) _ _ ho hy
  rw [hx] at this
  cases this
  refine (Cm.had h h0 k _ hy).digit ?_
  rcases h.2 (k+1) _ ho with ⟨e,_⟩ | e
  ·omega
  ·exact e
theorem Cm.can {m:Mt}(h:Cm m){s:Int}(hs:s∈([-1,1,0]:List Int)):can [vag one (vat ⟨1,0,0,1⟩ (vat m (1,0))),vag one (vat ⟨1,0,0,1⟩ (vat m (0,1)))] s=false:=by
 obtain ⟨h1,h2,h3,h4,h5⟩:=h
 have q1:m.a≠0\/m.b≠0:=by
  by_cases e:m.a=0
  ·right
   intro e2
   rw [e,e2] at h5
   simp at h5
  ·exact Or.inl e
 have q2:m.c≠0\/m.d≠0:=by
  by_cases e:m.c=0
  ·right
   intro e2
   rw [e,e2] at h5
   simp at h5
  ·exact Or.inl e
 have q3:m.a≠0\/m.c≠0:=by
  by_cases e:m.a=0
  ·right
   intro e2
   rw [e,e2] at h5
   simp at h5
  ·exact Or.inl e
 clear h5
 obtain ⟨a,b,c,d⟩:=m
 simp only at*
 simp only [List.mem_cons,List.not_mem_nil,or_false] at hs
 rcases hs with rfl | rfl | rfl<;>simp [Rf.can,fits,ups,downs,vag,vat,Mt.at1,Mt.at2,Mt.ag1,Mt.ag2,one,Mt.sym]<;>(rw [Bool.eq_iff_iff];simp only [Bool.or_eq_true,decide_eq_true_eq];omega)
def N3 (k:Nat):Nd:={ fresh true [(1,0),(0,1)] [2] with read:=[k]}
theorem never3:∀ (f:Nat) (s:St) (rho:Nat->Nat) (c k:Nat) (m:Nd),s.clock=(c:Int)->c<=3000->Inv s.nodes rho c->s.nodes[3]?=some (N3 (k+1))->s.nodes[2]?=some m->(∀ n∈s.nodes,GP n)->m.pos=false->m.out[0]?=some 45->c+rho 3+2<=f->∀ x,sym f s 3 0=some x->x.2=none
 | 0,s,rho,c,k,m,hcl,hc,hI,h3,h2,hG,hp,h45,hf,x,hx=>by cases hx
 | f+1,s,rho,c,k,m,hcl,hc,hI,h3,h2,hG,hp,h45,hf,x,hx=>by
  have hN3:=hI.at' 3 _ h3
  have hr2:rho 2<rho 3:=(hN3.arg 0 2 rfl).2
  have hrd:k+1<=m.out.length:=hN3.rd 0 2 (k+1) m rfl rfl h2
  unfold sym at hx
  rw [h3,Option.bind_some] at hx
  rw [show (N3 (k+1)).out[0]?=none from rfl] at hx
  simp only at hx
  rw [if_neg (show ¬(N3 (k+1)).probe=true by simp [N3,fresh])] at hx
  have hw:waits s.nodes (N3 (k+1)).args (N3 (k+1)).read=false:=by
   simp [N3,fresh,waits,h2]
  have hnext:next s.nodes (N3 (k+1))=none\/next s.nodes (N3 (k+1))=some none:=by
   unfold next
   rw [if_neg (by rw [hw];decide)]
   have hcor:corners s.nodes (N3 (k+1))=(m.had[k+1]?).map fun h=>[vag one (vat ⟨1,0,0,1⟩ (vat h (1,0))),vag one (vat ⟨1,0,0,1⟩ (vat h (0,1)))]:=by
    show ((bare s.nodes (N3 (k+1))).map _)=_
    unfold bare
    simp only [N3,fresh]
    unfold ends
    simp only [List.getElem?_cons_zero,Option.bind_some,h2]
    cases m.had[k+1]?<;>rfl
   rw [hcor]
   cases hh:m.had[k+1]? with
   | none=>exact Or.inl rfl
   | some y=>
    right
    have hC:=Cm.had (hG m (List.mem_of_getElem? h2)) h45 k y hh
    simp only [Option.map_some,Option.some.injEq]
    refine List.find?_eq_none.2 fun z hz=>?_
    have hz':z∈([-1,1,0]:List Int):=hz
    rw [hC.can hz']
    decide
  rcases hnext with e | e
  ·rw [e] at hx;cases hx
  ·rw [e,Option.bind_some] at hx
   simp only at hx
   obtain ⟨y,e1,hx⟩:=Option.bind_eq_some_iff.1 hx
   unfold reads at e1
   rw [if_neg (show ¬(N3 (k+1)).t=[] by simp [N3,fresh])] at e1
   rw [show side s.nodes (N3 (k+1))=some 0 from rfl,Option.bind_some] at e1
   rw [show wide s 3 (N3 (k+1)) 0=some s by unfold wide;rw [if_neg (by simp [N3,fresh])],Option.bind_some] at e1
   rw [h3,Option.bind_some,show (N3 (k+1)).args[0]?=some 2 from rfl,Option.bind_some,show (N3 (k+1)).read[0]?=some (k+1) from rfl,Option.bind_some] at e1
   obtain ⟨z,ez,e1⟩:=Option.bind_eq_some_iff.1 e1
   obtain ⟨z',ez',hP⟩:=total f s 2 (k+1) rho c hcl hc hI m h2 hrd (by omega)
   rw [ez] at ez'
   cases ez'
   obtain ⟨s1,v⟩:=z
   cases v with
   | none=>
    cases e1
    simp at hx
    rw [<-hx]
   | some v=>
    simp only at e1
    obtain ⟨rho',c',g1,g2,g3,g4,n',g5,g6⟩:=hP.ex v rfl
    have hgg:=sym_gg f s 2 (k+1) _ ez
    have h3':s1.nodes[3]?=some (N3 (k+1)):=g4.same 3 _ h3 hr2
    obtain ⟨m',q1,q2,q3,q4⟩:=hgg.go.at' 2 m h2
    rw [g5] at q1
    cases q1
    obtain ⟨s2,b,a1,a2⟩:=after_inv (i:=3) (sd:=0) g2 g3 (by omega) h3' (a:=2) (r:=k+1) rfl rfl g5 g6 (fun _=>rfl)
    have hgg2:=after_gg a1
    rw [a1] at e1
    cases e1
    have h32:b=true->s2.nodes[3]?=some (N3 (k+2)):=by
     intro hb
     unfold after at a1
     rw [h3',Option.bind_some] at a1
     obtain ⟨ns,p1,a1⟩:=Option.bind_eq_some_iff.1 a1
     have hlt:=(List.getElem?_eq_some_iff.1 h3').1
     have hns:ns=s1.nodes.set 3 (N3 (k+2)):=(put_gg p1 h3' rfl rfl rfl rfl).2
     split at a1
     ·cases a1;cases hb
     ·obtain ⟨ns1,p2,a1⟩:=Option.map_eq_some_iff.1 a1
      cases a1
      unfold settle at p2
      rw [if_neg (by simp [N3,fresh])] at p2
      cases p2
      rw [hns]
      exact List.getElem?_set_self hlt
    cases b with
    | false=>
     simp at hx
     rw [<-hx]
    | true=>
     simp at hx
     obtain ⟨rho2,c2,t1,t2,t3,t4,_⟩:=a2 rfl
     obtain ⟨m2,r1,r2,r3,r4⟩:=hgg2.go.at' 2 n' g5
     have hl:=(List.getElem?_eq_some_iff.1 h3).1
     have hl1:=(List.getElem?_eq_some_iff.1 h3').1
     have e3:rho2 3=rho 3:=by rw [t4.agree 3 hl1,g4.agree 3 hl]
     exact never3 f s2 rho2 c2 (k+1) m2 t2 (by omega) t3 (h32 rfl) r1 (hgg2.all (hgg.all hG)) (by rw [r2,q2,hp]) (r4 0 45 (q4 0 45 h45)) (by omega) x hx
end Rf
namespace Rf
open Nw
open Pg (Go HC)
def denW:Wt:=.fn .sqrt (.two .sub (.fr 1 1) (.con .pi []))
def N4:Nd:={ fresh true [(1,0),(0,1)] [3] with op:=.sqrt,probe:=true}
def denN:List Nd:=[fresh true [(1,1)] [],{ fresh true [] [] with op:=.pi,terms:=[]},fresh false [(0,0),(1,0),(-1,0),(0,1)] [0,1],N3 0,N4]
theorem den_of:C.of denW []=some (denN,4):=rfl
theorem den_gp:∀ n∈denN,GP n:=by
 intro n hn
 simp only [denN,List.mem_cons,List.not_mem_nil,or_false] at hn
 rcases hn with rfl | rfl | rfl | rfl | rfl
 ·exact GP.fresh _ _ _
 ·exact with_op (t:=[]) (args:=[]) (pos:=true) rfl rfl rfl rfl
 ·exact GP.fresh _ _ _
 ·exact with_op (t:=[]) (args:=[]) (pos:=true) rfl rfl rfl rfl
 ·exact with_op (t:=[]) (args:=[]) (pos:=true) rfl rfl rfl rfl
theorem denS:(C.sym 15800 ⟨denN,3000⟩ 2 0).map (fun y=>(y.2,(y.1.nodes[2]?).map fun n=>n.out))=some (some 45,some [45]):=by kernel_rfl
theorem denW_ok:denW.Ok:=⟨Or.inl rfl,⟨⟨by decide,bits1 (by decide),bits1 (by decide)⟩,Or.inl rfl⟩,fun p q e=>by cases e⟩
theorem den_none {ns:List Nd}{d:Nat}(hof:of denW []=some (ns,d)){x:St×Option Int}(hx:sym 15802 ⟨ns,3000⟩ d 0=some x):x.2=none:=by
 have e0:=of_le denW [] _ hof
 rw [den_of] at e0
 cases e0
 obtain ⟨ns',rho,d',hof',gr,hd,hrk,_⟩:=of_inv (c:=3000) denW [] (fun _=>0) denW_ok (Nat.le_refl _) (inv_nil _ _)
 rw [hof] at hof'
 cases hof'
 have hI:=gr.inv
 have hr43:rho 3<rho 4:=((hI.at' 4 N4 rfl).arg 0 3 rfl).2
 have hr32:rho 2<rho 3:=((hI.at' 3 (N3 0) rfl).arg 0 2 rfl).2
 have hsz:rho 4<=12800:=hrk
 unfold sym at hx
 rw [show (⟨denN,3000⟩:St).nodes[4]?=some N4 from rfl,Option.bind_some,show N4.out[0]?=none from rfl] at hx
 simp only at hx
 rw [if_pos (show N4.probe=true from rfl),Option.bind_some] at hx
 simp only at hx
 obtain ⟨y,e1,hx⟩:=Option.bind_eq_some_iff.1 hx
 have hy:y.2=false:=by
  unfold reads at e1
  rw [if_neg (show ¬N4.t=[] by simp [N4,fresh]),show side denN N4=some 0 from rfl,Option.bind_some,show wide ⟨denN,3000⟩ 4 N4 0=some ⟨denN,3000⟩ by unfold wide;rw [if_neg (by simp [N4,fresh])],Option.bind_some,show (⟨denN,3000⟩:St).nodes[4]?=some N4 from rfl,Option.bind_some,show N4.args[0]?=some 3 from rfl,Option.bind_some,show N4.read[0]?=some 0 from rfl,Option.bind_some] at e1
  obtain ⟨z,ez,e1⟩:=Option.bind_eq_some_iff.1 e1
  have hz:z.2=none:=by
   unfold sym at ez
   rw [show (⟨denN,3000⟩:St).nodes[3]?=some (N3 0) from rfl,Option.bind_some,show (N3 0).out[0]?=none from rfl] at ez
   simp only at ez
   rw [if_neg (show ¬(N3 0).probe=true by simp [N3,fresh]),show next denN (N3 0)=some none from rfl,Option.bind_some] at ez
   simp only at ez
   obtain ⟨u,eu,ez⟩:=Option.bind_eq_some_iff.1 ez
   unfold reads at eu
   rw [if_neg (show ¬(N3 0).t=[] by simp [N3,fresh]),show side denN (N3 0)=some 0 from rfl,Option.bind_some,show wide ⟨denN,3000⟩ 3 (N3 0) 0=some ⟨denN,3000⟩ by unfold wide;rw [if_neg (by simp [N3,fresh])],Option.bind_some,show (⟨denN,3000⟩:St).nodes[3]?=some (N3 0) from rfl,Option.bind_some,show (N3 0).args[0]?=some 2 from rfl,Option.bind_some,show (N3 0).read[0]?=some 0 from rfl,Option.bind_some] at eu
   obtain ⟨v,ev,eu⟩:=Option.bind_eq_some_iff.1 eu
   have hN2:denN[2]?=some (fresh false [(0,0),(1,0),(-1,0),(0,1)] [0,1]):=rfl
   obtain ⟨v',ev',hP⟩:=total 15800 ⟨denN,3000⟩ 2 0 rho 3000 rfl (Nat.le_refl _) hI _ hN2 (Nat.zero_le _) (by omega)
   rw [ev] at ev'
   cases ev'
   have hS:=denS
   rw [sym_le' _ _ _ _ _ ev,Option.map_some,Option.some.injEq,Prod.mk.injEq] at hS
   obtain ⟨s1,w⟩:=v
   obtain ⟨hw,ho⟩:=hS
   simp only at hw ho
   subst hw
   simp only at eu
   obtain ⟨rho',c',g1,g2,g3,g4,n',g5,g6⟩:=hP.ex 45 rfl
   have hgg:=sym_gg _ _ _ _ _ ev
   have h3':s1.nodes[3]?=some (N3 0):=g4.same 3 _ rfl hr32
   obtain ⟨m',q1,q2,q3,q4⟩:=hgg.go.at' 2 _ hN2
   rw [g5] at q1
   cases q1
   obtain ⟨s2,b,a1,a2⟩:=after_inv (i:=3) (sd:=0) g2 g3 (by omega) h3' (a:=2) (r:=0) rfl rfl g5 g6 (fun _=>rfl)
   have hgg2:=after_gg a1
   rw [a1] at eu
   cases eu
   have h32:b=true->s2.nodes[3]?=some (N3 1):=by
    intro hb
    unfold after at a1
    rw [h3',Option.bind_some] at a1
    obtain ⟨ns,p1,a1⟩:=Option.bind_eq_some_iff.1 a1
    have hlt:=(List.getElem?_eq_some_iff.1 h3').1
    have hns:ns=s1.nodes.set 3 (N3 1):=(put_gg p1 h3' rfl rfl rfl rfl).2
    split at a1
    ·cases a1;cases hb
    ·obtain ⟨ns1,p2,a1⟩:=Option.map_eq_some_iff.1 a1
     cases a1
     unfold settle at p2
     rw [if_neg (by simp [N3,fresh])] at p2
     cases p2
     rw [hns]
     exact List.getElem?_set_self hlt
   cases b with
   | false=>
    simp at ez
    rw [<-ez]
   | true=>
    simp at ez
    obtain ⟨rho2,c2,t1,t2,t3,t4,_⟩:=a2 rfl
    obtain ⟨m2,r1,r2,r3,r4⟩:=hgg2.go.at' 2 n' g5
    have hl1:=(List.getElem?_eq_some_iff.1 h3').1
    have e3:rho2 3=rho 3:=by rw [t4.agree 3 hl1,g4.agree 3 (by decide)]
    have h45:n'.out[0]?=some 45:=by
     rw [g5] at ho
     simp only [Option.map_some,Option.some.injEq] at ho
     rw [ho]
     rfl
    exact never3 15800 s2 rho2 c2 0 m2 t2 (by omega) t3 (h32 rfl) r1 (hgg2.all (hgg.all den_gp)) (by rw [r2,q2];rfl) (r4 0 45 h45) (by omega) z ez
  obtain ⟨z1,z2⟩:=z
  simp only at hz
  subst hz
  cases e1
  rfl
 rw [hy] at hx
 simp at hx
 rw [<-hx]
end Rf
namespace Rd
variable {ws:List Wd}
def Made (t:Tr)(st st':St):Prop:=Wf t/\cnt t+st.nodes<=st'.nodes
def MadeL (l t:Tr)(st st':St):Prop:=Wf t/\cnt t+st.nodes<=st'.nodes+cnt l
theorem val_ok {x:Wd}(h:x.text.size<=9):numOk (valTo x.text x.text.size):=⟨valTo_lo _ _,valTo_bd _ _ h⟩
theorem zero_ok:numOk 0:=⟨by decide,by decide⟩
theorem term_wf (hws:WsOk ws)(st:St):numOk (term ws st).1/\(term ws st).2.nodes=st.nodes:=by
 unfold term
 cases h1:((wordAt ws st.next).kind==1) with
 | false=>exact ⟨zero_ok,rfl⟩
 | true=>
  have:=val_ok (hws st.next (beq_iff_eq.1 h1))
  cases valTo (wordAt ws st.next).text (wordAt ws st.next).text.size==0 with
  | true=>exact ⟨zero_ok,rfl⟩
  | false=>exact ⟨this,rfl⟩
theorem terms_wf (hws:WsOk ws):∀ f c ts st ts' st',terms ws f c ts st=some (some ts',st')->(∀ x∈ts,numOk x)->ts.length=c->c+f=9->(∀ x∈ts',numOk x)/\c+1<=ts'.length/\ts'.length<=9/\st'.nodes=st.nodes:=by
 intro f
 induction f with
 | zero=>intro c ts st ts' st' h;cases h
 | succ f ih=>
  intro c ts st ts' st' h hts hc hf
  obtain ⟨n1,n2⟩:=term_wf hws st
  rw [terms] at h
  have happ:∀ x∈ts++[(term ws st).1],numOk x:=by
   intro x hx
   rcases List.mem_append.1 hx with hx | hx
   ·exact hts x hx
   ·rw [List.mem_singleton.1 hx];exact n1
  cases h0:(st.okB&&(term ws st).2.okB) with
  | false=>rw [h0] at h;cases h
  | true=>
   rw [h0] at h
   simp only [cond_true] at h
   cases h1:((term ws st).1==0) with
   | true=>rw [h1] at h;simp at h
   | false=>
    rw [h1] at h
    simp only [cond_false] at h
    cases h2:tk ws (term ws st).2 ⟨#[93]⟩ with
    | true=>
     rw [h2] at h
     simp only [cond_true,Option.some.injEq,Prod.mk.injEq] at h
     obtain ⟨rfl,rfl⟩:=h
     exact ⟨happ,by simp;omega,by simp;omega,n2⟩
    | false=>
     rw [h2] at h
     simp only [cond_false] at h
     cases h3:(c==8) with
     | true=>rw [h3] at h;simp at h
     | false=>
      rw [h3] at h
      simp only [cond_false] at h
      cases h4:tk ws (term ws st).2 ⟨#[44]⟩ with
      | false=>rw [h4] at h;simp at h
      | true=>
       rw [h4] at h
       simp only [cond_true] at h
       obtain ⟨a1,a2,a3,a4⟩:=ih _ _ _ _ _ h happ (by simp;omega) (by omega)
       exact ⟨a1,by omega,a3,a4.trans n2⟩
theorem continued_wf (hws:WsOk ws){st st':St}{t:Tr}(h:continued ws st=some (some t,st')):Made t st st':=by
 unfold continued at h
 cases h0:(decide (st.next<900)&&st.okB) with
 | false=>rw [h0] at h;cases h
 | true=>
  rw [h0] at h
  simp only [cond_true] at h
  cases h1:tk ws st ⟨#[91]⟩ with
  | false=>rw [h1] at h;simp at h
  | true=>
   rw [h1] at h
   simp only [cond_true] at h
   cases h2:((wordAt ws st.adv.next).kind==1) with
   | false=>rw [h2] at h;simp at h
   | true=>
    rw [h2] at h
    simp only [cond_true] at h
    cases h3:tk ws st.adv.adv ⟨#[59]⟩ with
    | false=>rw [h3] at h;simp at h
    | true=>
     rw [h3] at h
     simp only [cond_true] at h
     cases h4:terms ws 8 1 [valTo (wordAt ws st.adv.next).text (wordAt ws st.adv.next).text.size] st.adv.adv.adv with
     | none=>rw [h4] at h;cases h
     | some y=>
      obtain ⟨r,s1⟩:=y
      rw [h4] at h
      cases r with
      | none=>simp [cfOf] at h
      | some ts=>
       simp only [cfOf] at h
       cases h5:s1.okB with
       | false=>rw [h5] at h;cases h
       | true=>
        rw [h5] at h
        simp only [cond_true,Option.some.injEq,Prod.mk.injEq] at h
        obtain ⟨rfl,rfl⟩:=h
        obtain ⟨a1,a2,a3,a4⟩:=terms_wf hws _ _ _ _ _ _ h4 (by intro x hx;rw [List.mem_singleton.1 hx];exact val_ok (hws _ (beq_iff_eq.1 h2))) rfl rfl
        have e:st.adv.adv.adv.nodes=st.nodes:=rfl
        refine ⟨Or.inr (Or.inr (Or.inl ⟨rfl,a1,by simp only;omega,a3,rfl,rfl,rfl⟩)),?_⟩
        show 0+0+1+st.nodes<=s1.nodes+1
        omega
theorem unary_wf {k:Int}(hk:k=5\/k=10\/k=11\/k=12\/k=13){x:Option Tr}{st0 st st':St}{t:Tr}(h:unaryOf k x st=some (some t,st'))(hx:∀ y,x=some y->Made y st0 st):Made t st0 st':=by
 cases x with
 | none=>simp [unaryOf] at h
 | some y=>
  obtain ⟨a,b⟩:=hx y rfl
  simp only [unaryOf] at h
  cases h5:st.okB with
  | false=>rw [h5] at h;cases h
  | true=>
   rw [h5] at h
   simp only [cond_true,Option.some.injEq,Prod.mk.injEq] at h
   obtain ⟨rfl,rfl⟩:=h
   refine ⟨Or.inr (Or.inr (Or.inr (Or.inl ⟨hk,a,rfl,rfl⟩))),?_⟩
   show cnt y+0+1+st0.nodes<=st.nodes+1
   omega
theorem oper_wf {k:Int}(hk:k=6\/k=7\/k=8\/k=9){l:Tr}(hl:Wf l){x:Option Tr}{st0 st st':St}{t:Tr}(h:operOf k l x st=some (some t,st'))(hx:∀ y,x=some y->Made y st0 st):MadeL l t st0 st':=by
 cases x with
 | none=>simp [operOf] at h
 | some y=>
  obtain ⟨a,b⟩:=hx y rfl
  simp only [operOf] at h
  cases h5:st.okB with
  | false=>rw [h5] at h;cases h
  | true=>
   rw [h5] at h
   simp only [cond_true,Option.some.injEq,Prod.mk.injEq] at h
   obtain ⟨rfl,rfl⟩:=h
   refine ⟨Or.inr (Or.inr (Or.inr (Or.inr ⟨hk,hl,a,rfl⟩))),?_⟩
   show cnt l+cnt y+1+st0.nodes<=st.nodes+1+cnt l
   omega
structure W1 (ws:List Wd) (f:Nat):Prop where
 sum:∀ l st t st',parse ws f 0 l st=some (some t,st')->Made t st st'
 sumL:∀ l st t st',Wf l->parse ws f 1 (some l) st=some (some t,st')->MadeL l t st st'
 prod:∀ l st t st',parse ws f 2 l st=some (some t,st')->Made t st st'
 prodL:∀ l st t st',Wf l->parse ws f 3 (some l) st=some (some t,st')->MadeL l t st st'
 signed:∀ l st t st',parse ws f 4 l st=some (some t,st')->Made t st st'
 atom:∀ l st t st',parse ws f 5 l st=some (some t,st')->Made t st st'
 br:∀ l st t st',parse ws f 6 l st=some (some t,st')->Made t st st'
theorem round_wf {f tag b:Nat}{k:Int}(hk:k=6\/k=7\/k=8\/k=9){l t:Tr}{st st':St}(hl:Wf l)(hin:∀ t st1 st',parse ws f b none st1=some (some t,st')->Made t st1 st')(hL:∀ l st t st',Wf l->parse ws f tag (some l) st=some (some t,st')->MadeL l t st st')
  (hN:∀ st t st',parse ws f tag none st≠some (some t,st'))
  (h:((parse ws f b none st.adv).next fun r st2=>(operOf k l r st2).next fun l' st3=>parse ws f tag l' st3)=some (some t,st')):MadeL l t st st':=by
 obtain ⟨r,st2,e1,h⟩:=next_some h
 obtain ⟨l',st3,e2,h⟩:=next_some h
 cases l' with
 | none=>exact absurd h (hN _ _ _)
 | some l'=>
  obtain ⟨a1,a2⟩:=oper_wf hk hl (st0:=st.adv) e2 (fun y hy=>hin y _ _ (by rw [<-hy];exact e1))
  obtain ⟨b1,b2⟩:=hL _ _ _ _ a1 h
  have e:st.adv.nodes=st.nodes:=rfl
  exact ⟨b1,by omega⟩
theorem none1 (f:Nat)(st:St)(t:Tr)(st':St):parse ws f 1 none st≠some (some t,st'):=by
 cases f<;>simp [parse]
theorem none3 (f:Nat)(st:St)(t:Tr)(st':St):parse ws f 3 none st≠some (some t,st'):=by
 cases f<;>simp [parse]
theorem W1_step (hws:WsOk ws)(f:Nat)(ih:W1 ws f):W1 ws (f+1):=by
 constructor
 case sum=>
  intro l st t st' h
  rw [parse] at h
  obtain ⟨r,st2,e1,h⟩:=next_some h
  cases r with
  | none=>exact absurd h (none1 _ _ _ _)
  | some r=>
   obtain ⟨a1,a2⟩:=ih.prod _ _ _ _ e1
   obtain ⟨b1,b2⟩:=ih.sumL _ _ _ _ a1 h
   exact ⟨b1,by omega⟩
 case sumL=>
  intro l st t st' hl h
  rw [parse] at h
  cases h0:st.okB with
  | false=>rw [h0] at h;cases h
  | true=>
   rw [h0] at h
   simp only [cond_true] at h
   cases h1:tk ws st ⟨#[43]⟩ with
   | true=>
    rw [h1] at h
    exact round_wf (Or.inl rfl) hl (fun t st1 st'=>ih.prod none st1 t st') ih.sumL (none1 f) h
   | false=>
    rw [h1] at h
    simp only [cond_false] at h
    cases h2:tk ws st ⟨#[45]⟩ with
    | true=>
     rw [h2] at h
     exact round_wf (Or.inr (Or.inl rfl)) hl (fun t st1 st'=>ih.prod none st1 t st') ih.sumL (none1 f) h
    | false=>
     rw [h2] at h
     simp only [cond_false,Option.some.injEq,Prod.mk.injEq] at h
     obtain ⟨rfl,rfl⟩:=h
     exact ⟨hl,by omega⟩
 case prod=>
  intro l st t st' h
  rw [parse] at h
  obtain ⟨r,st2,e1,h⟩:=next_some h
  cases r with
  | none=>exact absurd h (none3 _ _ _ _)
  | some r=>
   obtain ⟨a1,a2⟩:=ih.signed _ _ _ _ e1
   obtain ⟨b1,b2⟩:=ih.prodL _ _ _ _ a1 h
   exact ⟨b1,by omega⟩
 case prodL=>
  intro l st t st' hl h
  rw [parse] at h
  cases h0:st.okB with
  | false=>rw [h0] at h;cases h
  | true=>
   rw [h0] at h
   simp only [cond_true] at h
   cases h1:tk ws st ⟨#[42]⟩ with
   | true=>
    rw [h1] at h
    exact round_wf (Or.inr (Or.inr (Or.inl rfl))) hl (fun t st1 st'=>ih.signed none st1 t st') ih.prodL (none3 f) h
   | false=>
    rw [h1] at h
    simp only [cond_false] at h
    cases h2:tk ws st ⟨#[47]⟩ with
    | true=>
     rw [h2] at h
     exact round_wf (Or.inr (Or.inr (Or.inr rfl))) hl (fun t st1 st'=>ih.signed none st1 t st') ih.prodL (none3 f) h
    | false=>
     rw [h2] at h
     simp only [cond_false,Option.some.injEq,Prod.mk.injEq] at h
     obtain ⟨rfl,rfl⟩:=h
     exact ⟨hl,by omega⟩
 case signed=>
  intro l st t st' h
  rw [parse] at h
  cases h0:st.okB with
  | false=>rw [h0] at h;cases h
  | true=>
   rw [h0] at h
   simp only [cond_true] at h
   cases h1:tk ws st ⟨#[45]⟩ with
   | false=>
    rw [h1] at h
    exact ih.atom _ _ _ _ h
   | true=>
    rw [h1] at h
    simp only [cond_true] at h
    obtain ⟨x,st2,e1,h⟩:=next_some h
    cases h2:st2.okOut with
    | false=>rw [h2] at h;cases h
    | true=>
     rw [h2] at h
     simp only [cond_true] at h
     exact unary_wf (Or.inl rfl) (st0:=st) h (fun y hy=>by
      obtain ⟨a,b⟩:=ih.signed _ _ _ _ (by rw [<-hy];exact e1)
      exact ⟨a,b⟩)
 case atom=>
  intro l st t st' h
  rw [parse] at h
  cases h0:st.okB with
  | false=>rw [h0] at h;cases h
  | true=>
   rw [h0] at h
   simp only [cond_true] at h
   cases h1:((wordAt ws st.next).kind==1) with
   | true=>
    rw [h1] at h
    simp only [cond_true] at h
    cases h2:st.adv.okB with
    | false=>rw [h2] at h;cases h
    | true=>
     rw [h2] at h
     simp only [cond_true,Option.some.injEq,Prod.mk.injEq] at h
     obtain ⟨rfl,rfl⟩:=h
     refine ⟨Or.inl ⟨rfl,val_ok (hws _ (beq_iff_eq.1 h1)),rfl,rfl,rfl⟩,?_⟩
     show 0+0+1+st.nodes<=st.nodes+1
     omega
   | false=>
    rw [h1] at h
    simp only [cond_false] at h
    cases h2:((wordAt ws st.next).kind==2) with
    | false=>rw [h2] at h;exact ih.br _ _ _ _ h
    | true=>
     rw [h2] at h
     simp only [cond_true,nameOf] at h
     have hnm:named (wordAt ws st.next).text=0\/named (wordAt ws st.next).text=2\/named (wordAt ws st.next).text=3\/named (wordAt ws st.next).text=4\/named (wordAt ws st.next).text=10\/named (wordAt ws st.next).text=11\/named (wordAt ws st.next).text=12\/named (wordAt ws st.next).text=13:=by
      unfold named
      generalize (wordAt ws st.next).text=x
      cases isT x [112,105]<;>cases isT x [101]<;>cases isT x [99,102]<;>cases isT x [115,113,114,116]<;>cases isT x [101,120,112]<;>cases isT x [108,110,49,112]<;>cases isT x [97,116,97,110]<;>simp
     generalize named (wordAt ws st.next).text=k at h hnm
     cases k0:(k==0) with
     | true=>rw [k0] at h;simp at h
     | false=>
      rw [k0] at h
      simp only [cond_false] at h
      cases k2:(k==2||k==3) with
      | true=>
       rw [k2] at h
       simp only [cond_true] at h
       cases h2:st.adv.okB with
       | false=>rw [h2] at h;cases h
       | true=>
        rw [h2] at h
        simp only [cond_true,Option.some.injEq,Prod.mk.injEq] at h
        obtain ⟨rfl,rfl⟩:=h
        refine ⟨Or.inr (Or.inl ⟨by simpa using k2,rfl,rfl,rfl,rfl⟩),?_⟩
        show 0+0+1+st.nodes<=st.nodes+1
        omega
      | false=>
       rw [k2] at h
       simp only [cond_false] at h
       cases k4:(k==4) with
       | true=>
        rw [k4] at h
        have:=continued_wf hws h
        exact this
       | false=>
        rw [k4] at h
        simp only [cond_false] at h
        obtain ⟨x,st2,e1,h⟩:=next_some h
        simp at k0 k2 k4
        exact unary_wf (by omega) (st0:=st) h (fun y hy=>by
         obtain ⟨a,b⟩:=ih.br _ _ _ _ (by rw [<-hy];exact e1)
         exact ⟨a,b⟩)
 case br=>
  intro l st t st' h
  rw [parse] at h
  ·cases h0:st.okB with
   | false=>rw [h0] at h;cases h
   | true=>
    rw [h0] at h
    simp only [cond_true] at h
    cases h1:tk ws st ⟨#[40]⟩ with
    | false=>rw [h1] at h;simp at h
    | true=>
     rw [h1] at h
     simp only [cond_true] at h
     obtain ⟨x,st2,e1,h⟩:=next_some h
     unfold closeOf at h
     cases h2:st2.okOut with
     | false=>rw [h2] at h;cases h
     | true=>
      rw [h2] at h
      simp only [cond_true] at h
      cases x with
      | none=>simp at h
      | some x=>
       simp only at h
       cases h3:tk ws st2.out ⟨#[41]⟩ with
       | false=>rw [h3] at h;simp at h
       | true=>
        rw [h3] at h
        simp only [cond_true,Option.some.injEq,Prod.mk.injEq] at h
        obtain ⟨rfl,rfl⟩:=h
        obtain ⟨a,b⟩:=ih.sum _ _ _ _ e1
        exact ⟨a,b⟩
  all_goals omega
theorem W1_all (hws:WsOk ws):∀ f,W1 ws f:=by
 intro f
 induction f with
 | zero=>constructor<;>(intros;rename_i h;cases h)
 | succ f ih=>exact W1_step hws f ih
theorem read_wf3 {f:Nat}{s:ByteArray}{t:Tr}{e p:Int}(hws:WsOk (split s (s.size+1) 0))(h:read f s=some (some t,e,p)):Wf t/\(text t).length<=1000000/\cnt t<=40:=by
 unfold read at h
 cases h1:decide (120<s.size) with
 | true=>rw [h1] at h;simp at h
 | false=>
  rw [h1] at h
  simp only [cond_false] at h
  split at h
  ·cases h
  ·simp at h
  ·rename_i t' st hp
   obtain ⟨a,b⟩:=(W1_all hws f).sum _ _ _ _ hp
   cases c1:((wordAt (split s (s.size+1) 0) st.next).kind==0) with
   | false=>rw [c1] at h;simp at h
   | true=>
    rw [c1] at h
    simp only [cond_true] at h
    cases c2:(decide (12<st.deepest)||decide (40<st.nodes)) with
    | true=>rw [c2] at h;simp at h
    | false=>
     rw [c2] at h
     simp only [cond_false,Option.some.injEq,Prod.mk.injEq] at h
     obtain ⟨rfl,_⟩:=h
     simp only [Bool.or_eq_false_iff,decide_eq_false_iff_not] at c2
     have:=text_len _ a
     simp only at b
     exact ⟨a,by omega,by omega⟩
end Rd
open Go.RowKit
open Ab
open Rf (Wt fuelF readK symsT denW denW_ok)
def denTab:List ByteArray:=[
 ⟨#[112,105,47,40,49,32,45,32,49,41]⟩,
 ⟨#[115,113,114,116,40,45,49,41]⟩,
 ⟨#[108,110,49,112,40,49,47,50,32,45,32,49,41]⟩,
 ⟨#[49,32,43,32,50,47,48]⟩]
def denAt (i:Nat):ByteArray:=denTab.getD i ⟨#[]⟩
def denOk (x:ByteArray):Bool:=
 match Rd.read 1300 x with
 | some (some T,e,a)=>e==0&&a==0&&decide (x.size<=120)&&(planT T).isNone
 | _=>false
theorem den_all:denTab.all denOk=true:=by decide +kernel
theorem den_tab (i:Nat)(hi:i<4):∃ T,Rd.read 1300 (denAt i)=some (some T,0,0)/\(denAt i).size<=120/\planT T=none/\Rd.Wf T/\Rd.cnt T<=40:=by
 have hl:i<denTab.length:=hi
 have hx:denAt i=denTab[i]:=by simp [denAt,List.getD,hl]
 have h:=List.all_eq_true.1 den_all denTab[i] (List.getElem_mem hl)
 rw [<-hx] at h
 unfold denOk at h
 split at h
 ·rename_i T e a he
  simp only [Bool.and_eq_true,beq_iff_eq,decide_eq_true_eq,Option.isNone_iff_eq_none] at h
  obtain ⟨⟨⟨rfl,rfl⟩,h3⟩,h4⟩:=h
  obtain ⟨w1,_,w3⟩:=Rd.read_wf3 (split_ok _ _ 0) he
  exact ⟨T,he,h3,h4,w1,w3⟩
 ·cases h
def denZ:ByteArray:=⟨#[115,113,114,116,40,49,32,45,32,112,105,41]⟩
def wtEq:Wt->Wt->Bool
 | .fr p q,.fr a b=>p==a&&q==b
 | .con o ts,.con o' ts'=>decide (o=o')&&decide (ts=ts')
 | .neg t,.neg u=>wtEq t u
 | .two k a b,.two k' a' b'=>decide (k=k')&&wtEq a a'&&wtEq b b'
 | .fn o t,.fn o' t'=>decide (o=o')&&wtEq t t'
 | _,_=>false
theorem wtEq_eq:∀ {t u:Wt},wtEq t u=true->t=u:=by
 intro t
 induction t with
 | fr p q=>intro u h;cases u<;>simp [wtEq] at h;rw [h.1,h.2]
 | con o ts=>intro u h;cases u<;>simp [wtEq] at h;rw [h.1,h.2]
 | neg t ih=>intro u h;cases u<;>simp [wtEq] at h;rw [ih h]
 | two k a b iha ihb=>intro u h;cases u<;>simp [wtEq] at h;rw [h.1.1,iha h.1.2,ihb h.2]
 | fn o t ih=>intro u h;cases u<;>simp [wtEq] at h;rw [h.1,ih h.2]
def denZok:Bool:=
 match Rd.read 1300 denZ with
 | some (some T,e,a)=>e==0&&a==0&&(match planT T with | some u=>wtEq u denW | none=>false)
 | _=>false
theorem denZ_all:denZok=true:=by decide +kernel
theorem denZ_tab:∃ T,Rd.read 1300 denZ=some (some T,0,0)/\planT T=some denW/\Rd.Wf T/\Rd.cnt T<=40:=by
 have h:=denZ_all
 unfold denZok at h
 split at h
 ·rename_i T e a he
  simp only [Bool.and_eq_true,beq_iff_eq] at h
  obtain ⟨⟨rfl,rfl⟩,h4⟩:=h
  obtain ⟨w1,_,w3⟩:=Rd.read_wf3 (split_ok _ _ 0) he
  split at h4
  ·rename_i u hu
   exact ⟨T,he,by rw [hu,wtEq_eq h4],w1,w3⟩
  ·cases h4
 ·cases h
theorem denSym:symsT denW 1 3000=none:=by
 obtain ⟨ns,rho,d,hof,gr,hd,hrk,_⟩:=Rf.of_inv (c:=3000) denW [] (fun _=>0) denW_ok (Nat.le_refl _) (Rf.inv_nil _ _)
 have hn:ns[d]?=some ns[d]:=List.getElem?_eq_getElem hd
 have hf:3000+rho d+2<=fuelF denW:=by unfold fuelF;omega
 obtain ⟨x,hx,_⟩:=Rf.total (fuelF denW) ⟨ns,3000⟩ d 0 rho 3000 rfl (Nat.le_refl _) gr.inv ns[d] hn (Nat.zero_le _) hf
 have h:=Rf.den_none hof (x:=x) hx
 have key:∀ m,readK (fuelF denW) (m+1) ⟨ns,3000⟩ d 0=none:=by
  intro m
  unfold readK
  rw [hx]
  obtain ⟨s',z⟩:=x
  cases z with
  | none=>rfl
  | some z=>cases h
 unfold symsT
 rw [hof,Option.bind_some,hn,Option.bind_some]
 split
 ·show (readK (fuelF denW) 1 ⟨ns,3000⟩ d 0).map _=none
  rw [key 0];rfl
 ·exact key 1
end Go.Proofs.YteghhlfmcjmnoaaGreatDoor
