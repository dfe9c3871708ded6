import Derived.Test.YteghhlfmcjmnoaaGreatDoorCKn20
import Derived.Test.YteghhlfmcjmnoaaGreatDoorCKn22
import Derived.Test.YteghhlfmcjmnoaaGreatDoorCKn18
set_option linter.unusedSimpArgs false
set_option linter.unusedVariables false
set_option maxRecDepth 100000
set_option maxHeartbeats 2000000
namespace Go.Proofs.YteghhlfmcjmnoaaGreatDoor
open Go.RowKit
theorem aFX {P:Program}{w:World}{ops:Array Oper}{rest:List Oper}{o:Oper}{a:Act}{Q:Exit->Act->World->Prop}(b:o.guard=none)(s x:Operand)(t:TypeId)
  (d:o.op=.call { callee:=.builtin .append,args:=#[s,x],argTypes:=#[t,t]}) (v1 v2:Value) (hs:a.eval s=v1) (e:a.eval x=v2) (c:Value) (w':World)
  (f:(Builtin.append_ #[t,t] o.type #[v1,v2]).run P w=.ok c w') (h:wpList P ops Q rest (a.put o.dst c) w'):wpList P ops Q (o::rest) a w:=by
 refine wpList_plain b fun _ hK=>?_
 unfold Oper.wp execOp;simp only [d,resolve,invoke,builtin,Sem.run_bind,Sem.run_pure,Result.andThen_ok,List.map_toArray,List.map_cons,List.map_nil,hs,e,f];exact hK _ _ h
namespace Rf
noncomputable def readK (f:Nat):Nat->St->Nat->Nat->Option (List Int)
 | 0,_,_,_=>some []
 | m+1,s,d,r=>match sym f s d r with
  | some (s',some z)=>(readK f m s' d (r+1)).map (z::·)
  | _=>none
def fuelF (t:Wt):Nat:=3002+3200*t.size
noncomputable def symsT (t:Wt)(k c:Nat):Option (List Int):=
 (of t []).bind fun x=>(x.1[x.2]?).bind fun n=>if n.pos=true then (readK (fuelF t) k ⟨x.1,c⟩ x.2 0).map (43::·) else readK (fuelF t) (k+1) ⟨x.1,c⟩ x.2 0
end Rf
namespace Ab
open Rf (Nd Inv NInv Wt fuelF readK symsT)
theorem Net.apart {w w':World}{b0 fb a:Nat}{own:Nat->Option Own}{at1:Nat->Nat}{s:Rf.St}(h:Net w b0 own at1 fb s)(d:Chg w w' [a])(b:a<w.heap.size->∃ cs:Array Value,w.heap[a]?=some (.cells cs 100 (0,0)))(f:own a=none):Net w' b0 own at1 fb s:=by
 refine h.side d fun k cs ty hk ht hm=>?_
 subst hm;obtain ⟨c,b⟩:=b (aAf hk);rw [b] at hk;cases hk
 rcases ht with e | e | e | ⟨_,o,e⟩
 ·exact absurd e (by decide)
 ·exact absurd e (by decide)
 ·exact absurd e (by decide)
 ·rw [f] at e;cases e
def Run (t:Wt)(c0:Nat)(w:World)(b0 nb fb:Nat)(own:Nat->Option Own)(s:Rf.St)(top r:Nat):Prop:=
 ∃ at1 rho c n,NbAt w b0 nb fb own at1 s top r/\s.clock=((c:Nat):Int)/\c<=c0/\Inv s.nodes rho c/\s.nodes[top]?=some n/\r<=n.out.length/\rho top<=3200*t.size
section
variable {t:Wt} {c0:Nat} {w w':World} {b0 nb fb:Nat} {own:Nat->Option Own} {s:Rf.St} {top r:Nat}
theorem Run.still (h:Run t c0 w b0 nb fb own s top r)(e:Chg w w' []):Run t c0 w' b0 nb fb own s top r:=by
 obtain ⟨b,d,c,n,a,g,i,f,j⟩:=h;exact ⟨b,d,c,n,⟨a.net.still f e,e.at a.blk (by simp),a.ow,Nat.le_trans a.bs e.on.size,a.nlo,a.nw⟩,g,i,f,j⟩
theorem Run.apart (h:Run t c0 w b0 nb fb own s top r){b:Nat}(f:Chg w w' [b])(i:b<w.heap.size->∃ cs:Array Value,w.heap[b]?=some (.cells cs 100 (0,0)))(o:own b=none):Run t c0 w' b0 nb fb own s top r:=by
 obtain ⟨d,e,c,n,a,j,k,l,m⟩:=h;refine ⟨d,e,c,n,⟨a.net.apart f i o,f.at a.blk ?_,a.ow,Nat.le_trans a.bs f.on.size,a.nlo,a.nw⟩,j,k,l,m⟩;intro g;simp at g;subst g;obtain ⟨cs,h⟩:=i (aAf a.blk);rw [a.blk] at h;exact absurd (Obj.cells.inj (Option.some.inj h)).2.1 (by decide)
theorem Run.cut (h:Run t c0 w b0 nb fb own s top r):∃ own',Run t c0 w b0 nb fb own' s top r/\(∀ k,k<w.heap.size->own' k=own k)/\∀ k,w.heap.size<=k->own' k=none:=by
 obtain ⟨b,d,c,n,a,f,g,e,i⟩:=h;refine ⟨fun k=>if k<w.heap.size then own k else none,⟨b,d,c,n,⟨⟨?_,a.net.fuel,a.net.fb0⟩,a.blk,?_,a.bs,a.nlo,fun k hk=>?_⟩,f,g,e,i⟩,fun k hk=>if_pos hk,fun k hk=>if_neg (by omega)⟩
 ·have:=Nod.more (own':=fun k=>if k<w.heap.size then own k else none) (at2:=b) (new:=[]) a.net.nd e (Chg.refl w) (fun k hk=>if_pos hk) (fun _ _=>rfl) (fun j mm hj=>by simp at hj);rw [List.append_nil] at this;exact this
 ·show (if nb<w.heap.size then own nb else none)=none;split
  ·exact a.ow
  ·rfl
 ·show (if k<w.heap.size then own k else none)=none;split
  ·exact a.nw k hk
  ·rfl
theorem Run.low (h:Run t c0 w b0 nb fb own s top r):b0<=w.heap.size/\b0<=nb/\b0<=fb/\(∀ k,k<b0->own k=none)/\nb<w.heap.size/\fb<w.heap.size:=by
 obtain ⟨b,d,c,n,a,_⟩:=h;exact ⟨a.bs,a.nlo,a.net.fb0,a.nw,aAf a.blk,aAf a.net.fuel⟩
def NextS (t:Wt)(c0:Nat)(w:World)(b0 nb fb:Nat)(own:Nat->Option Own)(s:Rf.St)(top r:Nat)(e:Ending)(w':World):Prop:=
 On Z.bt w w'/\(∀ k,k<w.heap.size->own k=none->k≠fb->k≠nb->w'.heap[k]?=w.heap[k]?)/\
  ((e=.returned (.int .i64 0)/\∃ s',Rf.sym (fuelF t) s top r=some (s',none))\/∃ s' z own',e=.returned (.int .i64 (code z))/\Rf.sym (fuelF t) s top r=some (s',some z)/\Run t c0 w' b0 nb fb own' s' top (r+1)/\∀ k,k<w.heap.size->own k=none->own' k=none)
theorem aOq (X:c0<=3000)(h:Run t c0 w b0 nb fb own s top r)(S:r<=1000000):Calls Tryz.prog 78 #[ptrB nb] w (NextS t c0 w b0 nb fb own s top r):=by
 obtain ⟨E,f,c,n,F,u,T,y,i,A,H⟩:=h
 have q:c+f top+2<=fuelF t:=by unfold fuelF;omega
 obtain ⟨x,j,B⟩:=Rf.total (fuelF t) s top r f c u (by omega) y n i A q;refine (aQ9 F u (by omega) y i A S q j fun hs=>?_).mono ?_
 ·obtain ⟨v,I⟩:=Option.isSome_iff_exists.1 hs;obtain ⟨a,k,_,_,l,_⟩:=B.ex v I;exact ⟨a,k,l⟩
 ·rintro e W ⟨rfl,p,D,b,d⟩;obtain ⟨C,z⟩:=x;refine ⟨p,b,?_⟩
  cases z with
  | none=>exact Or.inl ⟨rfl,C,j⟩
  | some z=>
   obtain ⟨a,k,U,J,L,M,N,O,P⟩:=B.ex z rfl;obtain ⟨g,m,o,R⟩:=d rfl;refine Or.inr ⟨C,z,g,rfl,j,⟨m,a,k,N,o,J,by omega,L,O,P,?_⟩,R⟩;rw [M.agree top (List.getElem?_eq_some_iff.1 i).1];exact H
theorem aQ7 {v:Value}{c:Nat}(g:t.Ok)(r:PartAt w t v)(l:c<=3000):Calls Tryz.prog 76 #[v,.int .i64 c] w fun e w'=>∃ ns d own nb fb n,Rf.of t []=some (ns,d)/\ns[d]?=some n/\e=.returned (ptrB nb)/\Chg w w' []/\Run t c w' w.heap.size nb fb own ⟨ns,c⟩ d 0:=by
 refine (aTK g r l).mono ?_;rintro e w' ⟨ns,d,own,i,nb,fb,f,p,j,q⟩;obtain ⟨m,b,s,a,o,k,h,_⟩:=Rf.aBs t [] (fun _=>0) g l (Rf.aE6 _ c);rw [f] at a;cases a;exact ⟨ns,d,own,nb,fb,ns[d],f,List.getElem?_eq_getElem k,p,j,i,b,c,ns[d],q,rfl,Nat.le_refl _,o.inv,List.getElem?_eq_getElem k,Nat.zero_le _,h⟩
end
end Ab
open Go.RowKit
namespace Ab
open Rf (Nd Inv NInv Wt)
def RdAt (w:World)(rb nb:Nat)(zs:List Int):Prop:=∃ xs:List Value,w.heap[rb]?=some (.cells (ptrB nb::xs).toArray 140 (0,0))/\Hold true w zs xs
def sMo (a b c d:Int)(tm:List AT):AS:=⟨tm,[(0,wrt (.ptr 1 0::numCs true 0 4) 140),(1,ext [] 197)],2,[(a,1),(b,1),(c,1),(d,1)],[]⟩
abbrev P1:AT:=.val (.one (.ptr 1 0))
def stRd (ks:List (K (List AT))):Bool:=atOp (opCalls 78) ks||atOp (opCalls 76) ks
noncomputable def moK:List (K (List AT)):=[.code (bodyOf Tryz.f69),.top Tryz.f69]
noncomputable def nrK:List (K (List AT)):=[.code (bodyOf Tryz.f67),.top Tryz.f67]
noncomputable def moA (a b c d z:Int):Option Tr:=run Z (tabSp tN) bT (drawA Z (tabSp tN)) (fun _=>false) 100 (aft (pD 13) Tryz.f69) (sMo a b c d (slot [(0,P0),(13,sintT z)] 0 25))
noncomputable def moS (a b c d z:Int)(l:List Bool):AS:=(((moA a b c d z).bind (leafT l)).map (·.2)).getD ⟨[],[],0,[],[]⟩
noncomputable def nrA (v:Value)(n:Int):Option Tr:=run Z (tabSp tN) bT (drawA Z (tabSp tN)) (fun _=>false) 100 (aft (pD 7) Tryz.f67) (sNw v n (slot [(7,litT v)] 0 11))
noncomputable def nrS (v:Value)(n:Int):AS:=(((nrA v n).bind (leafT [])).map (·.2)).getD ⟨[],[],0,[],[]⟩
section
variable (a b c d z n:Int) (v:Value)
theorem mo_w:(run Z (tabSp tN) bT (drawA Z (tabSp tN)) stRd 100 moK (sMo a b c d (P0::List.replicate 24 .und))).bind (outX (nrm [0,1] [] 2 []) (nrm [0,1] [0,12] 2 []))=some (.stp (bef (pD 13) Tryz.f69) (sMo a b c d (slot [(0,P0),(12,P1)] 0 25))):=by kernel_rfl
theorem mo_c:callAt Z (sMo a b c d (slot [(0,P0),(12,P1)] 0 25)) (bef (pD 13) Tryz.f69)=some (78,[.one (.ptr 1 0)],some 13,aft (pD 13) Tryz.f69):=by kernel_rfl
theorem mo_f:noFr (bef (pD 13) Tryz.f69)=true:=by kernel_rfl
theorem mo_t:moA a b c d z=some (.br (z==0) (.ret (.val (.one (.bool false))) (moS a b c d z [true])) (.ret (.val (.one (.bool true))) (moS a b c d z [false]))):=by kernel_rfl
def sV (tm:List AT):AS:=⟨tm,[],0,[],[]⟩
theorem mo_0:(run Z (tabSp tN) bT (drawA Z (tabSp tN)) (fun _=>false) 100 (aft (pD 13) Tryz.f69) (sV (slot [(13,.val (.one (.int .i64 0)))] 0 25))).bind retL=some (.val (.one (.bool false)),true):=by kernel_rfl
theorem aUZ:putT (keepT [] [] 0 (sMo a b c d (slot [(0,P0),(12,P1)] 0 25)).tmps) (some 13) (.val (.one (.int .i64 0)))=slot [(13,.val (.one (.int .i64 0)))] 0 25:=by kernel_rfl
theorem aU0:putT (keepT [0,1] [0] 0 (sMo a b c d (slot [(0,P0),(12,P1)] 0 25)).tmps) (some 13) (sintT z)=slot [(0,P0),(13,sintT z)] 0 25:=by kernel_rfl
theorem mo_1:(moS a b c d z [false]).dirty=[0]:=by kernel_rfl
theorem mo_l:look (moS a b c d z [false]).boxes 0=some (wrt (.ptr 1 0::(bxc (moS a b c d z [false]) 0).drop 1) 140):=by kernel_rfl
theorem mo_n:numOf (moS a b c d z [false]).nums ((bxc (moS a b c d z [false]) 0).drop 1)=some [a*symA z+b*symC z,a*symB z+b*symD z,c*symA z+d*symC z,c*symB z+d*symD z]:=by kernel_rfl
theorem nr_w:(run Z (tabSp tN) bT (drawA Z (tabSp tN)) stRd 100 nrK (sNw v n (litT v::sintT n::List.replicate 9 .und))).bind (outX (nrm [] [] 0 []) (nrm [] [5,6] 0 []))=some (.stp (bef (pD 7) Tryz.f67) (sNw v n (slot [(5,litT v),(6,sintT n)] 0 11))):=by kernel_rfl
theorem nr_c:callAt Z (sNw v n (slot [(5,litT v),(6,sintT n)] 0 11)) (bef (pD 7) Tryz.f67)=some (76,[.one (.lit v),.one (.sint .i64 n)],some 7,aft (pD 7) Tryz.f67):=by kernel_rfl
theorem nr_f:noFr (bef (pD 7) Tryz.f67)=true:=by kernel_rfl
theorem nr_t:nrA v n=some (.ret (.val (.one (.ptr 0 0))) (nrS v n)):=by kernel_rfl
theorem nr_l:look (nrS v n).boxes 0=some ⟨.lit v::(bxc (nrS v n) 0).drop 1,140,true,false,false⟩:=by kernel_rfl
theorem nr_n:numOf (nrS v n).nums ((bxc (nrS v n) 0).drop 1)=some [1,0,0,1]:=by kernel_rfl
theorem nr_d:clean (nrS v n)=true:=by kernel_rfl
end
end Ab
open Go.RowKit
namespace Ab
open Rf (Nd Inv NInv Wt fuelF)
theorem RdAt.keep {w w':World}{rb nb:Nat}{zs:List Int}(h:RdAt w rb nb zs)(a:On Z.bt w w')(e:w'.heap[rb]?=w.heap[rb]?):RdAt w' rb nb zs:=by
 obtain ⟨b,c,d⟩:=h;exact ⟨b,by rw [e];exact c,aAm a d⟩
theorem RdAt.lt {w:World}{rb nb:Nat}{zs:List Int}(h:RdAt w rb nb zs):rb<w.heap.size:=by
 obtain ⟨b,a,_⟩:=h;exact aAf a
theorem aPF {a b:Nat}:∀ k x,phH a b k=some x->[0,1].contains k=true
 | 0,_,_=>rfl
 | 1,_,_=>rfl
 | k+2,_,e=>by cases e
theorem aM0 {w:World}{rb nb:Nat}{a b c d:Int}{xs:List Value}{ys:Array Value}(p:w.heap[rb]?=some (.cells (ptrB nb::xs).toArray 140 (0,0)))(t:Hold true w [a,b,c,d] xs)(u:∀ z∈[a,b,c,d],Bits 1 z)(l:w.heap[nb]?=some (.cells ys 197 (0,0)))(v:List AT):RepW Z w (phH rb nb) (phH rb nb) (sMo a b c d v) w:=by
 have i:rb≠nb:=by
  rintro rfl;rw [p] at l;exact absurd (Obj.cells.inj (Option.some.inj l)).2.1 (by decide)
 refine aJI rfl ?_ ?_ ?_ ?_
 ·intro k B q;have:=aAy q;simp only [sMo,List.mem_cons,List.not_mem_nil,or_false,Prod.mk.injEq] at this
  rcases this with ⟨rfl,rfl⟩ | ⟨rfl,rfl⟩
  ·refine ⟨rfl,rfl,rb,0,rfl,[],ptrB nb::xs,[],(show w.heap[rb]?=some (.cells ([]++(ptrB nb::xs)++[]).toArray 140 (0,0)) by simpa using p),rfl,⟨nb,0,rfl,rfl⟩,aBe (n:=1) [a,b,c,d] xs 0 _ t u ?_⟩;intro j z f
   match j,f with
   | 0,f=>cases f;rfl
   | 1,f=>cases f;rfl
   | 2,f=>cases f;rfl
   | 3,f=>cases f;rfl
   | j+4,f=>simp at f
  ·exact ⟨rfl,rfl,nb,0,rfl,[],[],ys.toList,(show w.heap[nb]?=some (.cells ([]++[]++ys.toList).toArray 197 (0,0)) by simpa using l),rfl,trivial⟩
 ·intro k r B x m o y A C h g
  match k,r,h,g with
  | 0,0,_,_=>exact Or.inl rfl
  | 1,1,_,_=>exact Or.inl rfl
  | 0,1,h,g=>cases h;cases g;exact absurd rfl i
  | 1,0,h,g=>cases h;cases g;exact absurd rfl i
  | k+2,_,h,_=>cases h
  | 0,k+2,_,g=>cases g
  | 1,k+2,_,g=>cases g
 ·intro k s;have:2<=k:=s
  match k,this with
  | k+2,_=>rfl
 ·intro k m o e
  match k,e with
  | 0,e=>cases e;exact aAf p
  | 1,e=>cases e;exact aAf l
  | k+2,e=>cases e
section
variable {t:Wt} {c0:Nat} {w w':World} {b0 nb fb rb:Nat} {own:Nat->Option Own} {s:Rf.St} {top r:Nat} {a b c d:Int}
theorem Run.blk (h:Run t c0 w b0 nb fb own s top r):(∃ ys:Array Value,w.heap[nb]?=some (.cells ys 197 (0,0)))/\∃ ys:Array Value,w.heap[fb]?=some (.cells ys 195 (0,0)):=by
 obtain ⟨b,d,c,n,a,_⟩:=h;exact ⟨⟨_,a.blk⟩,⟨_,a.net.fuel⟩⟩
theorem Run.rd (h:Run t c0 w b0 nb fb own s top r){zs:List Int}(x:RdAt w rb nb zs)(g:Chg w w' [rb]):Run t c0 w' b0 nb fb own s top r:=by
 obtain ⟨b,d,c,n,a,p,q,u,v⟩:=h;obtain ⟨y,i,_⟩:=x
 have o:∀ {k:Nat} {j:Array Value} {e:TypeId},w.heap[k]?=some (.cells j e (0,0))->e≠140->k ∉ [rb]:=by
  intro k j e l f m;simp at m;subst m;rw [i] at l;cases l;exact f rfl
 refine ⟨b,d,c,n,⟨a.net.aside g ⟨_,i⟩ (by decide),g.at a.blk (o a.blk (by decide)),a.ow,Nat.le_trans a.bs g.on.size,a.nlo,a.nw⟩,p,q,u,v⟩
def withZ (z a b c d:Int):List Int:=[a*(Mt.sym z).a+b*(Mt.sym z).c,a*(Mt.sym z).b+b*(Mt.sym z).d,c*(Mt.sym z).a+d*(Mt.sym z).c,c*(Mt.sym z).b+d*(Mt.sym z).d]
def MoreS (t:Wt)(c0:Nat)(w:World)(b0 nb fb rb:Nat)(own:Nat->Option Own)(s:Rf.St)(top r:Nat)(a b c d:Int)(e:Ending)(w':World):Prop:=
 On Z.bt w w'/\(∀ k,k<w.heap.size->own k=none->k≠fb->k≠nb->k≠rb->w'.heap[k]?=w.heap[k]?)/\
  ((e=.returned (.bool false)/\∃ s',Rf.sym (fuelF t) s top r=some (s',none))\/∃ s' z own',e=.returned (.bool true)/\Rf.sym (fuelF t) s top r=some (s',some z)/\Run t c0 w' b0 nb fb own' s' top (r+1)/\RdAt w' rb nb (withZ z a b c d)/\∀ k,k<w.heap.size->own k=none->own' k=none)
theorem aJK (T:c0<=3000)(h:Run t c0 w b0 nb fb own s top r)(hr:r<=1000000)(D:RdAt w rb nb [a,b,c,d])(Y:∀ z∈[a,b,c,d],Bits 1 z)(ho:own rb=none):Calls Tryz.prog 69 #[ptrB rb] w (MoreS t c0 w b0 nb fb rb own s top r a b c d):=by
 have F:=aAj Tryz.func69 rfl rfl;obtain ⟨⟨ys,v⟩,⟨fs,L⟩⟩:=h.blk;obtain ⟨xs,A,hh⟩:=id D
 have aa:rb≠nb:=by
  rintro rfl;rw [A] at v;exact absurd (Obj.cells.inj (Option.some.inj v)).2.1 (by decide)
 have ab:rb≠fb:=by
  rintro rfl;rw [A] at L;exact absurd (Obj.cells.inj (Option.some.inj L)).2.1 (by decide)
 refine aAP F (φ:=phH rb nb) (vs:=[.one (.ptr 0 0)]) (args:=[ptrB rb]) (s:=sMo a b c d (P0::List.replicate 24 .und)) (by kernel_rfl) ⟨⟨rb,0,rfl,rfl⟩,trivial⟩ (aM0 A hh Y v _) ?_;refine xrun' (aAd aAW) aCd aPF (aA7 aPF) (mo_w a b c d) (fun _ _=>False) (fun ks s=>ks=bef (pD 13) Tryz.f69/\s=sMo a b c d (slot [(0,P0),(12,P1)] 0 25)) ⟨rfl,rfl⟩ (fun _ _ _ _ _ h=>h.elim) ?_;rintro ks s0 ⟨rfl,rfl⟩;refine ⟨mo_f,fun kcs φ1 a1 w1 hsr1 hr1=>?_⟩;have H:Chg w w1 []:=aAN hr1.wd rfl
 refine aAx (mo_c a b c d) (aAj Tryz.func78 rfl rfl).en mo_f (hsr1 φ1 [] w1) hr1 fun us hus=>?_
 match us,hus with
 | [u1],⟨hu1,_⟩=>
 rw [aBp (hr1.wd.base 1 (nb,0) rfl) hu1];refine (aOq T (h.still H) hr).mono ?_;rintro e w2 ⟨ak,B,S⟩;have l:=H.on.trans ak
 have g:∀ k,k<w.heap.size->own k=none->k≠fb->k≠nb->w2.heap[k]?=w.heap[k]?:=by
  intro k f C hf hn;rw [B k (Nat.lt_of_lt_of_le f H.on.size) C hf hn,H.low k f (by simp)]
 have p:RdAt w2 rb nb [a,b,c,d]:=D.keep l (g rb D.lt ho ab aa)
 rcases S with ⟨rfl,hs⟩ | ⟨s',z,M,rfl,hs,hR,N⟩
 ·refine ⟨_,rfl,fun kcs2 hf2 hsr2=>?_⟩;obtain ⟨tr,U,i⟩:=bnd mo_0
  match tr,i with
  | .ret r s,i=>
   simp only [retL,Option.some.injEq,Prod.mk.injEq] at i;obtain ⟨rfl,hc⟩:=i;refine aBY (aAd aAW) aCd (aAI mixed (aAd aAW)) (fun r s=>r=.val (.one (.bool false))/\clean s=true) (fun _ _=>False) (fun _ _ h=>h.elim) ?_ _ _ _ _ U ⟨rfl,hc⟩ kcs2 _ _ w2 (hsr2 _ _ _) (aAM (kb:=[]) (kt:=[]) hr1 aCi (aUZ a b c d).symm (fun b Y=>by simp at Y) rfl);rintro r s φ x X ⟨rfl,hc⟩ hrel n;have hx:x=.bool false:=hrel;have E:Chg w2 X []:=Chg.aAi (RepF.below n hc);rw [hx];exact ⟨l.trans E.on,fun k f h1 h2 T _=>by rw [E.low k (Nat.lt_of_lt_of_le f l.size) (by simp),g k f h1 h2 T],Or.inl ⟨rfl,hs⟩⟩
  | .br _ _ _,i=>cases i
  | .need _ _,i=>cases i
  | .stop _ _,i=>cases i
 ·refine ⟨_,rfl,fun kcs2 hf2 hsr2=>?_⟩;obtain ⟨⟨av,O⟩,_⟩:=hR.blk;obtain ⟨ai,q,P⟩:=id p
  have ae:Rep Z w2 (phH rb nb) (phH rb nb) (sMo a b c d (slot [(0,P0),(13,sintT (code z))] 0 25)) (a1.put (some 13) (.int .i64 (code z))) w2:=aAM (kb:=[0,1]) (kt:=[0]) (r:=sintT (code z)) hr1 (aM0 q P Y O _) (aU0 a b c d (code z)).symm (fun k f=>by
   have:k=0\/k=1:=by simpa using f
   rcases this with rfl | rfl
   ·exact (hr1.wd.base 0 (rb,0) rfl).symm
   ·exact (hr1.wd.base 1 (nb,0) rfl).symm) rfl
  refine aBY (aAd aAW) aCd (aAI mixed (aAd aAW)) (fun r s=>r=.val (.one (.bool true))/\s.dirty=[0]/\look s.boxes 0=some (wrt (.ptr 1 0::(bxc s 0).drop 1) 140)/\numOf s.nums ((bxc s 0).drop 1)=some (withZ z a b c d)) (fun _ _=>False) (fun _ _ h=>h.elim) ?_ _ _ _ _ (mo_t a b c d (code z)) ⟨fun e=>absurd (by simpa using e) (aF9 z),fun _=>⟨rfl,mo_1 a b c d _,mo_l a b c d _,?_⟩⟩ kcs2 _ _ w2 (hsr2 _ _ _) ae
  ·rintro r s3 φ x X ⟨rfl,hd,hl,hn⟩ hrel n;have hx:x=.bool true:=hrel;rw [hx]
   have E:Chg w2 X [rb]:=⟨n.on,fun j hj hm=>n.low j hj fun k f o e=>by
    rw [hd] at f;simp only [List.mem_singleton] at f;subst f;rw [n.base 0 (rb,0) rfl] at e;cases e
    exact hm (by simp)⟩
   obtain ⟨k',o,aj,W,R,U,i,g3,g4⟩:=n.box 0 _ hl;rw [n.base 0 (rb,0) rfl] at U;cases U;have I:aj=[]:=List.length_eq_zero_iff.1 g3;subst I
   match W,g4 with
   | y::W,⟨gy,g5⟩=>
   have hy:y=ptrB nb:=aAo (ν:=s3.nums) (w:=X) (n.base 1 (nb,0) rfl) y gy;subst hy;have J:=aCJ _ _ _ hn g5;have ap:W.length=8:=aBR _ _ J;have af:ai.length=8:=aBR _ _ P;have m:=n.on.shape (show w2.shape? rb=some (140,9) by unfold World.shape?;rw [q];simp [af]);unfold World.shape? at m;rw [i] at m;simp only [Option.some.injEq,Prod.mk.injEq,List.size_toArray,List.nil_append,List.length_append,List.length_cons] at m;have u:R=[]:=List.length_eq_zero_iff.1 (by have:=m.2;omega);subst u;refine ⟨l.trans E.on,fun k f h1 h2 T h4=>?_,Or.inr ⟨s',z,M,rfl,hs,hR.rd p E,⟨W,by rw [i];simp [wrt],J⟩,fun k f C=>N k (Nat.lt_of_lt_of_le f H.on.size) C⟩⟩;rw [E.low k (Nat.lt_of_lt_of_le f l.size) (by simpa using h4),g k f h1 h2 T]
  ·obtain ⟨e1,e2,e3,e4⟩:=aDS z;rw [mo_n,e1,e2,e3,e4];rfl
end
end Ab
open Go.RowKit
namespace Ab
open Rf (Nd Inv NInv Wt fuelF)
theorem aFr {w:World}{n:Nat}:∀ {zs:List Int} {xs:List Value},Hold true w zs xs->(∀ z∈zs,Bits n z)->RT Z w (zs.map fun z=>Tok.num true z n) xs
 | [],[],_,_=>trivial
 | z::zs,_::_::xs,⟨h1,h2,h3⟩,hb=>⟨h1,h2,hb z (by simp),aFr h3 fun y hy=>hb y (by simp [hy])⟩
 | [],_::_,h,_=>h.elim
 | _::_,[],h,_=>h.elim
 | _::_,[_],h,_=>h.elim
theorem aGl {w:World}{n:Nat}:∀ {zs:List Int} {xs:List Value},RT Z w (zs.map fun z=>Tok.num true z n) xs->Hold true w zs xs
 | [],[],_=>trivial
 | z::zs,_::_::xs,⟨h1,h2,_,h3⟩=>⟨h1,h2,aGl h3⟩
 | [],_::_,h=>h.elim
 | _::_,[],h=>h.elim
 | _::_,[_],h=>h.elim
theorem aDL {w:World}{z:Int}{y:Value}(h:mag true w z y):∃ ao ln cp,y=.slice ao ln cp:=by
 obtain ⟨b,a,_⟩:=h;exact aCM a
def decV (a b c d n:Int):Int:=bif !soundZ c d then 0 else decM a b c d n
def decD (a b c d n:Int):Bool:=bif !soundZ c d then false else bif decE1 a b c d n then decE2 a b c d n else false
theorem aFK {w:World}{a b c d n:Int}{xs:List Value}(o:Hold true w [a,b,c,d] xs)(p:∀ z∈[a,b,c,d],Bits 1 z)(q:0<=n/\n<=100000):Calls Tryz.prog 68 #[.agg xs.toArray,.int .i64 n] w fun e w'=>∃ ao ln cp,e=.returned (.tuple #[.agg #[.bool (decide (decV a b c d n<0)),.slice ao ln cp],.bool (decD a b c d n)])/\Hold true w' [decV a b c d n] [.bool (decide (decV a b c d n<0)),.slice ao ln cp]/\Below w.heap.size w w':=by
 refine (aPg.2 [.agg [.num true a 1,.num true b 1,.num true c 1,.num true d 1],.one (.sint .i64 n)] _ _ rfl (holds1 q) w [.agg xs.toArray,.int .i64 n] ⟨⟨xs,rfl,aFr (zs:=[a,b,c,d]) o p⟩,⟨rfl,rfl⟩,trivial⟩).mono ?_;rintro e w' ⟨v,rfl,⟨l,rfl,m⟩,g⟩
 match l,m with
 | [u1,u2],⟨⟨ys,h1,h2⟩,⟨_,i⟩,_⟩=>
 have i:u2=.bool (decD a b c d n):=i;have f:=aGl (zs:=[decV a b c d n]) (n:=21) h2
 match ys,f with
 | [y1,y2],f=>
  have j:=f.1;obtain ⟨ao,ln,cp,k⟩:=aDL f.2.1;subst j k;exact ⟨ao,ln,cp,by rw [h1,i],f,g⟩
 | [],h=>exact h.elim
 | [_],h=>exact h.elim
 | _::_::_::_,⟨_,_,h⟩=>exact h.elim
section
variable {t:Wt} {w:World}
theorem aDN {v:Value}{c:Nat}(B:t.Ok)(M:PartAt w t v)(W:c<=3000):Calls Tryz.prog 67 #[v,.int .i64 c] w fun e w'=>∃ ns d own nb fb rb b0,Rf.of t []=some (ns,d)/\e=.returned (ptrB rb)/\Chg w w' []/\w.heap.size<=b0/\Run t c w' b0 nb fb own ⟨ns,c⟩ d 0/\own rb=none/\w.heap.size<=rb/\RdAt w' rb nb [1,0,0,1]:=by
 have F:=aAj Tryz.func67 rfl rfl;refine aAP F (φ:=fun _=>none) (vs:=[.one (.lit v),.one (.sint .i64 c)]) (args:=[v,.int .i64 c]) (s:=sNw v c (litT v::sintT c::List.replicate 9 .und)) (by kernel_rfl) ⟨⟨rfl,aDx M⟩,rfl,trivial⟩ aCi ?_
 have g:∀ b x,(fun _:Nat=>(none:Option (Nat×Nat))) b=some x->([]:List Nat).contains b=true:=fun b x e=>by cases e
 refine xrun' (aAd aAW) aCd g (aA7 g) (nr_w c v) (fun _ _=>False) (fun H s=>H=bef (pD 7) Tryz.f67/\s=sNw v c (slot [(5,litT v),(6,sintT c)] 0 11)) ⟨rfl,rfl⟩ (fun _ _ _ _ _ h=>h.elim) ?_;rintro H s ⟨rfl,rfl⟩;refine ⟨nr_f,fun kcs φ1 a1 w1 hsr1 hr1=>?_⟩;have l:Chg w w1 []:=Chg.aAi (RepF.below hr1.wd rfl)
 refine aAx (nr_c c v) (aAj Tryz.func76 rfl rfl).en nr_f (hsr1 φ1 [] w1) hr1 fun us hus=>?_
 match us,hus with
 | [u1,u2],⟨a,f,_⟩=>
 have a:u1=v:=a.1;have f:u2=.int .i64 c:=f;rw [a,f];refine (aQ7 B (PartAt.keep l.on t v M) W).mono ?_;rintro e I ⟨ns,d,own,nb,fb,n,z,X,rfl,S,T⟩;obtain ⟨j,p,O,q⟩:=T.cut;refine ⟨ptrB nb,rfl,fun kcs2 hf2 hsr2=>?_⟩;refine aBY (aAd aAW) aCd (aAI mixed (aAd aAW)) (fun r s=>r=.val (.one (.ptr 0 0))/\look s.boxes 0=some ⟨.lit (ptrB nb)::(bxc s 0).drop 1,140,true,false,false⟩/\numOf s.nums ((bxc s 0).drop 1)=some [1,0,0,1]/\clean s=true) (fun _ _=>False) (fun _ _ h=>h.elim) ?_ _ _ _ _ (nr_t c (ptrB nb)) ⟨rfl,nr_l c (ptrB nb),nr_n c (ptrB nb),nr_d c (ptrB nb)⟩ kcs2 _ _ I (hsr2 _ _ _) (aAM (kb:=[]) (kt:=[]) (r:=litT (ptrB nb)) hr1 aCi (by kernel_rfl) (fun b hb=>by simp at hb) ⟨rfl,aCN nb⟩);rintro r s φ x J ⟨rfl,U,k,A⟩ hrel L;have C:Chg I J []:=Chg.aAi (RepF.below L A);obtain ⟨m,u,P,D,R,E⟩:=aB1 L U rfl rfl;have N:x=ptrB m:=aAo (ν:=s.nums) (w:=J) P x hrel
 match u,R with
 | y::u,⟨o,g5⟩=>
 have o:y=ptrB nb:=o.1;rw [o] at D;have i:=l.trans S;exact ⟨ns,d,j,nb,fb,m,w1.heap.size,z,by rw [N],i.trans C,l.on.size,p.still C,q m E,Nat.le_trans i.on.size E,u,D,aCJ _ _ _ k g5⟩
end
end Ab
open Go.RowKit
namespace Ab
open Rf (Nd Inv NInv Wt fuelF)
noncomputable def decL (f:Nat)(n:Int)(top:Nat):Nat->Rf.St->Nat->Int->Int->Int->Int->Option Int
 | 0,_,_,_,_,_,_=>none
 | m+1,s,r,a,b,c,d=>if decD a b c d n=true then some (decV a b c d n) else match Rf.sym f s top r with
  | some (s',some z)=>decL f n top m s' (r+1) (a*(Mt.sym z).a+b*(Mt.sym z).c) (a*(Mt.sym z).b+b*(Mt.sym z).d) (c*(Mt.sym z).a+d*(Mt.sym z).c) (c*(Mt.sym z).b+d*(Mt.sym z).d)
  | _=>none
noncomputable def decT (u:Wt)(n c:Nat):Option Int:=(Rf.of u []).bind fun x=>decL (fuelF u) n x.2 3002 ⟨x.1,c⟩ 0 1 0 0 1
theorem aNd (z:Int):(Mt.sym z).a.natAbs<=3/\(Mt.sym z).b.natAbs<=1/\(Mt.sym z).c.natAbs<=1/\(Mt.sym z).d.natAbs<=3:=by
 unfold Mt.sym;split
 ·decide
 ·split
  ·decide
  ·split
   ·decide
   ·split
    ·decide
    ·split
     ·decide
     ·split<;>decide
theorem aEp {z a b c d:Int}{r:Nat}(h:∀ x∈[a,b,c,d],x.natAbs<2^(2*r+1)):∀ x∈withZ z a b c d,x.natAbs<2^(2*(r+1)+1):=by
 obtain ⟨u,v,A,B⟩:=aNd z;have j:=h a (by simp);have k:=h b (by simp);have l:=h c (by simp);have m:=h d (by simp)
 have e:2^(2*(r+1)+1)=4*2^(2*r+1):=by rw [show 2*(r+1)+1=(2*r+1)+2 by omega,Nat.pow_add];omega
 rw [e]
 have f:∀ x y p q:Int,x.natAbs<2^(2*r+1)->y.natAbs<2^(2*r+1)->p.natAbs+q.natAbs<=4->(x*p+y*q).natAbs<4*2^(2*r+1):=by
  intro x y p q g C i
  have n:(x*p+y*q).natAbs<=x.natAbs*p.natAbs+y.natAbs*q.natAbs:=by
   have:=Int.natAbs_add_le (x*p) (y*q);rw [Int.natAbs_mul,Int.natAbs_mul] at this;exact this
  generalize 2^(2*r+1)=N at*;have o:x.natAbs*p.natAbs<=(N-1)*p.natAbs:=Nat.mul_le_mul_right _ (by omega);have s:y.natAbs*q.natAbs<=(N-1)*q.natAbs:=Nat.mul_le_mul_right _ (by omega)
  have t:(N-1)*p.natAbs+(N-1)*q.natAbs<=(N-1)*4:=by rw [<-Nat.mul_add];exact Nat.mul_le_mul_left _ i
  omega
 intro x g;simp only [withZ,List.mem_cons,List.not_mem_nil,or_false] at g
 rcases g with rfl | rfl | rfl | rfl
 ·exact f _ _ _ _ j k (by omega)
 ·exact f _ _ _ _ j k (by omega)
 ·exact f _ _ _ _ l m (by omega)
 ·exact f _ _ _ _ l m (by omega)
theorem aD3 {z:Int}{r:Nat}(h:z.natAbs<2^(2*r+1))(hr:r<=3001):Bits 1 z:=bit1 (aCk (n:=2*r+1) h (by omega))
theorem Run.few {t:Wt}{c0:Nat}{w:World}{b0 nb fb:Nat}{own:Nat->Option Own}{s:Rf.St}{top r:Nat}(h:Run t c0 w b0 nb fb own s top r):r<=3000:=by
 obtain ⟨a,b,c,n,f,g,i,d,e,j,k⟩:=h;have:=(d.at' top n e).outu;omega
theorem Run.aside {t:Wt}{c0:Nat}{w w':World}{b0 nb fb g:Nat}{own:Nat->Option Own}{s:Rf.St}{top r:Nat}(h:Run t c0 w b0 nb fb own s top r)(i:Chg w w' [g]){T:TypeId}(b:∃ cs:Array Value,w.heap[g]?=some (.cells cs T (0,0)))(q:T≠205/\T≠195/\T≠273/\T≠100)(j:T≠197):Run t c0 w' b0 nb fb own s top r:=by
 obtain ⟨e,f,c,n,a,l,m,o,p⟩:=h;have d:=b;refine ⟨e,f,c,n,⟨a.net.aside i b q,i.at a.blk ?_,a.ow,Nat.le_trans a.bs i.on.size,a.nlo,a.nw⟩,l,m,o,p⟩;intro k;simp at k;subst k;obtain ⟨cs,b⟩:=d;rw [a.blk] at b;exact j (Obj.cells.inj (Option.some.inj b)).2.1.symm
theorem aPG {n:Nat}(c:n<=60):RB 200 ((10:Int)^n):=by
 show ((10:Int)^n).natAbs<2^200;rw [Int.natAbs_pow];have a:(10:Nat)^n<=10^60:=Nat.pow_le_pow_right (by decide) c
 have b:(10:Nat)^60<2^200:=by decide
 exact Nat.lt_of_le_of_lt a b
theorem aNy {m:Nat}{t b:Int}(h:RB m t):RB m (upT t b):=by
 unfold upT;cases decide (Nm.cmp b 0<0)
 ·exact h
 ·exact aJF h
theorem aPZ {m:Nat}{b:Int}(h:RB m b):RB m (upB b):=by
 unfold upB;cases decide (Nm.cmp b 0<0)
 ·exact h
 ·exact aJF h
theorem aQv {a b c d:Int}{n m:Nat}(v:m<=6100)(r:RB m a)(s:RB m b)(t:RB m c)(u:RB m d)(g:n<=60):RB 20000 (decV a b c d n):=by
 unfold decV
 cases q:soundZ c d with
 | false=>exact Rf.bits0
 | true=>
  have h:=aMm q;have i:RB (m+200) (upT a c*10^(n:Int).toNat):=aCh (aNy r) (aPG (by simpa using g));have j:RB (m+200) (upT b d*10^(n:Int).toNat):=aCh (aNy s) (aPG (by simpa using g));have e:=aPZ t;have f:=aPZ u;have k:RB (m+200+m) (upT a c*10^(n:Int).toNat*upB d):=aCh i f;have l:RB (m+200+m) (upT b d*10^(n:Int).toNat*upB c):=aCh j e;have o:RB (m+200+m+1) (upB c*upB d):=aCk (aCh e f) (by omega);have p:=aJE (aJE k l) o;refine aCk (n:=m+200+m+1+1) (Nat.lt_of_le_of_lt (aEB h) p) (by omega)
end Ab
namespace Rf
open Nw
namespace C
def more (ns:List Nd)(n:Nd):Option (List Nd):=some (ns++[n])
def put (ns:List Nd)(i:Nat)(n:Nd):Option (List Nd):=some (ns.set i n)
def outright (ns:List Nd)(op:Op)(p q:Int):Option (List Nd×Nat):=
 (more ns (row op p q)).bind fun ns1=>if op=.exp then (more ns1 (raised ns.length)).map fun ns2=>(ns2,ns.length+1) else some (ns1,ns.length)
def nest (ns:List Nd)(op:Op)(k x:Nat)(sq:Option Nat):Option (List Nd×Nat):=
 if 0<k/\op≠.ln1p then
  match sq with
  | some s=>(more ns (nestNd op k s x (some s))).map fun ns1=>(ns1,ns.length)
  | none=>(ns[x]?).bind fun nx=>(more ns (two .mul nx.pos nx.pos x x)).bind fun ns1=>(more ns1 (nestNd op k ns.length x (some ns.length))).map fun ns2=>(ns2,ns.length+1)
 else (more ns (nestNd op k x x sq)).map fun ns1=>(ns1,ns.length)
def deeper (ns:List Nd)(n:Nd):Option (List Nd×Nat):=
 if n.op=.sqrt then (n.args[0]?).bind fun a=>(more ns { fresh true n.t [a] with op:=n.op,nest:=true}).map fun ns1=>(ns1,ns.length)
 else n.x.bind fun x=>nest ns n.op (n.k+1) x n.square
def turn (ns:List Nd)(i:Nat)(n:Nd)(lo:V):Option (List Nd):=
 (n.args[0]?).bind fun x=>
 if n.op=.sqrt then (near lo.1 lo.2 20000 1).bind fun ab=>put ns i {n with t:=[(0,0),(ab.2,0),(ab.1,ab.2),(0,ab.1)],nest:=true}
 else
  (if 0<lo.1 then (more ns (fresh true (restCols n.op lo) [x])).map fun ns1=>(ns1,ns.length) else some (ns,x)).bind fun zb=>
  (nest zb.1 n.op 0 zb.2 none).bind fun nb=>
  (if n.op=.exp then (more nb.1 (raised nb.2)).map fun ns3=>(ns3,nb.1.length) else some nb).bind fun rb=>
  if lo.1=0 then put rb.1 i {n with args:=[rb.2]}
  else (outright rb.1 n.op lo.1 lo.2).bind fun fb=>
   put fb.1 i {n with t:=(if n.op=.exp then Kind.mul else Kind.add).cols,args:=[fb.2,rb.2],read:=[0,0]}
def give (s:St)(i:Nat)(n:Nd)(c:Int):Option St:=
 (put s.nodes i {n with out:=n.out++[c],told:=n.told.mul (Mt.sym c),had:=n.had++[n.told.mul (Mt.sym c)]}).map fun ns=>⟨ns,s.clock-1⟩
def wide (s:St)(i:Nat)(n:Nd)(sd:Nat):Option St:=
 if sd=n.args.length then
  (deeper s.nodes n).bind fun d=>(put d.1 i {n with args:=n.args++[d.2],read:=n.read++[0]}).map fun ns=>⟨ns,s.clock⟩
 else some s
def settle (ns:List Nd)(i:Nat)(n:Nd):Option (List Nd):=
 if n.probe then
  (ends ns n 0).bind fun e=>
  if known n.op e.2 e.1 then (put ns i {n with read:=n.read.set 0 0,probe:=false}).bind fun ns1=>turn ns1 i {n with read:=n.read.set 0 0,probe:=false} e.2
  else some ns
 else some ns
def after (s:St)(i sd:Nat):Option (St×Bool):=
 (s.nodes[i]?).bind fun n=>
 (put s.nodes i {n with read:=bump n.read sd}).bind fun ns=>
 if s.clock-1<0 then some (⟨ns,s.clock-1⟩,false) else
 (settle ns i {n with read:=bump n.read sd}).map fun ns1=>(⟨ns1,s.clock-1⟩,true)
def reads (rec:St->Nat->Nat->Option (St×Option Int))(s:St)(i:Nat)(n:Nd):Option (St×Bool):=
 if n.t=[] then
  (constant n n.k).bind fun m=>(put s.nodes i {n with part:=n.part.mul m,k:=n.k+1}).map fun ns=>(⟨ns,s.clock-1⟩,decide (0<=s.clock-1))
 else
  (side s.nodes n).bind fun sd=>(wide s i n sd).bind fun s1=>
  (s1.nodes[i]?).bind fun n1=>(n1.args[sd]?).bind fun a=>(n1.read[sd]?).bind fun r=>
  (rec s1 a r).bind fun x=>match x.2 with
   | none=>some (x.1,false)
   | some _=>after x.1 i sd
def sym:Nat->St->Nat->Nat->Option (St×Option Int)
 | 0,_,_,_=>none
 | f+1,s,i,j=>
  (s.nodes[i]?).bind fun n=>
  match n.out[j]? with
  | some c=>some (s,some c)
  | none=>
   (if n.probe then some none else next s.nodes n).bind fun o=>match o with
   | some c=>if s.clock-1<0 then some (⟨s.nodes,s.clock-1⟩,none) else (give s i n c).bind fun s1=>sym f s1 i j
   | none=>(reads (sym f) s i n).bind fun x=>if x.2 then sym f x.1 i j else some (x.1,none)
def of:Wt->List Nd->Option (List Nd×Nat)
 | .fr p q,ns=>(more ns (fresh (decide (0<=p)) [(p,q)] [])).map fun ns1=>(ns1,ns.length)
 | .con op ts,ns=>(more ns { fresh true [] [] with op:=op,terms:=ts}).map fun ns1=>(ns1,ns.length)
 | .neg t,ns=>(of t ns).bind fun x=>(more x.1 (fresh false [(-1,0),(0,1)] [x.2])).map fun ns1=>(ns1,x.1.length)
 | .two k a b,ns=>(of a ns).bind fun x=>(of b x.1).bind fun y=>(y.1[x.2]?).bind fun nx=>(y.1[y.2]?).bind fun ny=>(more y.1 (two k nx.pos ny.pos x.2 y.2)).map fun ns1=>(ns1,y.1.length)
 | .fn op (.fr p q),ns=>outright ns op p q
 | .fn op t,ns=>(of t ns).bind fun x=>(x.1[x.2]?).bind fun nx=>
   (if nx.pos then some x else (more x.1 (fresh true [(1,0),(0,1)] [x.2])).map fun ns1=>(ns1,x.1.length)).bind fun y=>
   (more y.1 { fresh true [(1,0),(0,1)] [y.2] with op:=op,probe:=true}).map fun ns1=>(ns1,y.1.length)
end C
def Le' {α:Type}(x y:Option α):Prop:=∀ a,x=some a->y=some a
theorem Le'.refl {α:Type}(x:Option α):Le' x x:=fun _ h=>h
theorem Le'.bind {α β:Type}{x y:Option α}{f g:α->Option β}(h:Le' x y)(i:∀ a,Le' (f a) (g a)):Le' (x.bind f) (y.bind g):=by
 intro b e;obtain ⟨a,c,d⟩:=Option.bind_eq_some_iff.1 e;rw [h a c];exact i a b d
theorem Le'.map {α β:Type}{x y:Option α}{f:α->β}(h:Le' x y):Le' (x.map f) (y.map f):=by
 intro b e;obtain ⟨a,c,d⟩:=Option.map_eq_some_iff.1 e;rw [h a c,<-d];rfl
theorem Le'.ite {α:Type}{c:Prop} [Decidable c] {x y a b:Option α}(d:Le' x a)(e:Le' y b):Le' (if c then x else y) (if c then a else b):=by
 split
 ·exact d
 ·exact e
theorem aBy (ns:List Nd)(n:Nd):Le' (more ns n) (C.more ns n):=by
 intro a h;unfold more at h;split at h
 ·exact h
 ·cases h
theorem aEv (ns:List Nd)(i:Nat)(n:Nd):Le' (put ns i n) (C.put ns i n):=by
 intro a h;unfold put at h;split at h
 ·exact h
 ·cases h
theorem aFk (ns:List Nd)(op:Op)(p q:Int):Le' (outright ns op p q) (C.outright ns op p q):=
 Le'.bind (aBy _ _) fun _=>Le'.ite (Le'.map (aBy _ _)) (Le'.refl _)
theorem aMt (ns:List Nd)(a:Op)(k x:Nat)(sq:Option Nat):Le' (nest ns a k x sq) (C.nest ns a k x sq):=by
 unfold nest C.nest;refine Le'.ite ?_ (Le'.map (aBy _ _))
 cases sq with
 | some s=>exact Le'.map (aBy _ _)
 | none=>exact Le'.bind (Le'.refl _) fun _=>Le'.bind (aBy _ _) fun _=>Le'.map (aBy _ _)
theorem aLB (ns:List Nd)(n:Nd):Le' (deeper ns n) (C.deeper ns n):=
 Le'.ite (Le'.bind (Le'.refl _) fun _=>Le'.map (aBy _ _)) (Le'.bind (Le'.refl _) fun _=>aMt _ _ _ _ _)
theorem aRL (ns:List Nd)(i:Nat)(n:Nd)(lo:V):Le' (turn ns i n lo) (C.turn ns i n lo):=
 Le'.bind (Le'.refl _) fun _=>Le'.ite (Le'.bind (Le'.refl _) fun _=>aEv _ _ _) <|
  Le'.bind (Le'.ite (Le'.map (aBy _ _)) (Le'.refl _)) fun _=>Le'.bind (aMt _ _ _ _ _) fun _=>Le'.bind (Le'.ite (Le'.map (aBy _ _)) (Le'.refl _)) fun _=>
  Le'.ite (aEv _ _ _) (Le'.bind (aFk _ _ _ _) fun _=>aEv _ _ _)
theorem aQP (s:St)(i:Nat)(n:Nd)(c:Int):Le' (give s i n c) (C.give s i n c):=Le'.map (aEv _ _ _)
theorem aRT (s:St)(i:Nat)(n:Nd)(sd:Nat):Le' (wide s i n sd) (C.wide s i n sd):=Le'.ite (Le'.bind (aLB _ _) fun _=>Le'.map (aEv _ _ _)) (Le'.refl _)
theorem aM4 (ns:List Nd)(i:Nat)(n:Nd):Le' (settle ns i n) (C.settle ns i n):=
 Le'.ite (Le'.bind (Le'.refl _) fun _=>Le'.ite (Le'.bind (aEv _ _ _) fun _=>aRL _ _ _ _) (Le'.refl _)) (Le'.refl _)
theorem aK9 (s:St)(i sd:Nat):Le' (after s i sd) (C.after s i sd):=
 Le'.bind (Le'.refl _) fun _=>Le'.bind (aEv _ _ _) fun _=>Le'.ite (Le'.refl _) (Le'.map (aM4 _ _ _))
theorem aOE {b a:St->Nat->Nat->Option (St×Option Int)}(h:∀ s i j,Le' (b s i j) (a s i j))(s:St)(i:Nat)(n:Nd):Le' (reads b s i n) (C.reads a s i n):=by
 refine Le'.ite (Le'.bind (Le'.refl _) fun _=>Le'.map (aEv _ _ _)) (Le'.bind (Le'.refl _) fun _=>Le'.bind (aRT _ _ _ _) fun _=>Le'.bind (Le'.refl _) fun _=>Le'.bind (Le'.refl _) fun _=>Le'.bind (Le'.refl _) fun _=>Le'.bind (h _ _ _) fun x=>?_)
 cases x.2 with
 | none=>exact Le'.refl _
 | some _=>exact aK9 _ _ _
theorem aGP:∀ (f:Nat) (s:St) (i j:Nat),Le' (sym f s i j) (C.sym f s i j)
 | 0,_,_,_=>Le'.refl _
 | f+1,s,i,j=>by
  unfold sym C.sym
  refine Le'.bind (Le'.refl _) fun n=>?_
  cases n.out[j]? with
  | some c=>exact Le'.refl _
  | none=>
   refine Le'.bind (Le'.refl _) fun o=>?_
   cases o with
   | some c=>exact Le'.ite (Le'.refl _) (Le'.bind (aQP _ _ _ _) fun s1=>aGP f s1 i j)
   | none=>exact Le'.bind (aOE (aGP f) _ _ _) fun x=>Le'.ite (aGP f x.1 i j) (Le'.refl _)
theorem aHA:∀ (t:Wt) (ns:List Nd),Le' (of t ns) (C.of t ns)
 | .fr p q,ns=>by unfold of C.of;exact Le'.map (aBy _ _)
 | .con op ts,ns=>by unfold of C.of;exact Le'.map (aBy _ _)
 | .neg t,ns=>by unfold of C.of;exact Le'.bind (aHA t ns) fun _=>Le'.map (aBy _ _)
 | .two k a b,ns=>by unfold of C.of;exact Le'.bind (aHA a ns) fun x=>Le'.bind (aHA b x.1) fun _=>Le'.bind (Le'.refl _) fun _=>Le'.bind (Le'.refl _) fun _=>Le'.map (aBy _ _)
 | .fn op (.fr p q),ns=>by unfold of C.of;exact aFk _ _ _ _
 | .fn op (.con o ts),ns=>fn_le (aHA (.con o ts) ns)
 | .fn op (.neg t),ns=>fn_le (aHA (.neg t) ns)
 | .fn op (.two k a b),ns=>fn_le (aHA (.two k a b) ns)
 | .fn op (.fn o t),ns=>fn_le (aHA (.fn o t) ns)
where
 fn_le {x y:Option (List Nd×Nat)} {op:Op} (h:Le' x y):Le' (x.bind fun x=>(x.1[x.2]?).bind fun nx=>
   (if nx.pos then some x else (more x.1 (fresh true [(1,0),(0,1)] [x.2])).map fun ns1=>(ns1,x.1.length)).bind fun y=>
   (more y.1 { fresh true [(1,0),(0,1)] [y.2] with op:=op,probe:=true}).map fun ns1=>(ns1,y.1.length))
   (y.bind fun x=>(x.1[x.2]?).bind fun nx=>
   (if nx.pos then some x else (C.more x.1 (fresh true [(1,0),(0,1)] [x.2])).map fun ns1=>(ns1,x.1.length)).bind fun y=>
   (C.more y.1 { fresh true [(1,0),(0,1)] [y.2] with op:=op,probe:=true}).map fun ns1=>(ns1,y.1.length)):=
  Le'.bind h fun _=>Le'.bind (Le'.refl _) fun _=>Le'.bind (Le'.ite (Le'.refl _) (Le'.map (aBy _ _))) fun _=>Le'.map (aBy _ _)
end Rf
namespace Rf
namespace C
def syms (f top:Nat):Nat->St->Nat->List Int
 | 0,_,_=>[]
 | m+1,s,r=>match sym f s top r with
  | some (s',some z)=>z::syms f top m s' (r+1)
  | _=>[]
def symsW (u:Wt)(f m c:Nat):List Int:=match of u [] with
 | some (ns,d)=>syms f d m ⟨ns,c⟩ 0
 | none=>[]
end C
end Rf
open Go.RowKit
namespace Ab
open Rf (Nd Inv NInv Wt fuelF)
def terV (a b c d:Int):Int:=bif !soundZ c d then 0 else upT a c/upB c
def terD (a b c d:Int):Bool:=bif !soundZ c d then false else (Nm.cmp (upT a c/upB c) (upT b d/upB d)==0)
def beyZ (t a b c d:Int):List Int:=[0*a+1*c,0*b+1*d,1*a+-t*c,1*b+-t*d]
noncomputable def terL (f k top:Nat):Nat->Rf.St->Nat->Int->Int->Int->Int->List Int->Option (List Int)
 | 0,_,_,_,_,_,_,_=>none
 | m+1,s,r,a,b,c,d,l=>if k<=l.length then some l else if terD a b c d=true then terL f k top m s r (0*a+1*c) (0*b+1*d) (1*a+-(terV a b c d)*c) (1*b+-(terV a b c d)*d) (l++[terV a b c d]) else match Rf.sym f s top r with
  | some (s',some z)=>terL f k top m s' (r+1) (a*(Mt.sym z).a+b*(Mt.sym z).c) (a*(Mt.sym z).b+b*(Mt.sym z).d) (c*(Mt.sym z).a+d*(Mt.sym z).c) (c*(Mt.sym z).b+d*(Mt.sym z).d) l
  | _=>none
noncomputable def terT (u:Wt)(k c:Nat):Option (List Int):=(Rf.of u []).bind fun x=>terL (fuelF u) k x.2 3200 ⟨x.1,c⟩ 0 1 0 0 1 []
theorem aP0 {a c N:Int}(d:0<upB c)(g:upB c<=N):-N<a-(upT a c/upB c)*c/\a-(upT a c/upB c)*c<N:=by
 have e:=Int.emod_nonneg (upT a c) (show upB c≠0 by omega);have f:=Int.emod_lt_of_pos (upT a c) d;have b:=Int.mul_ediv_add_emod (upT a c) (upB c);generalize upT a c/upB c=q at*;generalize upT a c%upB c=r at*;rw [Int.mul_comm] at b;unfold upT upB at*;cases h:decide (Nm.cmp c 0<0)
 ·simp only [h,cond_false] at*;omega
 ·simp only [h,cond_true] at*;rw [Int.mul_neg] at b;omega
theorem aFT {a b c d:Int}(h:terD a b c d=true):soundZ c d=true/\terV a b c d=upT a c/upB c/\upT a c/upB c=upT b d/upB d:=by
 unfold terD at h;unfold terV
 cases f:soundZ c d with
 | false=>rw [f] at h;cases h
 | true=>
  rw [f] at h;have e:(Nm.cmp (upT a c/upB c) (upT b d/upB d)==0)=true:=h;rw [beq_iff_eq] at e;refine ⟨rfl,rfl,?_⟩
  rcases Int.lt_trichotomy (upT a c/upB c) (upT b d/upB d) with g | g | g
  ·rw [Nm.aAC g] at e;cases e
  ·exact g
  ·rw [Nm.aAt g] at e;cases e
theorem aNx (c:Int):upB c<=(c.natAbs:Int):=by
 unfold upB;cases decide (Nm.cmp c 0<0)
 ·show c<=_;omega
 ·show -c<=_;omega
theorem aLk {a b c d:Int}{m:Nat}(p:terD a b c d=true)(h:∀ x∈[a,b,c,d],x.natAbs<2^m):∀ x∈beyZ (terV a b c d) a b c d,x.natAbs<2^m:=by
 obtain ⟨j,k,l⟩:=aFT p;obtain ⟨n,o⟩:=aCC j;have q:=h c (by simp);have r:=h d (by simp);have s:=aNx c;have u:=aNx d;have v:=aP0 (a:=a) n (Int.le_refl _);have f:=aP0 (a:=b) o (Int.le_refl _);rw [<-l] at f;rw [k];generalize upT a c/upB c=t at*;generalize 2^m=N at*
 have g:1*a+-t*c=a-t*c:=by rw [Int.neg_mul];omega
 have i:1*b+-t*d=b-t*d:=by rw [Int.neg_mul];omega
 intro x e;simp only [beyZ,List.mem_cons,List.not_mem_nil,or_false] at e
 rcases e with rfl | rfl | rfl | rfl
 ·omega
 ·omega
 ·rw [g];omega
 ·rw [i];omega
theorem aNm {a b c d:Int}{m:Nat}(g:terD a b c d=true)(h:RB m a):RB m (terV a b c d):=by
 obtain ⟨e,f,i⟩:=aFT g;rw [f];exact Nat.lt_of_le_of_lt (aEB (aCC e).1) (aNy h)
def decZ (n:Int):List Int->Int->Int->Int->Int->Option Int
 | [],a,b,c,d=>if decD a b c d n=true then some (decV a b c d n) else none
 | z::zs,a,b,c,d=>if decD a b c d n=true then some (decV a b c d n) else decZ n zs (a*(Mt.sym z).a+b*(Mt.sym z).c) (a*(Mt.sym z).b+b*(Mt.sym z).d) (c*(Mt.sym z).a+d*(Mt.sym z).c) (c*(Mt.sym z).b+d*(Mt.sym z).d)
def terZ (k:Nat):Nat->List Int->Int->Int->Int->Int->List Int->Option (List Int)
 | 0,_,_,_,_,_,_=>none
 | m+1,zs,a,b,c,d,l=>if k<=l.length then some l else if terD a b c d=true then terZ k m zs (0*a+1*c) (0*b+1*d) (1*a+-(terV a b c d)*c) (1*b+-(terV a b c d)*d) (l++[terV a b c d]) else match zs with
  | []=>none
  | z::zs=>terZ k m zs (a*(Mt.sym z).a+b*(Mt.sym z).c) (a*(Mt.sym z).b+b*(Mt.sym z).d) (c*(Mt.sym z).a+d*(Mt.sym z).c) (c*(Mt.sym z).b+d*(Mt.sym z).d) l
theorem aJU {f top r m k:Nat}{s:Rf.St}{rho:Nat->Nat}{n0:Nd}(b:s.clock=(k:Int))(o:k<=3000)(p:Inv s.nodes rho k)(d:s.nodes[top]?=some n0)(q:r<=n0.out.length)(t:k+rho top+2<=f):
  (∃ s',Rf.sym f s top r=some (s',none)/\Rf.C.syms f top (m+1) s r=[])\/∃ s' z rho' k' n',Rf.sym f s top r=some (s',some z)/\Rf.C.syms f top (m+1) s r=z::Rf.C.syms f top m s' (r+1)/\s'.clock=((k':Nat):Int)/\k'<=3000/\Inv s'.nodes rho' k'/\s'.nodes[top]?=some n'/\r+1<=n'.out.length/\k'+rho' top+2<=f:=by
 obtain ⟨x,a,g⟩:=Rf.total f s top r rho k b o p n0 d q t;have c:=Rf.aGP f s top r x a;obtain ⟨s',v⟩:=x
 cases v with
 | none=>exact Or.inl ⟨s',a,by simp [Rf.C.syms,c]⟩
 | some z=>
  obtain ⟨rho',k',u,h,i,j,n',l,n⟩:=g.ex z rfl;have e:rho' top=rho top:=j.agree top (List.getElem?_eq_some_iff.1 d).1;exact Or.inr ⟨s',z,rho',k',n',a,by simp [Rf.C.syms,c],h,by omega,i,l,n,by omega⟩
theorem aUA {f:Nat}{n:Int}{top:Nat}{v:Int}:∀ (m M:Nat) (s:Rf.St) (r:Nat) (a b c d:Int) (rho:Nat->Nat) (k:Nat) (n0:Nd),s.clock=(k:Int)->k<=3000->Inv s.nodes rho k->s.nodes[top]?=some n0->r<=n0.out.length->k+rho top+2<=f->m+1<=M->decZ n (Rf.C.syms f top m s r) a b c d=some v->decL f n top M s r a b c d=some v:=by
 intro m
 induction m with
 | zero=>
  intro M s r a b c d rho k n0 i q t u x y L h
  obtain ⟨M,rfl⟩:∃ M',M=M'+1:=⟨M-1,by omega⟩
  have j:decZ n [] a b c d=some v:=h;unfold decZ at j;unfold decL;split at j
  ·rename_i e;rw [if_pos e];exact j
  ·cases j
 | succ m ih=>
  intro M s r a b c d rho k n0 i q t u x y L h
  obtain ⟨M,rfl⟩:∃ M',M=M'+1:=⟨M-1,by omega⟩
  rcases aJU (m:=m) i q t u x y with ⟨o,p,l⟩ | ⟨o,z,g,A,B,p,l,D,E,F,H,I,J⟩
  ·rw [l] at h;unfold decZ at h;unfold decL;split at h
   ·rename_i e;rw [if_pos e];exact h
   ·cases h
  ·rw [l] at h;unfold decZ at h;unfold decL;split at h
   ·rename_i e;rw [if_pos e];exact h
   ·rename_i e;rw [if_neg e,p];exact ih M o (r+1) _ _ _ _ g A B D E F H I J (by omega) h
theorem aVe {f K top:Nat}{v:List Int}:∀ (m M j:Nat) (s:Rf.St) (r:Nat) (a b c d:Int) (l:List Int) (rho:Nat->Nat) (k:Nat) (n0:Nd),s.clock=(k:Int)->k<=3000->Inv s.nodes rho k->s.nodes[top]?=some n0->r<=n0.out.length->k+rho top+2<=f->m<=M->terZ K m (Rf.C.syms f top j s r) a b c d l=some v->terL f K top M s r a b c d l=some v:=by
 intro m
 induction m with
 | zero=>intro M j s r a b c d l rho k n0 _ _ _ _ _ _ _ h;cases h
 | succ m ih=>
  intro M j s r a b c d l rho k n0 g t u x y A N h
  obtain ⟨M,rfl⟩:∃ M',M=M'+1:=⟨M-1,by omega⟩
  unfold terZ at h;unfold terL;split at h
  ·rename_i n;rw [if_pos n];exact h
  ·rename_i n;rw [if_neg n];split at h
   ·rename_i o;rw [if_pos o];exact ih M j s r _ _ _ _ _ rho k n0 g t u x y A (by omega) h
   ·rename_i o;rw [if_neg o]
    cases j with
    | zero=>cases h
    | succ j=>
     rcases aJU (m:=j) g t u x y A with ⟨p,q,i⟩ | ⟨p,z,e,B,D,q,i,E,F,H,I,J,L⟩
     ·rw [i] at h;cases h
     ·rw [i] at h;rw [q];exact ih M j p (r+1) _ _ _ _ _ e B D E F H I J L (by omega) h
theorem aJT {u:Wt}{ns:List Nd}{d f m c:Nat}(h:Rf.of u []=some (ns,d)):Rf.C.symsW u f m c=Rf.C.syms f d m ⟨ns,c⟩ 0:=by
 unfold Rf.C.symsW;rw [Rf.aHA u [] _ h]
theorem aQw {u:Wt}(g:u.Ok){n m:Nat}{v:Int}{zs:List Int}(p:m<=3000)(h:Rf.C.symsW u (fuelF u) m 3000=zs)(o:decZ n zs 1 0 0 1=some v):decT u n 3000=some v:=by
 obtain ⟨e,a,d,b,k,f,l,_⟩:=Rf.aBs (c:=3000) u [] (fun _=>0) g (Nat.le_refl _) (Rf.aE6 _ _);have i:e[d]?=some e[d]:=List.getElem?_eq_getElem f
 have j:3000+a d+2<=fuelF u:=by unfold fuelF;omega
 unfold decT;rw [b,Option.bind_some];rw [aJT b] at h;subst h;exact aUA m 3002 ⟨e,3000⟩ 0 1 0 0 1 a 3000 e[d] rfl (Nat.le_refl _) k.inv i (Nat.zero_le _) j (by omega) o
theorem aRG {u:Wt}(g:u.Ok){k m j:Nat}{v zs:List Int}(p:m<=3200)(h:Rf.C.symsW u (fuelF u) j 3000=zs)(q:terZ k m zs 1 0 0 1 []=some v):terT u k 3000=some v:=by
 obtain ⟨e,a,d,b,n,f,o,_⟩:=Rf.aBs (c:=3000) u [] (fun _=>0) g (Nat.le_refl _) (Rf.aE6 _ _);have i:e[d]?=some e[d]:=List.getElem?_eq_getElem f
 have l:3000+a d+2<=fuelF u:=by unfold fuelF;omega
 unfold terT;rw [b,Option.bind_some];rw [aJT b] at h;subst h;exact aVe m 3200 j ⟨e,3000⟩ 0 1 0 0 1 [] a 3000 e[d] rfl (Nat.le_refl _) n.inv i (Nat.zero_le _) l p q
end Ab
open Go.RowKit
open Ab
open Rf (Wt fuelF)
theorem aGC {w:World}{rb nb:Nat}{a b c d:Int}(h:RdAt w rb nb [a,b,c,d]):∃ x1 x2 x3 x4 x5 x6 x7 x8,w.heap[rb]?=some (.cells #[ptrB nb,x1,x2,x3,x4,x5,x6,x7,x8] 140 (0,0))/\Hold true w [a,b,c,d] [x1,x2,x3,x4,x5,x6,x7,x8]:=by
 obtain ⟨g,i,e⟩:=h;have f:=aBR _ _ e
 match g,f with
 | [x1,x2,x3,x4,x5,x6,x7,x8],_=>exact ⟨x1,x2,x3,x4,x5,x6,x7,x8,i,e⟩
def decRel (u:Wt)(c:Nat)(w:World)(n:Int)(b0 nb fb rb mb d:Nat)(ans:Option Int)(dn:Value)(wr:World):Prop:=
 ∃ (own:Nat->Option Own) (s:Rf.St) (r:Nat) (a1 b1 c1 d1:Int) (ao:Option Addr) (ln cp:Nat),dn=.bool (decD a1 b1 c1 d1 n)/\Run u c wr b0 nb fb own s d r/\RdAt wr rb nb [a1,b1,c1,d1]/\own rb=none/\own mb=none/\wr.heap[mb]?=some (.cells #[.bool (decide (decV a1 b1 c1 d1 n<0)),.slice ao ln cp] 80 (0,0))/\Hold true wr [decV a1 b1 c1 d1 n] [.bool (decide (decV a1 b1 c1 d1 n<0)),.slice ao ln cp]/\wr.heap[w.heap.size]?=some (.cells #[.bool false,.slice none 0 0] 80 (0,0))/\(∀ x∈[a1,b1,c1,d1],x.natAbs<2^(2*r+1))/\On Z.bt w wr/\(∀ j,j<w.heap.size->wr.heap[j]?=w.heap[j]?)/\ans=decL (fuelF u) n d (3002-r) s r a1 b1 c1 d1
def DecR (w:World)(a:Option Int)(e:Ending)(w':World):Prop:=Chg w w' []/\match a with
 | none=>e=.returned (.tuple #[.agg #[.bool false,.slice none 0 0],.int .i64 6])
 | some m=>∃ ao ln cp,e=.returned (.tuple #[.agg #[.bool (decide (m<0)),.slice ao ln cp],.int .i64 0])/\Hold true w' [m] [.bool (decide (m<0)),.slice ao ln cp]/\RB 20000 m
def rOf (wr:World)(nb:Nat):Nat:=match wr.cell? ⟨nb,1,none⟩ with
 | some (.int _ r)=>r.toNat
 | _=>0
theorem aFs {t:Wt}{c0:Nat}{w:World}{b0 nb fb:Nat}{own:Nat->Option Own}{s:Rf.St}{top r:Nat}(h:Run t c0 w b0 nb fb own s top r):rOf w nb=r:=by
 obtain ⟨a,b,c,n,d,_⟩:=h;unfold Go.Proofs.YteghhlfmcjmnoaaGreatDoor.rOf;rw [aAa (o:=1) d.blk rfl];rfl
theorem SetW.chg {W U:World}{s:Nat}{p q x y:Value}(h:SetW W U s p q)(k:W.heap[s]?=some (.cells #[x,y] 80 (0,0))):Chg W U [s]:=by
 have a:=h.below 0 W (Below.refl _ _) (Nat.zero_le _);refine ⟨⟨a.os,a.tape,a.output,a.size,fun j o hj=>?_⟩,fun j hj hm=>h.oth j (by simpa using hm)⟩
 by_cases e:j=s
 ·subst e;rw [k] at hj;cases hj;refine Or.inr ⟨(show bt0.contains 80=true by decide),?_⟩;unfold World.shape?;rw [h.blk,k];rfl
 ·exact Or.inl (by rw [h.oth j e];exact hj)
section
variable {u:Wt} {c:Nat} {w w0 w1 w2 wr:World} {n:Int} {b0 nb fb rb mb d:Nat} {ans:Option Int}
theorem aLA {own:Nat->Option Own}{ns:List Rf.Nd}{ao:Option Addr}{ln cp:Nat}{N:Nat}(s:n=N)(o:w0=w.alloc (.cells #[.bool false,.slice none 0 0] 80))(c1:Chg w0 w1 [])(hR:Run u c w1 b0 nb fb own ⟨ns,c⟩ d 0)(i:own rb=none)(b:RdAt w1 rb nb [1,0,0,1])(t:Below w1.heap.size w1 w2)(v:Hold true w2 [decV 1 0 0 1 n] [.bool (decide (decV 1 0 0 1 n<0)),.slice ao ln cp])(k:Rf.of u []=some (ns,d)):
  decRel u c w n b0 nb fb rb w2.heap.size d (decT u N c) (.bool (decD 1 0 0 1 n)) (w2.alloc (.cells #[.bool (decide (decV 1 0 0 1 n<0)),.slice ao ln cp] 80)):=by
 have f:Chg w1 w2 []:=Chg.aAi t;have g:Chg w2 (w2.alloc (.cells #[.bool (decide (decV 1 0 0 1 n<0)),.slice ao ln cp] 80)) []:=Chg.alloc _ _
 have p:Chg w w0 []:=by rw [o];exact Chg.alloc _ _
 have a:=f.trans g;have l:=p.trans (c1.trans a);obtain ⟨e,h,q,r⟩:=(hR.still f).cut;refine ⟨e,⟨ns,c⟩,0,1,0,0,1,ao,ln,cp,rfl,h.still g,b.keep a.on (a.low rb b.lt (by simp)),?_,r _ (Nat.le_refl _),aAr _ _,aAm g.on v,?_,?_,l.on,fun j hj=>l.low j hj (by simp),?_⟩
 ·rw [q rb (Nat.lt_of_lt_of_le b.lt f.on.size)];exact i
 ·exact (c1.trans a).at (by rw [o];exact aAr _ _) (by simp)
 ·intro x m;simp at m
  rcases m with rfl | rfl | rfl | rfl<;>decide
 ·unfold decT;rw [k,Option.bind_some,s]
theorem aQx {own:Nat->Option Own}{s:Rf.St}{r:Nat}{a1 b1 c1 d1:Int}{ao:Option Addr}{ln cp:Nat}{U:World}(g:decD a1 b1 c1 d1 n=true)(l:r<=3000)(h:RB 20000 (decV a1 b1 c1 d1 n))(i:Hold true wr [decV a1 b1 c1 d1 n] [.bool (decide (decV a1 b1 c1 d1 n<0)),.slice ao ln cp])(f:wr.heap[w.heap.size]?=some (.cells #[.bool false,.slice none 0 0] 80 (0,0)))(a:On Z.bt w wr)(b:∀ j,j<w.heap.size->wr.heap[j]?=w.heap[j]?)(k:SetW wr U w.heap.size (.bool (decide (decV a1 b1 c1 d1 n<0))) (.slice ao ln cp)):
  DecR w (decL (fuelF u) n d (3002-r) s r a1 b1 c1 d1) (.returned (.tuple #[.agg #[.bool (decide (decV a1 b1 c1 d1 n<0)),.slice ao ln cp],.int .i64 0])) U:=by
 have e:3002-r=(3001-r)+1:=by omega
 have c:=k.chg f;rw [e,decL,if_pos g];exact ⟨⟨a.trans c.on,fun j hj _=>by rw [c.low j (Nat.lt_of_lt_of_le hj a.size) (by simp;omega),b j hj]⟩,ao,ln,cp,rfl,aAm c.on i,h⟩
theorem aQz {own:Nat->Option Own}{s:Rf.St}{r:Nat}{a1 b1 c1 d1:Int}{w5 U:World}{e:Ending}(g:decD a1 b1 c1 d1 n=false)(hs:∃ s',Rf.sym (fuelF u) s d r=some (s',none))(i:r<=3000)(c:w5.heap[w.heap.size]?=some (.cells #[.bool false,.slice none 0 0] 80 (0,0)))(a:On Z.bt w w5)(b:∀ j,j<w.heap.size->w5.heap[j]?=w.heap[j]?)(h:SetW w5 U w.heap.size (.bool false) (.slice none 0 0)):
  DecR w (decL (fuelF u) n d (3002-r) s r a1 b1 c1 d1) (.returned (.tuple #[.agg #[.bool false,.slice none 0 0],.int .i64 6])) U:=by
 have e:3002-r=(3001-r)+1:=by omega
 have f:=h.chg c;obtain ⟨s',hs⟩:=hs;rw [e,decL,if_neg (by rw [g];decide),hs];exact ⟨⟨a.trans f.on,fun j hj _=>by rw [f.low j (Nat.lt_of_lt_of_le hj a.size) (by simp;omega),b j hj]⟩,rfl⟩
theorem aNY {own:Nat->Option Own}{s:Rf.St}{r:Nat}{a1 b1 c1 d1:Int}{w5:World}{e:Ending}{cs:Array Value}(hR:Run u c wr b0 nb fb own s d r)(t:RdAt wr rb nb [a1,b1,c1,d1])(D:own rb=none)(v:own mb=none)(b:wr.heap[mb]?=some (.cells cs 80 (0,0)))(f:wr.heap[w.heap.size]?=some (.cells #[.bool false,.slice none 0 0] 80 (0,0)))(x:On Z.bt w wr)(y:∀ j,j<w.heap.size->wr.heap[j]?=w.heap[j]?)(E:w.heap.size<b0)(S:w.heap.size<=rb)(U:MoreS u c wr b0 nb fb rb own s d r a1 b1 c1 d1 e w5):
  On Z.bt w w5/\(∀ j,j<w.heap.size->w5.heap[j]?=w.heap[j]?)/\w5.heap[w.heap.size]?=some (.cells #[.bool false,.slice none 0 0] 80 (0,0))/\((e=.returned (.bool false)/\∃ s',Rf.sym (fuelF u) s d r=some (s',none))\/∃ s' z own',e=.returned (.bool true)/\Rf.sym (fuelF u) s d r=some (s',some z)/\Run u c w5 b0 nb fb own' s' d (r+1)/\RdAt w5 rb nb (withZ z a1 b1 c1 d1)/\own' rb=none/\own' mb=none/\w5.heap[mb]?=some (.cells cs 80 (0,0))):=by
 obtain ⟨l,a,m⟩:=U;obtain ⟨J,L,M,n,N,O⟩:=hR.low;obtain ⟨⟨W,o⟩,⟨X,p⟩⟩:=hR.blk;obtain ⟨Y,q,_⟩:=id t
 have g:∀ {k k':Nat} {A B:Array Value} {T C:TypeId},wr.heap[k]?=some (.cells A T (0,0))->wr.heap[k']?=some (.cells B C (0,0))->T≠C->k≠k':=by
  intro k k' A B T C P F R e;subst e;rw [P] at F;exact R (Obj.cells.inj (Option.some.inj F)).2.1
 have H:=a _ (aAf f) (n _ E) (g f p (by decide)) (g f o (by decide)) (g f q (by decide));have I:=a _ (aAf b) v (g b p (by decide)) (g b o (by decide)) (g b q (by decide));refine ⟨x.trans l,fun j hj=>?_,by rw [H];exact f,?_⟩
 ·have i:j≠rb:=by omega
  rw [a j (Nat.lt_of_lt_of_le hj x.size) (n j (by omega)) (by omega) (by omega) i,y j hj]
 ·rcases m with h | ⟨s',z,own',he,hs,hR',hrd',hown⟩
  ·exact Or.inl h
  ·exact Or.inr ⟨s',z,own',he,hs,hR',hrd',hown rb t.lt D,hown mb (aAf b) v,by rw [I];exact b⟩
theorem aNX {own:Nat->Option Own}{s s':Rf.St}{r:Nat}{z a1 b1 c1 d1 g h c2 i:Int}{w5 w6 U:World}{x y:Value}{ao:Option Addr}{ln cp:Nat}(C:withZ z a1 b1 c1 d1=[g,h,c2,i])(O:decD a1 b1 c1 d1 n=false)(hs:Rf.sym (fuelF u) s d r=some (s',some z))(X:r<=3000)(k:∀ x∈[a1,b1,c1,d1],x.natAbs<2^(2*r+1))(hR:Run u c w5 b0 nb fb own s' d (r+1))(l:RdAt w5 rb nb [g,h,c2,i])(D:own rb=none)(E:own mb=none)(o:w5.heap[mb]?=some (.cells #[x,y] 80 (0,0)))(F:w5.heap[w.heap.size]?=some (.cells #[.bool false,.slice none 0 0] 80 (0,0)))(H:mb≠w.heap.size)(P:w.heap.size<=mb)(p:On Z.bt w w5)(q:∀ j,j<w.heap.size->w5.heap[j]?=w.heap[j]?)(t:ans=decL (fuelF u) n d (3002-r) s r a1 b1 c1 d1)(R:Below w5.heap.size w5 w6)(S:Hold true w6 [decV g h c2 i n] [.bool (decide (decV g h c2 i n<0)),.slice ao ln cp])(v:SetW w6 U mb (.bool (decide (decV g h c2 i n<0))) (.slice ao ln cp)):
  decRel u c w n b0 nb fb rb mb d ans (.bool (decD g h c2 i n)) U/\4000-rOf U nb<4000-r:=by
 have e:Chg w5 w6 []:=Chg.aAi R;have a:=e.at o (by simp);have m:=v.chg a;have f:=(hR.still e).aside m ⟨_,a⟩ (by decide) (by decide);have b:=l.keep e.on (e.low rb l.lt (by simp))
 have A:rb≠mb:=by
  rintro rfl;obtain ⟨W,I,_⟩:=l;rw [o] at I;exact absurd (Obj.cells.inj (Option.some.inj I)).2.1 (by decide)
 have B:=(p.trans e.on).trans m.on;have T:=f.few;refine ⟨⟨own,s',r+1,g,h,c2,i,ao,ln,cp,rfl,f,b.keep m.on (m.low rb b.lt (by simpa using A)),D,E,v.blk,aAm m.on S,?_,?_,B,fun j hj=>?_,?_⟩,?_⟩
 ·rw [v.oth _ (Ne.symm H)];exact e.at F (by simp)
 ·rw [<-C];exact aEp k
 ·rw [v.oth j (by omega),e.low j (Nat.lt_of_lt_of_le hj p.size) (by simp),q j hj]
 ·rw [t,show 3002-r=(3001-r)+1 by omega,decL,if_neg (by rw [O];decide),hs];simp only [withZ,List.cons.injEq,and_true] at C;obtain ⟨J,L,M,N⟩:=C;simp only [J,L,M,N];rw [show 3002-(r+1)=3001-r by omega]
 ·rw [aFs f];omega
end
theorem aKl (w:World)(u:Wt)(pb n c:Nat)(bo:u.Ok)(hp:PartAt w u (.pointer (some ⟨pb,0,none⟩)))(hn:n<=60)(hc:c<=3000):Calls Tryz.prog 38 #[.pointer (some ⟨pb,0,none⟩),.int .i64 (n:Int),.int .i64 (c:Int)] w (DecR w (decT u n c)):=by
 have c0:Chg w (w.alloc (.cells #[.bool false,.slice none 0 0] 80)) []:=Chg.alloc _ _;have NR:=hid (aDN (w:=w.alloc (.cells #[.bool false,.slice none 0 0] 80)) (t:=u) bo (PartAt.keep c0.on _ _ hp) hc);clear hp c0
 go_enter Tryz.func38,Tryz.ntmps38
 go_wp2_with fail
 refine (NR.out).mono ?_;rintro e w1 ⟨ns,d,own,nb,fb,rb,b0,ap,rfl,R,bk,hR,bm,bn,T⟩;obtain ⟨x1,x2,x3,x4,x5,x6,x7,x8,a,hh⟩:=aGC T;have k1:=aAa (o:=1) a rfl;have k2:=aAa (o:=2) a rfl;have k3:=aAa (o:=3) a rfl;have k4:=aAa (o:=4) a rfl;have k5:=aAa (o:=5) a rfl;have k6:=aAa (o:=6) a rfl;have k7:=aAa (o:=7) a rfl;have k8:=aAa (o:=8) a rfl;have KD:=hid (aFK (n:=n) hh (fun z C=>by simp at C;rcases C with rfl | rfl | rfl | rfl<;>exact aD3 (r:=0) (by decide) (by decide)) (by omega));have C1:=hid R;have HR:=hid hR;have ax:=hid T;have ay:=hid ap;have az:=hid (show w.heap.size<b0 by simp at bk;omega);have a0:=hid (show w.heap.size<=rb by simp at bn;omega);have M:=R.on.size;clear R hR T a hh ap;unfold ptrB
 go_wp2_with fail
 refine (KD.out).mono ?_;rintro e J ⟨ao,ln,cp,rfl,aq,L⟩;have a3:=hid aq;have a4:=hid L;have a5:=hid (show w.heap.size<=J.heap.size by have:=L.size;simp at M;omega);have a6:=hid (show J.heap.size≠w.heap.size by have:=L.size;simp at M;omega);clear aq L
 go_wp2_with fail
 go_loopw [10] (fun dn wr=>decRel u c w n b0 nb fb rb J.heap.size d (decT u n c) dn wr) (fun _ wr=>4000-rOf wr nb)
 case atStart=>exact aLA rfl rfl C1.out HR.out bm ax.out a4.out a3.out ay.out
 case round=>
  obtain ⟨N,s,r,Y,b1,c1,d1,D,E,F,rfl,y,j,al,bd,A,O,h,b,H,k,l⟩:=hrel;have hr:=y.few;have m0:wr.cell? ⟨J.heap.size,0,none⟩=some (.bool (decide (decV Y b1 c1 d1 n<0))):=aAa A rfl;have m1:wr.cell? ⟨J.heap.size,1,none⟩=some (.slice D E F):=aAa A rfl;have r0:wr.cell? ⟨w.heap.size,0,none⟩=some (.bool false):=aAa h rfl;have r1:wr.cell? ⟨w.heap.size,1,none⟩=some (.slice none 0 0):=aAa h rfl;have f0:wr.frozen? ⟨w.heap.size,0,none⟩=false:=aAb h;have f1:wr.frozen? ⟨w.heap.size,1,none⟩=false:=aAb h;cases X:decD Y b1 c1 d1 n
  ·have MO:=hid (aJK hc y (by omega) j (fun z C=>aD3 (b z C) (by omega)) al);have DN:=hid (fun e w5 hM=>aNY (e:=e) (w5:=w5) y j al bd A h H k az.out a0.out hM);have a8:=hid (aFs y);have ae:=hid b;have HA:=hid l;clear y j A O h b H k l
   go_wp2_with fail
   refine (MO.out).mono ?_;rintro e w5 hM;obtain ⟨p,i,f,am⟩:=DN.out e w5 hM;have r0:w5.cell? ⟨w.heap.size,0,none⟩=some (.bool false):=aAa f rfl;have r1:w5.cell? ⟨w.heap.size,1,none⟩=some (.slice none 0 0):=aAa f rfl;have f0:w5.frozen? ⟨w.heap.size,0,none⟩=false:=aAb f;have f1:w5.frozen? ⟨w.heap.size,1,none⟩=false:=aAb f
   rcases am with ⟨rfl,hs⟩ | ⟨s',z,br,rfl,hs,P,q,be,bf,B⟩
   ·have HO:=hid (fun U I=>aQz (own:=N) (e:=.outgrown) (u:=u) (s:=s) (d:=d) (U:=U) X hs hr f p i I);have HC:=hid f;clear hM p i f hs
    go_wp2_with fail
    obtain ⟨U,I⟩:∃ U,U=(w5.setCell ⟨w.heap.size,0,none⟩ (.bool false)).setCell ⟨w.heap.size,1,none⟩ (.slice none 0 0):=⟨_,rfl⟩
    rw [<-I];have S:=setw I HC.out;have q0:U.cell? ⟨w.heap.size,0,none⟩=some (.bool false):=aAa S.blk rfl;have q1:U.cell? ⟨w.heap.size,1,none⟩=some (.slice none 0 0):=aAa S.blk rfl;refine bodyPost_ret (v:=.tuple #[.agg #[.bool false,.slice none 0 0],.int .i64 6]) (by simp [results,Tryz.results38,go_sem,q0,q1]) rfl ?_;rw [HA.out];exact HO.out U S
   ·obtain ⟨a2,b2,c2,d2,C⟩:∃ a2 b2 c2 d2,withZ z Y b1 c1 d1=[a2,b2,c2,d2]:=⟨_,_,_,_,rfl⟩
    rw [C] at q
    have af:∀ x∈[a2,b2,c2,d2],x.natAbs<2^(2*(r+1)+1):=by rw [<-C];exact aEp ae.out
    have cq:=P.few;obtain ⟨x1,x2,x3,x4,x5,x6,x7,x8,a,hh⟩:=aGC q;have k1:=aAa (o:=1) a rfl;have k2:=aAa (o:=2) a rfl;have k3:=aAa (o:=3) a rfl;have k4:=aAa (o:=4) a rfl;have k5:=aAa (o:=5) a rfl;have k6:=aAa (o:=6) a rfl;have k7:=aAa (o:=7) a rfl;have k8:=aAa (o:=8) a rfl;have bc:=hid (aFK (n:=n) hh (fun z C=>aD3 (af z C) (by omega)) (by omega));have DL:=hid (fun w6 U ao ln cp h1 h2 h3=>aNX (n:=n) (ans:=decT u n c) (w6:=w6) (U:=U) (ao:=ao) (ln:=ln) (cp:=cp) C X hs hr ae.out P q be bf B f a6.out a5.out p i HA.out h1 h2 h3);have ag:=hid B;clear hM p i f hs P q B a hh af C
    go_wp2_with fail
    refine (bc.out).mono ?_;rintro e w6 ⟨c9,da,db,rfl,au,W⟩;have g:=(W.block _ (aAf ag.out)).trans ag.out;have cr:w6.cell? ⟨J.heap.size,0,none⟩=some _:=aAa g rfl;have cs:w6.cell? ⟨J.heap.size,1,none⟩=some _:=aAa g rfl;have g0:w6.frozen? ⟨J.heap.size,0,none⟩=false:=aAb g;have g1:w6.frozen? ⟨J.heap.size,1,none⟩=false:=aAb g;have ah:=hid au;have ai:=hid W;have aj:=hid g;clear au W g
    go_wp2_with fail
    go_roundw
    case rel=>exact (DL.out _ _ _ _ _ ai.out ah.out (setw rfl aj.out)).1
    case measure=>
     have:=(DL.out _ _ _ _ _ ai.out ah.out (setw rfl aj.out)).2;rw [a8.out];exact this
  ·have HE:=hid (fun U I=>aQx (own:=N) (u:=u) (s:=s) (d:=d) (U:=U) X hr (aQv (m:=2*r+1) (by omega) (b _ (by simp)) (b _ (by simp)) (b _ (by simp)) (b _ (by simp)) hn) O h H k I);have HC:=hid h;have HA:=hid l;clear y j A O h b H k l
   go_wp2_with fail
   obtain ⟨U,I⟩:∃ U,U=(wr.setCell ⟨w.heap.size,0,none⟩ (.bool (decide (decV Y b1 c1 d1 n<0)))).setCell ⟨w.heap.size,1,none⟩ (.slice D E F):=⟨_,rfl⟩
   rw [<-I];have S:=setw I HC.out;have q0:U.cell? ⟨w.heap.size,0,none⟩=some (.bool (decide (decV Y b1 c1 d1 n<0))):=aAa S.blk rfl;have q1:U.cell? ⟨w.heap.size,1,none⟩=some (.slice D E F):=aAa S.blk rfl;refine bodyPost_ret (v:=.tuple #[.agg #[.bool (decide (decV Y b1 c1 d1 n<0)),.slice D E F],.int .i64 0]) (by simp [results,Tryz.results38,go_sem,q0,q1]) rfl ?_;rw [HA.out];exact HE.out U S
end Go.Proofs.YteghhlfmcjmnoaaGreatDoor
