import Derived.Test.YteghhlfmcjmnoaaGreatDoorCDe18
set_option linter.unusedSimpArgs false
set_option linter.unusedVariables false
set_option maxRecDepth 100000
set_option maxHeartbeats 2000000
namespace Go.Proofs.YteghhlfmcjmnoaaGreatDoor
open Go.RowKit
namespace Ab
open Rf (Nd Inv NInv)
theorem set_app {α:Type}{l new:List α}{i:Nat}{a b:α}(hi:i<l.length):((l.set i a)++new).set i b=(l++new).set i b:=by
 rw [List.set_append_left _ _ (by simpa using hi),List.set_append_left _ _ hi,List.set_set]
def TurnOk (P:Nd->Prop):Prop:=∀ (w:World) (b0 fb:Nat) (own:Nat->Option Own) (at1:Nat->Nat) (s:Rf.St) (rho:Nat->Nat) (c i:Nat) (n:Nd) (ns':List Nd) (a:Nat) (x:Nd) (e1 e2:Rf.V) (p0 q0 p1 q1 p2 q2 p3 q3 mt pl:Int) (gv cv nv:Value) (dd:Int),P n->Net w b0 own at1 fb s->b0<=w.heap.size->c<=3000->Inv s.nodes rho c->s.nodes[i]?=some n->n.probe=true->Probe w b0 own at1 s rho i n a x e1 e2 p0 q0 p1 q1 p2 q2 p3 q3 mt pl gv cv nv dd->(n.op=.sqrt->0<p1)->Rf.turn (s.nodes.set i {n with read:=[0],probe:=false}) i {n with read:=[0],probe:=false} e2=some ns'->∀ w1 xs,Chg w w1 []->Hold true w1 [p1,q1] xs->
  Calls Tryz.prog 236 #[.int .i64 (kindZ n.op),ptrB (at1 a),.agg xs.toArray] w1 fun e w2=>∃ m,∃ ys:List Value,e=.returned (ptrB m)/\Chg w1 w2 []/\w1.heap.size<=m/\w2.heap[m]?=some (.cells ys.toArray 205 (0,0))/\ys.length=27/\(∀ y∈ys,One y)/\∀ w3,Chg w2 w3 [at1 i]->w3.heap[at1 i]?=some (.cells ys.toArray 205 (0,0))->Res w b0 own at1 fb s.nodes.length true ⟨ns',s.clock⟩ w3
theorem holds1 {a:Prop}(h:a):Holds [a]:=fun x hx=>by simp at hx;rw [hx];exact h
theorem low_sc {p q dd:Int}{e2:Rf.V}(hp:0<=p)(hq:0<q)(hd:0<dd)(he:e2=Pg.sc dd (p,q)):∃ g:Int,0<g/\e2.1=g*lowT p q/\e2.2=g*lowB p q/\0<gcdZ p q/\0<=lowT p q/\0<lowB p q/\(lowT p q=0↔e2.1=0)/\(lowT p q=0↔p=0):=by
 obtain ⟨g,hg,hgz,m1,m2,t0,b0,hz⟩:=low_eq hp hq
 refine ⟨dd*g,Int.mul_pos hd hg,?_,?_,by omega,t0,b0,?_,hz⟩
 ·rw [he]
  show dd*p=_
  rw [Int.mul_assoc,<-m1]
 ·rw [he]
  show dd*q=_
  rw [Int.mul_assoc,<-m2]
 ·rw [hz,he]
  show p=0↔dd*p=0
  constructor
  ·intro h;rw [h];simp
  ·intro h
   rcases Int.mul_eq_zero.1 h with h | h
   ·omega
   ·exact h
theorem turn_sqrt:TurnOk fun n=>n.op=.sqrt:=by
 intro w b0 fb own at1 s rho c i n ns' a x e1 e2 p0 q0 p1 q1 p2 q2 p3 q3 mt pl gv cv nv dd hop h hb0 hc3 hI hn hp hpr hsq hturn w1 xs c1 hh
 have hi:=(List.getElem?_eq_some_iff.1 hn).1
 have hla:=(List.getElem?_eq_some_iff.1 hpr.xat).1
 obtain ⟨g,hg,E1,E2,hgz,t0,bb0,hz,hzp⟩:=low_sc hpr.lo hpr.lo2 hpr.d0 hpr.c2
 have hp1:=hsq hop
 have hT:0<lowT p1 q1:=by
  rcases Int.lt_or_le 0 (lowT p1 q1) with h1 | h1
  ·exact h1
  ·have:lowT p1 q1=0:=by omega
   have:=hzp.1 this
   omega
 -- the machine
 unfold Rf.turn at hturn
 simp only [hpr.args,List.getElem?_cons_zero,Option.bind_some] at hturn
 rw [if_pos hop] at hturn
 obtain ⟨ab,hnear,hput⟩:=Option.bind_eq_some_iff.1 hturn
 have hns:=(put_eq hput).1
 rw [List.set_set] at hns
 rw [E1,E2,Pg.near_sc hg] at hnear
 have hA:nearA (lowT p1 q1) (lowB p1 q1)=ab.1/\nearB (lowT p1 q1) (lowB p1 q1)=ab.2:=by
  unfold nearA nearB
  rw [hnear]
  exact ⟨rfl,rfl⟩
 obtain ⟨l1,l2⟩:=low_abs hgz
 have bT1:Rf.VBits 6100 (lowT p1 q1,lowB p1 q1):=by
  have hb:=hpr.b1
  have k:∀ {z y:Int},z.natAbs<=(dd*y).natAbs->(dd*y).natAbs<2^6100->z.natAbs<2^6100:=fun h1 h2=>Nat.lt_of_le_of_lt h1 h2
  rw [hpr.c2] at hb
  exact ⟨k (Nat.le_trans l1 (Pg.abs_sc hpr.d0 _)) hb.1,k (Nat.le_trans l2 (Pg.abs_sc hpr.d0 _)) hb.2⟩
 obtain ⟨A,B,hAB,_,hB0,bA,bB⟩:=Rf.near_ok hT bb0 bT1.1 bT1.2
 have eAB:ab=(A,B):=Option.some.inj (hnear.symm.trans hAB)
 have bA:Nat.lt ab.1.natAbs (2^12300):=by rw [eAB];exact bA
 have bB:Nat.lt ab.2.natAbs (2^3100):=by rw [eAB];exact bB
 have hsome:(Rf.near (lowT p1 q1) (lowB p1 q1) 20000 1).isSome=true:=by rw [hnear];rfl
 clear hAB
 generalize Rf.near (lowT p1 q1) (lowB p1 q1) 20000 1=NR at hnear
 obtain ⟨ys0,hys0⟩:=arg_pos (h.still hI c1) hI hpr.xat hpr.xpos
 rw [hop]
 refine settled_run (kd:=10) ⟨ys0,hys0⟩ hh hpr.bits (tT_10 p1 q1) (fun r st=>r=.val (.one (.ptr 24 0))/\IsNd st 24 [0,0,nearB (lowT p1 q1) (lowB p1 q1),0,nearA (lowT p1 q1) (lowB p1 q1),nearB (lowT p1 q1) (lowB p1 q1),0,nearA (lowT p1 q1) (lowB p1 q1)] (.lit nilP) (.ptr 2 0) (.lit nilP) (.ptr 22 0)/\IsNs st 22 10 (.ptr 2 0) (.ptr 2 0) [0,0,nearB (lowT p1 q1) (lowB p1 q1),0,nearA (lowT p1 q1) (lowB p1 q1),nearB (lowT p1 q1) (lowB p1 q1),0,nearA (lowT p1 q1) (lowB p1 q1)]/\clean st=true) ⟨holds1 hgz,holds1 ⟨hT,bb0,hsome⟩,rfl,c10_24 p1 q1,c10_22 p1 q1,c10_cl p1 q1⟩ ?_
 rintro r st φ v w2 ⟨rfl,f24,f22,fcl⟩ hrel hw
 obtain ⟨m,hm⟩:=own_phi hw f24.look rfl rfl
 obtain ⟨nb,hnb⟩:=own_phi hw f22.look rfl rfl
 have hx2:φ 2=some (at1 a,0):=hw.base 2 (at1 a,0) rfl
 have hv:v=ptrB m:=ptr_v (ν:=st.nums) (w:=w2) hm v hrel
 obtain ⟨ys,k1,k2,k3,k4,k5⟩:=f24.at hw hm lit_val (ptr_v hx2) lit_val (ptr_v hnb)
 obtain ⟨xs2,j1,j2,j3⟩:=f22.at hw hnb (ptr_v hx2) (ptr_v hx2)
 have hbel:=RepF.below hw fcl
 refine ⟨m,ys,by rw [hv],Chg.of_below hbel,k1,k2,k3,k4,fun w3 c3 h3=>?_⟩
 rw [hA.1,hA.2] at k5 j3
 have hcopy:=k5.copy k2 h3 c3.on
 have hch:Chg w w3 [at1 i]:=((c1.weak (by simp)).trans ((Chg.of_below hbel).weak (by simp))).trans c3
 have hati:at1 i<w1.heap.size:=Nat.lt_of_lt_of_le (by obtain ⟨cs,hcs⟩:=arg_blk h hn;exact lt_of_heap hcs) c1.on.size
 have hnbk:nb ∉ [at1 i]:=by simp;omega
 have hnb3:=c3.at j2 hnbk
 have hsame:(s.nodes++([]:List Nd)).set i {n with read:=[0],probe:=false,t:=[(0,0),(ab.2,0),(ab.1,ab.2),(0,ab.1)],nest:=true}=ns':=by rw [List.append_nil,hns,hpr.args]
 have hgo:Pg.Go s.nodes ns':=by rw [hns];exact go_same hn rfl rfl rfl
 obtain ⟨xa,g1,_,g3,_⟩:=hgo.at' a x hpr.xat
 have hx0:=g3 0 _ (h.nd a x hpr.xat).hc.fst
 have hcof:Pg.Cof [(0,0),(ab.2,0),(ab.1,ab.2),(0,ab.1)] (colsZ [0,0,ab.2,0,ab.1,ab.2,0,ab.1]):=.mk4 (e:=1) (by decide) (Pg.sc_one _).symm (Pg.sc_one _).symm (Pg.sc_one _).symm (Pg.sc_one _).symm
 have hbz:∀ z∈[0,0,ab.2,0,ab.1,ab.2,0,ab.1],Bits 1 z:=by
  have u1:Bits 1 ab.1:=bits_up (N:=12300) (by decide) bA
  have u2:Bits 1 ab.2:=bits_up (N:=3100) (by decide) bB
  have u0:Bits 1 0:=bits_up (N:=1) (by decide) (by decide)
  intro z hz
  have hz':z=0\/z=ab.1\/z=ab.2:=by simp at hz;omega
  rcases hz' with rfl | rfl | rfl<;>assumption
 refine turn_gen h hI hn (n':={n with read:=[0],probe:=false,t:=[(0,0),(ab.2,0),(ab.1,ab.2),(0,ab.1)],nest:=true}) (new:=[]) hsame.symm rfl rfl rfl hch (fun _ _=>rfl) (fun _ _=>rfl) ?_ (fun j mm hj=>by simp at hj)
 refine nest_nodeOk (a:=a) hcopy rfl hpr.pos rfl rfl hpr.args rfl hpr.out hpr.told hpr.had rfl g1 hx0 ⟨_,hnb3⟩ ?_ hcof (h.nd i n hn).own (h.nd i n hn).lo
 exact ⟨xs2,[0,0,ab.2,0,ab.1,ab.2,0,ab.1],_,_,by rw [show kindZ n.op=10 by rw [hop];rfl];exact hnb3,hold_on c3.on j3,rfl,hbz,fun _=>⟨a,by simp only;rw [hpr.args];rfl,rfl,rfl,hcof⟩,fun e=>absurd hop e⟩
end Ab
open Go.RowKit
namespace Ab
open Rf (Nd Inv NInv)
structure LfA (W:Nat) (w2:World) (kd:Int) (xk m nst ra nb pb:Nat) (fur:Value) (xs:List Value):Prop where
 n0:W<=nst
 nd:NodeAt w2 nst (nsC kd 0) false 0 0 0 0 0 (ptrB xk) nilP nilS' nilP (ptrB nb)
 b0:W<=nb
 blk:w2.heap[nb]?=some (.cells (.int .i64 kd::ptrB xk::fur::xs).toArray 273 (0,0))
 hold:Hold true w2 [0,0,0,0,0,0,0,0] xs
 ln:kd=12->fur=ptrB xk
 sq:kd≠12->fur=ptrB pb/\W<=pb/\pb≠nst/\(kd=11->pb≠ra)/\NodeAt w2 pb [1,0,0,0,0,0,0,1] false 0 0 0 0 0 (ptrB xk) (ptrB xk) nilS' nilP nilP
 top:kd≠11->NodeAt w2 m [1,0,0,1,0,0,0,0] false 0 0 0 0 0 nilP (ptrB nst) nilS' nilP nilP
 ex:kd=11->W<=ra/\ra≠nst/\NodeAt w2 ra [1,-1,1,1,0,0,0,0] false 0 0 0 0 0 nilP (ptrB nst) nilS' nilP nilP/\NodeAt w2 m [1,0,0,1,0,0,0,0] false 0 0 0 0 0 nilP (ptrB ra) nilS' nilP nilP
abbrev Told (w1:World)(e:Ending)(w2:World)(K:Nat->Prop):Prop:=∃ m,∃ ys:List Value,e=.returned (ptrB m)/\Chg w1 w2 []/\w1.heap.size<=m/\w2.heap[m]?=some (.cells ys.toArray 205 (0,0))/\ys.length=27/\(∀ y∈ys,One y)/\K m
section
variable {w1:World} {xk:Nat} {p q:Int} {xs:List Value}
theorem setA_12 (hx:∃ ys:List Value,w1.heap[xk]?=some (.cells (.bool false::ys).toArray 205 (0,0)))(hh:Hold true w1 [p,q] xs)(hb:∀ z∈[p,q],Bits 1 z)(hg:0<gcdZ p q)(hz:lowT p q=0):Calls Tryz.prog 236 #[.int .i64 12,ptrB xk,.agg xs.toArray] w1 fun e w2=>Told w1 e w2 fun m=>∃ nst ra nb pb fur xs,LfA w1.heap.size w2 12 xk m nst ra nb pb fur xs:=by
 refine settled_run (kd:=12) hx hh hb (tT_12 p q) (fun r st=>r=.val (.one (.ptr 9 0))/\IsNd st 9 [1,0,0,1,0,0,0,0] (.lit nilP) (.lit nilP) (.ptr 8 0) (.lit nilP)/\IsNd st 8 (nsC 12 0) (.lit nilP) (.ptr 2 0) (.lit nilP) (.ptr 6 0)/\IsNs st 6 12 (.ptr 2 0) (.ptr 2 0) [0,0,0,0,0,0,0,0]/\clean st=true) ⟨holds1 hg,fun _=>⟨fun e=>(by cases e),fun _=>⟨holds1 (by decide),holds1 (by decide),rfl,a12_9 p q,a12_8 p q,a12_6 p q,a12_cl p q⟩⟩,fun e=>absurd (show Nm.cmp (lowT p q) 0=0 from Nm.cmp_eq hz) (of_decide_eq_false e)⟩ ?_
 rintro r st φ v w2 ⟨rfl,f9,f8,f6,fcl⟩ hrel hw
 obtain ⟨m,hm⟩:=own_phi hw f9.look rfl rfl
 obtain ⟨nst,hn⟩:=own_phi hw f8.look rfl rfl
 obtain ⟨nb,hnb⟩:=own_phi hw f6.look rfl rfl
 have hx2:φ 2=some (xk,0):=hw.base 2 (xk,0) rfl
 have hv:v=ptrB m:=ptr_v (ν:=st.nums) (w:=w2) hm v hrel
 obtain ⟨ys,k1,k2,k3,k4,k5⟩:=f9.at hw hm lit_val lit_val (ptr_v hn) lit_val
 obtain ⟨_,i1,_,_,_,i5⟩:=f8.at hw hn lit_val (ptr_v hx2) lit_val (ptr_v hnb)
 obtain ⟨xs2,j1,j2,j3⟩:=f6.at hw hnb (ptr_v hx2) (ptr_v hx2)
 exact ⟨m,ys,by rw [hv],Chg.of_below (RepF.below hw fcl),k1,k2,k3,k4,nst,0,nb,0,_,xs2,i1,i5,j1,j2,j3,fun _=>rfl,fun e=>absurd rfl e,fun _=>k5,fun e=>by cases e⟩
theorem setA_13 (hx:∃ ys:List Value,w1.heap[xk]?=some (.cells (.bool false::ys).toArray 205 (0,0)))(hh:Hold true w1 [p,q] xs)(hb:∀ z∈[p,q],Bits 1 z)(hg:0<gcdZ p q)(hz:lowT p q=0):Calls Tryz.prog 236 #[.int .i64 13,ptrB xk,.agg xs.toArray] w1 fun e w2=>Told w1 e w2 fun m=>∃ nst ra nb pb fur xs,LfA w1.heap.size w2 13 xk m nst ra nb pb fur xs:=by
 refine settled_run (kd:=13) hx hh hb (tT_13 p q) (fun r st=>r=.val (.one (.ptr 32 0))/\IsNd st 32 [1,0,0,1,0,0,0,0] (.lit nilP) (.lit nilP) (.ptr 31 0) (.lit nilP)/\IsNd st 31 (nsC 13 0) (.lit nilP) (.ptr 2 0) (.lit nilP) (.ptr 6 0)/\IsNd st 28 [1,0,0,0,0,0,0,1] (.lit nilP) (.ptr 2 0) (.ptr 2 0) (.lit nilP)/\IsNs st 6 13 (.ptr 2 0) (.ptr 28 0) [0,0,0,0,0,0,0,0]/\clean st=true) ⟨holds1 hg,fun _=>⟨fun _=>⟨holds1 (by decide),holds1 (by decide),rfl,a13_32 p q,a13_31 p q,a13_28 p q,a13_6 p q,a13_cl p q⟩,fun e=>(by cases e)⟩,fun e=>absurd (show Nm.cmp (lowT p q) 0=0 from Nm.cmp_eq hz) (of_decide_eq_false e)⟩ ?_
 rintro r st φ v w2 ⟨rfl,f9,f8,fs,f6,fcl⟩ hrel hw
 obtain ⟨m,hm⟩:=own_phi hw f9.look rfl rfl
 obtain ⟨nst,hn⟩:=own_phi hw f8.look rfl rfl
 obtain ⟨nb,hnb⟩:=own_phi hw f6.look rfl rfl
 obtain ⟨pb,hpb⟩:=own_phi hw fs.look rfl rfl
 have hx2:φ 2=some (xk,0):=hw.base 2 (xk,0) rfl
 have hv:v=ptrB m:=ptr_v (ν:=st.nums) (w:=w2) hm v hrel
 obtain ⟨ys,k1,k2,k3,k4,k5⟩:=f9.at hw hm lit_val lit_val (ptr_v hn) lit_val
 obtain ⟨_,i1,_,_,_,i5⟩:=f8.at hw hn lit_val (ptr_v hx2) lit_val (ptr_v hnb)
 obtain ⟨_,s1,_,_,_,s5⟩:=fs.at hw hpb lit_val (ptr_v hx2) (ptr_v hx2) lit_val
 obtain ⟨xs2,j1,j2,j3⟩:=f6.at hw hnb (ptr_v hx2) (ptr_v hpb)
 exact ⟨m,ys,by rw [hv],Chg.of_below (RepF.below hw fcl),k1,k2,k3,k4,nst,0,nb,pb,_,xs2,i1,i5,j1,j2,j3,fun e=>(by cases e),fun _=>⟨rfl,s1,own_ne hw fs.look rfl f8.look hpb hn (by decide),fun e=>(by cases e),s5⟩,fun _=>k5,fun e=>by cases e⟩
theorem setA_11 (hx:∃ ys:List Value,w1.heap[xk]?=some (.cells (.bool false::ys).toArray 205 (0,0)))(hh:Hold true w1 [p,q] xs)(hb:∀ z∈[p,q],Bits 1 z)(hg:0<gcdZ p q)(hz:lowT p q=0):Calls Tryz.prog 236 #[.int .i64 11,ptrB xk,.agg xs.toArray] w1 fun e w2=>Told w1 e w2 fun m=>∃ nst ra nb pb fur xs,LfA w1.heap.size w2 11 xk m nst ra nb pb fur xs:=by
 refine settled_run (kd:=11) hx hh hb (tT_11 p q) (fun r st=>r=.val (.one (.ptr 33 0))/\IsNd st 33 [1,0,0,1,0,0,0,0] (.lit nilP) (.lit nilP) (.ptr 32 0) (.lit nilP)/\IsNd st 32 [1,-1,1,1,0,0,0,0] (.lit nilP) (.lit nilP) (.ptr 31 0) (.lit nilP)/\IsNd st 31 (nsC 11 0) (.lit nilP) (.ptr 2 0) (.lit nilP) (.ptr 6 0)/\IsNd st 28 [1,0,0,0,0,0,0,1] (.lit nilP) (.ptr 2 0) (.ptr 2 0) (.lit nilP)/\IsNs st 6 11 (.ptr 2 0) (.ptr 28 0) [0,0,0,0,0,0,0,0]/\clean st=true) ⟨holds1 hg,fun _=>⟨fun _=>⟨holds1 (by decide),holds1 (by decide),rfl,a11_33 p q,a11_32 p q,a11_31 p q,a11_28 p q,a11_6 p q,a11_cl p q⟩,fun e=>(by cases e)⟩,fun e=>absurd (show Nm.cmp (lowT p q) 0=0 from Nm.cmp_eq hz) (of_decide_eq_false e)⟩ ?_
 rintro r st φ v w2 ⟨rfl,f9,fm,f8,fs,f6,fcl⟩ hrel hw
 obtain ⟨m,hm⟩:=own_phi hw f9.look rfl rfl
 obtain ⟨nst,hn⟩:=own_phi hw f8.look rfl rfl
 obtain ⟨nb,hnb⟩:=own_phi hw f6.look rfl rfl
 obtain ⟨pb,hpb⟩:=own_phi hw fs.look rfl rfl
 obtain ⟨ra,hra⟩:=own_phi hw fm.look rfl rfl
 have hx2:φ 2=some (xk,0):=hw.base 2 (xk,0) rfl
 have hv:v=ptrB m:=ptr_v (ν:=st.nums) (w:=w2) hm v hrel
 obtain ⟨ys,k1,k2,k3,k4,k5⟩:=f9.at hw hm lit_val lit_val (ptr_v hra) lit_val
 obtain ⟨_,i1,_,_,_,i5⟩:=f8.at hw hn lit_val (ptr_v hx2) lit_val (ptr_v hnb)
 obtain ⟨_,s1,_,_,_,s5⟩:=fs.at hw hpb lit_val (ptr_v hx2) (ptr_v hx2) lit_val
 obtain ⟨xs2,j1,j2,j3⟩:=f6.at hw hnb (ptr_v hx2) (ptr_v hpb)
 obtain ⟨_,r1,_,_,_,r5⟩:=fm.at hw hra lit_val lit_val (ptr_v hn) lit_val
 exact ⟨m,ys,by rw [hv],Chg.of_below (RepF.below hw fcl),k1,k2,k3,k4,nst,ra,nb,pb,_,xs2,i1,i5,j1,j2,j3,fun e=>(by cases e),fun _=>⟨rfl,s1,own_ne hw fs.look rfl f8.look hpb hn (by decide),fun _=>own_ne hw fs.look rfl fm.look hpb hra (by decide),s5⟩,fun e=>absurd rfl e,fun _=>⟨r1,own_ne hw fm.look rfl f8.look hra hn (by decide),r5,k5⟩⟩
end
section
variable {w w3:World} {b0 fb:Nat} {own own':Nat->Option Own} {at1 at2:Nat->Nat} {i:Nat} {n n':Nd} {s:Rf.St} {rho:Nat->Nat} {c:Nat}
theorem una_nodeOk' {ns1:List Nd}{N a:Nat}{xa:Nd}{zs:List Int}{u v:Rf.V}{mN:Nd}(hnode:NodeAt w (at2 N) zs false 0 0 0 0 0 nilP (ptrB (at2 a)) nilS' nilP nilP)(h8:zs.length=8)(f1:mN.pos=true)(f2:mN.probe=false)(f3:mN.t=[u,v])(f4:mN.args=[a])(f5:mN.read=[0])(f6:mN.out=[])(f7:mN.told=Rf.one)(f8:mN.had=[Rf.one])(f9:mN.nest=false)(hxa:ns1[a]?=some xa)(hx0:xa.had[0]?=some Rf.one)(hcof:Pg.Cof [u,v] (colsZ zs))(how:own' (at2 N)=some (.nd N))(hlo:b0<=at2 N):NodeOk w b0 own' at2 ns1 N mN:=by
 obtain ⟨r0,s0,r1,s1,r2,s2,r3,s3,rfl⟩:=eight h8
 refine ⟨⟨r0,s0,r1,s1,r2,s2,r3,s3,0,0,nilS',nilP,nilP,⟨?_,Or.inl ⟨rfl,f6⟩,fun e=>?_,fun _=>rfl,fun _=>rfl,fun e=>?_⟩,[u,v],Pg.corners_new2 f3 (by rw [f4];rfl) (by rw [f5];rfl) hxa hx0 f7,hcof⟩,⟨by rw [f8,f6];rfl,by rw [f8];rfl,by rw [f8,f6,f7];rfl,fun r cc mm h=>by rw [f6] at h;simp at h⟩,how,hlo,fun e=>by rw [f2] at e;cases e⟩
 ·have e1:lArg mN=none:=by unfold lArg;rw [f3];rfl
  have e2:rArg mN=some a:=by unfold rArg;rw [f3,f4];rfl
  have e3:lRd mN=0:=by unfold lRd;rw [f3];rfl
  have e4:rRd mN=0:=by unfold rRd;rw [f3,f5];rfl
  have e5:unsZ mN=0:=by unfold unsZ;rw [f2];rfl
  rw [e1,e2,e3,e4,e5,f1]
  exact hnode
 ·rw [f3] at e;cases e
 ·rw [f9] at e;cases e
theorem bin_nodeOk' {ns1:List Nd}{N a b:Nat}{xa xb:Nd}{zs:List Int}{u v y z:Rf.V}{mN:Nd}(hnode:NodeAt w (at2 N) zs false 0 0 0 0 0 (ptrB (at2 a)) (ptrB (at2 b)) nilS' nilP nilP)(h8:zs.length=8)(f1:mN.pos=true)(f2:mN.probe=false)(f3:mN.t=[u,v,y,z])(f4:mN.args=[a,b])(f5:mN.read=[0,0])(f6:mN.out=[])(f7:mN.told=Rf.one)(f8:mN.had=[Rf.one])(f9:mN.nest=false)(hxa:ns1[a]?=some xa)(hx0:xa.had[0]?=some Rf.one)(hxb:ns1[b]?=some xb)(hb0':xb.had[0]?=some Rf.one)(hcof:Pg.Cof [u,v,y,z] (colsZ zs))(how:own' (at2 N)=some (.nd N))(hlo:b0<=at2 N):NodeOk w b0 own' at2 ns1 N mN:=by
 obtain ⟨r0,s0,r1,s1,r2,s2,r3,s3,rfl⟩:=eight h8
 refine ⟨⟨r0,s0,r1,s1,r2,s2,r3,s3,0,0,nilS',nilP,nilP,⟨?_,Or.inl ⟨rfl,f6⟩,fun e=>?_,fun _=>rfl,fun _=>rfl,fun e=>?_⟩,[u,v,y,z],Pg.corners_new4 f3 f4 f5 hxa hx0 hxb hb0' f7,hcof⟩,⟨by rw [f8,f6];rfl,by rw [f8];rfl,by rw [f8,f6,f7];rfl,fun r cc mm h=>by rw [f6] at h;simp at h⟩,how,hlo,fun e=>by rw [f2] at e;cases e⟩
 ·have e1:lArg mN=some a:=by unfold lArg;rw [f3,f4];rfl
  have e2:rArg mN=some b:=by unfold rArg;rw [f3,f4];rfl
  have e3:lRd mN=0:=by unfold lRd;rw [f3,f5];rfl
  have e4:rRd mN=0:=by unfold rRd;rw [f3,f5];rfl
  have e5:unsZ mN=0:=by unfold unsZ;rw [f2];rfl
  rw [e1,e2,e3,e4,e5,f1]
  exact hnode
 ·rw [f3] at e;cases e
 ·rw [f9] at e;cases e
end
end Ab
open Go.RowKit
namespace Ab
open Rf (Nd Inv NInv)
def ownT (kd:Int)(pb N len:Nat)(blks:List Nat)(own:Nat->Option Own):Nat->Option Own:=if kd=12 then ownL len blks own else ownA pb (.pd N) (ownL len blks own)
theorem ownT_lt {kd:Int}{pb N len W k:Nat}{blks:List Nat}{own:Nat->Option Own}(hk:k<W)(hb:∀ b∈blks,W<=b)(hp:kd≠12->W<=pb):ownT kd pb N len blks own k=own k:=by
 unfold ownT
 have e:ownL len blks own k=own k:=ownL_no fun h=>by have:=hb k h;omega
 split
 ·exact e
 ·rename_i h
  have:=hp h
  rw [ownA_ne (by omega)]
  exact e
theorem ownT_at {kd:Int}{pb N len j b:Nat}{blks:List Nat}{own:Nat->Option Own}(hn:blks.Nodup)(hj:blks[j]?=some b)(hp:kd≠12->pb≠b):ownT kd pb N len blks own b=some (.nd (len+j)):=by
 unfold ownT
 split
 ·exact ownL_at hn hj
 ·rename_i h
  rw [ownA_ne (fun e=>hp h e.symm)]
  exact ownL_at hn hj
theorem ownT_pb {kd:Int}{pb N len:Nat}{blks:List Nat}{own:Nat->Option Own}(h:kd≠12):ownT kd pb N len blks own pb=some (.pd N):=by
 unfold ownT
 rw [if_neg h]
 exact ownA_eq
theorem bits0:∀ z∈([0,0,0,0,0,0,0,0]:List Int),Bits 1 z:=by
 intro z hz
 simp at hz
 subst hz
 exact bits_up (N:=1) (by decide) (by decide)
theorem nst_new {w:World}{b0 N A nb pb:Nat}{own':Nat->Option Own}{at2:Nat->Nat}{op:Rf.Op}{fur:Value}{xs:List Value}(hop:op≠.sqrt)(hblk:w.heap[nb]?=some (.cells (.int .i64 (kindZ op)::ptrB (at2 A)::fur::xs).toArray 273 (0,0)))(hold:Hold true w [0,0,0,0,0,0,0,0] xs)(h1:op=.ln1p->fur=ptrB (at2 A))(h2:op≠.ln1p->fur=ptrB pb/\own' pb=some (.pd N)/\b0<=pb/\NodeAt w pb [1,0,0,0,0,0,0,1] false 0 0 0 0 0 (ptrB (at2 A)) (ptrB (at2 A)) nilS' nilP nilP):NstAt w b0 own' at2 N (Rf.nestNd op 0 A A none) nb 0:=
 ⟨xs,_,_,fur,hblk,hold,rfl,bits0,fun e=>absurd e hop,fun _=>⟨rfl,A,rfl,rfl,h1,fun hl=>⟨fun s e=>(by cases e),fun _=>⟨pb,h2 hl⟩⟩⟩⟩
theorem cof_plain:Pg.Cof [((1,0):Rf.V),(0,1)] (colsZ [1,0,0,1,0,0,0,0]):=.mk2 (e:=1) (by decide) (Pg.sc_one _).symm (Pg.sc_one _).symm (Pg.sc_one _).symm (Pg.sc_one _).symm
theorem cof_raised:Pg.Cof [((1,-1):Rf.V),(1,1)] (colsZ [1,-1,1,1,0,0,0,0]):=.mk2 (e:=1) (by decide) (Pg.sc_one _).symm (Pg.sc_one _).symm (Pg.sc_one _).symm (Pg.sc_one _).symm
theorem cof_nest {op:Rf.Op}(hop:Rf.fn op)(hsq:op≠.sqrt)(A:Nat):Pg.Cof (Rf.nestNd op 0 A A none).t (colsZ (nsC (kindZ op) 0)):=by
 have:=(cols_fn hop hsq (k:=0) (by omega)).1
 rw [show ((0:Nat):Int)=0 from rfl] at this
 rw [this]
 exact .mk4 (e:=1) (by decide) (Pg.sc_one _).symm (Pg.sc_one _).symm (Pg.sc_one _).symm (Pg.sc_one _).symm
theorem kd_12 {op:Rf.Op}(hop:Rf.fn op):kindZ op=12↔op=.ln1p:=by
 rcases hop with rfl | rfl | rfl | rfl<;>simp [kindZ]
theorem kd_11 {op:Rf.Op}(hop:Rf.fn op):kindZ op=11↔op=.exp:=by
 rcases hop with rfl | rfl | rfl | rfl<;>simp [kindZ]
theorem setA {w1:World}{xk:Nat}{p q:Int}{xs:List Value}{op:Rf.Op}(hop:Rf.fn op)(hsq:op≠.sqrt)(hx:∃ ys:List Value,w1.heap[xk]?=some (.cells (.bool false::ys).toArray 205 (0,0)))(hh:Hold true w1 [p,q] xs)(hb:∀ z∈[p,q],Bits 1 z)(hg:0<gcdZ p q)(hz:lowT p q=0):Calls Tryz.prog 236 #[.int .i64 (kindZ op),ptrB xk,.agg xs.toArray] w1 fun e w2=>Told w1 e w2 fun m=>∃ nst ra nb pb fur xs,LfA w1.heap.size w2 (kindZ op) xk m nst ra nb pb fur xs:=by
 rcases hop with rfl | rfl | rfl | rfl
 ·exact absurd rfl hsq
 ·exact setA_11 hx hh hb hg hz
 ·exact setA_12 hx hh hb hg hz
 ·exact setA_13 hx hh hb hg hz
theorem turn_A {w w1:World}{b0 fb:Nat}{own:Nat->Option Own}{at1:Nat->Nat}{s:Rf.St}{rho:Nat->Nat}{c i:Nat}{n:Nd}{ns':List Nd}{a:Nat}{x:Nd}{e1 e2:Rf.V}{p0 q0 p1 q1 p2 q2 p3 q3 mt pl:Int}{gv cv nv:Value}{dd:Int}{xs:List Value}(hsq:n.op≠.sqrt)(h:Net w b0 own at1 fb s)(hb0:b0<=w.heap.size)(hI:Inv s.nodes rho c)(hn:s.nodes[i]?=some n)(hpr:Probe w b0 own at1 s rho i n a x e1 e2 p0 q0 p1 q1 p2 q2 p3 q3 mt pl gv cv nv dd)(hz:e2.1=0)(hturn:Rf.turn (s.nodes.set i {n with read:=[0],probe:=false}) i {n with read:=[0],probe:=false} e2=some ns')(c1:Chg w w1 [])(hh:Hold true w1 [p1,q1] xs):
  Calls Tryz.prog 236 #[.int .i64 (kindZ n.op),ptrB (at1 a),.agg xs.toArray] w1 fun e w2=>∃ m,∃ ys:List Value,e=.returned (ptrB m)/\Chg w1 w2 []/\w1.heap.size<=m/\w2.heap[m]?=some (.cells ys.toArray 205 (0,0))/\ys.length=27/\(∀ y∈ys,One y)/\∀ w3,Chg w2 w3 [at1 i]->w3.heap[at1 i]?=some (.cells ys.toArray 205 (0,0))->Res w b0 own at1 fb s.nodes.length true ⟨ns',s.clock⟩ w3:=by
 have hi:=(List.getElem?_eq_some_iff.1 hn).1
 have hla:=(List.getElem?_eq_some_iff.1 hpr.xat).1
 obtain ⟨g,hg,E1,E2,hgz,t0,bb0,hzz,hzp⟩:=low_sc hpr.lo hpr.lo2 hpr.d0 hpr.c2
 have hT:lowT p1 q1=0:=hzz.2 hz
 have hop:=hpr.fn
 obtain ⟨ys0,hys0⟩:=arg_pos (h.still hI c1) hI hpr.xat hpr.xpos
 refine (setA hop hsq ⟨ys0,hys0⟩ hh hpr.bits hgz hT).mono ?_
 rintro e w2 ⟨m,ys,rfl,c2,k1,k2,k3,k4,nst,ra,nb,pb,fur,xs2,L⟩
 refine ⟨m,ys,rfl,c2,k1,k2,k3,k4,fun w3 c3 h3=>?_⟩
 have hsz:w.heap.size<=w1.heap.size:=c1.on.size
 have hati:at1 i<w.heap.size:=by obtain ⟨cs,hcs⟩:=arg_blk h hn;exact lt_of_heap hcs
 have hch:Chg w w3 [at1 i]:=((c1.weak (by simp)).trans (c2.weak (by simp))).trans c3
 have up:∀ {k:Nat} {zs:List Int} {lp rp cv nv:Value},w1.heap.size<=k->NodeAt w2 k zs false 0 0 0 0 0 lp rp nilS' cv nv->NodeAt w3 k zs false 0 0 0 0 0 lp rp nilS' cv nv:=fun hk hn=>hn.keep c3.on (c3.low _ hn.lt (by simp;omega))
 have hnd3:=up L.n0 L.nd
 have hblk3:=c3.at L.blk (by have:=L.b0;simp;omega)
 have hold3:=hold_on c3.on L.hold
 have hatx:∀ {blks:List Nat},atL s.nodes.length blks at1 a=at1 a:=atL_lt hla
 have hsq12:kindZ n.op≠12->n.op≠.ln1p:=fun h e=>h ((kd_12 hop).2 e)
 -- the machine
 unfold Rf.turn at hturn
 simp only [hpr.args,List.getElem?_cons_zero,Option.bind_some] at hturn
 rw [if_neg hsq,if_neg (by omega)] at hturn
 simp only [Option.bind_some] at hturn
 obtain ⟨nbm,hnest,hturn⟩:=Option.bind_eq_some_iff.1 hturn
 unfold Rf.nest at hnest
 rw [if_neg (by omega)] at hnest
 obtain ⟨nsm,hmore,hd2⟩:=Option.map_eq_some_iff.1 hnest
 have hnsm:=more_eq hmore
 subst hnsm
 subst hd2
 simp only at hturn
 by_cases hex:n.op=.exp
 ·rw [if_pos hex] at hturn
  obtain ⟨rb,hrb,hturn⟩:=Option.bind_eq_some_iff.1 hturn
  obtain ⟨ns3,hm3,hd3⟩:=Option.map_eq_some_iff.1 hrb
  have hns3:=more_eq hm3
  subst hns3
  subst hd3
  rw [if_pos hz] at hturn
  have hns:=(put_eq hturn).1
  simp only [List.length_set,List.length_append,List.length_singleton] at hns
  rw [List.append_assoc,set_app hi] at hns
  obtain ⟨r1,r2,r3,r4⟩:=L.ex ((kd_11 hop).2 hex)
  have h12:kindZ n.op≠12:=fun e=>by rw [hex] at e;cases e
  obtain ⟨q1',q2',q3',q4',q5'⟩:=L.sq h12
  have q4'':=q4' ((kd_11 hop).2 hex)
  have hnodup:[nst,ra].Nodup:=by simp;exact fun e=>r2 e.symm
  have hblks:∀ b∈[nst,ra],w.heap.size<=b:=by
   intro b hb
   simp at hb
   have:=L.n0
   rcases hb with rfl | rfl<;>omega
  have hgo:Pg.Go s.nodes ns':=by
   rw [hns]
   exact (Pg.Go.more _ _).trans (go_same (n:=n) (by rw [List.getElem?_append_left hi];exact hn) rfl rfl rfl)
  obtain ⟨xa,g1,_,g3,_⟩:=hgo.at' a x hpr.xat
  have hx0:=g3 0 _ (h.nd a x hpr.xat).hc.fst
  have hN0:ns'[s.nodes.length]?=some (Rf.nestNd n.op 0 a a none):=by
   rw [hns,List.getElem?_set_ne (by omega),List.getElem?_append_right (Nat.le_refl _)];simp
  have hN1:ns'[s.nodes.length+1]?=some (Rf.raised s.nodes.length):=by
   rw [hns,List.getElem?_set_ne (by omega),List.getElem?_append_right (by omega)];simp
  have hown0:ownT (kindZ n.op) pb s.nodes.length s.nodes.length [nst,ra] own (at1 i)=some (.nd i):=by
   rw [ownT_lt (W:=w.heap.size) hati hblks (fun _=>by omega)];exact (h.nd i n hn).own
  have A0:atL s.nodes.length [nst,ra] at1 s.nodes.length=nst:=atL_ge (j:=0) rfl
  have A1:atL s.nodes.length [nst,ra] at1 (s.nodes.length+1)=ra:=atL_ge (j:=1) rfl
  have Ai:atL s.nodes.length [nst,ra] at1 i=at1 i:=atL_lt hi
  refine turn_gen h hI hn (own':=ownT (kindZ n.op) pb s.nodes.length s.nodes.length [nst,ra] own) (at2:=atL s.nodes.length [nst,ra] at1) hns rfl rfl rfl hch (fun a ha=>atL_lt ha) (fun k hk=>ownT_lt hk hblks (fun _=>by omega)) ?_ ?_
  ·refine una_nodeOk' (a:=s.nodes.length+1) (xa:=Rf.raised s.nodes.length) (u:=(1,0)) (v:=(0,1)) ?_ rfl hpr.pos rfl hpr.t rfl rfl hpr.out hpr.told hpr.had hpr.nest hN1 rfl cof_plain (by rw [Ai];exact hown0) (by rw [Ai];exact (h.nd i n hn).lo)
   rw [Ai,A1]
   exact r4.copy k2 h3 c3.on
  ·intro j mm hj
   match j,hj with
   | 0,hj=>
    simp at hj
    subst hj
    refine nest_nodeOk (a:=a) (nb:=nb) ?_ rfl rfl rfl rfl rfl rfl rfl rfl rfl rfl g1 hx0 ⟨_,hblk3⟩ (nst_new hsq (by rw [hatx];exact hblk3) hold3 (fun e=>by rw [hex] at e;cases e) (fun _=>⟨q1',ownT_pb h12,by omega,by rw [hatx];exact up q2' q5'⟩)) (cof_nest hop hsq a) ?_ ?_
    ·rw [Nat.add_zero,A0,hatx];exact hnd3
    ·rw [Nat.add_zero,A0];exact ownT_at (j:=0) hnodup rfl (fun _=>q3')
    ·rw [Nat.add_zero,A0];have:=L.n0;omega
   | 1,hj=>
    simp at hj
    subst hj
    refine una_nodeOk (a:=s.nodes.length) ?_ rfl hN0 rfl cof_raised ?_ ?_
    ·rw [A1,A0];exact up r1 r3
    ·rw [A1];exact ownT_at (j:=1) hnodup rfl (fun _=>q4'')
    ·rw [A1];omega
   | j+2,hj=>simp at hj
 ·rw [if_neg hex] at hturn
  simp only [Option.bind_some] at hturn
  rw [if_pos hz] at hturn
  have hns:=(put_eq hturn).1
  simp only [List.length_set] at hns
  rw [set_app hi] at hns
  have htop:=L.top (fun e=>hex ((kd_11 hop).1 e))
  have hnodup:[nst].Nodup:=by simp
  have hblks:∀ b∈[nst],w.heap.size<=b:=by
   intro b hb
   simp at hb
   have:=L.n0
   omega
  have hpbW:kindZ n.op≠12->w.heap.size<=pb:=fun h=>by have:=(L.sq h).2.1;omega
  have hgo:Pg.Go s.nodes ns':=by
   rw [hns]
   exact (Pg.Go.more _ _).trans (go_same (n:=n) (by rw [List.getElem?_append_left hi];exact hn) rfl rfl rfl)
  obtain ⟨xa,g1,_,g3,_⟩:=hgo.at' a x hpr.xat
  have hx0:=g3 0 _ (h.nd a x hpr.xat).hc.fst
  have hN0:ns'[s.nodes.length]?=some (Rf.nestNd n.op 0 a a none):=by
   rw [hns,List.getElem?_set_ne (by omega),List.getElem?_append_right (Nat.le_refl _)];simp
  have hown0:ownT (kindZ n.op) pb s.nodes.length s.nodes.length [nst] own (at1 i)=some (.nd i):=by
   rw [ownT_lt (W:=w.heap.size) hati hblks hpbW];exact (h.nd i n hn).own
  have A0:atL s.nodes.length [nst] at1 s.nodes.length=nst:=atL_ge (j:=0) rfl
  have Ai:atL s.nodes.length [nst] at1 i=at1 i:=atL_lt hi
  refine turn_gen h hI hn (own':=ownT (kindZ n.op) pb s.nodes.length s.nodes.length [nst] own) (at2:=atL s.nodes.length [nst] at1) hns rfl rfl rfl hch (fun a ha=>atL_lt ha) (fun k hk=>ownT_lt hk hblks hpbW) ?_ ?_
  ·refine una_nodeOk' (a:=s.nodes.length) (xa:=Rf.nestNd n.op 0 a a none) (u:=(1,0)) (v:=(0,1)) ?_ rfl hpr.pos rfl hpr.t rfl rfl hpr.out hpr.told hpr.had hpr.nest hN0 rfl cof_plain (by rw [Ai];exact hown0) (by rw [Ai];exact (h.nd i n hn).lo)
   rw [Ai,A0]
   exact htop.copy k2 h3 c3.on
  ·intro j mm hj
   match j,hj with
   | 0,hj=>
    simp at hj
    subst hj
    refine nest_nodeOk (a:=a) (nb:=nb) ?_ rfl rfl rfl rfl rfl rfl rfl rfl rfl rfl g1 hx0 ⟨_,hblk3⟩ (nst_new (pb:=pb) hsq (by rw [hatx];exact hblk3) hold3 (fun e=>by rw [hatx];exact L.ln ((kd_12 hop).2 e)) (fun hl=>?_)) (cof_nest hop hsq a) ?_ ?_
    ·rw [Nat.add_zero,A0,hatx];exact hnd3
    ·have h12:kindZ n.op≠12:=fun e=>hl ((kd_12 hop).1 e)
     obtain ⟨q1',q2',q3',_,q5'⟩:=L.sq h12
     exact ⟨q1',ownT_pb h12,by omega,by rw [hatx];exact up q2' q5'⟩
    ·rw [Nat.add_zero,A0];exact ownT_at (j:=0) hnodup rfl (fun h=>(L.sq h).2.2.1)
    ·rw [Nat.add_zero,A0];have:=L.n0;omega
   | j+1,hj=>simp at hj
end Ab
open Go.RowKit
namespace Ab
open Rf (Nd Inv NInv)
def restZ (kd T B:Int):List Int:=[B,if kd=13 then T else 0,-T,if kd=12 then T+B else B,0,0,0,0]
structure LfB (W:Nat) (w2:World) (kd T B T2 B2:Int) (xk m z nst ra far0 far nb pb cb:Nat) (fur:Value) (xs cs:List Value):Prop where
 z0:W<=z
 zn:NodeAt w2 z (restZ kd T B) false 0 0 0 0 0 nilP (ptrB xk) nilS' nilP nilP
 n0:W<=nst
 nd:NodeAt w2 nst (nsC kd 0) false 0 0 0 0 0 (ptrB z) nilP nilS' nilP (ptrB nb)
 b0:W<=nb
 blk:w2.heap[nb]?=some (.cells (.int .i64 kd::ptrB z::fur::xs).toArray 273 (0,0))
 hold:Hold true w2 [0,0,0,0,0,0,0,0] xs
 f0:W<=far0
 fn:NodeAt w2 far0 [1,0,0,1,0,0,0,0] false 0 0 0 0 0 nilP nilP nilS' (ptrB cb) nilP
 c0:W<=cb
 con:w2.heap[cb]?=some (.cells (.int .i64 kd::nilS'::cs).toArray 224 (0,0))
 chold:Hold true w2 [T,B,T2,B2,0,0,0,0] cs
 d1:z≠nst
 d2:z≠far0
 d3:nst≠far0
 ln:kd=12->fur=ptrB z
 sq:kd≠12->fur=ptrB pb/\W<=pb/\(pb≠z/\pb≠nst/\pb≠far0)/\(kd=11->pb≠ra/\pb≠far)/\NodeAt w2 pb [1,0,0,0,0,0,0,1] false 0 0 0 0 0 (ptrB z) (ptrB z) nilS' nilP nilP
 top:kd≠11->NodeAt w2 m [0,0,1,0,1,0,0,1] false 0 0 0 0 0 (ptrB far0) (ptrB nst) nilS' nilP nilP
 ex:kd=11->W<=ra/\W<=far/\(ra≠z/\ra≠nst/\ra≠far0/\ra≠far)/\(far≠z/\far≠nst/\far≠far0)/\NodeAt w2 ra [1,-1,1,1,0,0,0,0] false 0 0 0 0 0 nilP (ptrB nst) nilS' nilP nilP/\NodeAt w2 far [1,-1,1,1,0,0,0,0] false 0 0 0 0 0 nilP (ptrB far0) nilS' nilP nilP/\NodeAt w2 m [1,0,0,0,0,0,0,1] false 0 0 0 0 0 (ptrB far) (ptrB ra) nilS' nilP nilP
section
variable {w1:World} {xk:Nat} {p q:Int} {xs:List Value}
theorem setB_12 (hx:∃ ys:List Value,w1.heap[xk]?=some (.cells (.bool false::ys).toArray 205 (0,0)))(hh:Hold true w1 [p,q] xs)(hb:∀ z∈[p,q],Bits 1 z)(hg:0<gcdZ p q)(hz:0<lowT p q)(hg2:0<gcdZ (lowT p q*lowT p q) (lowB p q*lowB p q)):Calls Tryz.prog 236 #[.int .i64 12,ptrB xk,.agg xs.toArray] w1 fun e w2=>Told w1 e w2 fun m=>∃ z nst ra far0 far nb pb cb fur xs cs,LfB w1.heap.size w2 12 (lowT p q) (lowB p q) (lowT (lowT p q*lowT p q) (lowB p q*lowB p q)) (lowB (lowT p q*lowT p q) (lowB p q*lowB p q)) xk m z nst ra far0 far nb pb cb fur xs cs:=by
 refine settled_run (kd:=12) hx hh hb (tT_12 p q) (fun r st=>r=.val (.one (.ptr 42 0))/\IsNd st 42 [0,0,1,0,1,0,0,1] (.lit nilP) (.ptr 16 0) (.ptr 20 0) (.lit nilP)/\IsNd st 20 (nsC 12 0) (.lit nilP) (.ptr 17 0) (.lit nilP) (.ptr 18 0)/\IsNs st 18 12 (.ptr 17 0) (.ptr 17 0) [0,0,0,0,0,0,0,0]/\IsNd st 17 [lowB p q,0,-lowT p q,lowT p q+lowB p q,0,0,0,0] (.lit nilP) (.lit nilP) (.ptr 2 0) (.lit nilP)/\IsNd st 16 [1,0,0,1,0,0,0,0] (.ptr 13 0) (.lit nilP) (.lit nilP) (.lit nilP)/\IsCn st 13 12 [lowT p q,lowB p q,lowT ((lowT p q)*lowT p q) ((lowB p q)*lowB p q),lowB ((lowT p q)*lowT p q) ((lowB p q)*lowB p q),0,0,0,0]/\clean st=true) ⟨holds1 hg,fun e=>absurd (of_decide_eq_true e) (by rw [Nm.cmp_gt hz];decide),fun _=>⟨holds1 hg2,⟨fun e=>(by cases e),fun _=>⟨holds1 (by decide),holds1 (by decide),rfl,b12_42 p q,b12_20 p q,b12_18 p q,b12_17 p q,b12_16 p q,b12_13 p q,b12_cl p q⟩⟩⟩⟩ ?_
 rintro r st φ v w2 ⟨rfl,f_m,f_nst,f_nb,f_z,f_far0,f_cb,fcl⟩ hrel hw
 obtain ⟨m,h_m⟩:=own_phi hw f_m.look rfl rfl
 obtain ⟨nst,h_nst⟩:=own_phi hw f_nst.look rfl rfl
 obtain ⟨nb,h_nb⟩:=own_phi hw f_nb.look rfl rfl
 obtain ⟨z,h_z⟩:=own_phi hw f_z.look rfl rfl
 obtain ⟨far0,h_far0⟩:=own_phi hw f_far0.look rfl rfl
 obtain ⟨cb,h_cb⟩:=own_phi hw f_cb.look rfl rfl
 have hx2:φ 2=some (xk,0):=hw.base 2 (xk,0) rfl
 have hv:v=ptrB m:=ptr_v (ν:=st.nums) (w:=w2) h_m v hrel
 obtain ⟨ys,k1,k2,k3,k4,k5⟩:=f_m.at hw h_m lit_val (ptr_v h_far0) (ptr_v h_nst) lit_val
 obtain ⟨_,i1,_,_,_,i5⟩:=f_nst.at hw h_nst lit_val (ptr_v h_z) lit_val (ptr_v h_nb)
 obtain ⟨xs2,j1,j2,j3⟩:=f_nb.at hw h_nb (ptr_v h_z) (ptr_v h_z)
 obtain ⟨_,z1,_,_,_,z5⟩:=f_z.at hw h_z lit_val lit_val (ptr_v hx2) lit_val
 obtain ⟨_,o1,_,_,_,o5⟩:=f_far0.at hw h_far0 (ptr_v h_cb) lit_val lit_val lit_val
 obtain ⟨cs,c1,c2,c3⟩:=f_cb.at hw h_cb
 exact ⟨m,ys,by rw [hv],Chg.of_below (RepF.below hw fcl),k1,k2,k3,k4,z,nst,0,far0,0,nb,0,cb,_,xs2,cs,z1,z5,i1,i5,j1,j2,j3,o1,o5,c1,c2,c3,own_ne hw f_z.look rfl f_nst.look h_z h_nst (by decide),own_ne hw f_z.look rfl f_far0.look h_z h_far0 (by decide),own_ne hw f_nst.look rfl f_far0.look h_nst h_far0 (by decide),fun _=>rfl,fun e=>absurd rfl e,fun _=>k5,fun e=>by cases e⟩
theorem setB_13 (hx:∃ ys:List Value,w1.heap[xk]?=some (.cells (.bool false::ys).toArray 205 (0,0)))(hh:Hold true w1 [p,q] xs)(hb:∀ z∈[p,q],Bits 1 z)(hg:0<gcdZ p q)(hz:0<lowT p q)(hg2:0<gcdZ (lowT p q*lowT p q) (lowB p q*lowB p q)):Calls Tryz.prog 236 #[.int .i64 13,ptrB xk,.agg xs.toArray] w1 fun e w2=>Told w1 e w2 fun m=>∃ z nst ra far0 far nb pb cb fur xs cs,LfB w1.heap.size w2 13 (lowT p q) (lowB p q) (lowT (lowT p q*lowT p q) (lowB p q*lowB p q)) (lowB (lowT p q*lowT p q) (lowB p q*lowB p q)) xk m z nst ra far0 far nb pb cb fur xs cs:=by
 refine settled_run (kd:=13) hx hh hb (tT_13 p q) (fun r st=>r=.val (.one (.ptr 65 0))/\IsNd st 65 [0,0,1,0,1,0,0,1] (.lit nilP) (.ptr 16 0) (.ptr 43 0) (.lit nilP)/\IsNd st 43 (nsC 13 0) (.lit nilP) (.ptr 17 0) (.lit nilP) (.ptr 18 0)/\IsNd st 40 [1,0,0,0,0,0,0,1] (.lit nilP) (.ptr 17 0) (.ptr 17 0) (.lit nilP)/\IsNs st 18 13 (.ptr 17 0) (.ptr 40 0) [0,0,0,0,0,0,0,0]/\IsNd st 17 [lowB p q,lowT p q,-lowT p q,lowB p q,0,0,0,0] (.lit nilP) (.lit nilP) (.ptr 2 0) (.lit nilP)/\IsNd st 16 [1,0,0,1,0,0,0,0] (.ptr 13 0) (.lit nilP) (.lit nilP) (.lit nilP)/\IsCn st 13 13 [lowT p q,lowB p q,lowT ((lowT p q)*lowT p q) ((lowB p q)*lowB p q),lowB ((lowT p q)*lowT p q) ((lowB p q)*lowB p q),0,0,0,0]/\clean st=true) ⟨holds1 hg,fun e=>absurd (of_decide_eq_true e) (by rw [Nm.cmp_gt hz];decide),fun _=>⟨holds1 hg2,⟨fun _=>⟨holds1 (by decide),holds1 (by decide),rfl,b13_65 p q,b13_43 p q,b13_40 p q,b13_18 p q,b13_17 p q,b13_16 p q,b13_13 p q,b13_cl p q⟩,fun e=>(by cases e)⟩⟩⟩ ?_
 rintro r st φ v w2 ⟨rfl,f_m,f_nst,f_pb,f_nb,f_z,f_far0,f_cb,fcl⟩ hrel hw
 obtain ⟨m,h_m⟩:=own_phi hw f_m.look rfl rfl
 obtain ⟨nst,h_nst⟩:=own_phi hw f_nst.look rfl rfl
 obtain ⟨pb,h_pb⟩:=own_phi hw f_pb.look rfl rfl
 obtain ⟨nb,h_nb⟩:=own_phi hw f_nb.look rfl rfl
 obtain ⟨z,h_z⟩:=own_phi hw f_z.look rfl rfl
 obtain ⟨far0,h_far0⟩:=own_phi hw f_far0.look rfl rfl
 obtain ⟨cb,h_cb⟩:=own_phi hw f_cb.look rfl rfl
 have hx2:φ 2=some (xk,0):=hw.base 2 (xk,0) rfl
 have hv:v=ptrB m:=ptr_v (ν:=st.nums) (w:=w2) h_m v hrel
 obtain ⟨ys,k1,k2,k3,k4,k5⟩:=f_m.at hw h_m lit_val (ptr_v h_far0) (ptr_v h_nst) lit_val
 obtain ⟨_,i1,_,_,_,i5⟩:=f_nst.at hw h_nst lit_val (ptr_v h_z) lit_val (ptr_v h_nb)
 obtain ⟨_,s1,_,_,_,s5⟩:=f_pb.at hw h_pb lit_val (ptr_v h_z) (ptr_v h_z) lit_val
 obtain ⟨xs2,j1,j2,j3⟩:=f_nb.at hw h_nb (ptr_v h_z) (ptr_v h_pb)
 obtain ⟨_,z1,_,_,_,z5⟩:=f_z.at hw h_z lit_val lit_val (ptr_v hx2) lit_val
 obtain ⟨_,o1,_,_,_,o5⟩:=f_far0.at hw h_far0 (ptr_v h_cb) lit_val lit_val lit_val
 obtain ⟨cs,c1,c2,c3⟩:=f_cb.at hw h_cb
 exact ⟨m,ys,by rw [hv],Chg.of_below (RepF.below hw fcl),k1,k2,k3,k4,z,nst,0,far0,0,nb,pb,cb,_,xs2,cs,z1,z5,i1,i5,j1,j2,j3,o1,o5,c1,c2,c3,own_ne hw f_z.look rfl f_nst.look h_z h_nst (by decide),own_ne hw f_z.look rfl f_far0.look h_z h_far0 (by decide),own_ne hw f_nst.look rfl f_far0.look h_nst h_far0 (by decide),fun e=>(by cases e),fun _=>⟨rfl,s1,⟨own_ne hw f_pb.look rfl f_z.look h_pb h_z (by decide),own_ne hw f_pb.look rfl f_nst.look h_pb h_nst (by decide),own_ne hw f_pb.look rfl f_far0.look h_pb h_far0 (by decide)⟩,fun e=>(by cases e),s5⟩,fun _=>k5,fun e=>by cases e⟩
theorem setB_11 (hx:∃ ys:List Value,w1.heap[xk]?=some (.cells (.bool false::ys).toArray 205 (0,0)))(hh:Hold true w1 [p,q] xs)(hb:∀ z∈[p,q],Bits 1 z)(hg:0<gcdZ p q)(hz:0<lowT p q)(hg2:0<gcdZ (lowT p q*lowT p q) (lowB p q*lowB p q)):Calls Tryz.prog 236 #[.int .i64 11,ptrB xk,.agg xs.toArray] w1 fun e w2=>Told w1 e w2 fun m=>∃ z nst ra far0 far nb pb cb fur xs cs,LfB w1.heap.size w2 11 (lowT p q) (lowB p q) (lowT (lowT p q*lowT p q) (lowB p q*lowB p q)) (lowB (lowT p q*lowT p q) (lowB p q*lowB p q)) xk m z nst ra far0 far nb pb cb fur xs cs:=by
 refine settled_run (kd:=11) hx hh hb (tT_11 p q) (fun r st=>r=.val (.one (.ptr 67 0))/\IsNd st 67 [1,0,0,0,0,0,0,1] (.lit nilP) (.ptr 17 0) (.ptr 45 0) (.lit nilP)/\IsNd st 45 [1,-1,1,1,0,0,0,0] (.lit nilP) (.lit nilP) (.ptr 44 0) (.lit nilP)/\IsNd st 44 (nsC 11 0) (.lit nilP) (.ptr 18 0) (.lit nilP) (.ptr 19 0)/\IsNd st 41 [1,0,0,0,0,0,0,1] (.lit nilP) (.ptr 18 0) (.ptr 18 0) (.lit nilP)/\IsNs st 19 11 (.ptr 18 0) (.ptr 41 0) [0,0,0,0,0,0,0,0]/\IsNd st 18 [lowB p q,0,-lowT p q,lowB p q,0,0,0,0] (.lit nilP) (.lit nilP) (.ptr 2 0) (.lit nilP)/\IsNd st 17 [1,-1,1,1,0,0,0,0] (.lit nilP) (.lit nilP) (.ptr 16 0) (.lit nilP)/\IsNd st 16 [1,0,0,1,0,0,0,0] (.ptr 13 0) (.lit nilP) (.lit nilP) (.lit nilP)/\IsCn st 13 11 [lowT p q,lowB p q,lowT ((lowT p q)*lowT p q) ((lowB p q)*lowB p q),lowB ((lowT p q)*lowT p q) ((lowB p q)*lowB p q),0,0,0,0]/\clean st=true) ⟨holds1 hg,fun e=>absurd (of_decide_eq_true e) (by rw [Nm.cmp_gt hz];decide),fun _=>⟨holds1 hg2,⟨fun _=>⟨holds1 (by decide),holds1 (by decide),rfl,b11_67 p q,b11_45 p q,b11_44 p q,b11_41 p q,b11_19 p q,b11_18 p q,b11_17 p q,b11_16 p q,b11_13 p q,b11_cl p q⟩,fun e=>(by cases e)⟩⟩⟩ ?_
 rintro r st φ v w2 ⟨rfl,f_m,f_ra,f_nst,f_pb,f_nb,f_z,f_far,f_far0,f_cb,fcl⟩ hrel hw
 obtain ⟨m,h_m⟩:=own_phi hw f_m.look rfl rfl
 obtain ⟨ra,h_ra⟩:=own_phi hw f_ra.look rfl rfl
 obtain ⟨nst,h_nst⟩:=own_phi hw f_nst.look rfl rfl
 obtain ⟨pb,h_pb⟩:=own_phi hw f_pb.look rfl rfl
 obtain ⟨nb,h_nb⟩:=own_phi hw f_nb.look rfl rfl
 obtain ⟨z,h_z⟩:=own_phi hw f_z.look rfl rfl
 obtain ⟨far,h_far⟩:=own_phi hw f_far.look rfl rfl
 obtain ⟨far0,h_far0⟩:=own_phi hw f_far0.look rfl rfl
 obtain ⟨cb,h_cb⟩:=own_phi hw f_cb.look rfl rfl
 have hx2:φ 2=some (xk,0):=hw.base 2 (xk,0) rfl
 have hv:v=ptrB m:=ptr_v (ν:=st.nums) (w:=w2) h_m v hrel
 obtain ⟨ys,k1,k2,k3,k4,k5⟩:=f_m.at hw h_m lit_val (ptr_v h_far) (ptr_v h_ra) lit_val
 obtain ⟨_,i1,_,_,_,i5⟩:=f_nst.at hw h_nst lit_val (ptr_v h_z) lit_val (ptr_v h_nb)
 obtain ⟨_,s1,_,_,_,s5⟩:=f_pb.at hw h_pb lit_val (ptr_v h_z) (ptr_v h_z) lit_val
 obtain ⟨xs2,j1,j2,j3⟩:=f_nb.at hw h_nb (ptr_v h_z) (ptr_v h_pb)
 obtain ⟨_,z1,_,_,_,z5⟩:=f_z.at hw h_z lit_val lit_val (ptr_v hx2) lit_val
 obtain ⟨_,o1,_,_,_,o5⟩:=f_far0.at hw h_far0 (ptr_v h_cb) lit_val lit_val lit_val
 obtain ⟨cs,c1,c2,c3⟩:=f_cb.at hw h_cb
 obtain ⟨_,r1,_,_,_,r5⟩:=f_ra.at hw h_ra lit_val lit_val (ptr_v h_nst) lit_val
 obtain ⟨_,u1,_,_,_,u5⟩:=f_far.at hw h_far lit_val lit_val (ptr_v h_far0) lit_val
 exact ⟨m,ys,by rw [hv],Chg.of_below (RepF.below hw fcl),k1,k2,k3,k4,z,nst,ra,far0,far,nb,pb,cb,_,xs2,cs,z1,z5,i1,i5,j1,j2,j3,o1,o5,c1,c2,c3,own_ne hw f_z.look rfl f_nst.look h_z h_nst (by decide),own_ne hw f_z.look rfl f_far0.look h_z h_far0 (by decide),own_ne hw f_nst.look rfl f_far0.look h_nst h_far0 (by decide),fun e=>(by cases e),fun _=>⟨rfl,s1,⟨own_ne hw f_pb.look rfl f_z.look h_pb h_z (by decide),own_ne hw f_pb.look rfl f_nst.look h_pb h_nst (by decide),own_ne hw f_pb.look rfl f_far0.look h_pb h_far0 (by decide)⟩,fun _=>⟨own_ne hw f_pb.look rfl f_ra.look h_pb h_ra (by decide),own_ne hw f_pb.look rfl f_far.look h_pb h_far (by decide)⟩,s5⟩,fun e=>absurd rfl e,fun _=>⟨r1,u1,⟨own_ne hw f_ra.look rfl f_z.look h_ra h_z (by decide),own_ne hw f_ra.look rfl f_nst.look h_ra h_nst (by decide),own_ne hw f_ra.look rfl f_far0.look h_ra h_far0 (by decide),own_ne hw f_ra.look rfl f_far.look h_ra h_far (by decide)⟩,⟨own_ne hw f_far.look rfl f_z.look h_far h_z (by decide),own_ne hw f_far.look rfl f_nst.look h_far h_nst (by decide),own_ne hw f_far.look rfl f_far0.look h_far h_far0 (by decide)⟩,r5,u5,k5⟩⟩
theorem setBB {op:Rf.Op}(hop:Rf.fn op)(hsq:op≠.sqrt)(hx:∃ ys:List Value,w1.heap[xk]?=some (.cells (.bool false::ys).toArray 205 (0,0)))(hh:Hold true w1 [p,q] xs)(hb:∀ z∈[p,q],Bits 1 z)(hg:0<gcdZ p q)(hz:0<lowT p q)(hg2:0<gcdZ (lowT p q*lowT p q) (lowB p q*lowB p q)):Calls Tryz.prog 236 #[.int .i64 (kindZ op),ptrB xk,.agg xs.toArray] w1 fun e w2=>Told w1 e w2 fun m=>∃ z nst ra far0 far nb pb cb fur xs cs,LfB w1.heap.size w2 (kindZ op) (lowT p q) (lowB p q) (lowT (lowT p q*lowT p q) (lowB p q*lowB p q)) (lowB (lowT p q*lowT p q) (lowB p q*lowB p q)) xk m z nst ra far0 far nb pb cb fur xs cs:=by
 rcases hop with rfl | rfl | rfl | rfl
 ·exact absurd rfl hsq
 ·exact setB_11 hx hh hb hg hz hg2
 ·exact setB_12 hx hh hb hg hz hg2
 ·exact setB_13 hx hh hb hg hz hg2
end
end Ab
open Go.RowKit
namespace Ab
open Rf (Nd Inv NInv)
theorem lt_pow_up {x n m:Nat}(hnm:n<=m)(h:x<2^n):x<2^m:=Nat.lt_of_lt_of_le h (Nat.pow_le_pow_right (by decide) hnm)
theorem sq_pow {z:Int}{n:Nat}(h:z.natAbs<2^n):(z*z).natAbs<2^(n+n):=by
 rw [Int.natAbs_mul,Nat.pow_add]
 exact Nat.mul_lt_mul'' h h
theorem abs_le_mul {f a:Int}(hf:0<f):a.natAbs<=(f*a).natAbs:=Pg.abs_sc hf a
theorem con_b1 {n:Nat}(hn:n+n<=10000000){T B T2 B2 g2:Int}(bT:T.natAbs<2^n)(bB:B.natAbs<2^n)(hg2:0<g2)(e1:T*T=g2*T2)(e2:B*B=g2*B2):∀ z∈[T,B,T2,B2,0,0,0,0],Bits 1 z:=by
 have b2:T2.natAbs<2^(n+n):=Nat.lt_of_le_of_lt (by rw [e1];exact abs_le_mul hg2) (sq_pow bT)
 have b3:B2.natAbs<2^(n+n):=Nat.lt_of_le_of_lt (by rw [e2];exact abs_le_mul hg2) (sq_pow bB)
 have up:∀ {z:Int},z.natAbs<2^(n+n)->Bits 1 z:=fun h=>bits_up (N:=n+n) (by omega) h
 intro z hz
 have hz':z=T\/z=B\/z=T2\/z=B2\/z=0:=by simp at hz;omega
 rcases hz' with rfl | rfl | rfl | rfl | rfl
 ·exact up (lt_pow_up (by omega) bT)
 ·exact up (lt_pow_up (by omega) bB)
 ·exact up b2
 ·exact up b3
 ·exact bits0 0 (by simp)
theorem con_new {w:World}{cb:Nat}{op:Rf.Op}(hop:Rf.fn op)(hsq:op≠.sqrt){T B T2 B2 G g2:Int}{cs:List Value}(hG:0<G)(hT:0<T)(hB:0<B)(hg2:0<g2)(e1:T*T=g2*T2)(e2:B*B=g2*B2)(bp:Rf.VBits 6100 (G*T,G*B))(hblk:w.heap[cb]?=some (.cells (.int .i64 (kindZ op)::nilS'::cs).toArray 224 (0,0)))(hold:Hold true w [T,B,T2,B2,0,0,0,0] cs):ConAt w (Rf.row op (G*T) (G*B)) cb:=by
 refine ⟨⟨_,hblk⟩,fun k hk=>?_⟩
 obtain ⟨_,hk3⟩:=kind_fn hop hsq
 obtain ⟨f,a,b,c,d,hf,hser,hcon⟩:=ser_eq (n:=Rf.row op (G*T) (G*B)) (kd:=kindZ op) (p:=T) (q:=B) (s:=T2) (r:=B2) (g:=G) (h:=G*G*g2) (k:=k) (by omega) hk3 hG (Int.mul_pos (Int.mul_pos hG hG) hg2) rfl rfl (by
  show G*T*(G*T)=G*G*g2*T2
  rw [Int.mul_assoc (G*G),<-e1]
  grind) (by
  show G*B*(G*B)=G*G*g2*B2
  rw [Int.mul_assoc (G*G),<-e2]
  grind)
 obtain ⟨m,hm1,hm2⟩:=Rf.const_ok (n:=Rf.row op (G*T) (G*B)) (Or.inr (Or.inr (Or.inr ⟨hop,Int.mul_pos hG hT,Int.mul_pos hG hB⟩))) (k:=k) hk bp.1 bp.2
 rw [hcon] at hm1
 have hm:m=Pg.msc f ⟨a,b,c,d⟩:=(Option.some.inj hm1).symm
 have hbits:∀ z∈[a,b,c,d],Bits 2 z:=by
  have k2:∀ {z:Int},(f*z).natAbs<2^18400->Bits 2 z:=fun h=>bits_up (N:=18400) (by decide) (Nat.lt_of_le_of_lt (abs_le_mul hf) h)
  rw [hm] at hm2
  intro z hz
  simp at hz
  rcases hz with rfl | rfl | rfl | rfl
  ·exact k2 hm2.a
  ·exact k2 hm2.b
  ·exact k2 hm2.c
  ·exact k2 hm2.d
 refine ⟨f,a,b,c,d,hf,hcon,hbits,fun W hW=>?_⟩
 have hblk':W.heap[cb]?=some (.cells (.int .i64 (kindZ op)::nilS'::cs).toArray 224 (0,0)):=by
  rcases hW.blk cb _ hblk with e | ⟨e,_⟩
  ·exact e
  ·have e':bt0.contains 224=true:=e
   exact absurd e' (by decide)
 have hb1:∀ z∈[T,B,T2,B2,0,0,0,0],Bits 1 z:=con_b1 (n:=6100) (by decide) (Nat.lt_of_le_of_lt (abs_le_mul hG) bp.1) (Nat.lt_of_le_of_lt (abs_le_mul hG) bp.2) hg2 e1 e2
 obtain ⟨_,f1,f2⟩:=cols_fn hop hsq (k:=k) (by omega)
 have hserN:Holds (serN (kindZ op) k):=by
  intro x hx
  unfold serN at hx
  simp only [List.mem_cons,List.not_mem_nil,or_false] at hx
  rcases hx with rfl | rfl | rfl | rfl | rfl | rfl
  ·exact fun _ _=>f1
  ·exact fun _ _=>f2
  ·exact fun _ _=>f1
  ·exact fun _ _=>f2
  ·exact fun _=>f1
  ·exact fun _=>f2
 refine con_run hblk' rfl (hold_on hW hold) rfl hb1 (n:=2) (needs:=serN (kindZ op) k) ?_ hserN
 rw [<-hser]
 rcases hk3 with ⟨h1,_⟩ | ⟨h1,_⟩ | ⟨h1,_⟩<;>rw [h1]
 ·exact con11 T B T2 B2 0 0 0 0 k
 ·exact con12 T B T2 B2 0 0 0 0 k
 ·exact con13 T B T2 B2 0 0 0 0 k
theorem cof_rest {op:Rf.Op}(hop:Rf.fn op)(hsq:op≠.sqrt){T B G:Int}{lo:Rf.V}(hG:0<G)(h1:lo.1=G*T)(h2:lo.2=G*B):∃ u v,Rf.restCols op lo=[u,v]/\Pg.Cof [u,v] (colsZ (restZ (kindZ op) T B)):=by
 refine ⟨_,_,rfl,?_⟩
 rcases hop with rfl | rfl | rfl | rfl
 ·exact absurd rfl hsq
 ·refine .mk2 (e:=G) hG ?_ ?_ ?_ ?_<;>simp [restZ,Pg.sc,kindZ,h1,h2,Int.mul_neg]
 ·refine .mk2 (e:=G) hG ?_ ?_ ?_ ?_<;>simp [restZ,Pg.sc,kindZ,h1,h2,Int.mul_neg,Int.mul_add]
 ·refine .mk2 (e:=G) hG ?_ ?_ ?_ ?_<;>simp [restZ,Pg.sc,kindZ,h1,h2,Int.mul_neg]
theorem cof_add:Pg.Cof Rf.Kind.add.cols (colsZ [0,0,1,0,1,0,0,1]):=.mk4 (e:=1) (by decide) (Pg.sc_one _).symm (Pg.sc_one _).symm (Pg.sc_one _).symm (Pg.sc_one _).symm
theorem cof_mul:Pg.Cof Rf.Kind.mul.cols (colsZ [1,0,0,0,0,0,0,1]):=.mk4 (e:=1) (by decide) (Pg.sc_one _).symm (Pg.sc_one _).symm (Pg.sc_one _).symm (Pg.sc_one _).symm
end Ab
open Go.RowKit
namespace Ab
open Rf (Nd Inv NInv)
theorem turn_B {w w1:World}{b0 fb:Nat}{own:Nat->Option Own}{at1:Nat->Nat}{s:Rf.St}{rho:Nat->Nat}{c i:Nat}{n:Nd}{ns':List Nd}{a:Nat}{x:Nd}{e1 e2:Rf.V}{p0 q0 p1 q1 p2 q2 p3 q3 mt pl:Int}{gv cv nv:Value}{dd:Int}{xs:List Value}(hsq:n.op≠.sqrt)(h:Net w b0 own at1 fb s)(hb0:b0<=w.heap.size)(hI:Inv s.nodes rho c)(hn:s.nodes[i]?=some n)(hpr:Probe w b0 own at1 s rho i n a x e1 e2 p0 q0 p1 q1 p2 q2 p3 q3 mt pl gv cv nv dd)(hz:0<e2.1)(hturn:Rf.turn (s.nodes.set i {n with read:=[0],probe:=false}) i {n with read:=[0],probe:=false} e2=some ns')(c1:Chg w w1 [])(hh:Hold true w1 [p1,q1] xs):
  Calls Tryz.prog 236 #[.int .i64 (kindZ n.op),ptrB (at1 a),.agg xs.toArray] w1 fun e w2=>∃ m,∃ ys:List Value,e=.returned (ptrB m)/\Chg w1 w2 []/\w1.heap.size<=m/\w2.heap[m]?=some (.cells ys.toArray 205 (0,0))/\ys.length=27/\(∀ y∈ys,One y)/\∀ w3,Chg w2 w3 [at1 i]->w3.heap[at1 i]?=some (.cells ys.toArray 205 (0,0))->Res w b0 own at1 fb s.nodes.length true ⟨ns',s.clock⟩ w3:=by
 have hi:=(List.getElem?_eq_some_iff.1 hn).1
 have hla:=(List.getElem?_eq_some_iff.1 hpr.xat).1
 obtain ⟨G,hG,E1,E2,hgz,t0,bb0,hzz,hzp⟩:=low_sc hpr.lo hpr.lo2 hpr.d0 hpr.c2
 have hT:0<lowT p1 q1:=by
  rcases Int.lt_or_le 0 (lowT p1 q1) with h1 | h1
  ·exact h1
  ·have:lowT p1 q1=0:=by omega
   have:=hzz.1 this
   omega
 have hop:=hpr.fn
 obtain ⟨g2,hg2,hgz2,m1,m2,_,_,_⟩:=low_eq (p:=lowT p1 q1*lowT p1 q1) (q:=lowB p1 q1*lowB p1 q1) (Int.mul_nonneg t0 t0) (Int.mul_pos bb0 bb0)
 obtain ⟨ys0,hys0⟩:=arg_pos (h.still hI c1) hI hpr.xat hpr.xpos
 refine (setBB hop hsq ⟨ys0,hys0⟩ hh hpr.bits hgz hT (by omega)).mono ?_
 rintro e w2 ⟨m,ys,rfl,c2,k1,k2,k3,k4,z,nst,ra,far0,far,nb,pb,cb,fur,xs2,cs,L⟩
 refine ⟨m,ys,rfl,c2,k1,k2,k3,k4,fun w3 c3 h3=>?_⟩
 have hsz:w.heap.size<=w1.heap.size:=c1.on.size
 have hati:at1 i<w.heap.size:=by obtain ⟨cs,hcs⟩:=arg_blk h hn;exact lt_of_heap hcs
 have hch:Chg w w3 [at1 i]:=((c1.weak (by simp)).trans (c2.weak (by simp))).trans c3
 have up:∀ {k:Nat} {zs:List Int} {lp rp cv nv:Value},w1.heap.size<=k->NodeAt w2 k zs false 0 0 0 0 0 lp rp nilS' cv nv->NodeAt w3 k zs false 0 0 0 0 0 lp rp nilS' cv nv:=fun hk hn=>hn.keep c3.on (c3.low _ hn.lt (by simp;omega))
 have hblk3:=c3.at L.blk (by have:=L.b0;simp;omega)
 have hold3:=hold_on c3.on L.hold
 have hcb3:=c3.at L.con (by have:=L.c0;simp;omega)
 have hch3:=hold_on c3.on L.chold
 have hcon:=con_new hop hsq hG hT bb0 hg2 m1 m2 (by rw [<-E1,<-E2];exact hpr.b1) hcb3 hch3
 rw [<-E1,<-E2] at hcon
 obtain ⟨ru,rv,hrest,hcofr⟩:=cof_rest hop hsq hG E1 E2
 have z0:=L.z0
 have n0:=L.n0
 have f0:=L.f0
 -- the machine
 unfold Rf.turn at hturn
 simp only [hpr.args,List.getElem?_cons_zero,Option.bind_some] at hturn
 rw [if_neg hsq,if_pos hz] at hturn
 obtain ⟨zb,hzb,hturn⟩:=Option.bind_eq_some_iff.1 hturn
 obtain ⟨nsz,hmz,hdz⟩:=Option.map_eq_some_iff.1 hzb
 have hnsz:=more_eq hmz
 subst hnsz
 subst hdz
 simp only at hturn
 obtain ⟨nbm,hnest,hturn⟩:=Option.bind_eq_some_iff.1 hturn
 unfold Rf.nest at hnest
 rw [if_neg (by omega)] at hnest
 obtain ⟨nsm,hmore,hd2⟩:=Option.map_eq_some_iff.1 hnest
 have hnsm:=more_eq hmore
 subst hnsm
 subst hd2
 simp only at hturn
 by_cases hex:n.op=.exp
 ·rw [if_pos hex] at hturn
  obtain ⟨rb,hrb,hturn⟩:=Option.bind_eq_some_iff.1 hturn
  obtain ⟨ns3,hm3,hd3⟩:=Option.map_eq_some_iff.1 hrb
  have hns3:=more_eq hm3
  subst hns3
  subst hd3
  rw [if_neg (by omega)] at hturn
  obtain ⟨ob,hob,hturn⟩:=Option.bind_eq_some_iff.1 hturn
  unfold Rf.outright at hob
  obtain ⟨ns4,hm4,hob⟩:=Option.bind_eq_some_iff.1 hob
  have hns4:=more_eq hm4
  subst hns4
  rw [if_pos hex] at hob
  obtain ⟨ns5,hm5,hd5⟩:=Option.map_eq_some_iff.1 hob
  have hns5:=more_eq hm5
  subst hns5
  subst hd5
  have hns:=(put_eq hturn).1
  simp only [List.length_set,List.length_append,List.length_singleton,if_pos hex,hrest] at hns
  rw [List.append_assoc,List.append_assoc,List.append_assoc,List.append_assoc,set_app hi] at hns
  have h11:kindZ n.op=11:=(kd_11 hop).2 hex
  obtain ⟨r1,r2,hR,hU,r7,r8,r9⟩:=L.ex h11
  have HR:=hid hR
  have HU:=hid hU
  clear hR hU
  have h12:kindZ n.op≠12:=fun e=>by rw [hex] at e;cases e
  obtain ⟨s1,s2,hS,s6,s7⟩:=L.sq h12
  have HS:=hid hS
  have H6:=hid (s6 h11)
  clear hS s6
  have hnodup:[z,nst,ra,far0,far].Nodup:=by
   obtain ⟨r3,r4,r5,r6⟩:=HR.out
   obtain ⟨u1,u2,u3⟩:=HU.out
   simp [L.d1,L.d2,L.d3,Ne.symm r3,Ne.symm r4,r5,r6,Ne.symm u1,Ne.symm u2,Ne.symm u3]
  have hblks:∀ b∈[z,nst,ra,far0,far],w.heap.size<=b:=by
   intro b hb
   simp at hb
   rcases hb with rfl | rfl | rfl | rfl | rfl<;>omega
  have hgo:Pg.Go s.nodes ns':=by
   rw [hns]
   exact (Pg.Go.more _ _).trans (go_same (n:=n) (by rw [List.getElem?_append_left hi];exact hn) rfl rfl rfl)
  obtain ⟨xa,g1,_,g3,_⟩:=hgo.at' a x hpr.xat
  have hx0:=g3 0 _ (h.nd a x hpr.xat).hc.fst
  have hN:∀ (j:Nat) (mm:Nd),([Rf.fresh true [ru,rv] [a]]++([Rf.nestNd n.op 0 s.nodes.length s.nodes.length none]++([Rf.raised (s.nodes.length+1)]++([Rf.row n.op e2.1 e2.2]++[Rf.raised (s.nodes.length+1+1+1)]))))[j]?=some mm->ns'[s.nodes.length+j]?=some mm:=by
   intro j mm hj
   rw [hns,List.getElem?_set_ne (by omega),List.getElem?_append_right (by omega),show s.nodes.length+j-s.nodes.length=j by omega]
   exact hj
  have A:∀ {j b:Nat},[z,nst,ra,far0,far][j]?=some b->atL s.nodes.length [z,nst,ra,far0,far] at1 (s.nodes.length+j)=b:=fun hj=>atL_ge hj
  have O:∀ {j b:Nat},[z,nst,ra,far0,far][j]?=some b->pb≠b->ownT (kindZ n.op) pb (s.nodes.length+1) s.nodes.length [z,nst,ra,far0,far] own b=some (.nd (s.nodes.length+j)):=fun hj hb=>ownT_at hnodup hj (fun _=>hb)
  have A0:atL s.nodes.length [z,nst,ra,far0,far] at1 s.nodes.length=z:=A (j:=0) rfl
  have A1:atL s.nodes.length [z,nst,ra,far0,far] at1 (s.nodes.length+1)=nst:=A (j:=1) rfl
  have A2:atL s.nodes.length [z,nst,ra,far0,far] at1 (s.nodes.length+2)=ra:=A (j:=2) rfl
  have A3:atL s.nodes.length [z,nst,ra,far0,far] at1 (s.nodes.length+3)=far0:=A (j:=3) rfl
  have A4:atL s.nodes.length [z,nst,ra,far0,far] at1 (s.nodes.length+4)=far:=A (j:=4) rfl
  have Ai:atL s.nodes.length [z,nst,ra,far0,far] at1 i=at1 i:=atL_lt hi
  have Aa:atL s.nodes.length [z,nst,ra,far0,far] at1 a=at1 a:=atL_lt hla
  refine turn_gen h hI hn (own':=ownT (kindZ n.op) pb (s.nodes.length+1) s.nodes.length [z,nst,ra,far0,far] own) (at2:=atL s.nodes.length [z,nst,ra,far0,far] at1) hns rfl rfl rfl hch (fun a ha=>atL_lt ha) (fun k hk=>ownT_lt hk hblks (fun _=>by omega)) ?_ ?_
  ·refine bin_nodeOk' (a:=s.nodes.length+4) (b:=s.nodes.length+2) (xa:=Rf.raised (s.nodes.length+1+1+1)) (xb:=Rf.raised (s.nodes.length+1)) ?_ rfl hpr.pos rfl rfl rfl rfl hpr.out hpr.told hpr.had hpr.nest (hN 4 _ rfl) rfl (hN 2 _ rfl) rfl cof_mul (by rw [Ai,ownT_lt (W:=w.heap.size) hati hblks (fun _=>by omega)];exact (h.nd i n hn).own) (by rw [Ai];exact (h.nd i n hn).lo)
   rw [Ai,A4,A2]
   exact r9.copy k2 h3 c3.on
  ·intro j mm hj
   match j,hj with
   | 0,hj=>
    simp at hj
    subst hj
    refine una_nodeOk (a:=a) ?_ rfl g1 hx0 hcofr ?_ ?_
    ·rw [Nat.add_zero s.nodes.length,A0,Aa];exact up z0 L.zn
    ·rw [Nat.add_zero s.nodes.length,A0];exact O (j:=0) rfl HS.out.1
    ·rw [Nat.add_zero s.nodes.length,A0];omega
   | 1,hj=>
    simp at hj
    subst hj
    refine nest_nodeOk (a:=s.nodes.length) (nb:=nb) ?_ rfl rfl rfl rfl rfl rfl rfl rfl rfl rfl (hN 0 _ rfl) rfl ⟨_,hblk3⟩ (nst_new hsq (by rw [A0];exact hblk3) hold3 (fun e=>by rw [hex] at e;cases e) (fun _=>⟨s1,ownT_pb h12,by omega,by rw [A0];exact up s2 s7⟩)) (cof_nest hop hsq _) ?_ ?_
    ·rw [A1,A0];exact up n0 L.nd
    ·rw [A1];exact O (j:=1) rfl HS.out.2.1
    ·rw [A1];omega
   | 2,hj=>
    simp at hj
    subst hj
    refine una_nodeOk (a:=s.nodes.length+1) ?_ rfl (hN 1 _ rfl) rfl cof_raised ?_ ?_
    ·rw [A2,A1];exact up r1 r7
    ·rw [A2];exact O (j:=2) rfl H6.out.1
    ·rw [A2];omega
   | 3,hj=>
    simp at hj
    subst hj
    refine con_nodeOk (cb:=cb) ?_ hcon ?_ ?_
    ·rw [A3];exact up f0 L.fn
    ·rw [A3];exact O (j:=3) rfl HS.out.2.2
    ·rw [A3];omega
   | 4,hj=>
    simp at hj
    subst hj
    refine una_nodeOk (a:=s.nodes.length+3) ?_ rfl (hN 3 _ rfl) rfl cof_raised ?_ ?_
    ·rw [A4,A3];exact up r2 r8
    ·rw [A4];exact O (j:=4) rfl H6.out.2
    ·rw [A4];omega
   | j+5,hj=>simp at hj
 ·rw [if_neg hex] at hturn
  simp only [Option.bind_some] at hturn
  rw [if_neg (by omega)] at hturn
  obtain ⟨ob,hob,hturn⟩:=Option.bind_eq_some_iff.1 hturn
  unfold Rf.outright at hob
  obtain ⟨ns4,hm4,hob⟩:=Option.bind_eq_some_iff.1 hob
  have hns4:=more_eq hm4
  subst hns4
  rw [if_neg hex] at hob
  cases hob
  have hns:=(put_eq hturn).1
  simp only [List.length_set,List.length_append,List.length_singleton,if_neg hex,hrest] at hns
  rw [List.append_assoc,List.append_assoc,set_app hi] at hns
  have h11:kindZ n.op≠11:=fun e=>hex ((kd_11 hop).1 e)
  have htop:=L.top h11
  have hpbW:kindZ n.op≠12->w.heap.size<=pb:=fun h=>by have:=(L.sq h).2.1;omega
  have hnodup:[z,nst,far0].Nodup:=by simp [L.d1,L.d2,L.d3]
  have hblks:∀ b∈[z,nst,far0],w.heap.size<=b:=by
   intro b hb
   simp at hb
   rcases hb with rfl | rfl | rfl<;>omega
  have hgo:Pg.Go s.nodes ns':=by
   rw [hns]
   exact (Pg.Go.more _ _).trans (go_same (n:=n) (by rw [List.getElem?_append_left hi];exact hn) rfl rfl rfl)
  obtain ⟨xa,g1,_,g3,_⟩:=hgo.at' a x hpr.xat
  have hx0:=g3 0 _ (h.nd a x hpr.xat).hc.fst
  have hN:∀ (j:Nat) (mm:Nd),([Rf.fresh true [ru,rv] [a]]++([Rf.nestNd n.op 0 s.nodes.length s.nodes.length none]++[Rf.row n.op e2.1 e2.2]))[j]?=some mm->ns'[s.nodes.length+j]?=some mm:=by
   intro j mm hj
   rw [hns,List.getElem?_set_ne (by omega),List.getElem?_append_right (by omega),show s.nodes.length+j-s.nodes.length=j by omega]
   exact hj
  have A0:atL s.nodes.length [z,nst,far0] at1 s.nodes.length=z:=atL_ge (j:=0) rfl
  have A1:atL s.nodes.length [z,nst,far0] at1 (s.nodes.length+1)=nst:=atL_ge (j:=1) rfl
  have A2:atL s.nodes.length [z,nst,far0] at1 (s.nodes.length+2)=far0:=atL_ge (j:=2) rfl
  have Ai:atL s.nodes.length [z,nst,far0] at1 i=at1 i:=atL_lt hi
  have Aa:atL s.nodes.length [z,nst,far0] at1 a=at1 a:=atL_lt hla
  refine turn_gen h hI hn (own':=ownT (kindZ n.op) pb (s.nodes.length+1) s.nodes.length [z,nst,far0] own) (at2:=atL s.nodes.length [z,nst,far0] at1) hns rfl rfl rfl hch (fun a ha=>atL_lt ha) (fun k hk=>ownT_lt hk hblks hpbW) ?_ ?_
  ·refine bin_nodeOk' (a:=s.nodes.length+2) (b:=s.nodes.length+1) (xa:=Rf.row n.op e2.1 e2.2) (xb:=Rf.nestNd n.op 0 s.nodes.length s.nodes.length none) ?_ rfl hpr.pos rfl rfl rfl rfl hpr.out hpr.told hpr.had hpr.nest (hN 2 _ rfl) rfl (hN 1 _ rfl) rfl cof_add (by rw [Ai,ownT_lt (W:=w.heap.size) hati hblks hpbW];exact (h.nd i n hn).own) (by rw [Ai];exact (h.nd i n hn).lo)
   rw [Ai,A2,A1]
   exact htop.copy k2 h3 c3.on
  ·intro j mm hj
   match j,hj with
   | 0,hj=>
    simp at hj
    subst hj
    refine una_nodeOk (a:=a) ?_ rfl g1 hx0 hcofr ?_ ?_
    ·rw [Nat.add_zero s.nodes.length,A0,Aa];exact up z0 L.zn
    ·rw [Nat.add_zero s.nodes.length,A0];exact ownT_at (j:=0) hnodup rfl (fun h=>(L.sq h).2.2.1.1)
    ·rw [Nat.add_zero s.nodes.length,A0];omega
   | 1,hj=>
    simp at hj
    subst hj
    refine nest_nodeOk (a:=s.nodes.length) (nb:=nb) ?_ rfl rfl rfl rfl rfl rfl rfl rfl rfl rfl (hN 0 _ rfl) rfl ⟨_,hblk3⟩ (nst_new (pb:=pb) hsq (by rw [A0];exact hblk3) hold3 (fun e=>by rw [A0];exact L.ln ((kd_12 hop).2 e)) (fun hl=>?_)) (cof_nest hop hsq _) ?_ ?_
    ·rw [A1,A0];exact up n0 L.nd
    ·have h12:kindZ n.op≠12:=fun e=>hl ((kd_12 hop).1 e)
     obtain ⟨s1,s2,_,_,s7⟩:=L.sq h12
     exact ⟨s1,ownT_pb h12,by omega,by rw [A0];exact up s2 s7⟩
    ·rw [A1];exact ownT_at (j:=1) hnodup rfl (fun h=>(L.sq h).2.2.1.2.1)
    ·rw [A1];omega
   | 2,hj=>
    simp at hj
    subst hj
    refine con_nodeOk (cb:=cb) ?_ hcon ?_ ?_
    ·rw [A2];exact up f0 L.fn
    ·rw [A2];exact ownT_at (j:=2) hnodup rfl (fun h=>(L.sq h).2.2.1.2.2)
    ·rw [A2];omega
   | j+3,hj=>simp at hj
theorem settle_ok:SettleOk:=by
 refine settle_of ?_
 intro w b0 fb own at1 s rho c i n ns' a x e1 e2 p0 q0 p1 q1 p2 q2 p3 q3 mt pl gv cv nv dd h hb0 hc3 hI hn hp hpr hsq hturn w1 xs c1 hh
 by_cases hs:n.op=.sqrt
 ·exact turn_sqrt w b0 fb own at1 s rho c i n ns' a x e1 e2 p0 q0 p1 q1 p2 q2 p3 q3 mt pl gv cv nv dd hs h hb0 hc3 hI hn hp hpr hsq hturn w1 xs c1 hh
 ·have h0:0<=e2.1:=by
   rw [hpr.c2]
   exact Int.mul_nonneg (by have:=hpr.d0;omega) hpr.lo
  rcases Int.lt_or_le 0 e2.1 with hz | hz
  ·exact turn_B hs h hb0 hI hn hpr hz hturn c1 hh
  ·exact turn_A hs h hb0 hI hn hpr (by omega) hturn c1 hh
theorem symbol_ok (f:Nat):SymOk f:=sym_ok settle_ok f
end Ab
end Go.Proofs.YteghhlfmcjmnoaaGreatDoor
