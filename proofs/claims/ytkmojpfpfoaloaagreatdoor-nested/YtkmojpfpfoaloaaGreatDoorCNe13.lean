import Derived.Test.YtkmojpfpfoaloaaGreatDoorCNe12
set_option linter.all false
set_option maxRecDepth 100000
set_option maxHeartbeats 2000000
namespace Go.Proofs.YtkmojpfpfoaloaaGreatDoor
open Go.Proofs.Tryz
open Go.RowKit
namespace Ab
variable {n:World}{φ:Nat->Option (Nat×Nat)}
theorem aPZ {T:fF}{w:World}{q:Nat->Option (Nat×Nat)}{s z:AS}(h:RepW T n q φ s w)(Y:z.next=s.next)(N:z.nums=s.nums)(X:z.dirty=s.dirty)(l:∀b a,look z.boxes b=some a->∃B,look s.boxes b=some B/\a={B with cs:=a.cs}/\a.cs.length=B.cs.length/\∀A,All2 (relC T φ s.nums w) B.cs A->All2 (relC T φ s.nums w) a.cs A):RepW T n q φ z w:=by
 refine⟨?_,?_,?_,?_,?_,h.lt,?_,h.on,h.base,?_⟩
 ·intro b a g;obtain⟨B,f,d,j,E⟩:=l b a g;obtain⟨k,o,O,A,y,k1,k2,k3,k4⟩:=h.box b B f;rw[N];exact⟨k,o,O,A,y,k1,by rw[d];exact k2,k3,E A k4⟩
 ·intro b a k o g v u;obtain⟨B,f,d,j,E⟩:=l b a g;rw[d]at v;exact h.own b B k o f v u
 ·intro b P B a k o o' g L u M;obtain⟨D,f,d,j,_⟩:=l b B g;obtain⟨S,I,p,J,_⟩:=l P a L
  rcases h.inj b P D S k o o' f I u M with e|⟨F,H,U,W⟩
  ·exact Or.inl e
  ·refine Or.inr ⟨by rw[d];exact F,by rw[p];exact H,by rw[d,p];exact U,?_⟩;intro x
   have i:D.tip=true:=by rw[d]at x;exact x
   rw[j,J];exact W i
 ·intro b a g x;obtain⟨B,f,d,j,E⟩:=l b a g
  have i:B.tip=true:=by rw[d]at x;exact x
  rw[d];exact h.tip b B f i
 ·intro b r;exact h.fresh b (by rw[Y]at r;exact r)
 ·rw[X];exact h.low
 ·intro b a k o g v R u;obtain⟨B,f,d,j,E⟩:=l b a g;rw[d]at v R;obtain⟨F,H⟩:=h.pV b B k o f v R u;refine⟨F,?_⟩;rw[j,d];exact H
def sB (p:Oper->Bool):List (K (List AT))->Bool
 |.code (.region _ ops true)::_=>ops.any p
 |_=>false
def pS (p:Oper->Bool):Code->List (K (List AT))->Option (Nat×Array Oper×List (K (List AT)))
 |.region id ops true,d=>bif ops.any p then some (id,ops,d)else none
 |.seq a b,d=>match pS p a (.code b::d)with|some r=>some r|none=>pS p b d
 |.block id b,d=>pS p b (.cD id::d)
 |.cond _ a b,d=>match pS p a d with|some r=>some r|none=>pS p b d
 |_,_=>none
def xK (p:Oper->Bool)(fn:Func):Nat×Array Oper×List (K (List AT)):=(pS p (aF fn) [.top fn]).getD (0,#[],[])
noncomputable def sR:Nat×Array Oper×List (K (List AT)):=xK (aG 175) f154
section
variable (p0 q0 p1 q1 p2 q2 p3 q3:Int) (hs:Bool) (uns mt lr rr pl c:Int) (lp rp cst nst gv:Value)
def yP (a:List AT):AS:=⟨a,[(0,Em (.sbool hs::bH true 0 8++[.lit cst,.sint .i64 mt,.lit lp,.sint .i64 lr,.lit rp,.sint .i64 rr,.lit gv,.int .i64 uns,.lit nst,.sint .i64 pl]) 98),(6,tY c)],7,[p0,q0,p1,q1,p2,q2,p3,q3].map fun z=>(z,10),[]⟩
abbrev Wp:List AT:=P0::List.replicate 45 .gC
theorem aYR:(run Z (aE tN) bW (aO Z (aE tN)) (sB (aG 175)) 400 [.code (aF f154),.top f154] (yP p0 q0 p1 q1 p2 q2 p3 q3 hs 0 mt lr rr pl c lp rp cst nst gv Wp)).bind (eD (fG [0,6] [] 7 []) (fG [0,6] [0] 7 []))
  = some (.ret (.tup []) (yP p0 q0 p1 q1 p2 q2 p3 q3 hs 0 mt lr rr pl c lp rp cst nst gv (slot [] 0 46))):=by kernel_rfl
theorem Rc (h:uns=10\/uns=11\/uns=12\/uns=13):(run Z (aE tN) bW (aO Z (aE tN)) (sB (aG 175)) 400 [.code (aF f154),.top f154] (yP p0 q0 p1 q1 p2 q2 p3 q3 hs uns mt lr rr pl c lp rp cst nst gv Wp)).bind (eD (fG [0,6] [] 7 []) (fG [0,6] [0] 7 []))
  = some (.br (!hZ uns p0 q0 p1 q1) (.ret (.tup []) (yP p0 q0 p1 q1 p2 q2 p3 q3 hs uns mt lr rr pl c lp rp cst nst gv (slot [] 0 46))) (.stp (.code (.region sR.1 sR.2.1 true)::sR.2.2) (yP p0 q0 p1 q1 p2 q2 p3 q3 hs uns mt lr rr pl c lp rp cst nst gv (slot [(0,P0)] 0 46)))):=by
 rcases h with rfl|rfl|rfl|rfl<;>kernel_rfl
noncomputable def seS:AS:=((aO Z (aE tN) (sR.2.1.extract 0 14) (yP p0 q0 p1 q1 p2 q2 p3 q3 hs uns mt lr rr pl c lp rp cst nst gv (slot [(0,P0)] 0 46))).getD (⟨[],[],0,[],[]⟩,[])).1
theorem aYS:aO Z (aE tN) (sR.2.1.extract 0 14) (yP p0 q0 p1 q1 p2 q2 p3 q3 hs uns mt lr rr pl c lp rp cst nst gv (slot [(0,P0)] 0 46))=some (seS p0 q0 p1 q1 p2 q2 p3 q3 hs uns mt lr rr pl c lp rp cst nst gv,[]):=by kernel_rfl
theorem aVr:sD sR.2.1 14=true/\14<sR.2.1.size/\(List.range sR.2.1.size).drop 14=[14,15]:=by
 have e:sR.2.1.size=16:=by kernel_rfl
 exact⟨by kernel_rfl,by rw[e];decide,by rw[e];rfl⟩
theorem aYT (v y1 y2 y3 y4 x y z A B a b d e f g h i j l n o p q r s u:Value):(run Z (aE tN) bW (aO Z (aE tN)) (fun _=>false) 400 (.ops sR.2.1 [15]::sR.2.2) (sW [p0,q0,p1,q1,p2,q2,p3,q3] hs uns mt lr rr pl c (.lit lp) (.lit rp) (.lit cst) (.lit nst) (.lit gv) [(1,ext ([v,y1,y2,y3,y4,x,y,z,A,B,a,b,d,e,f,g,h,i,j,l,n,o,p,q,r,s,u].map .lit) 98)] (slot [(0,P0),(40,.val (.one (.ptr 1 0)))] 0 46))).bind (eD (fG [0,6,1] [] 7 []) (fG [0,6,1] [] 7 []))
  = some (.ret (.tup []) ⟨slot [] 0 46,[(0,Em ([v,y1,y2,y3,y4,x,y,z,A,B,a,b,d,e,f,g,h,i,j,l,n,o,p,q,r,s,u].map .lit) 98),(6,tY c),(1,ext ([v,y1,y2,y3,y4,x,y,z,A,B,a,b,d,e,f,g,h,i,j,l,n,o,p,q,r,s,u].map .lit) 98)],7,[],[0]⟩):=by kernel_rfl
end
theorem aQK {R:AC->Value->Prop}:∀{cs a:List AC} {b:List Value},All2 (fun c d=>∀x,R c x->R d x) cs a->All2 R cs b->All2 R a b
 | [],[],[],_,_=>trivial
 | [],[],_::_,_,h=>h.elim
 | [],_::_,_,h,_=>h.elim
 |_::_,[],_,h,_=>h.elim
 |_::_,_::_,[],_,h=>h.elim
 |_::_,_::_,y::_,⟨g,i⟩,⟨e,f⟩=>⟨g y e,aQK i f⟩
variable {mt:Int}{lp rp gv:Value}
theorem aNe {w:World}{k fb:Nat}{p0 q0 p1 q1 p2 q2 p3 q3:Int}{hs:Bool}{uns lr rr pl c:Int}{cv nv:Value}(h:Pos2 w k fb [p0,q0,p1,q1,p2,q2,p3,q3] hs uns mt lr rr pl c lp rp gv cv nv)(a:List AT):RepW Z w (phW k fb fun _=>none) (phW k fb fun _=>none) (yP p0 q0 p1 q1 p2 q2 p3 q3 hs uns mt lr rr pl c lp rp cv nv gv a) w:=by
 refine aPZ (h.rep a) rfl rfl rfl ?_;intro b f d;have:=mU d;simp only[yP,List.mem_cons,List.not_mem_nil,or_false,Prod.mk.injEq]at this
 rcases this with⟨rfl,rfl⟩|⟨rfl,rfl⟩
 ·refine⟨_,rfl,rfl,rfl,fun e h=>aQK ?_ h⟩;exact⟨fun _ h=>h,fun _ h=>h,fun _ h=>h,fun _ h=>h,fun _ h=>h,fun _ h=>h,fun _ h=>h,fun _ h=>h,fun _ h=>h,fun _ h=>h,fun _ h=>h,fun _ h=>h,fun _ h=>h,fun _ h=>h,fun _ h=>h,fun _ h=>h,fun _ h=>h,fun _ h=>h,fun _ h=>h,fun _ h=>h,fun _ h=>h,fun _ h=>h,fun _ h=>h,fun _ h=>h,fun _ h=>h,fun _ h=>h,fun _ h=>h,trivial⟩
 ·exact⟨_,rfl,rfl,rfl,fun e h=>h⟩
section
variable {w:World} {k fb:Nat} {p0 q0 p1 q1 p2 q2 p3 q3:Int} {hs:Bool} {uns mt lr rr pl c:Int} {lp rp gv cv nv:Value}
theorem aF4 (h:Pos2 w k fb [p0,q0,p1,q1,p2,q2,p3,q3] hs uns mt lr rr pl c lp rp gv cv nv)(b:uns=0\/((uns=10\/uns=11\/uns=12\/uns=13)/\hZ uns p0 q0 p1 q1=false)):Calls prog 154 #[aA k] w fun e f=>∃v,e=.returned v/\Chg w f []:=by
 have F:=bI func154 rfl rfl;refine pC F (φ:=phW k fb fun _=>none) (vs:=[.one (.ptr 0 0)]) (args:=[aA k]) (s:=yP p0 q0 p1 q1 p2 q2 p3 q3 hs uns mt lr rr pl c lp rp cv nv gv Wp) (by kernel_rfl) ⟨⟨k,0,rfl,rfl⟩,trivial⟩ (aNe h _) ?_
 rcases b with rfl|⟨b,g⟩
 ·refine cE (dH jQ) rK (pF rfl rfl) (jK (pF rfl rfl)) (aYR p0 q0 p1 q1 p2 q2 p3 q3 hs mt lr rr pl c lp rp cv nv gv) (fun r s=>s.dirty=[]) (fun _ _=>False) rfl ?_ (fun _ _ h=>h.elim);rintro r s φ v f a _ _ d;exact⟨v,rfl,rE d a⟩
 ·refine cE (dH jQ) rK (pF rfl rfl) (jK (pF rfl rfl)) (Rc p0 q0 p1 q1 p2 q2 p3 q3 hs uns mt lr rr pl c lp rp cv nv gv b) (fun r s=>s.dirty=[]) (fun _ _=>False) ⟨fun _=>rfl,fun e=>by rw[g]at e;cases e⟩ ?_ (fun _ _ h=>h.elim);rintro r s φ v f a _ _ d;exact⟨v,rfl,rE d a⟩
theorem aZd {i:List Value}(h:i.length=27):∃y y1 y2 y3 y4 z A B C D a b d e f g j l n o p q r s u v x,i=[y,y1,y2,y3,y4,z,A,B,C,D,a,b,d,e,f,g,j,l,n,o,p,q,r,s,u,v,x]:=by
 match i,h with
 | [y,y1,y2,y3,y4,z,A,B,C,D,a,b,d,e,f,g,j,l,n,o,p,q,r,s,u,v,x],_=>exact⟨y,y1,y2,y3,y4,z,A,B,C,D,a,b,d,e,f,g,j,l,n,o,p,q,r,s,u,v,x,rfl⟩
theorem aID (h:Pos2 w k fb [p0,q0,p1,q1,p2,q2,p3,q3] hs uns mt lr rr pl c lp rp gv cv nv)(hu:uns=10\/uns=11\/uns=12\/uns=13)(he:hZ uns p0 q0 p1 q1=true){R:World->Prop}
  (aj:∀w1 xs,Chg w w1 []->bD true w1 [p1,q1] xs->Calls prog 175 #[.int .i64 uns,rp,.agg xs.toArray] w1 fun e p=>∃m,∃ys:List Value,e=.returned (aA m)/\m≠k/\p.heap[m]?=some (.cells ys.toArray 98 (0,0))/\ys.length=27/\(∀y∈ys,One y)/\Pos2 p k fb [p0,q0,p1,q1,p2,q2,p3,q3] hs uns mt lr rr pl c lp rp gv cv nv/\∀w3,Chg p w3 [k]->w3.heap[k]?=some (.cells ys.toArray 98 (0,0))->R w3):
  Calls prog 154 #[aA k] w fun e w'=>∃v,e=.returned v/\R w':=by
 have F:=bI func154 rfl rfl;refine pC F (φ:=phW k fb fun _=>none) (vs:=[.one (.ptr 0 0)]) (args:=[aA k]) (s:=yP p0 q0 p1 q1 p2 q2 p3 q3 hs uns mt lr rr pl c lp rp cv nv gv Wp) (by kernel_rfl) ⟨⟨k,0,rfl,rfl⟩,trivial⟩ (aNe h _) ?_;refine cE (dH jQ) rK (pF rfl rfl) (jK (pF rfl rfl)) (Rc p0 q0 p1 q1 p2 q2 p3 q3 hs uns mt lr rr pl c lp rp cv nv gv hu) (fun _ _=>False) (fun ks s=>ks=.code (.region sR.1 sR.2.1 true)::sR.2.2/\s=yP p0 q0 p1 q1 p2 q2 p3 q3 hs uns mt lr rr pl c lp rp cv nv gv (slot [(0,P0)] 0 46)) ⟨fun e=>(by rw[he]at e;cases e),fun _=>⟨rfl,rfl⟩⟩ (fun _ _ _ _ _ h=>h.elim) ?_;rintro ks s⟨rfl,rfl⟩
 have ag:noFr sR.2.2=true:=by kernel_rfl
 refine⟨by kernel_rfl,fun bk ax a1 w1 ak bc=>?_⟩;obtain⟨bb,bj,bd⟩:=aVr
 match bk,ak ax [] w1 with
 |.code cc::ap,⟨a6,al⟩=>
 subst a6;show(Code.region sR.1 sR.2.1 true).wp Z.P _ a1 w1;refine Ke mixed (dH jQ) bj bb (aYS p0 q0 p1 q1 p2 q2 p3 q3 hs uns mt lr rr pl c lp rp cv nv gv) iC bc ?_;intro bo a2 p i;rw[bd];have c2:Chg w p []:=rE i.wd (by kernel_rfl);show fZ Z.P _ (.ops sR.2.1 [14,15]::ap) .normal a2 p;refine qC (f:=175) (vs:=[.one (.int .i64 uns),.one (.lit rp),.agg (bH true 2 2)]) (dst:=some 40) (ks:=.ops sR.2.1 [14,15]::sR.2.2) (ks2:=.ops sR.2.1 [15]::sR.2.2) (by kernel_rfl) (bI func175 rfl rfl).en (by simpa[noFr]using ag) (φ1:=bo) (ν1:=[]) (w1:=p) ⟨rfl,rfl,SR.any ag al⟩ i ?_;intro us bg
 match us,bg with
 | [u1,u2,u3],⟨aa,ab,⟨xs,bf,bh⟩,_⟩=>
 have aa:u1=.int .i64 uns:=aa;have ab:u2=rp:=ab.1;rw[aa,ab,bf]
 have hH:bD true p [p1,q1] xs:=Ku [p1,q1] 2 xs bh (by
  intro j z n
  have hn:(seS p0 q0 p1 q1 p2 q2 p3 q3 hs uns mt lr rr pl c lp rp cv nv gv).nums=[p0,q0,p1,q1,p2,q2,p3,q3].map fun z=>(z,10):=by kernel_rfl
  rw[hn];refine⟨10,?_⟩
  match j,n with
  |0,n=>cases n;rfl
  |1,n=>cases n;rfl
  |j+2,n=>simp at n)
 refine(aj p xs c2 hH).mono ?_;rintro e w3⟨m,ys,rfl,a9,hm,ao,bi,a,hR⟩;refine⟨_,rfl,fun aq b6 am=>?_⟩
 have a8:m≠fb:=by
  rintro rfl;have hy:=a.fu;rw[hm]at hy;exact absurd (Obj.cells.inj (Option.some.inj hy)).2.1 (by decide)
 obtain⟨y0,y1,y2,y3,y4,y5,y6,y7,y8,y9,q,u,A,C,D,E,H,I,J,L,M,N,O,S,T,U,W,rfl⟩:=aZd ao
 have ah:∀b x,phW k fb (ph1 1 m) b=some x->[0,6,1].contains b=true:=Vb rfl rfl fun b x e=>by
  unfold ph1 at e;split at e
  ·subst_vars;rfl
  ·cases e
 have Y:=a.Ed (exφ:=ph1 1 m) (ex:=[(1,ext ([y0,y1,y2,y3,y4,y5,y6,y7,y8,y9,q,u,A,C,D,E,H,I,J,L,M,N,O,S,T,U,W].map .lit) 98)]) (rpC:=.lit rp) (cvC:=.lit cv) (nvC:=.lit nv) ⟨rfl,a.o2⟩ ⟨rfl,a.o4⟩ ⟨rfl,a.o5⟩ (by
  intro b B hB;have:=mU hB;simp only[List.mem_cons,List.not_mem_nil,or_false,Prod.mk.injEq]at this;obtain⟨rfl,rfl⟩:=this
  exact⟨rfl,rfl,rfl,m,0,rfl,a9,a8,[],_,[],(show w3.heap[m]?=some (.cells ([]++[y0,y1,y2,y3,y4,y5,y6,y7,y8,y9,q,u,A,C,D,E,H,I,J,L,M,N,O,S,T,U,W]++[]).toArray 98 (0,0)) by simpa using hm),rfl,aJr _ bi⟩) (by
  intro b k' o d;unfold ph1 at d;split at d
  ·cases d;exact gU hm
  ·cases d) (slot [(0,P0),(40,.val (.one (.ptr 1 0)))] 0 46)
 have be:=oZ (kb:=[0,6]) (kt:=[0]) (dst:=some 40) (r:=.val (.one (.ptr 1 0))) (v:=aA m) i Y (by kernel_rfl) (by
  intro b hb
  have d:b=0\/b=6:=by simpa using hb
  rcases d with rfl|rfl
  ·rw[i.wd.base 0 (k,0) rfl];rfl
  ·rw[i.wd.base 6 (fb,0) rfl];rfl) ⟨m,0,rfl,rfl⟩
 refine cE (dH jQ) rK ah (jK ah) (aYT p0 q0 p1 q1 p2 q2 p3 q3 hs uns mt lr rr pl c lp rp cv nv gv y0 y1 y2 y3 y4 y5 y6 y7 y8 y9 q u A C D E H I J L M N O S T U W) (fun r s=>s.dirty=[0]/\look s.boxes 0=some (Em ([y0,y1,y2,y3,y4,y5,y6,y7,y8,y9,q,u,A,C,D,E,H,I,J,L,M,N,O,S,T,U,W].map .lit) 98)) (fun _ _=>False) ⟨rfl,rfl⟩ ?_ (fun _ _ h=>h.elim) aq _ _ _ (am _ _ _) be;rintro r s ci v w5⟨hd,l0⟩ _ _ g;refine⟨v,rfl,hR w5 ⟨g.on,fun j hj hn=>g.low j hj fun b hb o e=>?_⟩ ?_⟩
 ·rw[hd]at hb;simp only[List.mem_singleton]at hb;subst hb;rw[g.base 0 (k,0) rfl]at e;cases e;exact hn (by simp)
 ·obtain⟨k',o,bn,zs,ar,g1,g2,g3,g4⟩:=g.box 0 _ l0;rw[g.base 0 (k,0) rfl]at g1;cases g1;have ai:bn=[]:=List.length_eq_zero_iff.1 g3;subst ai;have n:=aJq _ zs g4;subst n;have l:=g.on.shape (a.nd.shape a.h8);unfold World.shape? at l;rw[g2]at l;simp only[Option.some.injEq,Prod.mk.injEq,List.size_toArray,List.nil_append,List.length_append]at l;have X:ar=[]:=List.length_eq_zero_iff.1 (by have:=l.2;simp at this;omega);subst X;rw[g2];rfl
end
theorem aPg {a x:Int}(b:0<x):(a/x).natAbs<=a.natAbs:=by
 rcases Int.lt_or_le a 0 with h|h
 ·have d:a<=a/x:=by
   have:=Int.mul_le_mul_of_nonneg_left (show(1:Int)<=x by omega) (show(0:Int)<=-a by omega);rw[Int.le_ediv_iff_mul_le b]
   have e:a*x=-(-a*x):=by rw[Int.neg_mul];omega
   rw[e];omega
  have f:a/x<0:=Int.ediv_neg_of_neg_of_pos h b;omega
 ·have d:a/x<=a:=Int.ediv_le_self _ h;have f:0<=a/x:=Int.ediv_nonneg h (by omega);omega
theorem aJs {t b:Int}(d:0<aV t b):(aH t b).natAbs<=t.natAbs/\(aK t b).natAbs<=b.natAbs:=by
 have k:∀x:Int,(x/aV t b).natAbs<=x.natAbs:=fun x=>aPg d
 have a:∀x:Int,(-x/aV t b).natAbs<=x.natAbs:=fun x=>by have:=k (-x);simpa using this
 unfold aH aK;constructor
 ·cases decide (Nm.cmp b 0<0)<;>simp only[cond_true,cond_false]
  ·cases (Nm.cmp b 0==0)<;>simp only[cond_true,cond_false]
   ·exact k t
   ·cases decide (Nm.cmp t 0<0)<;>simp only[cond_true,cond_false]
    ·exact k t
    ·exact a t
  ·exact a t
 ·cases decide (Nm.cmp b 0<0)<;>simp only[cond_true,cond_false]
  ·cases (Nm.cmp b 0==0)<;>simp only[cond_true,cond_false]
   ·exact k b
   ·cases decide (Nm.cmp t 0<0)<;>simp only[cond_true,cond_false]
    ·exact k b
    ·exact a b
  ·exact a b
def Ap:List Nat->Nat
 | [n,m]=>bif Nat.ble n m then m else n
 |_=>40
theorem aSi:bQ Z 113 (gZ true xM sP Ap [40,40]):=by
 refine aK3 aQX ?_ ?_
 ·intro l out h p _;exact⟨h,p⟩
 ·intro l ns out h i o a;clear a;unfold xM at h;split at h
  ·rename_i t b;cases h;have g:0<aV t b:=i _ (by simp[sP]);obtain⟨q,r⟩:=aJs g
   match ns,o with
   | [n,m],⟨d,e,_⟩=>
   have j:n<=Ap [n,m]/\m<=Ap [n,m]:=by
    simp only[Ap]
    cases f:Nat.ble n m with
    |true=>simp only[cond_true];exact⟨Nat.le_of_ble_eq_true f,Nat.le_refl _⟩
    |false=>
     simp only[cond_false];refine⟨Nat.le_refl _,?_⟩
     have:¬n<=m:=fun h=>by rw[Nat.ble_eq_true_of_le h]at f;cases f
     omega
   intro z k;simp only[List.mem_cons,List.not_mem_nil,or_false]at k
   have up:∀{x y:Int} {u:Nat},x.natAbs<=y.natAbs->Bits u y->Bits u x:=fun d e=>Nat.lt_of_le_of_lt d e
   rcases k with rfl|rfl
   ·exact eG (up q (d t (by simp))) j.1
   ·exact eG (up r (e b (by simp))) j.2
  ·cases h
noncomputable def tS:List (FuncId×TE):=(113,gZ true xM sP Ap [40,40])::tN
theorem nE:cX Z tS:=⟨aSi,jQ⟩
open Rf (Nd Inv aZ)
def numOf (ν:List (Int×Nat)):List AC->Option (List Int)
 | []=>some []
 |.sg i::.dg true j::r=>bif i==j then(ν[i]?).bind fun x=>(numOf ν r).map fun l=>x.1::l else none
 |.bool false::.lit (.slice none 0 0)::r=>(numOf ν r).map fun l=>0::l
 |_=>none
theorem aOT (w:World):bD true w [0] [.bool false,.slice none 0 0]:=by
 have h:dL true [.c (.bool false),.c (.lit (.slice none 0 0))]=some ([0],0):=rfl;exact(Fg (k:=true) (w:=w) _ _ _ [.bool false,.slice none 0 0] h ⟨rfl,rfl,rfl,⟨rfl,rfl⟩,trivial⟩).1
variable {ν:List (Int×Nat)}
theorem Ms:∀(cs:List AC) (e:List Int) (a:List Value),numOf ν cs=some e->All2 (relC Z φ ν n) cs a->bD true n e a:=by
 intro cs
 induction cs using numOf.induct with
 |case1=>
  intro e a h d;simp only[numOf,Option.some.injEq]at h;subst h
  match a,d with
  | [],_=>trivial
 |case2 i j r b q=>
  intro e a h d;simp only[numOf,b,cond_true]at h;obtain⟨x,o,p⟩:=aU h;obtain⟨l,k,rfl⟩:=cA p
  have b:i=j:=by simpa using b
  subst b
  match a,d with
  |y1::y2::a,⟨⟨y,u,f,g⟩,⟨z,v,f1,f2,f3⟩,d⟩=>
  rw[o]at f f1;cases f;cases f1;exact⟨g,f2,q l a k d⟩
 |case3 i j r b=>
  intro e a h d;simp only[numOf,b,cond_false]at h;cases h
 |case4 r q=>
  intro e a h d;simp only[numOf]at h;obtain⟨l,k,rfl⟩:=cA h
  match a,d with
  |y1::y2::a,⟨f,g,d⟩=>
  have f:y1=.bool false:=f;have g:y2=.slice none 0 0:=g.1;subst f g;obtain⟨k1,s,_⟩:=aOT n;exact⟨k1,s,q l a k d⟩
 |case5 r o p k=>
  intro e a h d;unfold numOf at h;split at h
  ·exact(o rfl).elim
  ·exact(p _ _ _ rfl).elim
  ·exact(k _ rfl).elim
  ·cases h
variable {i:List Value}{s:List Int}{l o:Int}
theorem aKz {k:Nat}{c0 c1 c2 c3 c4 g p q r u b:AC}{f:List AC}{a:Bool}{v j:Int}{J F:Value}(h:All2 (relC Z φ ν n) (c0::f++[c1,c2,c3,c4,g,p,q,r,u,b]) i)(D:n.heap[k]?=some (.cells i.toArray 98 (0,0)))(C:f.length=16)(hz:numOf ν f=some s)
  (O:∀x,relC Z φ ν n c0 x->x=.bool a) (P:∀x,relC Z φ ν n c1 x->x=J) (z:∀x,relC Z φ ν n c2 x->x=.int .i64 mt) (R:∀x,relC Z φ ν n c3 x->x=lp) (S:∀x,relC Z φ ν n c4 x->x=.int .i64 l) (T:∀x,relC Z φ ν n g x->x=rp) (U:∀x,relC Z φ ν n p x->x=.int .i64 j) (W:∀x,relC Z φ ν n q x->x=gv) (X:∀x,relC Z φ ν n r x->x=.int .i64 v) (Y:∀x,relC Z φ ν n u x->x=F) (B:∀x,relC Z φ ν n b x->x=.int .i64 o):NodeAt n k s a v mt l j o lp rp gv J F:=by
 have E:=h.len
 match i,h,D,E with
 |y::i,⟨hy,A⟩,D,E=>
  have H:i.length=26:=by simp[C]at E;omega
  have e:i=i.take 16++i.drop 16:=(List.take_append_drop 16 i).symm;have A:All2 (relC Z φ ν n) (f++[c1,c2,c3,c4,g,p,q,r,u,b]) i:=A
  have ga:All2 (relC Z φ ν n) f (i.take 16):=by
   have:=A.take 16;rw[List.take_append_of_le_length (by omega),List.take_of_length_le (by omega)]at this;exact this
  have d:All2 (relC Z φ ν n) [c1,c2,c3,c4,g,p,q,r,u,b] (i.drop 16):=by
   have:=A.drop 16;rw[List.drop_append_of_le_length (by omega),List.drop_of_length_le (by omega)]at this;exact this
  have hold:bD true n s (i.take 16):=Ms f s _ hz ga
  match hd:i.drop 16,d with
  | [a0,a1,a2,a3,a4,a5,a6,a7,a8,a9],d=>
   obtain⟨b0,b1,b2,I,b4,b5,b6,L,M,N,_⟩:=d;refine⟨i.take 16,?_,hold⟩
   have z:i=i.take 16++[J,.int .i64 mt,lp,.int .i64 l,rp,.int .i64 j,gv,.int .i64 v,F,.int .i64 o]:=by
    rw[<-P _ b0,<-z _ b1,<-R _ b2,<-S _ I,<-T _ b4,<-U _ b5,<-W _ b6,<-X _ L,<-Y _ M,<-B _ N,<-hd];exact e
   rw[D,O _ hy];generalize i.take 16=t at z;subst z;rfl
theorem Ue {g:World}{w:Nat}{v k:Int}{z:Value}(p:g.heap[w]?=some (.cells (.int .i64 v::z::i).toArray 132 (0,0)))(R:One z)(O:bD true g s i)(h8:s.length=8)(y:∀h∈s,Bits 1 h){needs:List Prop}{a b c d:Int}{n:Nat}(hc:jS v s k=some (needs,.one (.ns [a,b,c,d]),n))(M:Holds needs):
  Calls prog 146 #[aA w,.int .i64 k] g fun e r=>∃u:List Value,e=.returned (.agg u.toArray)/\bD true r [a,b,c,d] u/\Below g.heap.size g r:=by
 unfold jS at hc;obtain⟨o,E,F⟩:=aU hc;obtain⟨W,H,I⟩:=aU E
 have q:RepW Z g (ph1 0 w) (ph1 0 w) (Jm v s k) g:=by
  refine rI rfl ?_ ?_ ?_
  ·intro b B L;have:=mU L;simp[Jm]at this;obtain⟨rfl,rfl⟩:=this;refine⟨rfl,rfl,rfl,w,0,rfl,[],.int .i64 v::z::i,[],(show g.heap[w]?=some (.cells ([]++(Value.int .i64 v::z::i)++[]).toArray 132 (0,0)) by simpa using p),rfl,rfl,R,?_⟩
   have:=tU s i 0 (φ:=ph1 0 w) (s.map fun h=>(h,1)) O y fun j h P=>by rw[Nat.zero_add,List.getElem?_map,P];rfl
   rw[h8]at this;exact this
  ·intro b y;have:1<=b:=y;unfold ph1;rw[if_neg (by omega)]
  ·intro b S o l;unfold ph1 at l;split at l
   ·cases l;exact gU p
   ·cases l
 refine rY (vs:=[.one (.ptr 0 0),.one (.sint .i64 k)]) (args:=[aA w,.int .i64 k]) (bI func146 rfl rfl) (dH jQ) aRI (by kernel_rfl) ⟨⟨w,0,rfl,rfl⟩,rfl,trivial⟩ q H _ (yD I (Db F M (Nat.le_refl _))) ?_;rintro U st φ f r⟨A,T,J,x⟩ hrel N;obtain⟨u,C,D⟩:=x r f (Ce J hrel);refine⟨u,by rw[C],?_,RepF.below N A⟩;exact(Fg (k:=true) (w:=r) _ [a,b,c,d] _ u (show dL true ([a,b,c,d].map fun h=>.num true h n)=some ([a,b,c,d],_)from rfl) D).1
def oE (len:Nat)(a:List Nat)(own:Nat->Option Own):Nat->Option Own:=fun k=>match a.idxOf? k with|some j=>some (.nd (len+j))|none=>own k
def kA (len:Nat)(blks:List Nat)(at1:Nat->Nat):Nat->Nat:=fun j=>if j<len then at1 j else blks.getD (j-len) 0
theorem aQU:∀{a:List Nat} {j b:Nat},a.Nodup->a[j]?=some b->a.idxOf? b=some j
 | [],j,b,_,h=>by simp at h
 |x::l,0,b,_,h=>by
  simp at h;subst h;simp[List.idxOf?_cons]
 |x::l,j+1,b,o,h=>by
  obtain⟨g,k⟩:=List.nodup_cons.1 o
  have f:l[j]?=some b:=by simpa using h
  have d:x≠b:=fun e=>g (e▸List.mem_of_getElem? f)
  have:=aQU k f;rw[List.idxOf?_cons,this];simp[d]
variable {d:List Nat}
theorem Od {len j b:Nat}{own:Nat->Option Own}(a:d.Nodup)(h:d[j]?=some b):oE len d own b=some (.nd (len+j)):=by
 unfold oE;rw[aQU a h]
variable {k:Nat}
theorem aNY {len:Nat}{own:Nat->Option Own}(h:k∉d):oE len d own k=own k:=by
 unfold oE;rw[List.idxOf?_eq_none_iff.2 h]
theorem uZ {len a:Nat}{at1:Nat->Nat}(h:a<len):kA len d at1 a=at1 a:=by unfold kA;rw[if_pos h]
theorem Cg {len j b:Nat}{blks:List Nat}{at1:Nat->Nat}(h:blks[j]?=some b):kA len blks at1 (len+j)=b:=by
 unfold kA;rw[if_neg (by omega),show len+j-len=j by omega,List.getD_eq_getElem?_getD,h];rfl
section
variable {w w3:World} {b0 fb:Nat} {own own':Nat->Option Own} {at1 at2:Nat->Nat} {i:Nat} {n n':Nd} {s:Rf.St} {rho:Nat->Nat} {c:Nat}
theorem Mm {g:List Nd}{N a:Nat}{y:Nd}{s:List Int}{u v:Rf.V}(b:NodeAt w (at2 N) s false 0 0 0 0 0 aB (aA (at2 a)) aJ aB aB)(h8:s.length=8)(k:g[a]?=some y)(j:y.dP[0]?=some Rf.one)(d:Pg.eL [u,v] (cH s))(h:own' (at2 N)=some (.nd N))(f:b0<=at2 N):cL w b0 own' at2 g N (Rf.fresh true [u,v] [a]):=by
 obtain⟨l,r,o,x,p,z,q,A,rfl⟩:=eight h8;exact⟨⟨l,r,o,x,p,z,q,A,0,0,aJ,aB,aB,⟨b,Or.inl ⟨rfl,rfl⟩,fun e=>(by cases e),fun _=>rfl,fun _=>rfl,fun e=>(by cases e)⟩,[u,v],Pg.Xa rfl rfl rfl k j rfl,d⟩,Pg.HC.fresh _ _ _,h,f,fun e=>by cases e⟩
theorem Sj {g:List Nd}{N cb:Nat}{op:Rf.Op}{p q:Int}(a:NodeAt w (at2 N) [1,0,0,1,0,0,0,0] false 0 0 0 0 0 aB aB aJ (aA cb) aB)(b:fT w (Rf.row op p q) cb)(f:own' (at2 N)=some (.nd N))(d:b0<=at2 N):cL w b0 own' at2 g N (Rf.row op p q):=by
 refine⟨⟨1,0,0,1,0,0,0,0,0,0,aJ,aA cb,aB,⟨a,Or.inl ⟨rfl,rfl⟩,fun _=>⟨rfl,cb,rfl,b⟩,fun e=>absurd rfl e,fun _=>rfl,fun e=>(by cases e)⟩,[(1,0),(0,1)],Pg.aFA rfl rfl rfl,?_⟩,(Pg.HC.fresh true [] []).of rfl rfl rfl,f,d,fun e=>by cases e⟩;exact .Dt (e:=1) (by decide) (Pg.gJ _).symm (Pg.gJ _).symm (Pg.gJ _).symm (Pg.gJ _).symm
theorem Nn (h:Net w b0 own at1 fb s)(P:Inv s.nodes rho c)(x:s.nodes[i]?=some n){new f:List Nd}(g:f=(s.nodes++new).set i n')(M:n'.pos=n.pos)(N:n'.dP=n.dP)(O:n'.out=n.out)(p:Chg w w3 [at1 i])(v:∀a,a<s.nodes.length->at2 a=at1 a)(l:∀k,k<w.heap.size->own' k=own k)(F:cL w3 b0 own' at2 f i n')(y:∀j B,new[j]?=some B->cL w3 b0 own' at2 f (s.nodes.length+j) B):
  kK w b0 own at1 fb s.nodes.length true ⟨f,s.clock⟩ w3:=by
 have hi:=(List.getElem?_eq_some_iff.1 x).1
 have H:(s.nodes++new)[i]?=some n:=by rw[List.getElem?_append_left hi];exact x
 have E:Pg.Go s.nodes f:=by
  rw[g];exact(Pg.Go.more _ _).trans (yE H M N O)
 have A:=(h.nd i n x).own
 have u:yX w own i [at1 i]:=by
  intro k d cs ty B D;simp at d;subst d;obtain⟨C,b⟩:=Kq h x;rw[D]at b;exact Or.inl ⟨(Obj.cells.inj (Option.some.inj b)).2.1,A⟩
 refine⟨own',Kept.Ow p (fun k d R z=>?_) (fun k d J=>by rw[l k d];exact J),fun _=>⟨at2,h.step (i:=i) P (fun j r I=>?_) E p u (fun k o d J _=>by rw[l k d];exact J) v (p.at h.fuel ?_) fun j B r L=>?_,v⟩⟩
 ·simp at d;subst d;rw[A]at z;cases z
 ·rw[g,List.getElem?_set_ne (fun e=>I e.symm),List.getElem?_append_left r]
 ·intro d
  rcases u fb d _ _ _ h.fuel with⟨e,_⟩|⟨e,_⟩|e
  ·exact absurd e (by decide)
  ·exact absurd e (by decide)
  ·simp at d;obtain⟨C,b⟩:=Kq h x;rw[<-d,h.fuel]at b;exact absurd (Obj.cells.inj (Option.some.inj b)).2.1 (by decide)
 ·by_cases q:j=i
  ·subst q;rw[g,List.getElem?_set_self (by simp;omega)]at r;cases r;exact F
  ·rcases L with e|e
   ·exact absurd e q
   ·rw[g,List.getElem?_set_ne (fun e=>q e.symm),List.getElem?_append_right e]at r;have:=y _ _ r;rw[show s.nodes.length+(j-s.nodes.length)=j by omega]at this;exact this
theorem NodeAt.copy {n w3:World}{m:Nat}{i:List Value}{s:List Int}{a:Bool}{v j:Int}{J e:Value}(h:NodeAt n m s a v mt l j o lp rp gv J e)(p:n.heap[m]?=some (.cells i.toArray 98 (0,0)))(g:w3.heap[k]?=some (.cells i.toArray 98 (0,0)))(b:On Z.bt n w3):NodeAt w3 k s a v mt l j o lp rp gv J e:=by
 obtain⟨q,d,f⟩:=h.ex;rw[p]at d;refine⟨q,?_,nM b f⟩;rw[g];exact d
end
noncomputable def bT:FuncId->Option Func:=fun f=>bif f==185 then some f185 else bif f==153 then some f153 else bif f==173 then some f173 else bif f==186 then some f186 else bif f==80 then some f80 else bif f==97 then some f97 else bif f==96 then some f96 else bif f==62 then some f62 else bif f==65 then some f65 else bif f==79 then some f79 else none
theorem uY {f g:FuncId}{b fn:Func}{x:Option Func}(h:(bif f==g then some b else x)=some fn)(d:Fn g b)(e:x=some fn->prog.funcs[f]?=some fn/\Enters Z.P f):prog.funcs[f]?=some fn/\Enters Z.P f:=by
 cases a:f==g with
 |true=>
  rw[a]at h;cases h
  have:f=g:=by simpa using a
  subst this;exact⟨d.at',d.en⟩
 |false=>rw[a]at h;exact e h
theorem qF:bV Z bT:=by
 intro f fn h;unfold bT at h
 refine uY h (bI func185 rfl rfl) fun h=>uY h (bI func153 rfl rfl) fun h=>uY h (bI func173 rfl rfl) fun h=>uY h (bI func186 rfl rfl) fun h=>uY h (bI func80 rfl rfl) fun h=>uY h (bI func97 rfl rfl) fun h=>uY h (bI func96 rfl rfl) fun h=>uY h (bI func62 rfl rfl) fun h=>uY h (bI func65 rfl rfl) fun h=>uY h (bI func79 rfl rfl) fun h=>by cases h
def stS (a p q:Int):AS:=⟨.val (.one (.int .i64 a))::.val (.one (.ptr 2 0))::.val (.agg (bH true 0 2))::List.replicate 49 .gC,[(2,ext [.bool false] 98)],3,[(p,1),(q,1)],[]⟩
noncomputable def tT (a p q:Int):Option Tr:=run Z (aE tS) bT (aO Z (aE tS)) (fun _=>false) 2000 [.code (aF f175),.top f175] (stS a p q)
def dI:List Bool->Tr->Option (AT×AS)
 |p,.need _ t=>dI p t
 |b::p,.br _ x y=>bif b then dI p x else dI p y
 | [],.ret r s=>some (r,s)
 |_,_=>none
noncomputable def lS (a p q:Int)(l:List Bool):AS:=(((tT a p q).bind (dI l)).map (·.2)).getD ⟨[],[],0,[],[]⟩
noncomputable def lR (a p q:Int)(l:List Bool):AT:=(((tT a p q).bind (dI l)).map (·.1)).getD .top
section
variable (p q:Int)
theorem aWN:tT 10 p q=some (.need [0<aV p q] (.need [0<aH p q/\0<aK p q/\(Rf.near (aH p q) (aK p q) 20000 1).isSome=true] (.ret (.val (.one (.ptr 24 0))) (lS 10 p q [])))):=by kernel_rfl
def skT (a p q:Int)(sq:Bool)(b d e f:AT)(g h i j:AS):Tr:=.need [0<aV p q] (.br (decide (Nm.cmp (aH p q) 0=0)) (.br sq (.need [(gE a 0).natAbs<1000000000000000000] (.need [(gG a 0).natAbs<1000000000000000000] (.ret b g))) (.need [(gE a 0).natAbs<1000000000000000000] (.need [(gG a 0).natAbs<1000000000000000000] (.ret d h))))
 (.need [0<aV (aH p q*aH p q) (aK p q*aK p q)] (.br sq (.need [(gE a 0).natAbs<1000000000000000000] (.need [(gG a 0).natAbs<1000000000000000000] (.ret e i))) (.need [(gE a 0).natAbs<1000000000000000000] (.need [(gG a 0).natAbs<1000000000000000000] (.ret f j))))))
theorem aVA:tT 11 p q=some (skT 11 p q true (.val (.one (.ptr 33 0))) (lR 11 p q [true,false]) (.val (.one (.ptr 67 0))) (lR 11 p q [false,false]) (lS 11 p q [true,true]) (lS 11 p q [true,false]) (lS 11 p q [false,true]) (lS 11 p q [false,false])):=by kernel_rfl
theorem aVB:tT 12 p q=some (skT 12 p q false (lR 12 p q [true,true]) (.val (.one (.ptr 9 0))) (lR 12 p q [false,true]) (.val (.one (.ptr 42 0))) (lS 12 p q [true,true]) (lS 12 p q [true,false]) (lS 12 p q [false,true]) (lS 12 p q [false,false])):=by kernel_rfl
theorem aVC:tT 13 p q=some (skT 13 p q true (.val (.one (.ptr 32 0))) (lR 13 p q [true,false]) (.val (.one (.ptr 65 0))) (lR 13 p q [false,false]) (lS 13 p q [true,true]) (lS 13 p q [true,false]) (lS 13 p q [false,true]) (lS 13 p q [false,false])):=by kernel_rfl
end
def zM (s:AS)(b:Nat):List AC:=match look s.boxes b with|some B=>B.cs|none=>[]
def xI (s:AS)(b:Nat):List AC:=((zM s b).drop 1).take 16
structure cF (s:AS) (b:Nat) (zs:List Int) (cv lp rp nv:AC):Prop where
 look:look s.boxes b=some ⟨.bool false::xI s b++[cv,.int .i64 0,lp,.int .i64 0,rp,.int .i64 0,.lit aJ,.int .i64 0,nv,.int .i64 0],98,true,false,false⟩
 len:(xI s b).length=16
 num:numOf s.nums (xI s b)=some zs
structure kE (s:AS) (b:Nat) (kd:Int) (fst fur:AC) (zs:List Int):Prop where
 look:look s.boxes b=some ⟨.int .i64 kd::fst::fur::(zM s b).drop 3,206,true,false,false⟩
 num:numOf s.nums ((zM s b).drop 3)=some zs
structure jL (s:AS) (b:Nat) (kd:Int) (zs:List Int):Prop where
 look:look s.boxes b=some ⟨.int .i64 kd::.lit aJ::(zM s b).drop 2,132,true,false,false⟩
 num:numOf s.nums ((zM s b).drop 2)=some zs
section
variable (p q:Int)
theorem aUv:cF (lS 10 p q []) 24 [0,0,eK (aH p q) (aK p q),0,eJ (aH p q) (aK p q),eK (aH p q) (aK p q),0,eJ (aH p q) (aK p q)] (.lit aB) (.ptr 2 0) (.lit aB) (.ptr 22 0):=⟨by kernel_rfl,by kernel_rfl,by kernel_rfl⟩
theorem aUu:kE (lS 10 p q []) 22 10 (.ptr 2 0) (.ptr 2 0) [0,0,eK (aH p q) (aK p q),0,eJ (aH p q) (aK p q),eK (aH p q) (aK p q),0,eJ (aH p q) (aK p q)]:=⟨by kernel_rfl,by kernel_rfl⟩
theorem aUw:clean (lS 10 p q [])=true:=by kernel_rfl
theorem aUh:cF (lS 12 p q [false,false]) 42 [0,0,1,0,1,0,0,1] (.lit aB) (.ptr 16 0) (.ptr 20 0) (.lit aB):=⟨by kernel_rfl,by kernel_rfl,by kernel_rfl⟩
theorem aUg:cF (lS 12 p q [false,false]) 20 (kW 12 0) (.lit aB) (.ptr 17 0) (.lit aB) (.ptr 18 0):=⟨by kernel_rfl,by kernel_rfl,by kernel_rfl⟩
theorem aUf:kE (lS 12 p q [false,false]) 18 12 (.ptr 17 0) (.ptr 17 0) [0,0,0,0,0,0,0,0]:=⟨by kernel_rfl,by kernel_rfl⟩
theorem aUe:cF (lS 12 p q [false,false]) 17 [aK p q,0,-aH p q,aH p q+aK p q,0,0,0,0] (.lit aB) (.lit aB) (.ptr 2 0) (.lit aB):=⟨by kernel_rfl,by kernel_rfl,by kernel_rfl⟩
theorem aUd:cF (lS 12 p q [false,false]) 16 [1,0,0,1,0,0,0,0] (.ptr 13 0) (.lit aB) (.lit aB) (.lit aB):=⟨by kernel_rfl,by kernel_rfl,by kernel_rfl⟩
theorem aUc:jL (lS 12 p q [false,false]) 13 12 [aH p q,aK p q,aH ((aH p q)*aH p q) ((aK p q)*aK p q),aK ((aH p q)*aH p q) ((aK p q)*aK p q),0,0,0,0]:=⟨by kernel_rfl,by kernel_rfl⟩
theorem aUi:clean (lS 12 p q [false,false])=true:=by kernel_rfl
theorem aUp:cF (lS 13 p q [false,true]) 65 [0,0,1,0,1,0,0,1] (.lit aB) (.ptr 16 0) (.ptr 43 0) (.lit aB):=⟨by kernel_rfl,by kernel_rfl,by kernel_rfl⟩
theorem aUo:cF (lS 13 p q [false,true]) 43 (kW 13 0) (.lit aB) (.ptr 17 0) (.lit aB) (.ptr 18 0):=⟨by kernel_rfl,by kernel_rfl,by kernel_rfl⟩
theorem aUn:cF (lS 13 p q [false,true]) 40 [1,0,0,0,0,0,0,1] (.lit aB) (.ptr 17 0) (.ptr 17 0) (.lit aB):=⟨by kernel_rfl,by kernel_rfl,by kernel_rfl⟩
theorem aUm:kE (lS 13 p q [false,true]) 18 13 (.ptr 17 0) (.ptr 40 0) [0,0,0,0,0,0,0,0]:=⟨by kernel_rfl,by kernel_rfl⟩
theorem aUl:cF (lS 13 p q [false,true]) 17 [aK p q,aH p q,-aH p q,aK p q,0,0,0,0] (.lit aB) (.lit aB) (.ptr 2 0) (.lit aB):=⟨by kernel_rfl,by kernel_rfl,by kernel_rfl⟩
theorem aUk:cF (lS 13 p q [false,true]) 16 [1,0,0,1,0,0,0,0] (.ptr 13 0) (.lit aB) (.lit aB) (.lit aB):=⟨by kernel_rfl,by kernel_rfl,by kernel_rfl⟩
theorem aUj:jL (lS 13 p q [false,true]) 13 13 [aH p q,aK p q,aH ((aH p q)*aH p q) ((aK p q)*aK p q),aK ((aH p q)*aH p q) ((aK p q)*aK p q),0,0,0,0]:=⟨by kernel_rfl,by kernel_rfl⟩
theorem aUq:clean (lS 13 p q [false,true])=true:=by kernel_rfl
theorem aUa:cF (lS 11 p q [false,true]) 67 [1,0,0,0,0,0,0,1] (.lit aB) (.ptr 17 0) (.ptr 45 0) (.lit aB):=⟨by kernel_rfl,by kernel_rfl,by kernel_rfl⟩
theorem aT9:cF (lS 11 p q [false,true]) 45 [1,-1,1,1,0,0,0,0] (.lit aB) (.lit aB) (.ptr 44 0) (.lit aB):=⟨by kernel_rfl,by kernel_rfl,by kernel_rfl⟩
theorem aT8:cF (lS 11 p q [false,true]) 44 (kW 11 0) (.lit aB) (.ptr 18 0) (.lit aB) (.ptr 19 0):=⟨by kernel_rfl,by kernel_rfl,by kernel_rfl⟩
theorem aT7:cF (lS 11 p q [false,true]) 41 [1,0,0,0,0,0,0,1] (.lit aB) (.ptr 18 0) (.ptr 18 0) (.lit aB):=⟨by kernel_rfl,by kernel_rfl,by kernel_rfl⟩
theorem aT6:kE (lS 11 p q [false,true]) 19 11 (.ptr 18 0) (.ptr 41 0) [0,0,0,0,0,0,0,0]:=⟨by kernel_rfl,by kernel_rfl⟩
theorem aT5:cF (lS 11 p q [false,true]) 18 [aK p q,0,-aH p q,aK p q,0,0,0,0] (.lit aB) (.lit aB) (.ptr 2 0) (.lit aB):=⟨by kernel_rfl,by kernel_rfl,by kernel_rfl⟩
theorem aT4:cF (lS 11 p q [false,true]) 17 [1,-1,1,1,0,0,0,0] (.lit aB) (.lit aB) (.ptr 16 0) (.lit aB):=⟨by kernel_rfl,by kernel_rfl,by kernel_rfl⟩
theorem aT3:cF (lS 11 p q [false,true]) 16 [1,0,0,1,0,0,0,0] (.ptr 13 0) (.lit aB) (.lit aB) (.lit aB):=⟨by kernel_rfl,by kernel_rfl,by kernel_rfl⟩
theorem aT2:jL (lS 11 p q [false,true]) 13 11 [aH p q,aK p q,aH ((aH p q)*aH p q) ((aK p q)*aK p q),aK ((aH p q)*aH p q) ((aK p q)*aK p q),0,0,0,0]:=⟨by kernel_rfl,by kernel_rfl⟩
theorem aUb:clean (lS 11 p q [false,true])=true:=by kernel_rfl
theorem aVU:cF (lS 12 p q [true,false]) 9 [1,0,0,1,0,0,0,0] (.lit aB) (.lit aB) (.ptr 8 0) (.lit aB):=⟨by kernel_rfl,by kernel_rfl,by kernel_rfl⟩
theorem aVT:cF (lS 12 p q [true,false]) 8 (kW 12 0) (.lit aB) (.ptr 2 0) (.lit aB) (.ptr 6 0):=⟨by kernel_rfl,by kernel_rfl,by kernel_rfl⟩
theorem aVS:kE (lS 12 p q [true,false]) 6 12 (.ptr 2 0) (.ptr 2 0) [0,0,0,0,0,0,0,0]:=⟨by kernel_rfl,by kernel_rfl⟩
theorem aTW:clean (lS 12 p q [true,false])=true:=by kernel_rfl
theorem aTZ:cF (lS 13 p q [true,true]) 32 [1,0,0,1,0,0,0,0] (.lit aB) (.lit aB) (.ptr 31 0) (.lit aB):=⟨by kernel_rfl,by kernel_rfl,by kernel_rfl⟩
theorem aTY:cF (lS 13 p q [true,true]) 31 (kW 13 0) (.lit aB) (.ptr 2 0) (.lit aB) (.ptr 6 0):=⟨by kernel_rfl,by kernel_rfl,by kernel_rfl⟩
theorem aTX:cF (lS 13 p q [true,true]) 28 [1,0,0,0,0,0,0,1] (.lit aB) (.ptr 2 0) (.ptr 2 0) (.lit aB):=⟨by kernel_rfl,by kernel_rfl,by kernel_rfl⟩
theorem aVV:kE (lS 13 p q [true,true]) 6 13 (.ptr 2 0) (.ptr 28 0) [0,0,0,0,0,0,0,0]:=⟨by kernel_rfl,by kernel_rfl⟩
theorem aT0:clean (lS 13 p q [true,true])=true:=by kernel_rfl
theorem aTU:cF (lS 11 p q [true,true]) 33 [1,0,0,1,0,0,0,0] (.lit aB) (.lit aB) (.ptr 32 0) (.lit aB):=⟨by kernel_rfl,by kernel_rfl,by kernel_rfl⟩
theorem aTT:cF (lS 11 p q [true,true]) 32 [1,-1,1,1,0,0,0,0] (.lit aB) (.lit aB) (.ptr 31 0) (.lit aB):=⟨by kernel_rfl,by kernel_rfl,by kernel_rfl⟩
theorem aTS:cF (lS 11 p q [true,true]) 31 (kW 11 0) (.lit aB) (.ptr 2 0) (.lit aB) (.ptr 6 0):=⟨by kernel_rfl,by kernel_rfl,by kernel_rfl⟩
theorem aTR:cF (lS 11 p q [true,true]) 28 [1,0,0,0,0,0,0,1] (.lit aB) (.ptr 2 0) (.ptr 2 0) (.lit aB):=⟨by kernel_rfl,by kernel_rfl,by kernel_rfl⟩
theorem aVR:kE (lS 11 p q [true,true]) 6 11 (.ptr 2 0) (.ptr 28 0) [0,0,0,0,0,0,0,0]:=⟨by kernel_rfl,by kernel_rfl⟩
theorem aTV:clean (lS 11 p q [true,true])=true:=by kernel_rfl
end
section
variable {w0 w:World} {ψ φ:Nat->Option (Nat×Nat)} {s:AS}
theorem cN {v:Value}:∀x,relC Z φ ν w (.lit v) x->x=v:=fun x h=>h.1
variable {b:Nat}
theorem cQ {m:Nat}(h:φ b=some (m,0)):∀x,relC Z φ ν w (.ptr b 0) x->x=aA m:=fun x a=>uC (ν:=ν) (w:=w) h a
theorem cF.at {b:Nat}{j:List Int}{F lp rp i:AC}{z f u J:Value}(h:cF s b j F lp rp i)(r:RepW Z w0 ψ φ s w){m:Nat}(q:φ b=some (m,0))(k:∀x,relC Z φ s.nums w F x->x=z)(l:∀x,relC Z φ s.nums w lp x->x=f)(n:∀x,relC Z φ s.nums w rp x->x=u)(o:∀x,relC Z φ s.nums w i x->x=J):
  ∃d:List Value,w0.heap.size<=m/\w.heap[m]?=some (.cells d.toArray 98 (0,0))/\d.length=27/\(∀y∈d,One y)/\NodeAt w m j false 0 0 0 0 0 f u aJ z J:=by
 obtain⟨A,d,k1,g,e,v⟩:=zF r h.look rfl rfl;rw[q]at k1;cases k1;have p:=e.len;refine⟨d,v,g,?_,Kc e,aKz e g h.len h.num (fun x a=>a) k (fun x a=>a) l (fun x a=>a) n (fun x a=>a) cN (fun x a=>a) o (fun x a=>a)⟩;simp[h.len]at p;omega
theorem kE.at {b:Nat}{v:Int}{j:List Int}{fst a:AC}{z f:Value}(h:kE s b v fst a j)(r:RepW Z w0 ψ φ s w){m:Nat}(q:φ b=some (m,0))(k:∀x,relC Z φ s.nums w fst x->x=z)(l:∀x,relC Z φ s.nums w a x->x=f):
  ∃i:List Value,w0.heap.size<=m/\w.heap[m]?=some (.cells (.int .i64 v::z::f::i).toArray 206 (0,0))/\bD true w j i:=by
 obtain⟨A,e,k1,g,u,y⟩:=zF r h.look rfl rfl;rw[q]at k1;cases k1
 match e,u with
 |y1::y2::y3::e,⟨d,n,o,p⟩=>
 have d:y1=.int .i64 v:=d;rw[d,k y2 n,l y3 o]at g;exact⟨e,y,g,Ms _ _ _ h.num p⟩
theorem jL.at {b:Nat}{v:Int}{g:List Int}(h:jL s b v g)(l:RepW Z w0 ψ φ s w){m:Nat}(k:φ b=some (m,0)):
  ∃f:List Value,w0.heap.size<=m/\w.heap[m]?=some (.cells (.int .i64 v::aJ::f).toArray 132 (0,0))/\bD true w g f:=by
 obtain⟨p,d,k1,e,n,o⟩:=zF l h.look rfl rfl;rw[k]at k1;cases k1
 match d,n with
 |y1::y2::d,⟨a,i,j⟩=>
 have a:y1=.int .i64 v:=a;rw[a,show y2=aJ from i.1]at e;exact⟨d,o,e,Ms _ _ _ h.num j⟩
theorem gI {B:bO}(f:RepW Z w0 ψ φ s w)(a:look s.boxes b=some B)(d:B.own=true)(e:B.ro=false):∃m,φ b=some (m,0):=by
 obtain⟨m,_,h,_⟩:=zF f a d e;exact⟨m,h⟩
theorem lC {m W:Nat}{B f:bO}(l:RepW Z w0 ψ φ s w)(i:look s.boxes b=some B)(j:B.ro=false)(a:look s.boxes k=some f)(g:φ b=some (m,0))(h:φ k=some (W,0))(d:b≠k):m≠W:=by
 rintro rfl
 rcases l.inj b k B f m 0 0 i a g h with e|⟨e,_⟩
 ·exact d e
 ·rw[j]at e;cases e
end
variable {p q:Int}
theorem Gx {w:World}{d:Nat}{kd:Int}(C:∃n:List Value,w.heap[d]?=some (.cells (.bool false::n).toArray 98 (0,0)))(y:bD true w [p,q] i)(h:∀z∈[p,q],Bits 1 z){X:Tr}(A:tT kd p q=some X)(G:AT->AS->Prop)(k:X.ok G fun _ _=>False){R:Ending->World->Prop}
  (x:∀r s φ v l,G r s->relT Z φ s.nums l r v->RepW Z w (ph1 2 d) φ s l->R (.returned v) l):Calls prog 175 #[.int .i64 kd,aA d,.agg i.toArray] w R:=by
 obtain⟨n,g⟩:=C
 have f:RepW Z w (ph1 2 d) (ph1 2 d) (stS kd p q) w:=by
  refine rI rfl ?_ ?_ ?_
  ·intro b B u;have:=mU u;simp[stS]at this;obtain⟨rfl,rfl⟩:=this;exact⟨rfl,rfl,rfl,d,0,rfl,[],[.bool false],n,g,rfl,rfl,trivial⟩
  ·intro b h;have:3<=b:=h;unfold ph1;rw[if_neg (by omega)]
  ·intro b D o a;unfold ph1 at a;split at a
   ·cases a;exact gU g
   ·cases a
 refine rY (vs:=[.one (.int .i64 kd),.one (.ptr 2 0),.agg (bH true 0 2)]) (args:=[.int .i64 kd,aA d,.agg i.toArray]) (bI func175 rfl rfl) (dH nE) qF (by kernel_rfl) ⟨rfl,⟨d,0,rfl,rfl⟩,⟨i,rfl,?_⟩,trivial⟩ f A G k x
 exact tU [p,q] i 0 _ y h fun j z e=>by
  match j,e with
  |0,e=>cases e;rfl
  |1,e=>cases e;rfl
  |j+2,e=>simp at e
theorem Vk (e:0<=p)(f:0<q):∃g:Int,0<g/\aV p q=g/\p=g*aH p q/\q=g*aK p q/\0<=aH p q/\0<aK p q/\(aH p q=0↔p=0):=by
 have d:0<aV p q:=by
  unfold aV;have:0<Nat.gcd p.natAbs q.natAbs:=Nat.gcd_pos_of_pos_right _ (by omega);omega
 have b:aH p q=p/aV p q/\aK p q=q/aV p q:=by
  unfold aH aK;rw[Nm.gV f];exact⟨rfl,rfl⟩
 have d1:aV p q ∣ p:=by
  unfold aV;exact Int.ofNat_dvd_left.2 (Nat.gcd_dvd_left _ _)
 have d2:aV p q ∣ q:=by
  unfold aV;exact Int.ofNat_dvd_left.2 (Nat.gcd_dvd_right _ _)
 have a:p=aV p q*(p/aV p q):=(Int.mul_ediv_cancel' d1).symm;have i:q=aV p q*(q/aV p q):=(Int.mul_ediv_cancel' d2).symm;rw[b.1,b.2];refine⟨aV p q,d,rfl,a,i,Int.ediv_nonneg e (by omega),?_,?_⟩
 ·rcases Int.lt_or_le 0 (q/aV p q)with h|h
  ·exact h
  ·exfalso;have:=Int.mul_nonpos_of_nonneg_of_nonpos (show(0:Int)<=aV p q by omega) h;omega
 ·constructor
  ·intro h;rw[h]at a
   simpa using a
  ·intro h;rw[h];simp
theorem aUz {a b:Int}:decide (Nm.cmp a b<=0)=decide (a<=b):=by
 rcases Int.lt_trichotomy a b with h|h|h
 ·rw[Nm.jB h,decide_eq_true (by decide),decide_eq_true (by omega)]
 ·rw[Nm.jA h,decide_eq_true (by decide),decide_eq_true (by omega)]
 ·rw[Nm.gV h,decide_eq_false (by decide),decide_eq_false (by omega)]
variable {op:Rf.Op}
theorem aMS (a:Rf.fn op)(b d lp e:Int):hZ (aI op) b d lp e=Pg.qN op (b,d) (lp,e):=by
 unfold hZ Pg.qN
 rcases a with rfl|rfl|rfl|rfl<;>simp[aI,aUz]
structure Probe (w:World) (b0:Nat) (own:Nat->Option Own) (at1:Nat->Nat) (s:Rf.St) (rho:Nat->Nat) (i:Nat) (n:Nd) (a:Nat) (x:Nd) (e1 e2:Rf.V) (p0 q0 p1 q1 p2 q2 p3 q3 mt pl:Int) (gv cv nv:Value) (dd:Int):Prop where
 t:n.t=[(1,0),(0,1)]
 nest:n.nest=false
 args:n.args=[a]
 read:∃r,n.read=[r]
 out:n.out=[]
 told:n.told=Rf.one
 dP:n.dP=[Rf.one]
 pos:n.pos=true
 k:n.k=0
 fn:Rf.fn n.op
 rM:s.nodes[a]?=some x
 En:x.pos=true
 rk:rho a<rho i
 ends:Rf.ends s.nodes n 0=some (e1,e2)
 seen:∃l g cc nn,Seen w b0 own at1 s.nodes i n p0 q0 p1 q1 p2 q2 p3 q3 mt pl gv cv nv l g cc nn
 d0:0<dd
 c1:e1=Pg.sc dd (p0,q0)
 c2:e2=Pg.sc dd (p1,q1)
 lo:0<=p1
 We:0<q1
 bits:∀z∈[p1,q1],Bits 1 z
 b1:Rf.dW 6100 e2
theorem aGu {d x:Int}(a:0<d):(0<=d*x↔0<=x)/\(0<d*x↔0<x):=by
 constructor
 ·constructor
  ·intro h
   rcases Int.lt_or_le x 0 with h1|h1
   ·have:=Int.mul_neg_of_pos_of_neg a h1;omega
   ·exact h1
  ·exact fun h=>Int.mul_nonneg (by omega) h
 ·constructor
  ·intro h
   rcases Int.lt_or_le 0 x with h1|h1
   ·exact h1
   ·have:=Int.mul_nonpos_of_nonneg_of_nonpos (show(0:Int)<=d by omega) h1;omega
  ·exact fun h=>Int.mul_pos a h
section
variable {w:World} {b0 fb:Nat} {own:Nat->Option Own} {at1:Nat->Nat} {i:Nat} {n:Nd} {s:Rf.St} {rho:Nat->Nat} {c:Nat}
theorem aN7 (h:Net w b0 own at1 fb s)(O:Inv s.nodes rho c)(W:s.nodes[i]?=some n)(B:n.aR=true):∃a x e1 e2 p0 q0 p1 M p2 q2 p3 q3 mt pl gv P nv R,Probe w b0 own at1 s rho i n a x e1 e2 p0 q0 p1 M p2 q2 p3 q3 mt pl gv P nv R:=by
 have j:=O.at' i n W;obtain⟨p,X⟩:=(h.nd i n W).Qw B
 have hS:∃u,n.args=[u]/\n.pos=true/\Rf.fn n.op/\n.out=[]/\Rf.Pos s.nodes u/\n.k=0:=by
  cases j.shp with
  |fI p A d hc=>rw[B]at d;cases d
  |gH v p A d hv=>rw[B]at d;cases d
  |kP v w u p o d=>
   obtain⟨k1,k2,k3,k4,k5,k6⟩:=d B;exact⟨u,o,k1,k2,k3,k4,k6⟩
  |bin u b v w x y p o d=>rw[B]at d;cases d
  |nest u v w x y p o d a5 ok=>rw[B]at d;cases d
 obtain⟨a,A,H,aa,Y,⟨x,q,L⟩,hk⟩:=hS;obtain⟨r,hr⟩:∃r,n.read=[r]:=List.length_eq_one_iff.1 (by rw[j.len,A];rfl);have J:=j.fst Y
 have F:n.dP=[Rf.one]:=by
  have h1:=j.kU;have T:=j.nB;rw[Y]at h1;obtain⟨m,hm⟩:=List.length_eq_one_iff.1 h1;rw[hm]at T ⊢;simp at T;rw[T]
 obtain⟨m,x',r',g1,g2,S,g4⟩:=Rf.Eu O j (sd:=0) (a:=a) (by rw[A];rfl);rw[q]at g1;cases g1;have f:=O.at' a x q;have ad:Rf.Up m:=(f.up L).2 m (List.mem_of_getElem? S);have U:=f.lO r' m S
 have I:r'<=3000:=by have:=f.iV;have:=f.kU;have:=(List.getElem?_eq_some_iff.1 S).1;omega
 obtain⟨b1,b2⟩:=Rf.aNz U I;obtain⟨l1,l2,_⟩:=Rf.aSh ad;obtain⟨p0,q0,p1,M,p2,q2,p3,q3,mt,pl,gv,P,nv,l,g,cc,nn,hs⟩:=h.seen O W
 have D:Rf.corners s.nodes n=some [Rf.eU m (1,0),Rf.eU m (0,1)]:=by
  unfold Rf.corners;rw[Pg.Sn p,g4,J,Option.map_some,Option.map_some,Pg.Nx];have e:(⟨((1,0):Rf.V).1,((0,1):Rf.V).1,((1,0):Rf.V).2,((0,1):Rf.V).2⟩:Mt)=Rf.one:=rfl;rw[e];simp only[Pg.Ko]
 have C:=hs.Gb;have hl:=hs.Ck;rw[D]at hl;cases hl;obtain⟨R,E,c1,c2,_,_⟩:=C.of2
 have hq:0<=p1/\0<M:=by
  rw[c2]at l1 l2;exact⟨(aGu E).1.1 l1,(aGu E).2.1 l2⟩
 have hb:∀z∈[p1,M],Bits 1 z:=by
  rw[c2]at b1 b2;intro z hz;simp at hz
  rcases hz with rfl|rfl
  ·exact wX (N:=6100) (by decide) (Nat.lt_of_le_of_lt (Pg.Hn E _) b1)
  ·exact wX (N:=6100) (by decide) (Nat.lt_of_le_of_lt (Pg.Hn E _) b2)
 exact⟨a,x,_,_,p0,q0,p1,M,p2,q2,p3,q3,mt,pl,gv,P,nv,R,p,X,A,⟨r,hr⟩,Y,J,F,H,hk,aa,q,L,(j.arg 0 a (by rw[A];rfl)).2,g4,⟨_,g,cc,nn,hs⟩,E,c1,c2,hq.1,hq.2,hb,⟨b1,b2⟩⟩
theorem Zr (h:Net w b0 own at1 fb s)(k:Inv s.nodes rho c){a:Nat}{x:Nd}(f:s.nodes[a]?=some x)(e:x.pos=true):∃g:List Value,w.heap[at1 a]?=some (.cells (.bool false::g).toArray 98 (0,0)):=by
 obtain⟨o,r,p1,u,p,v,p3,y,mt,q,gv,j,l,d,_⟩:=(h.nd a x f).ex;obtain⟨z,b,_⟩:=d.nd.ex;rw[e]at b;exact⟨_,b⟩
theorem Kf (h:Rf.fn op):aI op=10\/aI op=11\/aI op=12\/aI op=13:=by
 rcases h with rfl|rfl|rfl|rfl
 ·exact Or.inl rfl
 ·exact Or.inr (Or.inl rfl)
 ·exact Or.inr (Or.inr (Or.inl rfl))
 ·exact Or.inr (Or.inr (Or.inr rfl))
theorem aOn (z:∀ (w:World) (b0 fb:Nat) (own:Nat->Option Own) (at1:Nat->Nat) (s:Rf.St) (rho:Nat->Nat) (c i:Nat) (n:Nd) (j:List Nd) (a:Nat) (x:Nd) (o k:Rf.V) (C D p1 A R T p3 U mt S:Int) (gv N P:Value) (Y:Int),Net w b0 own at1 fb s->b0<=w.heap.size->c<=3000->Inv s.nodes rho c->s.nodes[i]?=some n->n.aR=true->Probe w b0 own at1 s rho i n a x o k C D p1 A R T p3 U mt S gv N P Y->(n.op=.sqrt->0<p1)->Rf.turn (s.nodes.set i {n with read:=[0],aR:=false}) i {n with read:=[0],aR:=false} k=some j->∀ q X,Chg w q []->bD true q [p1,A] X->
  Calls prog 175 #[.int .i64 (aI n.op),aA (at1 a),.agg X.toArray] q fun e W=>∃m,∃E:List Value,e=.returned (aA m)/\Chg q W []/\q.heap.size<=m/\W.heap[m]?=some (.cells E.toArray 98 (0,0))/\E.length=27/\(∀y∈E,One y)/\∀w3,Chg W w3 [at1 i]->w3.heap[at1 i]?=some (.cells E.toArray 98 (0,0))->kK w b0 own at1 fb s.nodes.length true ⟨j,s.clock⟩ w3):gQ:=by
 intro w b0 fb own at1 s rho c i n j h ad ae u O b;have az:(⟨s.nodes,s.clock⟩:Rf.St)=s:=rfl
 have still:∀{M:World},Chg w M []->j=s.nodes->kK w b0 own at1 fb s.nodes.length true ⟨j,s.clock⟩ M:=by
  intro M hc e;subst e;exact⟨own,Kept.still hc,fun _=>⟨at1,h.still u hc,fun _ _=>rfl⟩⟩
 unfold Rf.settle at b
 cases B:n.aR with
 |false=>
  rw[B]at b;simp only[Bool.false_eq_true,if_false,Option.some.injEq]at b;obtain⟨C,D,p1,A,R,T,p3,U,mt,S,gv,N,P,l,g,cc,nn,hs⟩:=h.seen u O
  have hu:fL n=0:=by unfold fL;rw[B];rfl
  refine(aF4 (h.sY hs) (Or.inl hu)).mono ?_;rintro e M⟨v,rfl,hc⟩;exact⟨v,rfl,still hc b.symm⟩
 |true=>
  rw[B]at b;simp only[if_true]at b;obtain⟨a,x,o,k,C,D,p1,A,R,T,p3,U,mt,S,gv,N,P,Y,d⟩:=aN7 h u O B;obtain⟨l,g,cc,nn,hs⟩:=d.seen;rw[d.ends,Option.bind_some]at b
  have hu:fL n=aI n.op:=by unfold fL;rw[B];rfl
  have H:Rf.known n.op k o=hZ (aI n.op) C D p1 A:=by
   rw[aMS d.fn,d.c1,d.c2];exact Pg.aPs d.fn d.d0 _ _
  have f:=h.sY hs;rw[hu]at f;simp only at b
  by_cases p:Rf.known n.op k o=true
  ·rw[if_pos p]at b;obtain⟨a5,J,b⟩:=Option.bind_eq_some_iff.1 b;have I:=(Ch J).1;subst I;obtain⟨r,hr⟩:=d.read
   have ag:n.read.set 0 0=[0]:=by rw[hr];rfl
   rw[ag]at b
   have L:rArg n=some a:=by unfold rArg;rw[d.t,d.args];rfl
   have ai:n.op=.sqrt->0<p1:=by
    intro e;rw[e]at p;have F:decide (o.1*k.2<=2*(k.1*o.2))=true:=p
    rcases Int.lt_or_le 0 p1 with h1|h1
    ·exact h1
    ·exfalso
     have af:p1=0:=by have:=d.lo;omega
     -- the upper end is above the lower one
     have hN:=u.at' i n O;obtain⟨m,x',r',g1,g2,g3,g4⟩:=Rf.Eu u hN (sd:=0) (a:=a) (by rw[d.args];rfl);rw[d.rM]at g1;cases g1;rw[d.ends]at g4
     have g5:o=Rf.eU m (1,0)/\k=Rf.eU m (0,1):=by
      have:=Option.some.inj g4;exact⟨congrArg Prod.fst this,congrArg Prod.snd this⟩
     have ab:=u.at' a x d.rM;have ak:Rf.Up m:=(ab.up d.En).2 m (List.mem_of_getElem? g3);obtain⟨_,_,l3⟩:=Rf.aSh ak;rw[g5.1,g5.2]at p;have h3:=l3 p;rw[<-g5.2,d.c2,af]at h3;simp[Pg.sc]at h3
   refine aID f (Kf d.fn) (by rw[<-H];exact p) fun q X c1 hh=>?_
   rw[L];refine(z w b0 fb own at1 s rho c i n j a x o k C D p1 A R T p3 U mt S gv N P Y h ad ae u O B d ai b q X c1 hh).mono ?_;rintro e W⟨m,E,rfl,c2,hm,k1,k2,k3,k4⟩;have ax:at1 i<q.heap.size:=Nat.lt_of_lt_of_le f.nd.lt c1.on.size;refine⟨m,E,rfl,by omega,k1,k2,k3,?_,k4⟩;have:=(f.aT c1).aT c2;rw[L]at this;exact this
  ·rw[if_neg p]at b
   have F:hZ (aI n.op) C D p1 A=false:=by
    rw[<-H]
    simpa using p
   refine(aF4 f (Or.inr ⟨Kf d.fn,F⟩)).mono ?_;rintro e M⟨v,rfl,hc⟩;exact⟨v,rfl,still hc (Option.some.inj b).symm⟩
end
theorem Ur {d:Type}{l new:List d}{i:Nat}{a b:d}(hi:i<l.length):((l.set i a)++new).set i b=(l++new).set i b:=by
 rw[List.set_append_left _ _ (by simpa using hi),List.set_append_left _ _ hi,List.set_set]
def Gv (P:Nd->Prop):Prop:=∀(w:World) (b0 l:Nat) (own:Nat->Option Own) (at1:Nat->Nat) (s:Rf.St) (d:Nat->Nat) (c i:Nat) (n:Nd) (b:List Nd) (a:Nat) (x:Nd) (u k:Rf.V) (z C p1 o A D p3 E mt B:Int) (gv q v:Value) (r:Int),P n->Net w b0 own at1 l s->b0<=w.heap.size->c<=3000->Inv s.nodes d c->s.nodes[i]?=some n->n.aR=true->Probe w b0 own at1 s d i n a x u k z C p1 o A D p3 E mt B gv q v r->(n.op=.sqrt->0<p1)->Rf.turn (s.nodes.set i {n with read:=[0],aR:=false}) i {n with read:=[0],aR:=false} k=some b->∀f p,Chg w f []->bD true f [p1,o] p->
  Calls prog 175 #[.int .i64 (aI n.op),aA (at1 a),.agg p.toArray] f fun e h=>∃m,∃g:List Value,e=.returned (aA m)/\Chg f h []/\f.heap.size<=m/\h.heap[m]?=some (.cells g.toArray 98 (0,0))/\g.length=27/\(∀y∈g,One y)/\∀j,Chg h j [at1 i]->j.heap[at1 i]?=some (.cells g.toArray 98 (0,0))->kK w b0 own at1 l s.nodes.length true ⟨b,s.clock⟩ j
theorem bL {a:Prop}(h:a):Holds [a]:=fun x b=>by simp at b;rw[b];exact h
theorem aNA {a:Rf.V}(j:0<=p)(k:0<q)(e:0<l)(b:a=Pg.sc l (p,q)):∃g:Int,0<g/\a.1=g*aH p q/\a.2=g*aK p q/\0<aV p q/\0<=aH p q/\0<aK p q/\(aH p q=0↔a.1=0)/\(aH p q=0↔p=0):=by
 obtain⟨g,f,i,n,o,r,b0,d⟩:=Vk j k;refine⟨l*g,Int.mul_pos e f,?_,?_,by omega,r,b0,?_,d⟩
 ·rw[b];show l*p=_;rw[Int.mul_assoc,<-n]
 ·rw[b];show l*q=_;rw[Int.mul_assoc,<-o]
 ·rw[d,b];show p=0↔l*p=0;constructor
  ·intro h;rw[h];simp
  ·intro h
   rcases Int.mul_eq_zero.1 h with h|h
   ·omega
   ·exact h
theorem aOG:Gv fun n=>n.op=.sqrt:=by
 intro w b0 fb own at1 s bs c i n ad a x e1 e2 p0 q0 p1 f p2 q2 p3 q3 mt pl gv cv nv dd p h be bf hI J hp b ao o w1 xs c1 hh;have hi:=(List.getElem?_eq_some_iff.1 J).1;have bj:=(List.getElem?_eq_some_iff.1 b.rM).1;obtain⟨g,hg,E1,E2,U,t0,O,hz,ar⟩:=aNA b.lo b.We b.d0 b.c2;have bk:=ao p
 have hT:0<aH p1 f:=by
  rcases Int.lt_or_le 0 (aH p1 f)with h1|h1
  ·exact h1
  ·have:aH p1 f=0:=by omega
   have:=ar.1 this;omega
 -- the machine
 unfold Rf.turn at o;simp only[b.args,List.getElem?_cons_zero,Option.bind_some]at o;rw[if_pos p]at o;obtain⟨d,l,Y⟩:=Option.bind_eq_some_iff.1 o;have E:=(Ch Y).1;rw[List.set_set]at E;rw[E1,E2,Pg.aNF hg]at l
 have hA:eJ (aH p1 f) (aK p1 f)=d.1/\eK (aH p1 f) (aK p1 f)=d.2:=by
  unfold eJ eK;rw[l];exact⟨rfl,rfl⟩
 obtain⟨l1,l2⟩:=aJs U
 have M:Rf.dW 6100 (aH p1 f,aK p1 f):=by
  have hb:=b.b1
  have k:∀{z y:Int},z.natAbs<=(dd*y).natAbs->(dd*y).natAbs<2^6100->z.natAbs<2^6100:=fun h1 h2=>Nat.lt_of_le_of_lt h1 h2
  rw[b.c2]at hb;exact⟨k (Nat.le_trans l1 (Pg.Hn b.d0 _)) hb.1,k (Nat.le_trans l2 (Pg.Hn b.d0 _)) hb.2⟩
 obtain⟨A,B,T,_,bc,bA,bB⟩:=Rf.Ny hT O M.1 M.2;have P:d=(A,B):=Option.some.inj (l.symm.trans T)
 have bA:Nat.lt d.1.natAbs (2^12300):=by rw[P];exact bA
 have bB:Nat.lt d.2.natAbs (2^3100):=by rw[P];exact bB
 have H:(Rf.near (aH p1 f) (aK p1 f) 20000 1).isSome=true:=by rw[l];rfl
 clear T;generalize Rf.near (aH p1 f) (aK p1 f) 20000 1=NR at l;obtain⟨av,aa⟩:=Zr (h.still hI c1) hI b.rM b.En;rw[p];refine Gx (kd:=10) ⟨av,aa⟩ hh b.bits (aWN p1 f) (fun r st=>r=.val (.one (.ptr 24 0))/\cF st 24 [0,0,eK (aH p1 f) (aK p1 f),0,eJ (aH p1 f) (aK p1 f),eK (aH p1 f) (aK p1 f),0,eJ (aH p1 f) (aK p1 f)] (.lit aB) (.ptr 2 0) (.lit aB) (.ptr 22 0)/\kE st 22 10 (.ptr 2 0) (.ptr 2 0) [0,0,eK (aH p1 f) (aK p1 f),0,eJ (aH p1 f) (aK p1 f),eK (aH p1 f) (aK p1 f),0,eJ (aH p1 f) (aK p1 f)]/\clean st=true) ⟨bL U,bL ⟨hT,O,H⟩,rfl,aUv p1 f,aUu p1 f,aUw p1 f⟩ ?_;rintro r st φ v w2⟨rfl,S,R,ag⟩ hrel L;obtain⟨m,hm⟩:=gI L S.look rfl rfl;obtain⟨nb,W⟩:=gI L R.look rfl rfl;have I:φ 2=some (at1 a,0):=L.base 2 (at1 a,0) rfl;have hv:v=aA m:=cQ (ν:=st.nums) (w:=w2) hm v hrel;obtain⟨ys,k1,k2,k3,k4,k5⟩:=S.at L hm cN (cQ I) cN (cQ W);obtain⟨au,j1,j2,j3⟩:=R.at L W (cQ I) (cQ I);have q:=RepF.below L ag;refine⟨m,ys,by rw[hv],Chg.eH q,k1,k2,k3,k4,fun w3 c3 h3=>?_⟩;rw[hA.1,hA.2]at k5 j3;have D:=k5.copy k2 h3 c3.on;have ak:Chg w w3 [at1 i]:=((c1.bU (by simp)).trans ((Chg.eH q).bU (by simp))).trans c3;have a0:at1 i<w1.heap.size:=Nat.lt_of_lt_of_le (by obtain⟨cs,al⟩:=Kq h J;exact gU al) c1.on.size
 have X:nb ∉ [at1 i]:=by simp;omega
 have C:=c3.at j2 X
 have F:(s.nodes++([]:List Nd)).set i {n with read:=[0],aR:=false,t:=[(0,0),(d.2,0),(d.1,d.2),(0,d.1)],nest:=true}=ad:=by rw[List.append_nil,E,b.args]
 have am:Pg.Go s.nodes ad:=by rw[E];exact yE J rfl rfl rfl
 obtain⟨xa,g1,_,g3,_⟩:=am.at' a x b.rM;have ap:=g3 0 _ (h.nd a x b.rM).hc.fst;have u:Pg.eL [(0,0),(d.2,0),(d.1,d.2),(0,d.1)] (cH [0,0,d.2,0,d.1,d.2,0,d.1]):=.Du (e:=1) (by decide) (Pg.gJ _).symm (Pg.gJ _).symm (Pg.gJ _).symm (Pg.gJ _).symm
 have aj:∀z∈[0,0,d.2,0,d.1,d.2,0,d.1],Bits 1 z:=by
  have u1:Bits 1 d.1:=wX (N:=12300) (by decide) bA;have u2:Bits 1 d.2:=wX (N:=3100) (by decide) bB;have u0:Bits 1 0:=wX (N:=1) (by decide) (by decide);intro z hz
  have aq:z=0\/z=d.1\/z=d.2:=by simp at hz;omega
  rcases aq with rfl|rfl|rfl<;>assumption
 refine Nn h hI J (n':={n with read:=[0],aR:=false,t:=[(0,0),(d.2,0),(d.1,d.2),(0,d.1)],nest:=true}) (new:=[]) F.symm rfl rfl rfl ak (fun _ _=>rfl) (fun _ _=>rfl) ?_ (fun j mm hj=>by simp at hj);refine Gw (a:=a) D rfl b.pos rfl rfl b.args rfl b.out b.told b.dP rfl g1 ap ⟨_,C⟩ ?_ u (h.nd i n J).own (h.nd i n J).lo;exact⟨au,[0,0,d.2,0,d.1,d.2,0,d.1],_,_,by rw[show aI n.op=10 by rw[p];rfl];exact C,nM c3.on j3,rfl,aj,fun _=>⟨a,by simp only;rw[b.args];rfl,rfl,rfl,u⟩,fun e=>absurd p e⟩
structure LfA (W:Nat) (w2:World) (kd:Int) (xk m nst ra nb pb:Nat) (fur:Value) (xs:List Value):Prop where
 n0:W<=nst
 nd:NodeAt w2 nst (kW kd 0) false 0 0 0 0 0 (aA xk) aB aJ aB (aA nb)
 b0:W<=nb
 cD:w2.heap[nb]?=some (.cells (.int .i64 kd::aA xk::fur::xs).toArray 206 (0,0))
 hold:bD true w2 [0,0,0,0,0,0,0,0] xs
 ln:kd=12->fur=aA xk
 sq:kd≠12->fur=aA pb/\W<=pb/\pb≠nst/\(kd=11->pb≠ra)/\NodeAt w2 pb [1,0,0,0,0,0,0,1] false 0 0 0 0 0 (aA xk) (aA xk) aJ aB aB
 top:kd≠11->NodeAt w2 m [1,0,0,1,0,0,0,0] false 0 0 0 0 0 aB (aA nst) aJ aB aB
 ex:kd=11->W<=ra/\ra≠nst/\NodeAt w2 ra [1,-1,1,1,0,0,0,0] false 0 0 0 0 0 aB (aA nst) aJ aB aB/\NodeAt w2 m [1,0,0,1,0,0,0,0] false 0 0 0 0 0 aB (aA ra) aJ aB aB
abbrev Told (w1:World)(e:Ending)(b:World)(K:Nat->Prop):Prop:=∃m,∃a:List Value,e=.returned (aA m)/\Chg w1 b []/\w1.heap.size<=m/\b.heap[m]?=some (.cells a.toArray 98 (0,0))/\a.length=27/\(∀y∈a,One y)/\K m
section
variable {w1:World} {xk:Nat} {p q:Int} {xs:List Value}
theorem aSY (E:∃l:List Value,w1.heap[xk]?=some (.cells (.bool false::l).toArray 98 (0,0)))(D:bD true w1 [p,q] xs)(B:∀z∈[p,q],Bits 1 z)(C:0<aV p q)(F:aH p q=0):Calls prog 175 #[.int .i64 12,aA xk,.agg xs.toArray] w1 fun e f=>Told w1 e f fun m=>∃nst ra j pb h xs,LfA w1.heap.size f 12 xk m nst ra j pb h xs:=by
 refine Gx (kd:=12) E D B (aVB p q) (fun r st=>r=.val (.one (.ptr 9 0))/\cF st 9 [1,0,0,1,0,0,0,0] (.lit aB) (.lit aB) (.ptr 8 0) (.lit aB)/\cF st 8 (kW 12 0) (.lit aB) (.ptr 2 0) (.lit aB) (.ptr 6 0)/\kE st 6 12 (.ptr 2 0) (.ptr 2 0) [0,0,0,0,0,0,0,0]/\clean st=true) ⟨bL C,fun _=>⟨fun e=>(by cases e),fun _=>⟨bL (by decide),bL (by decide),rfl,aVU p q,aVT p q,aVS p q,aTW p q⟩⟩,fun e=>absurd (show Nm.cmp (aH p q) 0=0 from Nm.jA F) (of_decide_eq_false e)⟩ ?_;rintro r st φ v f⟨rfl,x,u,o,g⟩ hrel a;obtain⟨m,y⟩:=gI a x.look rfl rfl;obtain⟨nst,A⟩:=gI a u.look rfl rfl;obtain⟨j,d⟩:=gI a o.look rfl rfl;have b:φ 2=some (xk,0):=a.base 2 (xk,0) rfl;have hv:v=aA m:=cQ (ν:=st.nums) (w:=f) y v hrel;obtain⟨l,k1,N,O,P,R⟩:=x.at a y cN cN (cQ A) cN;obtain⟨_,H,_,_,_,I⟩:=u.at a A cN (cQ b) cN (cQ d);obtain⟨k,J,L,M⟩:=o.at a d (cQ b) (cQ b);exact⟨m,l,by rw[hv],Chg.eH (RepF.below a g),k1,N,O,P,nst,0,j,0,_,k,H,I,J,L,M,fun _=>rfl,fun e=>absurd rfl e,fun _=>R,fun e=>by cases e⟩
theorem aSZ (H:∃y:List Value,w1.heap[xk]?=some (.cells (.bool false::y).toArray 98 (0,0)))(F:bD true w1 [p,q] xs)(D:∀z∈[p,q],Bits 1 z)(E:0<aV p q)(I:aH p q=0):Calls prog 175 #[.int .i64 13,aA xk,.agg xs.toArray] w1 fun e g=>Told w1 e g fun m=>∃nst ra u pb l xs,LfA w1.heap.size g 13 xk m nst ra u pb l xs:=by
 refine Gx (kd:=13) H F D (aVC p q) (fun r st=>r=.val (.one (.ptr 32 0))/\cF st 32 [1,0,0,1,0,0,0,0] (.lit aB) (.lit aB) (.ptr 31 0) (.lit aB)/\cF st 31 (kW 13 0) (.lit aB) (.ptr 2 0) (.lit aB) (.ptr 6 0)/\cF st 28 [1,0,0,0,0,0,0,1] (.lit aB) (.ptr 2 0) (.ptr 2 0) (.lit aB)/\kE st 6 13 (.ptr 2 0) (.ptr 28 0) [0,0,0,0,0,0,0,0]/\clean st=true) ⟨bL E,fun _=>⟨fun _=>⟨bL (by decide),bL (by decide),rfl,aTZ p q,aTY p q,aTX p q,aVV p q,aT0 p q⟩,fun e=>(by cases e)⟩,fun e=>absurd (show Nm.cmp (aH p q) 0=0 from Nm.jA I) (of_decide_eq_false e)⟩ ?_;rintro r st φ v g⟨rfl,B,h,k,A,j⟩ hrel a;obtain⟨m,C⟩:=gI a B.look rfl rfl;obtain⟨nst,o⟩:=gI a h.look rfl rfl;obtain⟨u,f⟩:=gI a A.look rfl rfl;obtain⟨pb,d⟩:=gI a k.look rfl rfl;have b:φ 2=some (xk,0):=a.base 2 (xk,0) rfl;have hv:v=aA m:=cQ (ν:=st.nums) (w:=g) C v hrel;obtain⟨y,k1,P,R,S,T⟩:=B.at a C cN cN (cQ o) cN;obtain⟨_,J,_,_,_,L⟩:=h.at a o cN (cQ b) cN (cQ f);obtain⟨_,U,_,_,_,W⟩:=k.at a d cN (cQ b) (cQ b) cN;obtain⟨x,M,N,O⟩:=A.at a f (cQ b) (cQ d);exact⟨m,y,by rw[hv],Chg.eH (RepF.below a j),k1,P,R,S,nst,0,u,pb,_,x,J,L,M,N,O,fun e=>(by cases e),fun _=>⟨rfl,U,lC a k.look rfl h.look d o (by decide),fun e=>(by cases e),W⟩,fun _=>T,fun e=>by cases e⟩
theorem aSX (J:∃B:List Value,w1.heap[xk]?=some (.cells (.bool false::B).toArray 98 (0,0)))(I:bD true w1 [p,q] xs)(F:∀z∈[p,q],Bits 1 z)(H:0<aV p q)(L:aH p q=0):Calls prog 175 #[.int .i64 11,aA xk,.agg xs.toArray] w1 fun e o=>Told w1 e o fun m=>∃nst ra y pb x xs,LfA w1.heap.size o 11 xk m nst ra y pb x xs:=by
 refine Gx (kd:=11) J I F (aVA p q) (fun r st=>r=.val (.one (.ptr 33 0))/\cF st 33 [1,0,0,1,0,0,0,0] (.lit aB) (.lit aB) (.ptr 32 0) (.lit aB)/\cF st 32 [1,-1,1,1,0,0,0,0] (.lit aB) (.lit aB) (.ptr 31 0) (.lit aB)/\cF st 31 (kW 11 0) (.lit aB) (.ptr 2 0) (.lit aB) (.ptr 6 0)/\cF st 28 [1,0,0,0,0,0,0,1] (.lit aB) (.ptr 2 0) (.ptr 2 0) (.lit aB)/\kE st 6 11 (.ptr 2 0) (.ptr 28 0) [0,0,0,0,0,0,0,0]/\clean st=true) ⟨bL H,fun _=>⟨fun _=>⟨bL (by decide),bL (by decide),rfl,aTU p q,aTT p q,aTS p q,aTR p q,aVR p q,aTV p q⟩,fun e=>(by cases e)⟩,fun e=>absurd (show Nm.cmp (aH p q) 0=0 from Nm.jA L) (of_decide_eq_false e)⟩ ?_;rintro r st φ v o⟨rfl,D,j,h,k,C,u⟩ hrel a;obtain⟨m,E⟩:=gI a D.look rfl rfl;obtain⟨nst,l⟩:=gI a h.look rfl rfl;obtain⟨y,g⟩:=gI a C.look rfl rfl;obtain⟨pb,b⟩:=gI a k.look rfl rfl;obtain⟨ra,d⟩:=gI a j.look rfl rfl;have f:φ 2=some (xk,0):=a.base 2 (xk,0) rfl;have hv:v=aA m:=cQ (ν:=st.nums) (w:=o) E v hrel;obtain⟨B,k1,S,T,U,W⟩:=D.at a E cN cN (cQ d) cN;obtain⟨_,M,_,_,_,N⟩:=h.at a l cN (cQ f) cN (cQ g);obtain⟨_,s1,_,_,_,s5⟩:=k.at a b cN (cQ f) (cQ f) cN;obtain⟨A,O,P,R⟩:=C.at a g (cQ f) (cQ b);obtain⟨_,X,_,_,_,Y⟩:=j.at a d cN cN (cQ l) cN;exact⟨m,B,by rw[hv],Chg.eH (RepF.below a u),k1,S,T,U,nst,ra,y,pb,_,A,M,N,O,P,R,fun e=>(by cases e),fun _=>⟨rfl,s1,lC a k.look rfl h.look b l (by decide),fun _=>lC a k.look rfl j.look b d (by decide),s5⟩,fun e=>absurd rfl e,fun _=>⟨X,lC a j.look rfl h.look d l (by decide),Y,W⟩⟩
end
section
variable {w w3:World} {b0 fb:Nat} {own own':Nat->Option Own} {at1 at2:Nat->Nat} {i:Nat} {n n':Nd} {s:Rf.St} {rho:Nat->Nat} {c:Nat}
theorem aF6 {g:List Nd}{N a:Nat}{xa:Nd}{s:List Int}{u v:Rf.V}{b:Nd}(d:NodeAt w (at2 N) s false 0 0 0 0 0 aB (aA (at2 a)) aJ aB aB)(h8:s.length=8)(f1:b.pos=true)(f2:b.aR=false)(f3:b.t=[u,v])(z:b.args=[a])(A:b.read=[0])(j:b.out=[])(B:b.told=Rf.one)(k:b.dP=[Rf.one])(I:b.nest=false)(y:g[a]?=some xa)(x:xa.dP[0]?=some Rf.one)(f:Pg.eL [u,v] (cH s))(o:own' (at2 N)=some (.nd N))(l:b0<=at2 N):cL w b0 own' at2 g N b:=by
 obtain⟨J,P,L,R,M,S,O,T,rfl⟩:=eight h8;refine⟨⟨J,P,L,R,M,S,O,T,0,0,aJ,aB,aB,⟨?_,Or.inl ⟨rfl,j⟩,fun e=>?_,fun _=>rfl,fun _=>rfl,fun e=>?_⟩,[u,v],Pg.Xa f3 (by rw[z];rfl) (by rw[A];rfl) y x B,f⟩,⟨by rw[k,j];rfl,by rw[k];rfl,by rw[k,j,B];rfl,fun r U W h=>by rw[j]at h;simp at h⟩,o,l,fun e=>by rw[f2]at e;cases e⟩
 ·have C:lArg b=none:=by unfold lArg;rw[f3];rfl
  have D:rArg b=some a:=by unfold rArg;rw[f3,z];rfl
  have E:gX b=0:=by unfold gX;rw[f3];rfl
  have F:fY b=0:=by unfold fY;rw[f3,A];rfl
  have H:fL b=0:=by unfold fL;rw[f2];rfl
  rw[C,D,E,F,H,f1];exact d
 ·rw[f3]at e;cases e
 ·rw[I]at e;cases e
theorem aFu {g:List Nd}{N a b:Nat}{xa xb:Nd}{s:List Int}{u v y z:Rf.V}{d:Nd}(f:NodeAt w (at2 N) s false 0 0 0 0 0 (aA (at2 a)) (aA (at2 b)) aJ aB aB)(h8:s.length=8)(f1:d.pos=true)(f2:d.aR=false)(f3:d.t=[u,v,y,z])(o:d.args=[a,b])(x:d.read=[0,0])(l:d.out=[])(H:d.told=Rf.one)(A:d.dP=[Rf.one])(P:d.nest=false)(E:g[a]?=some xa)(D:xa.dP[0]?=some Rf.one)(F:g[b]?=some xb)(j:xb.dP[0]?=some Rf.one)(k:Pg.eL [u,v,y,z] (cH s))(C:own' (at2 N)=some (.nd N))(B:b0<=at2 N):cL w b0 own' at2 g N d:=by
 obtain⟨R,W,S,X,T,Y,U,s3,rfl⟩:=eight h8;refine⟨⟨R,W,S,X,T,Y,U,s3,0,0,aJ,aB,aB,⟨?_,Or.inl ⟨rfl,l⟩,fun e=>?_,fun _=>rfl,fun _=>rfl,fun e=>?_⟩,[u,v,y,z],Pg.Xg f3 o x E D F j H,k⟩,⟨by rw[A,l];rfl,by rw[A];rfl,by rw[A,l,H];rfl,fun r cc mm h=>by rw[l]at h;simp at h⟩,C,B,fun e=>by rw[f2]at e;cases e⟩
 ·have I:lArg d=some a:=by unfold lArg;rw[f3,o];rfl
  have J:rArg d=some b:=by unfold rArg;rw[f3,o];rfl
  have L:gX d=0:=by unfold gX;rw[f3,x];rfl
  have M:fY d=0:=by unfold fY;rw[f3,x];rfl
  have O:fL d=0:=by unfold fL;rw[f2];rfl
  rw[I,J,L,M,O,f1];exact f
 ·rw[f3]at e;cases e
 ·rw[P]at e;cases e
end
def mF (b:Int)(pb N len:Nat)(a:List Nat)(own:Nat->Option Own):Nat->Option Own:=if b=12 then oE len a own else oD pb (.pd N) (oE len a own)
variable {v:Int}{pb:Nat}
theorem Fj {N len W:Nat}{own:Nat->Option Own}(g:k<W)(a:∀b∈d,W<=b)(f:v≠12->W<=pb):mF v pb N len d own k=own k:=by
 unfold mF
 have e:oE len d own k=own k:=aNY fun h=>by have:=a k h;omega
 split
 ·exact e
 ·rename_i h;have:=f h;rw[Dc (by omega)];exact e
theorem Hl {len j b:Nat}{own:Nat->Option Own}(f:d.Nodup)(a:d[j]?=some b)(g:v≠12->pb≠b):mF v pb k len d own b=some (.nd (len+j)):=by
 unfold mF;split
 ·exact Od f a
 ·rename_i h;rw[Dc (fun e=>g h e.symm)];exact Od f a
theorem Ul {len:Nat}{own:Nat->Option Own}(h:v≠12):mF v pb k len d own pb=some (.pd k):=by
 unfold mF;rw[if_neg h];exact Uk
theorem aW:∀z∈([0,0,0,0,0,0,0,0]:List Int),Bits 1 z:=by
 intro z a;simp at a;subst a;exact wX (N:=1) (by decide) (by decide)
theorem Uj {b0 p nb:Nat}{H:Nat->Option Own}{at2:Nat->Nat}{z:Value}(b:op≠.sqrt)(a:n.heap[nb]?=some (.cells (.int .i64 (aI op)::aA (at2 p)::z::i).toArray 206 (0,0)))(hold:bD true n [0,0,0,0,0,0,0,0] i)(d:op=.fK->z=aA (at2 p))(f:op≠.fK->z=aA pb/\H pb=some (.pd k)/\b0<=pb/\NodeAt n pb [1,0,0,0,0,0,0,1] false 0 0 0 0 0 (aA (at2 p)) (aA (at2 p)) aJ aB aB):iZ n b0 H at2 k (Rf.eP op 0 p p none) nb 0:=
 ⟨i,_,_,z,a,hold,rfl,aW,fun e=>absurd e b,fun _=>⟨rfl,p,rfl,rfl,d,fun g=>⟨fun s e=>(by cases e),fun _=>⟨pb,f g⟩⟩⟩⟩
theorem Me:Pg.eL [((1,0):Rf.V),(0,1)] (cH [1,0,0,1,0,0,0,0]):=.Dt (e:=1) (by decide) (Pg.gJ _).symm (Pg.gJ _).symm (Pg.gJ _).symm (Pg.gJ _).symm
theorem Sh:Pg.eL [((1,-1):Rf.V),(1,1)] (cH [1,-1,1,1,0,0,0,0]):=.Dt (e:=1) (by decide) (Pg.gJ _).symm (Pg.gJ _).symm (Pg.gJ _).symm (Pg.gJ _).symm
theorem Sr (a:Rf.fn op)(b:op≠.sqrt)(A:Nat):Pg.eL (Rf.eP op 0 A A none).t (cH (kW (aI op) 0)):=by
 have:=(Uc a b (k:=0) (by omega)).1;rw[show((0:Nat):Int)=0 from rfl]at this;rw[this];exact .Du (e:=1) (by decide) (Pg.gJ _).symm (Pg.gJ _).symm (Pg.gJ _).symm (Pg.gJ _).symm
theorem Pc (a:Rf.fn op):aI op=12↔op=.fK:=by
 rcases a with rfl|rfl|rfl|rfl<;>simp[aI]
theorem Ld (a:Rf.fn op):aI op=11↔op=.exp:=by
 rcases a with rfl|rfl|rfl|rfl<;>simp[aI]
theorem aYU {w:Nat}(g:Rf.fn op)(h:op≠.sqrt)(j:∃r:List Value,n.heap[w]?=some (.cells (.bool false::r).toArray 98 (0,0)))(f:bD true n [p,q] i)(b:∀z∈[p,q],Bits 1 z)(d:0<aV p q)(k:aH p q=0):Calls prog 175 #[.int .i64 (aI op),aA w,.agg i.toArray] n fun e l=>Told n e l fun m=>∃nst ra o pb a i,LfA n.heap.size l (aI op) w m nst ra o pb a i:=by
 rcases g with rfl|rfl|rfl|rfl
 ·exact absurd rfl h
 ·exact aSX j f b d k
 ·exact aSY j f b d k
 ·exact aSZ j f b d k
theorem aVE {w1:World}{b0 fb:Nat}{own:Nat->Option Own}{at1:Nat->Nat}{s:Rf.St}{av:Nat->Nat}{c i:Nat}{y:Nd}{g:List Nd}{a:Nat}{x:Nd}{e1 e2:Rf.V}{p0 q0 p1 q1 C p3 q3 pl:Int}{f nv:Value}{dd:Int}{xs:List Value}(N:y.op≠.sqrt)(h:Net n b0 own at1 fb s)(b3:b0<=n.heap.size)(hI:Inv s.nodes av c)(M:s.nodes[i]?=some y)(q:Probe n b0 own at1 s av i y a x e1 e2 p0 q0 p1 q1 o C p3 q3 mt pl gv f nv dd)(hz:e2.1=0)(p:Rf.turn (s.nodes.set i {y with read:=[0],aR:=false}) i {y with read:=[0],aR:=false} e2=some g)(c1:Chg n w1 [])(hh:bD true w1 [p1,q1] xs):
  Calls prog 175 #[.int .i64 (aI y.op),aA (at1 a),.agg xs.toArray] w1 fun e w2=>∃m,∃ys:List Value,e=.returned (aA m)/\Chg w1 w2 []/\w1.heap.size<=m/\w2.heap[m]?=some (.cells ys.toArray 98 (0,0))/\ys.length=27/\(∀l∈ys,One l)/\∀w3,Chg w2 w3 [at1 i]->w3.heap[at1 i]?=some (.cells ys.toArray 98 (0,0))->kK n b0 own at1 fb s.nodes.length true ⟨g,s.clock⟩ w3:=by
 have hi:=(List.getElem?_eq_some_iff.1 M).1;have be:=(List.getElem?_eq_some_iff.1 q.rM).1;obtain⟨d,hg,E1,E2,bc,t0,bu,bj,b8⟩:=aNA q.lo q.We q.d0 q.c2;have hT:aH p1 q1=0:=bj.2 hz;have E:=q.fn;obtain⟨bp,aq⟩:=Zr (h.still hI c1) hI q.rM q.En;refine(aYU E N ⟨bp,aq⟩ hh q.bits bc hT).mono ?_;rintro e w2⟨m,ys,rfl,c2,k1,k2,k3,k4,nst,ra,nb,pb,b1,cn,L⟩;refine⟨m,ys,rfl,c2,k1,k2,k3,k4,fun w3 c3 h3=>?_⟩;have b7:n.heap.size<=w1.heap.size:=c1.on.size
 have S:at1 i<n.heap.size:=by obtain⟨cs,a9⟩:=Kq h M;exact gU a9
 have al:Chg n w3 [at1 i]:=((c1.bU (by simp)).trans (c2.bU (by simp))).trans c3
 have up:∀{k:Nat} {zs:List Int} {lp rp f nv:Value},w1.heap.size<=k->NodeAt w2 k zs false 0 0 0 0 0 lp rp aJ f nv->NodeAt w3 k zs false 0 0 0 0 0 lp rp aJ f nv:=fun hk M=>M.aT c3.on (c3.low _ M.lt (by simp;omega))
 have T:=up L.n0 L.nd;have D:=c3.at L.cD (by have:=L.b0;simp;omega);have P:=nM c3.on L.hold;have A:∀{ak:List Nat},kA s.nodes.length ak at1 a=at1 a:=uZ be
 have bh:aI y.op≠12->y.op≠.fK:=fun h e=>h ((Pc E).2 e)
 -- the machine
 unfold Rf.turn at p;simp only[q.args,List.getElem?_cons_zero,Option.bind_some]at p;rw[if_neg N,if_neg (by omega)]at p;simp only[Option.bind_some]at p;obtain⟨cc,I,p⟩:=Option.bind_eq_some_iff.1 p;unfold Rf.nest at I;rw[if_neg (by omega)]at I;obtain⟨Jg,ab,ba⟩:=Option.map_eq_some_iff.1 I;have ao:=wY ab;subst ao;subst ba;simp only at p
 by_cases H:y.op=.exp
 ·rw[if_pos H]at p;obtain⟨rb,bg,p⟩:=Option.bind_eq_some_iff.1 p;obtain⟨cd,bf,bb⟩:=Option.map_eq_some_iff.1 bg;have am:=wY bf;subst am;subst bb;rw[if_pos hz]at p;have r:=(Ch p).1;simp only[List.length_set,List.length_append,List.length_singleton]at r;rw[List.append_assoc,Ur hi]at r;obtain⟨r1,r2,r3,r4⟩:=L.ex ((Ld E).2 H)
  have O:aI y.op≠12:=fun e=>by rw[H]at e;cases e
  obtain⟨ae,af,ar,bn,ag⟩:=L.sq O;have au:=bn ((Ld E).2 H)
  have z:[nst,ra].Nodup:=by simp;exact fun e=>r2 e.symm
  have B:∀b∈[nst,ra],n.heap.size<=b:=by
   intro b hb;simp at hb;have:=L.n0
   rcases hb with rfl|rfl<;>omega
  have aa:Pg.Go s.nodes g:=by
   rw[r];exact(Pg.Go.more _ _).trans (yE (n:=y) (by rw[List.getElem?_append_left hi];exact M) rfl rfl rfl)
  obtain⟨xa,g1,_,g3,_⟩:=aa.at' a x q.rM;have ad:=g3 0 _ (h.nd a x q.rM).hc.fst
  have Y:g[s.nodes.length]?=some (Rf.eP y.op 0 a a none):=by
   rw[r,List.getElem?_set_ne (by omega),List.getElem?_append_right (Nat.le_refl _)];simp
  have a7:g[s.nodes.length+1]?=some (Rf.raised s.nodes.length):=by
   rw[r,List.getElem?_set_ne (by omega),List.getElem?_append_right (by omega)];simp
  have J:mF (aI y.op) pb s.nodes.length s.nodes.length [nst,ra] own (at1 i)=some (.nd i):=by
   rw[Fj (W:=n.heap.size) S B (fun _=>by omega)];exact(h.nd i y M).own
  have R:kA s.nodes.length [nst,ra] at1 s.nodes.length=nst:=Cg (j:=0) rfl;have A1:kA s.nodes.length [nst,ra] at1 (s.nodes.length+1)=ra:=Cg (j:=1) rfl;have X:kA s.nodes.length [nst,ra] at1 i=at1 i:=uZ hi;refine Nn h hI M (own':=mF (aI y.op) pb s.nodes.length s.nodes.length [nst,ra] own) (at2:=kA s.nodes.length [nst,ra] at1) r rfl rfl rfl al (fun a ha=>uZ ha) (fun k hk=>Fj hk B (fun _=>by omega)) ?_ ?_
  ·refine aF6 (a:=s.nodes.length+1) (xa:=Rf.raised s.nodes.length) (u:=(1,0)) (v:=(0,1)) ?_ rfl q.pos rfl q.t rfl rfl q.out q.told q.dP q.nest a7 rfl Me (by rw[X];exact J) (by rw[X];exact(h.nd i y M).lo);rw[X,A1];exact r4.copy k2 h3 c3.on
  ·intro j mm F
   match j,F with
   |0,F=>
    simp at F;subst F;refine Gw (a:=a) (nb:=nb) ?_ rfl rfl rfl rfl rfl rfl rfl rfl rfl rfl g1 ad ⟨_,D⟩ (Uj N (by rw[A];exact D) P (fun e=>by rw[H]at e;cases e) (fun _=>⟨ae,Ul O,by omega,by rw[A];exact up af ag⟩)) (Sr E N a) ?_ ?_
    ·rw[Nat.add_zero,R,A];exact T
    ·rw[Nat.add_zero,R];exact Hl (j:=0) z rfl (fun _=>ar)
    ·rw[Nat.add_zero,R];have:=L.n0;omega
   |1,F=>
    simp at F;subst F;refine Mm (a:=s.nodes.length) ?_ rfl Y rfl Sh ?_ ?_
    ·rw[A1,R];exact up r1 r3
    ·rw[A1];exact Hl (j:=1) z rfl (fun _=>au)
    ·rw[A1];omega
   |j+2,F=>simp at F
 ·rw[if_neg H]at p;simp only[Option.bind_some]at p;rw[if_pos hz]at p;have r:=(Ch p).1;simp only[List.length_set]at r;rw[Ur hi]at r;have ap:=L.top (fun e=>H ((Ld E).1 e))
  have z:[nst].Nodup:=by simp
  have B:∀b∈[nst],n.heap.size<=b:=by
   intro b hb;simp at hb;have:=L.n0;omega
  have U:aI y.op≠12->n.heap.size<=pb:=fun h=>by have:=(L.sq h).2.1;omega
  have aa:Pg.Go s.nodes g:=by
   rw[r];exact(Pg.Go.more _ _).trans (yE (n:=y) (by rw[List.getElem?_append_left hi];exact M) rfl rfl rfl)
  obtain⟨xa,g1,_,g3,_⟩:=aa.at' a x q.rM;have ad:=g3 0 _ (h.nd a x q.rM).hc.fst
  have Y:g[s.nodes.length]?=some (Rf.eP y.op 0 a a none):=by
   rw[r,List.getElem?_set_ne (by omega),List.getElem?_append_right (Nat.le_refl _)];simp
  have J:mF (aI y.op) pb s.nodes.length s.nodes.length [nst] own (at1 i)=some (.nd i):=by
   rw[Fj (W:=n.heap.size) S B U];exact(h.nd i y M).own
  have R:kA s.nodes.length [nst] at1 s.nodes.length=nst:=Cg (j:=0) rfl;have X:kA s.nodes.length [nst] at1 i=at1 i:=uZ hi;refine Nn h hI M (own':=mF (aI y.op) pb s.nodes.length s.nodes.length [nst] own) (at2:=kA s.nodes.length [nst] at1) r rfl rfl rfl al (fun a ha=>uZ ha) (fun k hk=>Fj hk B U) ?_ ?_
  ·refine aF6 (a:=s.nodes.length) (xa:=Rf.eP y.op 0 a a none) (u:=(1,0)) (v:=(0,1)) ?_ rfl q.pos rfl q.t rfl rfl q.out q.told q.dP q.nest Y rfl Me (by rw[X];exact J) (by rw[X];exact(h.nd i y M).lo);rw[X,R];exact ap.copy k2 h3 c3.on
  ·intro j mm F
   match j,F with
   |0,F=>
    simp at F;subst F;refine Gw (a:=a) (nb:=nb) ?_ rfl rfl rfl rfl rfl rfl rfl rfl rfl rfl g1 ad ⟨_,D⟩ (Uj (pb:=pb) N (by rw[A];exact D) P (fun e=>by rw[A];exact L.ln ((Pc E).2 e)) (fun hl=>?_)) (Sr E N a) ?_ ?_
    ·rw[Nat.add_zero,R,A];exact T
    ·have O:aI y.op≠12:=fun e=>hl ((Pc E).1 e)
     obtain⟨ae,af,ar,_,ag⟩:=L.sq O;exact⟨ae,Ul O,by omega,by rw[A];exact up af ag⟩
    ·rw[Nat.add_zero,R];exact Hl (j:=0) z rfl (fun h=>(L.sq h).2.2.1)
    ·rw[Nat.add_zero,R];have:=L.n0;omega
   |j+1,F=>simp at F
end Ab
end Go.Proofs.YtkmojpfpfoaloaaGreatDoor
