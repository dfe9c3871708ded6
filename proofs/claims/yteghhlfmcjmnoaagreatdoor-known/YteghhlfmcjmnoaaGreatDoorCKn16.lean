import Derived.Test.YteghhlfmcjmnoaaGreatDoorCKn15
import Derived.Test.YteghhlfmcjmnoaaGreatDoorCKn05
set_option linter.unusedSimpArgs false
set_option linter.unusedVariables false
set_option maxRecDepth 100000
set_option maxHeartbeats 2000000
namespace Go.Proofs.YteghhlfmcjmnoaaGreatDoor
open Go.RowKit
namespace Ab
open Rf (Nd Inv NInv)
section
variable {w w1:World} {b0 fb m nb:Nat} {own:Nat->Option Own} {at1:Nat->Nat} {i:Nat} {n n1:Nd} {s:Rf.St} {rho:Nat->Nat} {c:Nat}
theorem aP4 {k:Nat}(h:k<=3000):IntKind.i64.wrap ((k:Int)+1)=((k+1:Nat):Int):=by
 rw [aER (by omega) (by omega)];simp
theorem aO9 (h:Net w b0 own at1 fb s)(N:b0<=w.heap.size)(be:c<=3000)(hI:Inv s.nodes rho c)(hn:s.nodes[i]?=some n){a0 r0:Nat}{v u x y:Rf.V}(ht:n.t=[v,u,x,y])(W:n.args=[a0])(hr:n.read=[r0])(O:n.nest=true)(ok:Rf.NestOk s.nodes rho c i n a0){d:List Nd×Nat}(C:Rf.deeper s.nodes n=some d)(e1:n1={n with args:=n.args++[d.2],read:=n.read++[0]}){ns1:List Nd}(an:Rf.put d.1 i n1=some ns1){p0 q0 p1 q1 p2 q2 p3 q3 mt pl:Int}{gv cv nv:Value}{l:List Rf.V}{g:Option (Nat×Nat)}{cc nn:Option Nat}(hs:Seen w b0 own at1 s.nodes i n p0 q0 p1 q1 p2 q2 p3 q3 mt pl gv cv nv l g cc nn)
  {xs:List Value} {zs:List Int} {fst fur:Value} (b:Nst w b0 own at1 i n nb pl xs zs fst fur) (H:Chg w w1 [at1 i]) (hm:w.heap.size<=m) (P:Pos2 w1 (at1 i) fb [p0,q0,p1,q1,p2,q2,p3,q3] (!n.pos) (unsZ n) mt (lRd n) (rRd n) pl s.clock (ptrV at1 (lArg n)) (ptrB m) gv cv nv)
  (f:NodeAt w1 m (if kindZ n.op=10 then zs else nsC (kindZ n.op) (IntKind.i64.wrap (pl+1))) false 0 0 0 0 (IntKind.i64.wrap (pl+1)) (if 0<IntKind.i64.wrap (pl+1) then fur else fst) nilP nilS' nilP (ptrB nb)):
  ∃ own' at2,Kept w w1 own own' fb/\Net w1 b0 own' at2 fb ⟨ns1,s.clock⟩/\(∀ a,a<s.nodes.length->at2 a=at1 a)/\at2 d.2=m:=by
 have hN:=hI.at' i n hn;have L:=(aDs an).1
 have ad:nb ∉ [at1 i]:=by
  intro e;simp at e;subst e;obtain ⟨ys,h1,_⟩:=hs.blk.nd.ex;rw [b.blk] at h1;exact absurd (Obj.cells.inj (Option.some.inj h1)).2.1 (by decide)
 have j:=H.at b.blk ad;have D:=aAm H.on b.hold;have I:a0<s.nodes.length:=(hN.arg 0 a0 (by rw [W];rfl)).1;unfold Rf.deeper at C
 by_cases p:n.op=.sqrt
 ·rw [if_pos p,W] at C;simp only [List.getElem?_cons_zero,Option.bind_some] at C;obtain ⟨S,o,F⟩:=Option.map_eq_some_iff.1 C;have q:=aBM o;subst q;subst F;obtain ⟨a,T,B,E,A⟩:=b.root p;rw [W] at T;simp at T;subst T;rw [if_pos (by rw [p];rfl),show (if 0<IntKind.i64.wrap (pl+1) then fur else fst)=ptrB (at1 a0) by split;exact E;exact B] at f;refine wideA h N hI hn ht W hr O e1 L hs H hm P I f b.len rfl rfl ht rfl rfl rfl rfl rfl rfl ⟨_,j⟩ ?_ A;refine ⟨xs,zs,fst,fur,j,D,b.len,b.bits,fun _=>⟨a0,rfl,by rw [aDD I];exact B,by rw [aDD I];exact E,A⟩,fun e=>absurd p e⟩
 ·rw [if_neg p] at C;obtain ⟨au,xx,hx,B,ag,r⟩:=b.fn p;obtain ⟨a3,ck,r1,r2,r3,r4,r5,r6⟩:=ok.ex;obtain ⟨a9,g1,X,g3,g4,g5⟩:=r6 p;rw [hx] at g1;cases g1;have hk:=hN.ku;have ae:=ok.op;obtain ⟨ax,_⟩:=aIm ae p;rw [au,aP4 (by omega),if_neg ax,if_pos (by omega)] at f;obtain ⟨U,_,_⟩:=aGa ae p (k:=n.k+1) (by omega)
  have A:∀ (a x:Nat) (Y:Option Nat),Pg.Cof (Rf.nestNd n.op (n.k+1) a x Y).t (colsZ (nsC (kindZ n.op) ((n.k+1:Nat):Int))):=by
   intro a x Y;rw [U];exact .mk4 (e:=1) (by decide) (Pg.aAu _).symm (Pg.aAu _).symm (Pg.aAu _).symm (Pg.aAu _).symm
  rw [hx,Option.bind_some] at C;unfold Rf.nest at C
  by_cases J:n.op=.ln1p
  ·rw [if_neg (by rw [J];simp)] at C;obtain ⟨S,o,F⟩:=Option.map_eq_some_iff.1 C;have q:=aBM o;subst q;subst F;rw [ag J] at f;refine wideA h N hI hn ht W hr O e1 L hs H hm P X f rfl rfl rfl rfl rfl rfl rfl rfl rfl rfl ⟨_,j⟩ ?_ (A _ _ _);refine ⟨xs,zs,fst,fur,j,D,b.len,b.bits,fun e=>absurd e p,fun _=>⟨rfl,xx,rfl,by rw [aDD X];exact B,fun _=>by rw [aDD X];exact ag J,fun e=>absurd J e⟩⟩
  ·rw [if_pos ⟨by omega,J⟩] at C
   cases hq:n.square with
   | some Y=>
    rw [hq] at C;simp only at C;obtain ⟨S,o,F⟩:=Option.map_eq_some_iff.1 C;have q:=aBM o;subst q;subst F;have af:=(g5 Y hq).1;rw [(r J).1 Y hq] at f;refine wideA h N hI hn ht W hr O e1 L hs H hm P af f rfl rfl rfl rfl rfl rfl rfl rfl rfl rfl ⟨_,j⟩ ?_ (A _ _ _);refine ⟨xs,zs,fst,fur,j,D,b.len,b.bits,fun e=>absurd e p,fun _=>⟨rfl,xx,rfl,by rw [aDD X];exact B,fun e=>absurd e J,fun _=>⟨fun s' e=>?_,fun e=>(by cases e)⟩⟩⟩;cases e;rw [aDD af];exact (r J).1 Y hq
   | none=>
    rw [hq] at C;simp only at C;obtain ⟨nx,ay,C⟩:=Option.bind_eq_some_iff.1 C;obtain ⟨S,o,C⟩:=Option.bind_eq_some_iff.1 C;obtain ⟨a5,M,F⟩:=Option.map_eq_some_iff.1 C;have q:=aBM o;subst q;have R:=aBM M;subst R;subst F;obtain ⟨pb,E,ah,ai,aj⟩:=(r J).2 hq;rw [E] at f
    have ar:nx.pos=true:=by
     obtain ⟨z,z1,z2⟩:=g4;rw [ay] at z1;cases z1;exact z2
    refine wideB h N hI hn ht W hr O ar e1 L hs H hm P X ah ai aj f rfl rfl rfl rfl rfl rfl rfl rfl rfl rfl ⟨_,j⟩ ?_ (A _ _ _);refine ⟨xs,zs,fst,fur,j,D,b.len,b.bits,fun e=>absurd e p,fun _=>⟨rfl,xx,rfl,by rw [aI0 X];exact B,fun e=>absurd e J,fun _=>⟨fun s' e=>?_,fun e=>(by cases e)⟩⟩⟩;cases e;rw [aGZ];exact E
theorem aD1 (h:Net w b0 own at1 fb s){a:Nat}{x:Nd}(d:s.nodes[a]?=some x):∃ cs:List Value,w.heap[at1 a]?=some (.cells cs.toArray 205 (0,0)):=by
 obtain ⟨e,f,g,i,j,k,l,m,n,o,p,q,r,b,_⟩:=(h.nd a x d).ex;obtain ⟨t,c,_⟩:=b.nd.ex;exact ⟨_,c⟩
theorem aJJ {f:Nat}(hS:SymOk f)(W:SettleOk)(h:Net w b0 own at1 fb s)(E:b0<=w.heap.size)(F:s.clock=(c:Int))(m:c<=3000)(L:Inv s.nodes rho c)(M:s.nodes[i]?=some n)(hf:c+rho i+1<=f){a r sd:Nat}(o:n.args[sd]?=some a)(H:n.read[sd]?=some r)(I:(∃ v u,n.t=[v,u]/\sd=0)\/(∃ v u x y,n.t=[v,u,x,y]/\n.args.length=2/\sd=1))(X:n.probe=true->sd=0){x:Rf.St×Option Int}(Y:Rf.sym f s a r=some x){y:Rf.St×Bool}(hy:(match x.2 with | none=>some (x.1,false) | some _=>Rf.after x.1 i sd)=some y):
  Calls Tryz.prog 210 #[ptrB (at1 i),ptrB fb] w fun e w'=>∃ b,e=.returned (.bool b)/\RdR w b0 own at1 fb s.nodes.length y (.returned (.bool b)) w':=by
 have N:=L.at' i n M;obtain ⟨la,ra⟩:=N.arg sd a o;have d:s.nodes[a]?=some s.nodes[a]:=List.getElem?_eq_getElem la;obtain ⟨x0,z,k⟩:=Rf.total f s a r rho c F m L _ d (N.rd sd a r _ o H d) (by omega);rw [Y] at z;cases z
 have p:∀ v,x.2=some v->∃ n',x.1.nodes[a]?=some n'/\n'.out[r]?=some v:=fun v e=>Rf.aGQ f s a r x.1 v (by rw [Y];cases x;simp only at e;rw [e])
 obtain ⟨p0,q0,p1,q1,p2,q2,p3,q3,mt,pl,gv,cv,nv,l,g,cc,nn,P⟩:=h.seen L M
 obtain ⟨A,R⟩:rArg n=some a/\rRd n=r:=by
  rcases I with ⟨v,u,B,rfl⟩ | ⟨v,u,x',y',B,hl,rfl⟩
  ·exact ⟨by unfold rArg;rw [B];exact o,by unfold rRd;rw [B];simp [List.getD_eq_getElem?_getD,H]⟩
  ·exact ⟨by unfold rArg;rw [B];exact o,by unfold rRd;rw [B];simp [List.getD_eq_getElem?_getD,H]⟩
 have q:∀ J,Chg w J []->Calls Tryz.prog 125 #[.agg #[ptrV at1 (rArg n),.int .i64 (rRd n)],ptrB fb] J fun e w2=>∃ U,e=.returned (.int .i64 U)/\RrA w2 (at1 i) fb U fun e w'=>∃ b,e=.returned (.bool b)/\RdR w b0 own at1 fb s.nodes.length y (.returned (.bool b)) w':=by
  intro J c1;rw [A,R];refine (aEk hS h E F m L d (N.rd sd a r _ o H d) (by omega) Y J c1).mono ?_;rintro e w2 ⟨U,rfl,rfl,C⟩;exact ⟨_,rfl,aHG (f:=f) W h E m M o H ra I X hy C k p⟩
 have j:=h.pos2 P
 cases D:n.nest with
 | false=>exact aGF j (P.blk.nst.1 D) q
 | true=>
  obtain ⟨nb,S,T,_⟩:=P.blk.nst.2 D
  have O:ptrV at1 (rArg n)=ptrB (at1 a):=by rw [A];rfl
  exact aGG j S O T (aD1 h d) (aUn h M d (fun e=>by rw [e] at ra;omega)) q
theorem aQ6 {f:Nat}(hS:SymOk f)(ar:SettleOk)(h:Net w b0 own at1 fb s)(W:b0<=w.heap.size)(au:s.clock=(c:Int))(A:c<=3000)(hI:Inv s.nodes rho c)(hn:s.nodes[i]?=some n){a0 r0:Nat}{v u x' y':Rf.V}(X:n.t=[v,u,x',y'])(z:n.args=[a0])(E:n.read=[r0])(Y:n.nest=true)(ax:n.probe=false)(ok:Rf.NestOk s.nodes rho c i n a0){d:List Nd×Nat}(hd:Rf.deeper s.nodes n=some d)(H:n1={n with args:=n.args++[d.2],read:=n.read++[0]}){s1:Rf.St}(aa:Rf.put d.1 i n1=some s1.nodes)(j:s1.clock=(c:Int)){k:Nat->Nat}(F:Inv s1.nodes k c)(B:Rf.Mid s.nodes rho i s1.nodes k)(ab:s1.nodes[i]?=some n1)(hf:c+rho i+1<=f){x:Rf.St×Option Int}(hx:Rf.sym f s1 d.2 0=some x){y:Rf.St×Bool}(hy:(match x.2 with | none=>some (x.1,false) | some _=>Rf.after x.1 i 1)=some y):
  Calls Tryz.prog 210 #[ptrB (at1 i),ptrB fb] w fun e w'=>∃ b,e=.returned (.bool b)/\RdR w b0 own at1 fb s.nodes.length y (.returned (.bool b)) w':=by
 have hN:=hI.at' i n hn;have hi:=(List.getElem?_eq_some_iff.1 hn).1;have af:=F.at' i n1 ab
 have ha:n1.args[1]?=some d.2:=by rw [H,z];rfl
 have hr:n1.read[1]?=some 0:=by rw [H,E];rfl
 obtain ⟨la,ra⟩:=af.arg 1 d.2 ha;have I:s1.nodes[d.2]?=some s1.nodes[d.2]:=List.getElem?_eq_getElem la;have a2:k i=rho i:=B.agree i hi;obtain ⟨xo,O,C⟩:=Rf.total f s1 d.2 0 k c j A F _ I (Nat.zero_le _) (by omega);rw [hx] at O;cases O
 have J:∀ v,x.2=some v->∃ n',x.1.nodes[d.2]?=some n'/\n'.out[0]?=some v:=fun v e=>Rf.aGQ f s1 d.2 0 x.1 v (by rw [hx];cases x;simp only at e;rw [e])
 obtain ⟨p0,q0,p1,q1,p2,q2,p3,q3,mt,pl,gv,cv,nv,l,g,cc,nn,hs⟩:=h.seen hI hn;obtain ⟨nb,al,_,P⟩:=hs.blk.nst.2 Y;obtain ⟨xs,zs,br,bs,a⟩:=Nst.of (P (by rw [X];rfl) (by rw [z];rfl));obtain ⟨o1,o2⟩:=a.ones
 have ag:rArg n=none:=by unfold rArg;rw [X,z];rfl
 have ah:rRd n=0:=by unfold rRd;rw [X,E];rfl
 have L:=h.pos2 hs;have o:=L;rw [ag] at o;have bo:=hN.ku;refine aFA (nb:=nb) o al a.blk a.hold a.len a.bits o1 o2 ?_ ?_
 ·intro U
  have M:n.op≠.sqrt:=fun e=>U (by rw [e];rfl)
  rw [(a.fn M).1,aP4 (by omega)];exact (aGa ok.op M (by omega)).2
 ·intro w1 m ap hm aq D;obtain ⟨R,am,hk,q,S,T⟩:=aO9 h W A hI hn X z E Y ok hd H aa hs a ap hm aq D
  have ai:(⟨s1.nodes,s.clock⟩:Rf.St)=s1:=by
   cases s1;simp only at j ⊢;rw [au,j]
  rw [ai] at q;rw [<-T,ah];have N:b0<=w1.heap.size:=Nat.le_trans W hk.on.size;refine (aEk hS q N j A F I (Nat.zero_le _) (by omega) hx w1 (Chg.refl w1)).mono ?_;rintro e w2 ⟨cd,rfl,rfl,r⟩;refine ⟨_,rfl,?_⟩;have hA:=aHG (f:=f) ar q N A ab ha hr ra (Or.inr ⟨v,u,x',y',by rw [H];exact X,by rw [H,z];rfl,rfl⟩) (fun e=>by rw [H] at e;simp only at e;rw [ax] at e;cases e) hy r C J;rw [S i hi] at hA
  have p:∀ {e:Ending} {w':World},(∃ b,e=.returned (.bool b)/\RdR w1 b0 R am fb s1.nodes.length y (.returned (.bool b)) w')->∃ b,e=.returned (.bool b)/\RdR w b0 own at1 fb s.nodes.length y (.returned (.bool b)) w':=by
   rintro e w' ⟨b,he,hb,r⟩;exact ⟨b,he,hb,Res.after hk S B.le.len r⟩
  refine ⟨fun hcd w3 c3=>p (hA.none hcd w3 c3),fun hcd=>?_⟩;obtain ⟨p0,q0,p1,q1,p2,q2,p3,q3,an,ao,mt,lr,rr,pl,c',lp,rp,gv,cv,nv,t1,t2,t3,t4,t5,t6,t7,t8⟩:=hA.some hcd;refine ⟨p0,q0,p1,q1,p2,q2,p3,q3,an,ao,mt,lr,rr,pl,c',lp,rp,gv,cv,nv,t1,t2,t3,t4,t5,t6,fun hlt w3 c3=>p (t7 hlt w3 c3),fun hge=>?_⟩;obtain ⟨z1,z2⟩:=t8 hge;refine ⟨z1,fun w3 c3 hp3=>(z2 w3 c3 hp3).mono ?_⟩;rintro e w4 ⟨vv,rfl,hF⟩;exact ⟨vv,rfl,fun w5 c5=>p (hF w5 c5)⟩
end
end Ab
open Go.RowKit
namespace Ab
open Rf (Nd Inv NInv)
section
variable {w:World} {b0 fb:Nat} {own:Nat->Option Own} {at1:Nat->Nat} {i:Nat} {n:Nd} {s:Rf.St} {rho:Nat->Nat} {c:Nat}
theorem aQ5 {f:Nat}(hS:SymOk f)(I:SettleOk)(h:Net w b0 own at1 fb s)(az:b0<=w.heap.size)(o:s.clock=(c:Int))(k:c<=3000)(q:Inv s.nodes rho c)(B:s.nodes[i]?=some n)(hf:c+rho i+1<=f)(ho:Rf.nextP s.nodes n=some none){y:Rf.St×Bool}(J:Rf.reads (Rf.sym f) s i n=some y):
  ∀ w1,Chg w w1 []->Calls Tryz.prog 197 #[ptrB (at1 i),ptrB fb] w1 (RdR w b0 own at1 fb s.nodes.length y):=by
 intro w1 c1;have h1:=h.still q c1;have hN:=q.at' i n B
 have C:∀ {M:World} {e:Ending} {w':World},Chg w M []->RdR M b0 own at1 fb s.nodes.length y e w'->RdR w b0 own at1 fb s.nodes.length y e w':=by
  rintro M e w' c2 ⟨he,W⟩;exact ⟨he,Res.after (Kept.still c2) (fun _ _=>rfl) (Nat.le_refl _) W⟩
 by_cases ht:n.t=[]
 ·exact (aTd h1 o k q B ht J).mono fun e w' p=>C c1 p
 ·obtain ⟨sd,s1,D,n1,a,r,e1,e2,e3,e4,e5,e6,L,R,e9,S,hcase⟩:=Rf.aFp o k q B ht ho;have N:=e4.at' i n1 e6;obtain ⟨la,ra⟩:=N.arg sd a L;have O:s1.nodes[a]?=some s1.nodes[a]:=List.getElem?_eq_getElem la;have a3:D i=rho i:=e5.agree i (List.getElem?_eq_some_iff.1 B).1;obtain ⟨x,T,_⟩:=Rf.total f s1 a r D c e3 k e4 _ O (N.rd sd a r _ L R O) (by omega);unfold Rf.reads at J;rw [if_neg ht,e1,Option.bind_some,e2,Option.bind_some,e6,Option.bind_some,L,Option.bind_some,R,Option.bind_some,T,Option.bind_some] at J;obtain ⟨p0,q0,p1,q1,p2,q2,p3,q3,mt,pl,gv,cv,nv,l,g,cc,nn,hs⟩:=h1.seen q B;refine aHE (b:=decide (n.t.length=4/\sd=0)) (by rw [<-hs.blk.nocon ht];exact (hs.blk.nd.cell rfl).1) ?_;refine (hs.reads hN e1).mono ?_;rintro e M ⟨rfl,c2⟩;have E:=c1.trans c2;have Y:=h.still q E;have z:b0<=M.heap.size:=Nat.le_trans az E.on.size
  have A:∀ {e:Ending} {w':World},(∃ b,e=.returned (.bool b)/\RdR M b0 own at1 fb s.nodes.length y (.returned (.bool b)) w')->∃ b,e=.returned (.bool b)/\RdR w b0 own at1 fb s.nodes.length y (.returned (.bool b)) w':=by
   rintro e w' ⟨b,he,X⟩;exact ⟨b,he,C E X⟩
  refine ⟨rfl,fun X=>?_,fun X=>?_⟩
  ·obtain ⟨h4,F⟩:=of_decide_eq_true X;subst F
   rcases hcase with ⟨v,u,H,_⟩ | ⟨v,u,x',y',m,j,_,rfl,rfl,hp⟩ | ⟨a0,v,u,x',y',_,_,F,_⟩
   ·rw [H] at h4;cases h4
   ·exact (aQW hS Y z o k q B hf m hp L R T J).mono fun e w' p=>A p
   ·cases F
  ·have P:=of_decide_eq_false X
   rcases hcase with ⟨v,u,H,ha,F,rfl,rfl⟩ | ⟨v,u,x',y',m,j,bc,rfl,rfl,hp⟩ | ⟨a0,v,u,x',y',m,ao,F,ap,hp,ok,aq,r0,d,p,hd,ar,au,U⟩
   ·subst F
    exact (aJJ hS I Y z o k q B hf L R (Or.inl ⟨v,u,H,rfl⟩) S T J).mono fun e w' p=>A p
   ·have ai:sd=1:=by
     rw [m] at P;simp at P;omega
    subst ai
    have aj:n1.args.length=2:=by
     cases hN.shp with
     | con ht' ha' _ _=>rw [ha'] at j;simp at j
     | frac v ht' ha' _ _=>rw [ha'] at j;simp at j
     | una v u a ht' ha' _=>rw [ha'] at j;simp at j
     | bin a b v u x y ht' ha' _=>rw [ha'];rfl
     | nest a v u x y ht' ha' _ _ _=>rw [ha'] at j;simp at j
    exact (aJJ hS I Y z o k q B hf L R (Or.inr ⟨v,u,x',y',m,aj,rfl⟩) S T J).mono fun e w' p=>A p
   ·subst F ap ar
    exact (aQ6 hS I Y z o k q B m ao p aq hp ok hd au U e3 e4 e5 e6 hf T J).mono fun e w' p=>A p
theorem aT5 (az:SettleOk)(f:Nat):SymOk f:=by
 induction f using Nat.strongRecOn with
 | ind f ih=>
  intro w b0 fb ae af s au c i j n x h av ax bj hI hn hj hf hx;have hi:=(List.getElem?_eq_some_iff.1 hn).1
  have a9:j<=3000:=by have:=(hI.at' i n hn).outu;omega
  refine aHP (m:=f) (J:=fun (m:Nat) (w':World)=>∃ (p:Nat->Option Own) (C:Nat->Nat) (H:Rf.St) (q:Nat->Nat) (c':Nat) (A:Nd),Kept w w' ae p fb/\Net w' b0 p C fb H/\(∀ a,a<s.nodes.length->C a=af a)/\H.clock=(c':Int)/\c'<=c/\Inv H.nodes q c'/\H.nodes[i]?=some A/\j<=A.out.length/\s.nodes.length<=H.nodes.length/\c'+q i+2<=m/\m<=f/\Rf.sym m H i j=some x) (by omega) ⟨?_⟩ ⟨ae,af,s,au,c,n,Kept.still (Chg.refl w),h,fun _ _=>rfl,ax,Nat.le_refl _,hI,hn,hj,Nat.le_refl _,hf,Nat.le_refl _,hx⟩;rintro m w' ⟨p,C,H,q,c',A,hk,r,R,u,bf,z,t,bg,ad,bh,bi,b⟩
  obtain ⟨M,rfl⟩:∃ M,m=M+1:=⟨m-1,by omega⟩
  have ai:=z.at' i A t;obtain ⟨p0,q0,p1,q1,p2,q2,p3,q3,mt,pl,gv,cv,nv,l,g,cc,nn,hs⟩:=r.seen z t;have D:=R i hi;have k:=(hs.blk.nd.cell rfl).2;rw [D] at k;have ba:=ai.outu;rw [Rf.aJS,t,Option.bind_some] at b
  cases d:A.out[j]? with
  | some v=>
   rw [d] at b;simp only at b;cases b;have B:=(List.getElem?_eq_some_iff.1 d).1
   rcases hs.blk.giv with ⟨S,T⟩ | ⟨g',cap,U,S,T,g3,g4,g5,g6⟩
   ·rw [T] at B;simp at B
   ·refine ⟨_,A.out.length,cap,⟨gv,k,S⟩,by omega,Or.inr ⟨B,g',code v,rfl,?_,rfl,?_⟩⟩
    ·refine aAa T ?_;rw [List.getElem?_toArray,List.getElem?_append_left (by simpa using B),List.getElem?_map,d];rfl
    ·exact ⟨p,hk,fun _=>⟨C,r,R⟩⟩
  | none=>
   rw [d] at b;simp only at b;obtain ⟨y,W,b⟩:=Option.bind_eq_some_iff.1 b;obtain ⟨s2,b2,X,Y⟩:=Rf.aOL (f:=M) u (by omega) z t (by omega);rw [W] at X;cases X;have aj:A.out.length<=j:=List.getElem?_eq_none_iff.1 d
   have L:∃ gb cap,gv=.slice gb A.out.length cap:=by
    rcases hs.blk.giv with ⟨S,T⟩ | ⟨g',cap,U,S,_⟩
    ·exact ⟨none,0,by rw [S,T];rfl⟩
    ·exact ⟨_,cap,S⟩
   obtain ⟨gb,cap,ao⟩:=L;refine ⟨gb,A.out.length,cap,⟨gv,k,ao⟩,by omega,Or.inl ⟨aj,?_⟩⟩;have E:b0<=w'.heap.size:=Nat.le_trans av hk.on.size;rw [<-D];refine (aQQ (f:=M) r E u (by omega) z t W (fun e=>?_) (fun hnx w1 c1=>?_)).mono ?_
   ·obtain ⟨o,c2,_,_,aq,_⟩:=Y e;exact ⟨o,c2,aq⟩
   ·have ak:Rf.reads (Rf.sym M) H i A=some (s2,b2):=by
     unfold Rf.step1 at W;rw [hnx,Option.bind_some] at W;exact W
    exact aQ5 (ih M (by omega)) az r E u (by omega) z t (by omega) hnx ak w1 c1
   ·rintro e w2 ⟨rfl,I⟩;refine ⟨b2,rfl,fun hb=>?_,fun hb=>?_⟩
    ·subst hb;obtain ⟨o,c2,k1,k2,k3,k4,n2,k5,k6⟩:=Y rfl;obtain ⟨F,N,O⟩:=I;obtain ⟨ar,P,aa⟩:=O rfl;simp only [if_true] at b;have a0:o i=q i:=k4.agree i (by omega);exact ⟨M,by omega,F,ar,s2,o,c2,n2,hk.trans N,P,fun a ha=>(aa a (by omega)).trans (R a ha),k2,by omega,k3,k5,by omega,Nat.le_trans ad k4.le.len,by omega,by omega,b⟩
    ·subst hb;simp only [Bool.false_eq_true,if_false,Option.some.injEq] at b;subst b;obtain ⟨F,N,_⟩:=I;exact ⟨rfl,Res.no (hk.trans N)⟩
end
end Ab
open Go.RowKit
namespace Ab
theorem aR0 {P:Program}{o:Oper}{a:Act}{w:World}{K i:Act->World->Prop}{Q Q':Exit->Act->World->Prop}(b:∀ a w,K a w->i a w)(g:∀ e a w,e≠.normal->Q e a w->Q' e a w)(h:o.wp P a w K Q):o.wp P a w i Q':=by
 unfold Oper.wp at*;generalize (execOp a.eval o).run P w=r at*
 cases r with
 | ok n w'=>
  cases n<;>simp only [Oper.upon] at h ⊢
  case value v=>exact b _ _ h
  case skip=>exact b _ _ h
  case defer d=>exact b _ _ h
  case enter f args=>
   refine Calls.mono h fun e w'' he=>?_
   cases e with
   | returned v=>exact b _ _ he
   | panicked c=>exact g _ _ _ (by simp) he
   | outgrown=>
    obtain ⟨j,k,l⟩:=he;exact ⟨j,k,g _ _ _ (by simp) l⟩
  case row row args=>exact Rows.mono h fun _ _ he=>b _ _ he
 | halt x w'=>
  cases x<;>simp only [Oper.upon] at h ⊢
  case panic v=>exact g _ _ _ (by simp) h
def barB (ops:Array Oper)(j:Nat):Bool:=
 let M:=masks [] ops.toList
 (List.range j).all (fun i=>(M.getD j 0).testBit i)&&(List.range ops.size).all (fun i=>Nat.ble i j||(M.getD i 0).testBit (i-1))&&ops.toList.all (fun o=>o.guard.isNone)&&ops.toList.zipIdx.all (fun x=>x.1.after.toList.all fun e=>Nat.blt e.on x.2)
def ups (n m:Nat):Array Bool:=(Array.range n).map fun i=>decide (i<m)
theorem aCQ (n m i:Nat)(d:Bool)(a:i<n):(ups n m).getD i d=decide (i<m):=by
 unfold ups;simp [Array.getD_eq_getD_getElem?,a]
theorem aKj {ops:Array Oper}{m:Nat}(h:∀ (i:Nat) (o:Oper),ops[i]?=some o->∀ e∈o.after,e.on<i):Closed ops fun i=>(ups ops.size m).getD i false:=by
 intro i o b c e f _;have a:=(Array.getElem?_eq_some_iff.1 c).1;have d:=h i o c e f;simp only at b ⊢;rw [aCQ _ _ _ _ a] at b;rw [aCQ _ _ _ _ (by omega)];simp at b ⊢;omega
theorem aI2 {P:Program}{ops:Array Oper}{j:Nat}{Q:Exit->Act->World->Prop}(g:∀ i,i<ops.size->j<i->((masks [] ops.toList).getD i 0).testBit (i-1)=true)(d:∀ (i:Nat) (o:Oper),ops[i]?=some o->∀ e∈o.after,e.on<i):∀ (fuel m:Nat) (a:Act) (w:World),m+fuel=ops.size->j<=m->wpOps P ops Q ((List.range ops.size).drop m) a w->wpAny P .any ops Q fuel (ups ops.size m) a w
 | 0,m,a,w,hm,hj,h=>by
  have e:(List.range ops.size).drop m=[]:=by simp;omega
  rw [e] at h;refine ⟨?_,h⟩;apply List.eq_nil_iff_forall_not_mem.2;intro i hi;obtain ⟨h1,o,h3,_⟩:=mem_ready.1 hi;have hin:=(Array.getElem?_eq_some_iff.1 h3).1;rw [aCQ _ _ _ _ hin] at h1;simp at h1;omega
 | fuel+1,m,a,w,hm,hj,h=>by
  have hmn:m<ops.size:=by omega
  have hmem:m∈Region.ready .any ops (ups ops.size m):=by
   refine mem_ready.2 ⟨by rw [aCQ _ _ _ _ hmn];simp,ops[m],Array.getElem?_eq_getElem hmn,fun e he _=>?_⟩;have:=d m ops[m] (Array.getElem?_eq_getElem hmn) e he;rw [aCQ _ _ _ _ (by omega)]
   simpa using this
  refine ⟨fun hnil=>(by rw [hnil] at hmem;cases hmem),fun i hi=>?_⟩;obtain ⟨h1,o,h3,l⟩:=mem_ready.1 hi;have hin:=(Array.getElem?_eq_some_iff.1 h3).1;rw [aCQ _ _ _ _ hin] at h1
  have b:i=m:=by
   by_cases r:m<i
   ·have:=aBG (aKj (m:=m) d) i o h3 l (i-1) (g i hin (by omega));rw [aCQ _ _ _ _ (by omega)] at this;simp at this;omega
   ·simp at h1;omega
  subst b
  have e:(List.range ops.size).drop i=i::(List.range ops.size).drop (i+1):=by
   rw [List.drop_eq_getElem_cons (by simpa using hin)];simp
  rw [e,wpOps_cons] at h;refine wpOp_mono ?_ h;intro n p q
  have k:(ups ops.size i).setIfInBounds i true=ups ops.size (i+1):=by
   apply Array.ext_getElem?;intro x;rw [Array.getElem?_setIfInBounds];unfold ups
   by_cases f:i=x
   ·subst f;simp [hin]
   ·rw [if_neg f]
    by_cases c:x<ops.size
    ·simp [c];omega
    ·rw [Array.getElem?_eq_none (by simp;omega),Array.getElem?_eq_none (by simp;omega)]
  rw [k];exact aI2 g d fuel (i+1) n p (by omega) (by omega) q
theorem aIi {ops:Array Oper}{j i:Nat}(a:i<j):(ops.extract 0 j)[i]?=ops[i]?:=by
 rw [Array.getElem?_extract];simp;omega
theorem aNN {P:Program}{ops:Array Oper}{j:Nat}{Q Q':Exit->Act->World->Prop}(az:j<ops.size)(ah:∀ i,i<j->((masks [] ops.toList).getD j 0).testBit i=true)(hM:∀ i,i<ops.size->j<i->((masks [] ops.toList).getD i 0).testBit (i-1)=true)(hE:∀ (i:Nat) (o:Oper),ops[i]?=some o->∀ e∈o.after,e.on<i)(hG:∀ (i:Nat) (o:Oper),ops[i]?=some o->o.guard=none)
  (hQ:∀ e a w,e≠.normal->Q' e a w->Q e a w) (hT:∀ a w,Q' .normal a w->wpAny P .any ops Q (ops.size-j) (ups ops.size j) a w):
  ∀ (fuel:Nat) (lA l:Array Bool) (a:Act) (w:World),lA.size=j->l.size=ops.size->(∀ i,i<j->l.getD i false=lA.getD i false)->(∀ i,j<=i->i<ops.size->l.getD i false=false)->((List.range j).filter fun i=>!lA.getD i false).length=fuel->Closed ops (fun i=>l.getD i false)->wpAny P .any (ops.extract 0 j) Q' fuel lA a w->wpAny P .any ops Q (fuel+(ops.size-j)) l a w:=by
 intro fuel
 induction fuel with
 | zero=>
  intro lA l a w N hs c g O u h
  have M:∀ i,i<j->lA.getD i false=true:=by
   intro i f
   cases R:lA.getD i false with
   | true=>rfl
   | false=>
    have:i∈(List.range j).filter fun i=>!lA.getD i false:=by simp [f,<-Array.getD_eq_getD_getElem?,R]
    rw [List.length_eq_zero_iff.1 O] at this;cases this
  have hl:l=ups ops.size j:=by
   apply Array.ext
   ·simp [ups,hs]
   ·intro i E h2
    have A:i<ops.size:=by omega
    have S:l[i]=l.getD i false:=by simp [Array.getD_eq_getD_getElem?,E]
    rw [S]
    by_cases f:i<j
    ·rw [c i f,M i f];simp [ups,f]
    ·rw [g i (by omega) A];simp [ups,f]
  rw [hl,Nat.zero_add];exact hT a w h.2
 | succ fuel ih=>
  intro lA l a w N hs c g O u h
  have s:∃ i,i<j/\lA.getD i false=false:=by
   have T:((List.range j).filter fun i=>!lA.getD i false)≠[]:=by intro e;rw [e] at O;simp at O
   obtain ⟨i,r,e⟩:=List.exists_cons_of_ne_nil T
   have f:i∈(List.range j).filter fun i=>!lA.getD i false:=by rw [e];simp
   rw [List.mem_filter,List.mem_range] at f;exact ⟨i,f.1,by simpa using f.2⟩
  have b:∀ (x:Array Bool) (i:Nat),i<x.size->x.getD i true=x.getD i false:=by
   intro x i f;simp [Array.getD_eq_getD_getElem?,f]
  have U:∀ i,i∈Region.ready .any ops l->i<j/\i∈Region.ready .any (ops.extract 0 j) lA:=by
   intro i f;obtain ⟨E,o,p,F⟩:=mem_ready.1 f;have A:=(Array.getElem?_eq_some_iff.1 p).1
   have d:i<j:=by
    by_cases ag:i<j
    ·exact ag
    ·exfalso
     by_cases q:i=j
     ·subst q;obtain ⟨x,t,H⟩:=s;have:=aBG u i o p F x (ah x t);rw [c x t,H] at this;cases this
     ·have:=aBG u i o p F (i-1) (hM i A (by omega));rw [g (i-1) (by omega) (by omega)] at this;cases this
   refine ⟨d,mem_ready.2 ⟨?_,o,by rw [aIi d];exact p,fun e q L=>?_⟩⟩
   ·rw [b lA i (by omega),<-c i d,<-b l i (by omega)];exact E
   ·have:=F e q L;have B:=hE i o p e q;rw [<-c e.on (by omega)];exact this
  have aj:∀ i,i∈Region.ready .any (ops.extract 0 j) lA->i∈Region.ready .any ops l:=by
   intro i f;obtain ⟨E,o,p,F⟩:=mem_ready.1 f
   have d:i<j:=by
    have:=(Array.getElem?_eq_some_iff.1 p).1;simp at this;omega
   rw [aIi d] at p;refine mem_ready.2 ⟨?_,o,p,fun e q L=>?_⟩
   ·rw [b l i (by omega),c i d,<-b lA i (by omega)];exact E
   ·have B:=hE i o p e q;rw [c e.on (by omega)];exact F e q L
  rw [show fuel+1+(ops.size-j)=(fuel+(ops.size-j))+1 by omega];refine ⟨fun hnil=>?_,fun i f=>?_⟩
  ·exfalso
   have C:∀ n,n<j->lA.getD n false=false->False:=by
    intro n
    induction n using Nat.strongRecOn with
    | ind n ihn=>
     intro ad ae;have ho:ops[n]?=some (ops[n]'(by omega)):=Array.getElem?_eq_getElem (by omega)
     have v:n∈Region.ready .any ops l:=by
      refine mem_ready.2 ⟨?_,_,ho,fun e q L=>?_⟩
      ·rw [b l n (by omega),c n ad];exact ae
      ·have B:=hE n _ ho e q
       cases R:l.getD e.on false with
       | true=>rfl
       | false=>
        rw [c e.on (by omega)] at R;exact (ihn e.on B (by omega) R).elim
     rw [hnil] at v;cases v
   obtain ⟨x,t,H⟩:=s;exact C x t H
  ·obtain ⟨d,aa⟩:=U i f;have k:=h.2 i aa;obtain ⟨E,o,p,F⟩:=mem_ready.1 f
   have W:lA.getD i false=false:=by
    rw [<-c i d,<-b l i (by omega)];exact E
   have D:∀ a w,wpAny P .any (ops.extract 0 j) Q' fuel (lA.setIfInBounds i true) a w->wpAny P .any ops Q (fuel+(ops.size-j)) (l.setIfInBounds i true) a w:=by
    intro a' w' h'
    have z:∀ (x:Array Bool),i<x.size->(fun m=>(x.setIfInBounds i true).getD m false)=fun m=>x.getD m false||m==i:=by
     intro x hx;funext m
     by_cases I:m=i
     ·subst I;simp [hx,Array.getElem?_setIfInBounds]
     ·rw [getD_set_ne false (Ne.symm I)];simp [I]
    have sA:=z lA (by omega);have X:=z l (by omega);refine ih (lA.setIfInBounds i true) (l.setIfInBounds i true) a' w' (by simpa using N) (by simpa using hs) ?_ ?_ ?_ ?_ h'
    ·intro m I;have S:=congrFun sA m;have Y:=congrFun X m;rw [S,Y,c m I]
    ·intro m I af;have Y:=congrFun X m;rw [Y,g m I af];simp;omega
    ·have:=aD7 (fun m=>lA.getD m false) i W (List.range j) List.nodup_range (by simpa using d)
     have e:(fun m=>!(lA.setIfInBounds i true).getD m false)=fun m=>!(lA.getD m false||m==i):=by
      funext m;exact congrArg Bool.not (congrFun sA m)
     rw [e];omega
    ·rw [X];intro x o' hx J e q L;simp only [Bool.or_eq_true,beq_iff_eq] at hx ⊢
     rcases hx with hx | hx
     ·exact Or.inl (u x o' hx J e q L)
     ·subst hx;rw [p] at J;cases J;exact Or.inl (F e q L)
   unfold wpOp at k ⊢;rw [aIi d,p] at k;rw [p];simp only at k ⊢
   have hw:∀ y,Region.wanted o y=true:=by
    intro y;unfold Region.wanted;rw [hG i o p]
   rw [if_pos (hw _)] at k ⊢
   rcases k with k | ⟨q1,q2⟩
   ·exact Or.inl (aR0 D hQ k)
   ·obtain ⟨a2,w2,h2⟩:=q2;exact Or.inr ⟨q1,a2,w2,hQ _ _ _ (by simp) h2⟩
theorem aDg {C:Cfg}{sp:Spec}{w0:World}{ψ:Nat->Option (Nat×Nat)}(E:C.P.follows .mixedOrders=true)(q:SpecOk C w0 ψ sp){ops:Array Oper}{j:Nat}(r:j<ops.size)(c:barB ops j=true){s s':AS}{p:List Prop}(F:drawA C sp (ops.extract 0 j) s=some (s',p))(H:Holds p){φ:Nat->Option (Nat×Nat)}{a:Act}{w:World}{id:Nat}{Q:Exit->Act->World->Prop}(I:Rep C w0 ψ φ s a w)
  (J:∀ φ' a' w',Rep C w0 ψ φ' s' a' w'->wpOps C.P ops Q ((List.range ops.size).drop j) a' w'):(Code.region id ops true).wp C.P Q a w:=by
 unfold barB at c;simp only [Bool.and_eq_true] at c;obtain ⟨⟨⟨y,z⟩,A⟩,B⟩:=c
 have k:∀ i,i<j->((masks [] ops.toList).getD j 0).testBit i=true:=fun i d=>List.all_eq_true.1 y i (List.mem_range.2 d)
 have t:∀ i,i<ops.size->j<i->((masks [] ops.toList).getD i 0).testBit (i-1)=true:=by
  intro i d D;have:=List.all_eq_true.1 z i (List.mem_range.2 d)
  rcases Bool.or_eq_true _ _ ▸ this with h | h
  ·have:=Nat.le_of_ble_eq_true h;omega
  ·exact h
 have x:∀ (i:Nat) (o:Oper),ops[i]?=some o->o.guard=none:=by
  intro i o g
  have f:o∈ops.toList:=by rw [<-Array.getElem?_toList] at g;exact List.mem_of_getElem? g
  have:=List.all_eq_true.1 A o f
  simpa using this
 have u:∀ (i:Nat) (o:Oper),ops[i]?=some o->∀ e∈o.after,e.on<i:=by
  intro i o g e m;have:=List.all_eq_true.1 B (o,i) (aDk (by rw [Array.getElem?_toList];exact g));simp only [List.all_eq_true] at this;exact Nat.blt_eq ▸ this e (by simpa using m)
 refine wp_region_any E ?_
 have v:=aHh (Q:=fun e a' w'=>e=.normal/\wpOps C.P ops Q ((List.range ops.size).drop j) a' w') q F H I fun φ' a' w' _ hr'=>⟨rfl,J φ' a' w' hr'⟩
 have l:(ops.extract 0 j).size=j:=by simp;omega
 rw [l] at v
 have b:∀ n i,(Array.replicate n false).getD i false=false:=by
  intro n i;rw [Array.getD_eq_getD_getElem?]
  by_cases d:i<n
  ·simp [d]
  ·rw [Array.getElem?_eq_none (by simp;omega)];rfl
 have:=aNN (P:=C.P) (Q:=Q) (Q':=fun e a' w'=>e=.normal/\wpOps C.P ops Q ((List.range ops.size).drop j) a' w') r k t u x (fun e a w m h=>absurd h.1 m) (fun a' w' h=>aI2 t u (ops.size-j) j a' w' (by omega) (Nat.le_refl _) h.2) j (Array.replicate j false) (Array.replicate ops.size false) a _ (by simp) (by simp) (fun i _=>by rw [b,b]) (fun i _ _=>b _ _) ?_ ?_ v
 ·rw [show j+(ops.size-j)=ops.size by omega] at this;exact this
 ·have:((List.range j).filter fun i=>!(Array.replicate j false).getD i false)=List.range j:=by
   apply List.filter_eq_self.2;intro i _;rw [b];rfl
  rw [this];simp
 ·intro i o d;have d:(Array.replicate ops.size false).getD i false=true:=d;rw [b] at d;cases d
end Ab
open Go.RowKit
namespace Ab
theorem aOI {C:Cfg}{w0 w:World}{ψ φ:Nat->Option (Nat×Nat)}{s s':AS}(h:RepW C w0 ψ φ s w)(O:s'.next=s.next)(P:s'.nums=s.nums)(R:s'.dirty=s.dirty)(i:∀ b B',look s'.boxes b=some B'->∃ B,look s.boxes b=some B/\B'={B with cs:=B'.cs}/\B'.cs.length=B.cs.length/\∀ ys,All2 (relC C φ s.nums w) B.cs ys->All2 (relC C φ s.nums w) B'.cs ys):RepW C w0 ψ φ s' w:=by
 refine ⟨?_,?_,?_,?_,?_,h.lt,?_,h.on,h.base,?_⟩
 ·intro b B' d;obtain ⟨B,c,a,g,r⟩:=i b B' d;obtain ⟨k,o,t,ys,j,H,I,J,L⟩:=h.box b B c;rw [P];exact ⟨k,o,t,ys,j,H,by rw [a];exact I,J,r ys L⟩
 ·intro b B' k o d m n;obtain ⟨B,c,a,g,r⟩:=i b B' d;rw [a] at m;exact h.own b B k o c m n
 ·intro b E B B' k o N d z n A;obtain ⟨D,c,a,g,_⟩:=i b B d;obtain ⟨M,u,l,v,_⟩:=i E B' z
  rcases h.inj b E D M k o N c u n A with e | ⟨x,y,e3,e4⟩
  ·exact Or.inl e
  ·refine Or.inr ⟨by rw [a];exact x,by rw [l];exact y,by rw [a,l];exact e3,?_⟩;intro p
   have f:D.tip=true:=by rw [a] at p;exact p
   rw [g,v];exact e4 f
 ·intro b B' d p;obtain ⟨B,c,a,g,r⟩:=i b B' d
  have f:B.tip=true:=by rw [a] at p;exact p
  rw [a];exact h.tip b B c f
 ·intro b q;exact h.fresh b (by rw [O] at q;exact q)
 ·rw [R];exact h.low
 ·intro b B' k o d m F n;obtain ⟨B,c,a,g,r⟩:=i b B' d;rw [a] at m F;obtain ⟨x,y⟩:=h.exa b B k o c m F n;refine ⟨x,?_⟩;rw [g,a];exact y
def atDrw (p:Oper->Bool):List (K (List AT))->Bool
 | .code (.region _ ops true)::_=>ops.any p
 | _=>false
def contR (p:Oper->Bool):Code->List (K (List AT))->Option (Nat×Array Oper×List (K (List AT)))
 | .region id ops true,ks=>bif ops.any p then some (id,ops,ks) else none
 | .seq a b,ks=>match contR p a (.code b::ks) with | some r=>some r | none=>contR p b ks
 | .block id b,ks=>contR p b (.blk id::ks)
 | .cond _ a b,ks=>match contR p a ks with | some r=>some r | none=>contR p b ks
 | _,_=>none
def drwR (p:Oper->Bool)(fn:Func):Nat×Array Oper×List (K (List AT)):=(contR p (bodyOf fn) [.top fn]).getD (0,#[],[])
noncomputable def sR:Nat×Array Oper×List (K (List AT)):=drwR (opCalls 236) Tryz.f224
section
variable (p0 q0 p1 q1 p2 q2 p3 q3:Int) (hs:Bool) (uns mt lr rr pl c:Int) (lp rp cst nst gv:Value)
def goU (tm:List AT):AS:=⟨tm,[(0,wrt (.sbool hs::numCs true 0 8++[.lit cst,.sint .i64 mt,.lit lp,.sint .i64 lr,.lit rp,.sint .i64 rr,.lit gv,.int .i64 uns,.lit nst,.sint .i64 pl]) 205),(6,fuW c)],7,[p0,q0,p1,q1,p2,q2,p3,q3].map fun z=>(z,10),[]⟩
abbrev seT:List AT:=P0::List.replicate 45 .und
theorem se_0:(run Z (tabSp tN) bW (drawA Z (tabSp tN)) (atDrw (opCalls 236)) 400 [.code (bodyOf Tryz.f224),.top Tryz.f224] (goU p0 q0 p1 q1 p2 q2 p3 q3 hs 0 mt lr rr pl c lp rp cst nst gv seT)).bind (outX (nrm [0,6] [] 7 []) (nrm [0,6] [0] 7 []))
  = some (.ret (.tup []) (goU p0 q0 p1 q1 p2 q2 p3 q3 hs 0 mt lr rr pl c lp rp cst nst gv (slot [] 0 46))):=by kernel_rfl
theorem se_1 (h:uns=10\/uns=11\/uns=12\/uns=13):(run Z (tabSp tN) bW (drawA Z (tabSp tN)) (atDrw (opCalls 236)) 400 [.code (bodyOf Tryz.f224),.top Tryz.f224] (goU p0 q0 p1 q1 p2 q2 p3 q3 hs uns mt lr rr pl c lp rp cst nst gv seT)).bind (outX (nrm [0,6] [] 7 []) (nrm [0,6] [0] 7 []))
  = some (.br (!enoughZ uns p0 q0 p1 q1) (.ret (.tup []) (goU p0 q0 p1 q1 p2 q2 p3 q3 hs uns mt lr rr pl c lp rp cst nst gv (slot [] 0 46))) (.stp (.code (.region sR.1 sR.2.1 true)::sR.2.2) (goU p0 q0 p1 q1 p2 q2 p3 q3 hs uns mt lr rr pl c lp rp cst nst gv (slot [(0,P0)] 0 46)))):=by
 rcases h with rfl | rfl | rfl | rfl<;>kernel_rfl
noncomputable def seS:AS:=((drawA Z (tabSp tN) (sR.2.1.extract 0 14) (goU p0 q0 p1 q1 p2 q2 p3 q3 hs uns mt lr rr pl c lp rp cst nst gv (slot [(0,P0)] 0 46))).getD (⟨[],[],0,[],[]⟩,[])).1
theorem se_2:drawA Z (tabSp tN) (sR.2.1.extract 0 14) (goU p0 q0 p1 q1 p2 q2 p3 q3 hs uns mt lr rr pl c lp rp cst nst gv (slot [(0,P0)] 0 46))=some (seS p0 q0 p1 q1 p2 q2 p3 q3 hs uns mt lr rr pl c lp rp cst nst gv,[]):=by kernel_rfl
theorem aTZ:barB sR.2.1 14=true/\14<sR.2.1.size/\(List.range sR.2.1.size).drop 14=[14,15]:=by
 have e:sR.2.1.size=16:=by kernel_rfl
 exact ⟨by kernel_rfl,by rw [e];decide,by rw [e];rfl⟩
theorem se_3 (y0 y1 y2 y3 y4 y5 y6 y7 y8 y9 y10 y11 y12 y13 y14 y15 y16 y17 y18 y19 y20 y21 y22 y23 y24 y25 y26:Value):(run Z (tabSp tN) bW (drawA Z (tabSp tN)) (fun _=>false) 400 (.ops sR.2.1 [15]::sR.2.2) (sW [p0,q0,p1,q1,p2,q2,p3,q3] hs uns mt lr rr pl c (.lit lp) (.lit rp) (.lit cst) (.lit nst) (.lit gv) [(1,ext ([y0,y1,y2,y3,y4,y5,y6,y7,y8,y9,y10,y11,y12,y13,y14,y15,y16,y17,y18,y19,y20,y21,y22,y23,y24,y25,y26].map .lit) 205)] (slot [(0,P0),(40,.val (.one (.ptr 1 0)))] 0 46))).bind (outX (nrm [0,6,1] [] 7 []) (nrm [0,6,1] [] 7 []))
  = some (.ret (.tup []) ⟨slot [] 0 46,[(0,wrt ([y0,y1,y2,y3,y4,y5,y6,y7,y8,y9,y10,y11,y12,y13,y14,y15,y16,y17,y18,y19,y20,y21,y22,y23,y24,y25,y26].map .lit) 205),(6,fuW c),(1,ext ([y0,y1,y2,y3,y4,y5,y6,y7,y8,y9,y10,y11,y12,y13,y14,y15,y16,y17,y18,y19,y20,y21,y22,y23,y24,y25,y26].map .lit) 205)],7,[],[0]⟩):=by kernel_rfl
end
theorem aPk {R:AC->Value->Prop}:∀ {cs cs':List AC} {ys:List Value},All2 (fun c c'=>∀ x,R c x->R c' x) cs cs'->All2 R cs ys->All2 R cs' ys
 | [],[],[],_,_=>trivial
 | [],[],_::_,_,h=>h.elim
 | [],_::_,_,h,_=>h.elim
 | _::_,[],_,h,_=>h.elim
 | _::_,_::_,[],_,h=>h.elim
 | _::_,_::_,y::_,⟨h1,h2⟩,⟨g1,g2⟩=>⟨h1 y g1,aPk h2 g2⟩
theorem aL1 {w:World}{k fb:Nat}{p0 q0 p1 q1 p2 q2 p3 q3:Int}{hs:Bool}{uns mt lr rr pl c:Int}{lp rp gv cv nv:Value}(h:Pos2 w k fb [p0,q0,p1,q1,p2,q2,p3,q3] hs uns mt lr rr pl c lp rp gv cv nv)(a:List AT):RepW Z w (phW k fb fun _=>none) (phW k fb fun _=>none) (goU p0 q0 p1 q1 p2 q2 p3 q3 hs uns mt lr rr pl c lp rp cv nv gv a) w:=by
 refine aOI (h.rep a) rfl rfl rfl ?_;intro b e d;have:=aAy d;simp only [goU,List.mem_cons,List.not_mem_nil,or_false,Prod.mk.injEq] at this
 rcases this with ⟨rfl,rfl⟩ | ⟨rfl,rfl⟩
 ·refine ⟨_,rfl,rfl,rfl,fun ys h=>aPk ?_ h⟩;exact ⟨fun _ h=>h,fun _ h=>h,fun _ h=>h,fun _ h=>h,fun _ h=>h,fun _ h=>h,fun _ h=>h,fun _ h=>h,fun _ h=>h,fun _ h=>h,fun _ h=>h,fun _ h=>h,fun _ h=>h,fun _ h=>h,fun _ h=>h,fun _ h=>h,fun _ h=>h,fun _ h=>h,fun _ h=>h,fun _ h=>h,fun _ h=>h,fun _ h=>h,fun _ h=>h,fun _ h=>h,fun _ h=>h,fun _ h=>h,fun _ h=>h,trivial⟩
 ·exact ⟨_,rfl,rfl,rfl,fun ys h=>h⟩
section
variable {w:World} {k fb:Nat} {p0 q0 p1 q1 p2 q2 p3 q3:Int} {hs:Bool} {uns mt lr rr pl c:Int} {lp rp gv cv nv:Value}
theorem aFt (h:Pos2 w k fb [p0,q0,p1,q1,p2,q2,p3,q3] hs uns mt lr rr pl c lp rp gv cv nv)(d:uns=0\/((uns=10\/uns=11\/uns=12\/uns=13)/\enoughZ uns p0 q0 p1 q1=false)):Calls Tryz.prog 224 #[ptrB k] w fun e w'=>∃ v,e=.returned v/\Chg w w' []:=by
 have F:=aAj Tryz.func224 rfl rfl;refine aAP F (φ:=phW k fb fun _=>none) (vs:=[.one (.ptr 0 0)]) (args:=[ptrB k]) (s:=goU p0 q0 p1 q1 p2 q2 p3 q3 hs uns mt lr rr pl c lp rp cv nv gv seT) (by kernel_rfl) ⟨⟨k,0,rfl,rfl⟩,trivial⟩ (aL1 h _) ?_
 rcases d with rfl | ⟨d,he⟩
 ·refine xrun' (aAd aAW) aCT (aBt rfl rfl) (aA7 (aBt rfl rfl)) (se_0 p0 q0 p1 q1 p2 q2 p3 q3 hs mt lr rr pl c lp rp cv nv gv) (fun r s=>s.dirty=[]) (fun _ _=>False) rfl ?_ (fun _ _ h=>h.elim);rintro r s φ v w' a _ _ b;exact ⟨v,rfl,aAN b a⟩
 ·refine xrun' (aAd aAW) aCT (aBt rfl rfl) (aA7 (aBt rfl rfl)) (se_1 p0 q0 p1 q1 p2 q2 p3 q3 hs uns mt lr rr pl c lp rp cv nv gv d) (fun r s=>s.dirty=[]) (fun _ _=>False) ⟨fun _=>rfl,fun e=>by rw [he] at e;cases e⟩ ?_ (fun _ _ h=>h.elim);rintro r s φ v w' a _ _ b;exact ⟨v,rfl,aAN b a⟩
theorem ys27 {ys:List Value}(h:ys.length=27):∃ y0 y1 y2 y3 y4 y5 y6 y7 y8 y9 y10 y11 y12 y13 y14 y15 y16 y17 y18 y19 y20 y21 y22 y23 y24 y25 y26,ys=[y0,y1,y2,y3,y4,y5,y6,y7,y8,y9,y10,y11,y12,y13,y14,y15,y16,y17,y18,y19,y20,y21,y22,y23,y24,y25,y26]:=by
 match ys,h with
 | [y0,y1,y2,y3,y4,y5,y6,y7,y8,y9,y10,y11,y12,y13,y14,y15,y16,y17,y18,y19,y20,y21,y22,y23,y24,y25,y26],_=>exact ⟨y0,y1,y2,y3,y4,y5,y6,y7,y8,y9,y10,y11,y12,y13,y14,y15,y16,y17,y18,y19,y20,y21,y22,y23,y24,y25,y26,rfl⟩
theorem aHL (h:Pos2 w k fb [p0,q0,p1,q1,p2,q2,p3,q3] hs uns mt lr rr pl c lp rp gv cv nv)(hu:uns=10\/uns=11\/uns=12\/uns=13)(he:enoughZ uns p0 q0 p1 q1=true){R:World->Prop}
  (ah:∀ w1 xs,Chg w w1 []->Hold true w1 [p1,q1] xs->Calls Tryz.prog 236 #[.int .i64 uns,rp,.agg xs.toArray] w1 fun e w2=>∃ m,∃ ys:List Value,e=.returned (ptrB m)/\m≠k/\w2.heap[m]?=some (.cells ys.toArray 205 (0,0))/\ys.length=27/\(∀ y∈ys,One y)/\Pos2 w2 k fb [p0,q0,p1,q1,p2,q2,p3,q3] hs uns mt lr rr pl c lp rp gv cv nv/\∀ w3,Chg w2 w3 [k]->w3.heap[k]?=some (.cells ys.toArray 205 (0,0))->R w3):
  Calls Tryz.prog 224 #[ptrB k] w fun e w'=>∃ v,e=.returned v/\R w':=by
 have F:=aAj Tryz.func224 rfl rfl;refine aAP F (φ:=phW k fb fun _=>none) (vs:=[.one (.ptr 0 0)]) (args:=[ptrB k]) (s:=goU p0 q0 p1 q1 p2 q2 p3 q3 hs uns mt lr rr pl c lp rp cv nv gv seT) (by kernel_rfl) ⟨⟨k,0,rfl,rfl⟩,trivial⟩ (aL1 h _) ?_;refine xrun' (aAd aAW) aCT (aBt rfl rfl) (aA7 (aBt rfl rfl)) (se_1 p0 q0 p1 q1 p2 q2 p3 q3 hs uns mt lr rr pl c lp rp cv nv gv hu) (fun _ _=>False) (fun ks s=>ks=.code (.region sR.1 sR.2.1 true)::sR.2.2/\s=goU p0 q0 p1 q1 p2 q2 p3 q3 hs uns mt lr rr pl c lp rp cv nv gv (slot [(0,P0)] 0 46)) ⟨fun e=>(by rw [he] at e;cases e),fun _=>⟨rfl,rfl⟩⟩ (fun _ _ _ _ _ h=>h.elim) ?_;rintro ks s ⟨rfl,rfl⟩
 have aa:noFr sR.2.2=true:=by kernel_rfl
 refine ⟨by kernel_rfl,fun kcs φ1 a1 w1 hsr1 hr1=>?_⟩;obtain ⟨bb,bj,bd⟩:=aTZ
 match kcs,hsr1 φ1 [] w1 with
 | .code cc::kcs',⟨hcc,hsr2⟩=>
 subst hcc;show (Code.region sR.1 sR.2.1 true).wp Z.P _ a1 w1;refine aDg mixed (aAd aAW) bj bb (se_2 p0 q0 p1 q1 p2 q2 p3 q3 hs uns mt lr rr pl c lp rp cv nv gv) aAc hr1 ?_;intro φ2 a2 w2 i;rw [bd];have c2:Chg w w2 []:=aAN i.wd (by kernel_rfl);show sem Z.P _ (.ops sR.2.1 [14,15]::kcs') .normal a2 w2;refine aAx (f:=236) (vs:=[.one (.int .i64 uns),.one (.lit rp),.agg (numCs true 2 2)]) (dst:=some 40) (ks:=.ops sR.2.1 [14,15]::sR.2.2) (ks2:=.ops sR.2.1 [15]::sR.2.2) (by kernel_rfl) (aAj Tryz.func236 rfl rfl).en (by simpa [noFr] using aa) (φ1:=φ2) (ν1:=[]) (w1:=w2) ⟨rfl,rfl,SR.any aa hsr2⟩ i ?_;intro us a4
 match us,a4 with
 | [u1,u2,u3],⟨U,W,⟨xs,hu3,hxs⟩,_⟩=>
 have U:u1=.int .i64 uns:=U;have W:u2=rp:=W.1;rw [U,W,hu3]
 have hH:Hold true w2 [p1,q1] xs:=aD5 [p1,q1] 2 xs hxs (by
  intro j z l
  have hn:(seS p0 q0 p1 q1 p2 q2 p3 q3 hs uns mt lr rr pl c lp rp cv nv gv).nums=[p0,q0,p1,q1,p2,q2,p3,q3].map fun z=>(z,10):=by kernel_rfl
  rw [hn];refine ⟨10,?_⟩
  match j,l with
  | 0,l=>cases l;rfl
  | 1,l=>cases l;rfl
  | j+2,l=>simp at l)
 refine (ah w2 xs c2 hH).mono ?_;rintro e w3 ⟨m,ys,rfl,az,hm,af,a3,a,hR⟩;refine ⟨_,rfl,fun kcs3 hf3 hsr3=>?_⟩
 have av:m≠fb:=by
  rintro rfl;have hy:=a.fu;rw [hm] at hy;exact absurd (Obj.cells.inj (Option.some.inj hy)).2.1 (by decide)
 obtain ⟨y0,y1,y2,y3,y4,y5,y6,y7,y8,y9,p,q,t,u,A,C,D,E,H,I,J,L,M,N,O,S,T,rfl⟩:=ys27 af
 have ab:∀ b x,phW k fb (ph1 1 m) b=some x->[0,6,1].contains b=true:=aJC rfl rfl fun b x e=>by
  unfold ph1 at e;split at e
  ·subst_vars;rfl
  ·cases e
 have X:=a.repX (exφ:=ph1 1 m) (ex:=[(1,ext ([y0,y1,y2,y3,y4,y5,y6,y7,y8,y9,p,q,t,u,A,C,D,E,H,I,J,L,M,N,O,S,T].map .lit) 205)]) (rpC:=.lit rp) (cvC:=.lit cv) (nvC:=.lit nv) ⟨rfl,a.o2⟩ ⟨rfl,a.o4⟩ ⟨rfl,a.o5⟩ (by
  intro b B hB;have:=aAy hB;simp only [List.mem_cons,List.not_mem_nil,or_false,Prod.mk.injEq] at this;obtain ⟨rfl,rfl⟩:=this
  exact ⟨rfl,rfl,rfl,m,0,rfl,az,av,[],_,[],(show w3.heap[m]?=some (.cells ([]++[y0,y1,y2,y3,y4,y5,y6,y7,y8,y9,p,q,t,u,A,C,D,E,H,I,J,L,M,N,O,S,T]++[]).toArray 205 (0,0)) by simpa using hm),rfl,aIo _ a3⟩) (by
  intro b k' o d;unfold ph1 at d;split at d
  ·cases d;exact aAf hm
  ·cases d) (slot [(0,P0),(40,.val (.one (.ptr 1 0)))] 0 46)
 have ax:=aAM (kb:=[0,6]) (kt:=[0]) (dst:=some 40) (r:=.val (.one (.ptr 1 0))) (v:=ptrB m) i X (by kernel_rfl) (by
  intro b hb
  have d:b=0\/b=6:=by simpa using hb
  rcases d with rfl | rfl
  ·rw [i.wd.base 0 (k,0) rfl];rfl
  ·rw [i.wd.base 6 (fb,0) rfl];rfl) ⟨m,0,rfl,rfl⟩
 refine xrun' (aAd aAW) aCT ab (aA7 ab) (se_3 p0 q0 p1 q1 p2 q2 p3 q3 hs uns mt lr rr pl c lp rp cv nv gv y0 y1 y2 y3 y4 y5 y6 y7 y8 y9 p q t u A C D E H I J L M N O S T) (fun r s=>s.dirty=[0]/\look s.boxes 0=some (wrt ([y0,y1,y2,y3,y4,y5,y6,y7,y8,y9,p,q,t,u,A,C,D,E,H,I,J,L,M,N,O,S,T].map .lit) 205)) (fun _ _=>False) ⟨rfl,rfl⟩ ?_ (fun _ _ h=>h.elim) kcs3 _ _ _ (hsr3 _ _ _) ax;rintro r s φ5 v w5 ⟨hd,l0⟩ _ _ g;refine ⟨v,rfl,hR w5 ⟨g.on,fun j hj hn=>g.low j hj fun b hb o e=>?_⟩ ?_⟩
 ·rw [hd] at hb;simp only [List.mem_singleton] at hb;subst hb;rw [g.base 0 (k,0) rfl] at e;cases e;exact hn (by simp)
 ·obtain ⟨k',o,ay,zs,ae,g1,g2,g3,g4⟩:=g.box 0 _ l0;rw [g.base 0 (k,0) rfl] at g1;cases g1;have ad:ay=[]:=List.length_eq_zero_iff.1 g3;subst ad;have l:=aIn _ zs g4;subst l;have n:=g.on.shape (a.nd.shape a.h8);unfold World.shape? at n;rw [g2] at n;simp only [Option.some.injEq,Prod.mk.injEq,List.size_toArray,List.nil_append,List.length_append] at n;have Y:ae=[]:=List.length_eq_zero_iff.1 (by have:=n.2;simp at this;omega);subst Y;rw [g2];rfl
end
end Ab
open Go.RowKit
namespace Ab
theorem aEB {a g:Int}(b:0<g):(a/g).natAbs<=a.natAbs:=by
 rcases Int.lt_or_le a 0 with h | h
 ·have c:a<=a/g:=by
   have:=Int.mul_le_mul_of_nonneg_left (show (1:Int)<=g by omega) (show (0:Int)<=-a by omega);rw [Int.le_ediv_iff_mul_le b]
   have e:a*g=-(-a*g):=by rw [Int.neg_mul];omega
   rw [e];omega
  have d:a/g<0:=Int.ediv_neg_of_neg_of_pos h b;omega
 ·have c:a/g<=a:=Int.ediv_le_self _ h;have d:0<=a/g:=Int.ediv_nonneg h (by omega);omega
theorem aIp {t b:Int}(c:0<gcdZ t b):(lowT t b).natAbs<=t.natAbs/\(lowB t b).natAbs<=b.natAbs:=by
 have k:∀ x:Int,(x/gcdZ t b).natAbs<=x.natAbs:=fun x=>aEB c
 have a:∀ x:Int,(-x/gcdZ t b).natAbs<=x.natAbs:=fun x=>by have:=k (-x);simpa using this
 unfold lowT lowB;constructor
 ·cases decide (Nm.cmp b 0<0)<;>simp only [cond_true,cond_false]
  ·cases (Nm.cmp b 0==0)<;>simp only [cond_true,cond_false]
   ·exact k t
   ·cases decide (Nm.cmp t 0<0)<;>simp only [cond_true,cond_false]
    ·exact k t
    ·exact a t
  ·exact a t
 ·cases decide (Nm.cmp b 0<0)<;>simp only [cond_true,cond_false]
  ·cases (Nm.cmp b 0==0)<;>simp only [cond_true,cond_false]
   ·exact k b
   ·cases decide (Nm.cmp t 0<0)<;>simp only [cond_true,cond_false]
    ·exact k b
    ·exact a b
  ·exact a b
def maxL:List Nat->Nat
 | [n,m]=>bif Nat.ble n m then m else n
 | _=>40
theorem aQ1:TEok Z 96 (teG true fLow ndLow maxL [40,40]):=by
 refine aJY aPw ?_ ?_
 ·intro o d h p _;exact ⟨h,p⟩
 ·intro o q d h e r a;clear a;unfold fLow at h;split at h
  ·rename_i t b;cases h;have c:0<gcdZ t b:=e _ (by simp [ndLow]);obtain ⟨k,l⟩:=aIp c
   match q,r with
   | [n,m],⟨h1,h2,_⟩=>
   have g:n<=maxL [n,m]/\m<=maxL [n,m]:=by
    simp only [maxL]
    cases f:Nat.ble n m with
    | true=>simp only [cond_true];exact ⟨Nat.le_of_ble_eq_true f,Nat.le_refl _⟩
    | false=>
     simp only [cond_false];refine ⟨Nat.le_refl _,?_⟩
     have:¬n<=m:=fun h=>by rw [Nat.ble_eq_true_of_le h] at f;cases f
     omega
   intro z j;simp only [List.mem_cons,List.not_mem_nil,or_false] at j
   have i:∀ {x y:Int} {u:Nat},x.natAbs<=y.natAbs->Bits u y->Bits u x:=fun h1 h2=>Nat.lt_of_le_of_lt h1 h2
   rcases j with rfl | rfl
   ·exact aAg (i k (h1 t (by simp))) g.1
   ·exact aAg (i l (h2 b (by simp))) g.2
  ·cases h
noncomputable def tS:List (FuncId×TE):=(96,teG true fLow ndLow maxL [40,40])::tN
theorem aB6:AllTE Z tS:=⟨aQ1,aAW⟩
end Ab
open Go.RowKit
namespace Ab
open Rf (Nd Inv NInv)
def numOf (ν:List (Int×Nat)):List AC->Option (List Int)
 | []=>some []
 | .sg i::.dg true j::r=>bif i==j then (ν[i]?).bind fun x=>(numOf ν r).map fun l=>x.1::l else none
 | .bool false::.lit (.slice none 0 0)::r=>(numOf ν r).map fun l=>0::l
 | _=>none
theorem aNG (w:World):Hold true w [0] [.bool false,.slice none 0 0]:=by
 have h:numsT true [.c (.bool false),.c (.lit (.slice none 0 0))]=some ([0],0):=rfl;exact (aCr (k:=true) (w:=w) _ _ _ [.bool false,.slice none 0 0] h ⟨rfl,rfl,rfl,⟨rfl,rfl⟩,trivial⟩).1
theorem aCJ {φ:Nat->Option (Nat×Nat)}{ν:List (Int×Nat)}{w:World}:∀ (cs:List AC) (zs:List Int) (xs:List Value),numOf ν cs=some zs->All2 (relC Z φ ν w) cs xs->Hold true w zs xs:=by
 intro cs
 induction cs using numOf.induct with
 | case1=>
  intro zs xs h b;simp only [numOf,Option.some.injEq] at h;subst h
  match xs,b with
  | [],_=>trivial
 | case2 i j r a ih=>
  intro zs xs h b;simp only [numOf,a,cond_true] at h;obtain ⟨x,f,g⟩:=bnd h;obtain ⟨l,e,rfl⟩:=mpd g
  have a:i=j:=by simpa using a
  subst a
  match xs,b with
  | y1::y2::xs,⟨⟨z1,n1,c,d⟩,⟨z2,n2,f1,f2,f3⟩,b⟩=>
  rw [f] at c f1;cases c;cases f1;exact ⟨d,f2,ih l xs e b⟩
 | case3 i j r a=>
  intro zs xs h b;simp only [numOf,a,cond_false] at h;cases h
 | case4 r ih=>
  intro zs xs h b;simp only [numOf] at h;obtain ⟨l,e,rfl⟩:=mpd h
  match xs,b with
  | y1::y2::xs,⟨c,d,b⟩=>
  have c:y1=.bool false:=c;have d:y2=.slice none 0 0:=d.1;subst c d;obtain ⟨k,m,_⟩:=aNG w;exact ⟨k,m,ih l xs e b⟩
 | case5 r f g e=>
  intro zs xs h b;unfold numOf at h;split at h
  ·exact (f rfl).elim
  ·exact (g _ _ _ rfl).elim
  ·exact (e _ rfl).elim
  ·cases h
theorem aJv {φ:Nat->Option (Nat×Nat)}{ν:List (Int×Nat)}{w:World}{k:Nat}{c0 c1 c2 c3 c4 c5 c6 c7 i j a:AC}{c:List AC}{ys:List Value}{zs:List Int}{hs:Bool}{uns mt lr rr pl:Int}{lp rp gv cv nv:Value}(h:All2 (relC Z φ ν w) (c0::c++[c1,c2,c3,c4,c5,c6,c7,i,j,a]) ys)(m:w.heap[k]?=some (.cells ys.toArray 205 (0,0)))(n:c.length=16)(F:numOf ν c=some zs)
  (H:∀ x,relC Z φ ν w c0 x->x=.bool hs) (I:∀ x,relC Z φ ν w c1 x->x=cv) (g:∀ x,relC Z φ ν w c2 x->x=.int .i64 mt) (J:∀ x,relC Z φ ν w c3 x->x=lp) (L:∀ x,relC Z φ ν w c4 x->x=.int .i64 lr) (M:∀ x,relC Z φ ν w c5 x->x=rp) (N:∀ x,relC Z φ ν w c6 x->x=.int .i64 rr) (O:∀ x,relC Z φ ν w c7 x->x=gv) (P:∀ x,relC Z φ ν w i x->x=.int .i64 uns) (R:∀ x,relC Z φ ν w j x->x=nv) (o:∀ x,relC Z φ ν w a x->x=.int .i64 pl):NodeAt w k zs hs uns mt lr rr pl lp rp gv cv nv:=by
 have l:=h.len
 match ys,h,m,l with
 | y::ys,⟨hy,f⟩,m,l=>
  have p:ys.length=26:=by simp [n] at l;omega
  have e:ys=ys.take 16++ys.drop 16:=(List.take_append_drop 16 ys).symm;have f:All2 (relC Z φ ν w) (c++[c1,c2,c3,c4,c5,c6,c7,i,j,a]) ys:=f
  have q:All2 (relC Z φ ν w) c (ys.take 16):=by
   have:=f.take 16;rw [List.take_append_of_le_length (by omega),List.take_of_length_le (by omega)] at this;exact this
  have b:All2 (relC Z φ ν w) [c1,c2,c3,c4,c5,c6,c7,i,j,a] (ys.drop 16):=by
   have:=f.drop 16;rw [List.drop_append_of_le_length (by omega),List.drop_of_length_le (by omega)] at this;exact this
  have d:Hold true w zs (ys.take 16):=aCJ c zs _ F q
  match hd:ys.drop 16,b with
  | [a0,a1,a2,a3,a4,a5,a6,a7,a8,a9],b=>
   obtain ⟨r,s,u,v,z,A,B,C,D,E,_⟩:=b;refine ⟨ys.take 16,?_,d⟩
   have g:ys=ys.take 16++[cv,.int .i64 mt,lp,.int .i64 lr,rp,.int .i64 rr,gv,.int .i64 uns,nv,.int .i64 pl]:=by
    rw [<-I _ r,<-g _ s,<-J _ u,<-L _ v,<-M _ z,<-N _ A,<-O _ B,<-P _ C,<-R _ D,<-o _ E,<-hd];exact e
   rw [m,H _ hy];generalize ys.take 16=t at g;subst g;rfl
theorem aGc {w:World}{cb:Nat}{kd k:Int}{tv:Value}{xs:List Value}{zs:List Int}(g:w.heap[cb]?=some (.cells (.int .i64 kd::tv::xs).toArray 224 (0,0)))(D:One tv)(E:Hold true w zs xs)(F:zs.length=8)(m:∀ z∈zs,Bits 1 z){needs:List Prop}{a b c d:Int}{n:Nat}(p:conRun kd zs k=some (needs,.one (.ns [a,b,c,d]),n))(H:Holds needs):
  Calls Tryz.prog 216 #[ptrB cb,.int .i64 k] w fun e w'=>∃ ys:List Value,e=.returned (.agg ys.toArray)/\Hold true w' [a,b,c,d] ys/\Below w.heap.size w w':=by
 unfold conRun at p;obtain ⟨o,q,r⟩:=bnd p;obtain ⟨I,s,t⟩:=bnd q
 have h:RepW Z w (ph1 0 cb) (ph1 0 cb) (sCon kd zs k) w:=by
  refine aBh rfl ?_ ?_ ?_
  ·intro b B C;have:=aAy C;simp [sCon] at this;obtain ⟨rfl,rfl⟩:=this;refine ⟨rfl,rfl,rfl,cb,0,rfl,[],.int .i64 kd::tv::xs,[],(show w.heap[cb]?=some (.cells ([]++(Value.int .i64 kd::tv::xs)++[]).toArray 224 (0,0)) by simpa using g),rfl,rfl,D,?_⟩
   have:=aBe zs xs 0 (φ:=ph1 0 cb) (zs.map fun z=>(z,1)) E m fun j z hz=>by rw [Nat.zero_add,List.getElem?_map,hz];rfl
   rw [F] at this;exact this
  ·intro b m;have:1<=b:=m;unfold ph1;rw [if_neg (by omega)]
  ·intro b N o f;unfold ph1 at f;split at f
   ·cases f;exact aAf g
   ·cases f
 refine aBo (vs:=[.one (.ptr 0 0),.one (.sint .i64 k)]) (args:=[ptrB cb,.int .i64 k]) (aAj Tryz.func216 rfl rfl) (aAd aAW) aQg (by kernel_rfl) ⟨⟨cb,0,rfl,rfl⟩,rfl,trivial⟩ h s _ (aAV t (aCK r H (Nat.le_refl _))) ?_;rintro J L φ v w' ⟨i,M,y,l⟩ hrel A;obtain ⟨ys,u,x⟩:=l w' v (aCu y hrel);refine ⟨ys,by rw [u],?_,RepF.below A i⟩;exact (aCr (k:=true) (w:=w') _ [a,b,c,d] _ ys (show numsT true ([a,b,c,d].map fun z=>.num true z n)=some ([a,b,c,d],_) from rfl) x).1
end Ab
open Go.RowKit
namespace Ab
open Rf (Nd Inv NInv)
def ownL (len:Nat)(blks:List Nat)(own:Nat->Option Own):Nat->Option Own:=fun k=>match blks.idxOf? k with | some j=>some (.nd (len+j)) | none=>own k
def atL (len:Nat)(blks:List Nat)(at1:Nat->Nat):Nat->Nat:=fun j=>if j<len then at1 j else blks.getD (j-len) 0
theorem aPt:∀ {blks:List Nat} {j b:Nat},blks.Nodup->blks[j]?=some b->blks.idxOf? b=some j
 | [],j,b,_,h=>by simp at h
 | x::l,0,b,_,h=>by
  simp at h;subst h;simp [List.idxOf?_cons]
 | x::l,j+1,b,hn,h=>by
  obtain ⟨h1,h2⟩:=List.nodup_cons.1 hn
  have h':l[j]?=some b:=by simpa using h
  have hne:x≠b:=fun e=>h1 (e ▸ List.mem_of_getElem? h')
  have:=aPt h2 h';rw [List.idxOf?_cons,this];simp [hne]
theorem aFl {a j b:Nat}{blks:List Nat}{own:Nat->Option Own}(c:blks.Nodup)(h:blks[j]?=some b):ownL a blks own b=some (.nd (a+j)):=by
 unfold ownL;rw [aPt c h]
theorem aMG {a k:Nat}{blks:List Nat}{own:Nat->Option Own}(h:k∉blks):ownL a blks own k=own k:=by
 unfold ownL;rw [List.idxOf?_eq_none_iff.2 h]
theorem aCl {len a:Nat}{blks:List Nat}{at1:Nat->Nat}(h:a<len):atL len blks at1 a=at1 a:=by unfold atL;rw [if_pos h]
theorem aDq {a j b:Nat}{blks:List Nat}{at1:Nat->Nat}(h:blks[j]?=some b):atL a blks at1 (a+j)=b:=by
 unfold atL;rw [if_neg (by omega),show a+j-a=j by omega,List.getD_eq_getElem?_getD,h];rfl
section
variable {w w3:World} {b0 fb:Nat} {own own':Nat->Option Own} {at1 at2:Nat->Nat} {i:Nat} {n n':Nd} {s:Rf.St} {rho:Nat->Nat} {c:Nat}
theorem aCF {ns1:List Nd}{N a:Nat}{xa:Nd}{zs:List Int}{u v:Rf.V}(b:NodeAt w (at2 N) zs false 0 0 0 0 0 nilP (ptrB (at2 a)) nilS' nilP nilP)(q:zs.length=8)(d:ns1[a]?=some xa)(f:xa.had[0]?=some Rf.one)(c:Pg.Cof [u,v] (colsZ zs))(g:own' (at2 N)=some (.nd N))(h:b0<=at2 N):NodeOk w b0 own' at2 ns1 N (Rf.fresh true [u,v] [a]):=by
 obtain ⟨i,j,k,l,m,n,o,p,rfl⟩:=eight q;exact ⟨⟨i,j,k,l,m,n,o,p,0,0,nilS',nilP,nilP,⟨b,Or.inl ⟨rfl,rfl⟩,fun e=>(by cases e),fun _=>rfl,fun _=>rfl,fun e=>(by cases e)⟩,[u,v],Pg.aCY rfl rfl rfl d f rfl,c⟩,Pg.HC.fresh _ _ _,g,h,fun e=>by cases e⟩
theorem aDf {ns1:List Nd}{N cb:Nat}{f:Rf.Op}{p q:Int}(a:NodeAt w (at2 N) [1,0,0,1,0,0,0,0] false 0 0 0 0 0 nilP nilP nilS' (ptrB cb) nilP)(b:ConAt w (Rf.row f p q) cb)(c:own' (at2 N)=some (.nd N))(d:b0<=at2 N):NodeOk w b0 own' at2 ns1 N (Rf.row f p q):=by
 refine ⟨⟨1,0,0,1,0,0,0,0,0,0,nilS',ptrB cb,nilP,⟨a,Or.inl ⟨rfl,rfl⟩,fun _=>⟨rfl,cb,rfl,b⟩,fun e=>absurd rfl e,fun _=>rfl,fun e=>(by cases e)⟩,[(1,0),(0,1)],Pg.aEZ rfl rfl rfl,?_⟩,(Pg.HC.fresh true [] []).of rfl rfl rfl,c,d,fun e=>by cases e⟩;exact .mk2 (e:=1) (by decide) (Pg.aAu _).symm (Pg.aAu _).symm (Pg.aAu _).symm (Pg.aAu _).symm
theorem aDW (h:Net w b0 own at1 fb s)(C:Inv s.nodes rho c)(r:s.nodes[i]?=some n){new ns':List Nd}(f:ns'=(s.nodes++new).set i n')(D:n'.pos=n.pos)(E:n'.had=n.had)(F:n'.out=n.out)(m:Chg w w3 [at1 i])(t:∀ a,a<s.nodes.length->at2 a=at1 a)(g:∀ k,k<w.heap.size->own' k=own k)(A:NodeOk w3 b0 own' at2 ns' i n')(u:∀ j mm,new[j]?=some mm->NodeOk w3 b0 own' at2 ns' (s.nodes.length+j) mm):
  Res w b0 own at1 fb s.nodes.length true ⟨ns',s.clock⟩ w3:=by
 have B:=(List.getElem?_eq_some_iff.1 r).1
 have v:(s.nodes++new)[i]?=some n:=by rw [List.getElem?_append_left B];exact r
 have x:Pg.Go s.nodes ns':=by
  rw [f];exact (Pg.Go.more _ _).trans (aB0 v D E F)
 have p:=(h.nd i n r).own
 have q:IsD w own i [at1 i]:=by
  intro k d H I mm z;simp at d;subst d;obtain ⟨y,b⟩:=aD1 h r;rw [z] at b;exact Or.inl ⟨(Obj.cells.inj (Option.some.inj b)).2.1,p⟩
 refine ⟨own',Kept.aHz m (fun k d hlt hno=>?_) (fun k d ho=>by rw [g k d];exact ho),fun _=>⟨at2,h.step (i:=i) C (fun j hj hne=>?_) x m q (fun k o d ho _=>by rw [g k d];exact ho) t (m.at h.fuel ?_) fun j mm hj hor=>?_,t⟩⟩
 ·simp at d;subst d;rw [p] at hno;cases hno
 ·rw [f,List.getElem?_set_ne (fun e=>hne e.symm),List.getElem?_append_left hj]
 ·intro d
  rcases q fb d _ _ _ h.fuel with ⟨e,_⟩ | ⟨e,_⟩ | e
  ·exact absurd e (by decide)
  ·exact absurd e (by decide)
  ·simp at d;obtain ⟨y,b⟩:=aD1 h r;rw [<-d,h.fuel] at b;exact absurd (Obj.cells.inj (Option.some.inj b)).2.1 (by decide)
 ·by_cases l:j=i
  ·subst l;rw [f,List.getElem?_set_self (by simp;omega)] at hj;cases hj;exact A
  ·rcases hor with e | e
   ·exact absurd e l
   ·rw [f,List.getElem?_set_ne (fun e=>l e.symm),List.getElem?_append_right e] at hj;have:=u _ _ hj;rw [show s.nodes.length+(j-s.nodes.length)=j by omega] at this;exact this
theorem NodeAt.copy {w2 w3:World}{m k:Nat}{ys:List Value}{zs:List Int}{hs:Bool}{uns mt lr rr pl:Int}{lp rp gv cv nv:Value}(h:NodeAt w2 m zs hs uns mt lr rr pl lp rp gv cv nv)(e:w2.heap[m]?=some (.cells ys.toArray 205 (0,0)))(f:w3.heap[k]?=some (.cells ys.toArray 205 (0,0)))(a:On Z.bt w2 w3):NodeAt w3 k zs hs uns mt lr rr pl lp rp gv cv nv:=by
 obtain ⟨c,b,d⟩:=h.ex;rw [e] at b;refine ⟨c,?_,aAm a d⟩;rw [f];exact b
end
end Ab
open Go.RowKit
namespace Ab
open Rf (Nd Inv NInv)
noncomputable def bT:FuncId->Option Func:=fun f=>bif f==243 then some Tryz.f243 else bif f==223 then some Tryz.f223 else bif f==234 then some Tryz.f234 else bif f==244 then some Tryz.f244 else bif f==179 then some Tryz.f179 else bif f==195 then some Tryz.f195 else bif f==194 then some Tryz.f194 else bif f==157 then some Tryz.f157 else bif f==160 then some Tryz.f160 else bif f==178 then some Tryz.f178 else none
theorem aBH {f g:FuncId}{b fn:Func}{x:Option Func}(h:(bif f==g then some b else x)=some fn)(c:Fn g b)(d:x=some fn->Tryz.prog.funcs[f]?=some fn/\Enters Z.P f):Tryz.prog.funcs[f]?=some fn/\Enters Z.P f:=by
 cases a:f==g with
 | true=>
  rw [a] at h;cases h
  have:f=g:=by simpa using a
  subst this;exact ⟨c.at',c.en⟩
 | false=>rw [a] at h;exact d h
theorem aCd:BodiesOk Z bT:=by
 intro f a h;unfold bT at h
 refine aBH h (aAj Tryz.func243 rfl rfl) fun h=>aBH h (aAj Tryz.func223 rfl rfl) fun h=>aBH h (aAj Tryz.func234 rfl rfl) fun h=>aBH h (aAj Tryz.func244 rfl rfl) fun h=>aBH h (aAj Tryz.func179 rfl rfl) fun h=>aBH h (aAj Tryz.func195 rfl rfl) fun h=>aBH h (aAj Tryz.func194 rfl rfl) fun h=>aBH h (aAj Tryz.func157 rfl rfl) fun h=>aBH h (aAj Tryz.func160 rfl rfl) fun h=>aBH h (aAj Tryz.func178 rfl rfl) fun h=>by cases h
def stS (kd p q:Int):AS:=⟨.val (.one (.int .i64 kd))::.val (.one (.ptr 2 0))::.val (.agg (numCs true 0 2))::List.replicate 49 .und,[(2,ext [.bool false] 205)],3,[(p,1),(q,1)],[]⟩
noncomputable def tT (kd p q:Int):Option Tr:=run Z (tabSp tS) bT (drawA Z (tabSp tS)) (fun _=>false) 2000 [.code (bodyOf Tryz.f236),.top Tryz.f236] (stS kd p q)
def leafT:List Bool->Tr->Option (AT×AS)
 | p,.need _ t=>leafT p t
 | b::p,.br _ x y=>bif b then leafT p x else leafT p y
 | [],.ret r s=>some (r,s)
 | _,_=>none
noncomputable def lS (kd p q:Int)(l:List Bool):AS:=(((tT kd p q).bind (leafT l)).map (·.2)).getD ⟨[],[],0,[],[]⟩
noncomputable def lR (kd p q:Int)(l:List Bool):AT:=(((tT kd p q).bind (leafT l)).map (·.1)).getD .top
section
variable (p q:Int)
theorem aVd:tT 10 p q=some (.need [0<gcdZ p q] (.need [0<lowT p q/\0<lowB p q/\(Rf.near (lowT p q) (lowB p q) 20000 1).isSome=true] (.ret (.val (.one (.ptr 24 0))) (lS 10 p q [])))):=by kernel_rfl
def skT (kd p q:Int)(sq:Bool)(r1 r2 r3 r4:AT)(s1 s2 s3 s4:AS):Tr:=.need [0<gcdZ p q] (.br (decide (Nm.cmp (lowT p q) 0=0)) (.br sq (.need [(fac1 kd 0).natAbs<1000000000000000000] (.need [(fac2 kd 0).natAbs<1000000000000000000] (.ret r1 s1))) (.need [(fac1 kd 0).natAbs<1000000000000000000] (.need [(fac2 kd 0).natAbs<1000000000000000000] (.ret r2 s2))))
 (.need [0<gcdZ (lowT p q*lowT p q) (lowB p q*lowB p q)] (.br sq (.need [(fac1 kd 0).natAbs<1000000000000000000] (.need [(fac2 kd 0).natAbs<1000000000000000000] (.ret r3 s3))) (.need [(fac1 kd 0).natAbs<1000000000000000000] (.need [(fac2 kd 0).natAbs<1000000000000000000] (.ret r4 s4))))))
theorem aT7:tT 11 p q=some (skT 11 p q true (.val (.one (.ptr 33 0))) (lR 11 p q [true,false]) (.val (.one (.ptr 67 0))) (lR 11 p q [false,false]) (lS 11 p q [true,true]) (lS 11 p q [true,false]) (lS 11 p q [false,true]) (lS 11 p q [false,false])):=by kernel_rfl
theorem aT8:tT 12 p q=some (skT 12 p q false (lR 12 p q [true,true]) (.val (.one (.ptr 9 0))) (lR 12 p q [false,true]) (.val (.one (.ptr 42 0))) (lS 12 p q [true,true]) (lS 12 p q [true,false]) (lS 12 p q [false,true]) (lS 12 p q [false,false])):=by kernel_rfl
theorem aT9:tT 13 p q=some (skT 13 p q true (.val (.one (.ptr 32 0))) (lR 13 p q [true,false]) (.val (.one (.ptr 65 0))) (lR 13 p q [false,false]) (lS 13 p q [true,true]) (lS 13 p q [true,false]) (lS 13 p q [false,true]) (lS 13 p q [false,false])):=by kernel_rfl
end
end Ab
end Go.Proofs.YteghhlfmcjmnoaaGreatDoor
