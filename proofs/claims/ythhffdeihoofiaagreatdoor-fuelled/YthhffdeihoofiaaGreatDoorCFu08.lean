import Derived.Test.YthhffdeihoofiaaGreatDoorCFu07
import Derived.Test.YthhffdeihoofiaaGreatDoorCFu02
set_option linter.all false
set_option maxRecDepth 100000
set_option maxHeartbeats 2000000
namespace Go.Proofs.YthhffdeihoofiaaGreatDoor
open Nat (le_trans le_refl add_zero)
open List (getElem?_append_left mem_of_getElem? mem_cons not_mem_nil getElem?_set_ne set_set)
open Int (lt_or_le)
open Option (map_some)
open Rf (V jO deeper eR total We near dX Fo Up aSU eZ turn)
open Pg (eO gY Zd HC qV sc Iv)
open Go.Proofs.Tryz
open Go.RowKit
namespace Ab
open Rf (Nd Inv aZ)
section
variable {w w1:World} {b0 fb m nb:Nat} {own:Nat->Option Own} {at1:NU} {i:Nat} {n n1:Nd} {s:Rf.St} {rho:NU} {c:Nat}
theorem aR2 {k:Nat}(h:k<=3000):IntKind.i64.wrap ((k:Int)+1)=((k+1:Nat):Int):=by
 rw[Vn (by omega) (by omega)];simp
variable {d:List Nd×Nat}
theorem aQZ (h:Net w b0 own at1 fb s)(W:b0<=w.heap.size)(bo:c<=3000)(hI:Inv s.nodes rho c)(hn:s.nodes[i]?=some n){a0 r0:Nat}{o f x p:V}(ht:n.t=[o,f,x,p])(ha:n.args=[a0])(hr:n.read=[r0])(Y:n.nest=true)(ok:jO s.nodes rho c i n a0)(J:deeper s.nodes n=some d)(e1:n1={n with args:=n.args++[d.2],read:=n.read++[0]}){j:List Nd}(ay:Rf.put d.1 i n1=some j){v z p1 y u R p3 q3 mt pl:Int}{gv g nv:Value}{l:List V}{b:Option (Nat×Nat)}{C nn:ON}(hs:Seen w b0 own at1 s.nodes i n v z p1 y u R p3 q3 mt pl gv g nv l b C nn)
  {xs:LB} {zs:LN} {fst O:Value} (r:Nst w b0 own at1 i n nb pl xs zs fst O) (S:Chg w w1 [at1 i]) (hm:w.heap.size<=m) (ab:Pos2 w1 (at1 i) fb [v,z,p1,y,u,R,p3,q3] (!n.pos) (fM n) mt (hY n) (gB n) pl s.clock (eW at1 (lArg n)) (ptrB m) gv g nv)
  (A:NodeAt w1 m (if aH n.op=10 then zs else lD (aH n.op) (IntKind.i64.wrap (pl+1))) false 0 0 0 0 (IntKind.i64.wrap (pl+1)) (if 0<IntKind.i64.wrap (pl+1)then O else fst) aA aI aA (ptrB nb)):
  ∃ad at2,Kept w w1 own ad fb/\Net w1 b0 ad at2 fb ⟨j,s.clock⟩/\(∀a,a<s.nodes.length->at2 a=at1 a)/\at2 d.2=m:=by
 have hN:=hI.at' i n hn;have aa:=(Cv ay).1
 have ar:nb ∉ [at1 i]:=by
  intro e;simp at e;subst e;obtain⟨ys,h1,_⟩:=hs.bV.nd.ex;rw[r.bV]at h1;exact absurd (Obj.cells.inj (Option.some.inj h1)).2.1 (by decide)
 have B:=S.at r.bV ar;have M:=mC S.on r.hold;have T:a0<s.nodes.length:=(hN.arg 0 a0 (by rw[ha];rfl)).1;unfold deeper at J
 by_cases E:n.op=.sqrt
 ·rw[if_pos E,ha]at J;simp only[List.getElem?_cons_zero,Option.bind_some]at J;obtain⟨Kv,D,P⟩:=Option.map_eq_some_iff.1 J;have F:=xM D;subst F;subst P;obtain⟨a,af,L,N,I⟩:=r.root E;rw[ha]at af;simp at af;subst af;rw[if_pos (by rw[E];rfl),show(if 0<IntKind.i64.wrap (pl+1)then O else fst)=ptrB (at1 a0) by split;exact N;exact L]at A;refine Ck h W hI hn ht ha hr Y e1 aa hs S hm ab T A r.len rfl rfl ht rfl rfl rfl rfl rfl rfl ⟨_,B⟩ ?_ I;refine⟨xs,zs,fst,O,B,M,r.len,r.bits,fun _=>⟨a0,rfl,by rw[Dt T];exact L,by rw[Dt T];exact N,I⟩,fun e=>absurd E e⟩
 ·rw[if_neg E]at J;obtain⟨a8,xx,hx,L,ap,H⟩:=r.fn E;obtain⟨base,ck,r1,r2,r3,r4,r5,r6⟩:=ok.ex;obtain⟨bu,g1,g2,g3,g4,g5⟩:=r6 E;rw[hx]at g1;cases g1;have hk:=hN.ku;have ao:=ok.op;obtain⟨ba,_⟩:=aJw ao E;rw[a8,aR2 (by omega),if_neg ba,if_pos (by omega)]at A;obtain⟨ag,_,_⟩:=Vy ao E (k:=n.k+1) (by omega)
  have I:∀(a x:Nat) (sq:ON),eO (eR n.op (n.k+1) a x sq).t (cH (lD (aH n.op) ((n.k+1:Nat):Int))):=by
   intro a x sq;rw[ag];exact .Em (e:=1) (by decide) (gY _).symm (gY _).symm (gY _).symm (gY _).symm
  rw[hx,Option.bind_some]at J;unfold Rf.nest at J
  by_cases U:n.op=.fL
  ·rw[if_neg (by rw[U];simp)]at J;obtain⟨Kv,D,P⟩:=Option.map_eq_some_iff.1 J;have F:=xM D;subst F;subst P;rw[ap U]at A;refine Ck h W hI hn ht ha hr Y e1 aa hs S hm ab g2 A rfl rfl rfl rfl rfl rfl rfl rfl rfl rfl ⟨_,B⟩ ?_ (I _ _ _);refine⟨xs,zs,fst,O,B,M,r.len,r.bits,fun e=>absurd e E,fun _=>⟨rfl,xx,rfl,by rw[Dt g2];exact L,fun _=>by rw[Dt g2];exact ap U,fun e=>absurd U e⟩⟩
  ·rw[if_pos ⟨by omega,U⟩]at J
   cases hq:n.fC with
   |some sq=>
    rw[hq]at J;simp only at J;obtain⟨Kv,D,P⟩:=Option.map_eq_some_iff.1 J;have F:=xM D;subst F;subst P;have a1:=(g5 sq hq).1;rw[(H U).1 sq hq]at A;refine Ck h W hI hn ht ha hr Y e1 aa hs S hm ab a1 A rfl rfl rfl rfl rfl rfl rfl rfl rfl rfl ⟨_,B⟩ ?_ (I _ _ _);refine⟨xs,zs,fst,O,B,M,r.len,r.bits,fun e=>absurd e E,fun _=>⟨rfl,xx,rfl,by rw[Dt g2];exact L,fun e=>absurd e U,fun _=>⟨fun s' e=>?_,fun e=>(by cases e)⟩⟩⟩;cases e;rw[Dt a1];exact(H U).1 sq hq
   |none=>
    rw[hq]at J;simp only at J;obtain⟨nx,a7,J⟩:=Option.bind_eq_some_iff.1 J;obtain⟨Kv,D,J⟩:=Option.bind_eq_some_iff.1 J;obtain⟨bh,X,P⟩:=Option.map_eq_some_iff.1 J;have F:=xM D;subst F;have ah:=xM X;subst ah;subst P;obtain⟨pb,N,au,av,ax⟩:=(H U).2 hq;rw[N]at A
    have a9:nx.pos=true:=by
     obtain⟨q,z1,z2⟩:=g4;rw[a7]at z1;cases z1;exact z2
    refine Tk h W hI hn ht ha hr Y a9 e1 aa hs S hm ab g2 au av ax A rfl rfl rfl rfl rfl rfl rfl rfl rfl rfl ⟨_,B⟩ ?_ (I _ _ _);refine⟨xs,zs,fst,O,B,M,r.len,r.bits,fun e=>absurd e E,fun _=>⟨rfl,xx,rfl,by rw[Xh g2];exact L,fun e=>absurd e U,fun _=>⟨fun s' e=>?_,fun e=>(by cases e)⟩⟩⟩;cases e;rw[Pw];exact N
theorem Mf (h:Net w b0 own at1 fb s){a:Nat}{x:Nd}(e:s.nodes[a]?=some x):∃cs:LB,w.heap[at1 a]?=some (.cells cs.toArray 190 (0,0)):=by
 obtain⟨j,o,p1,p,k,q,p3,r,mt,l,gv,f,g,d,_⟩:=(h.nd a x e).ex;obtain⟨u,b,_⟩:=d.nd.ex;exact⟨_,b⟩
variable {x:Rf.St×Option Int}{y:Rf.St×Bool}
theorem aK1 {f:Nat}(hS:nU f)(R:hV)(h:Net w b0 own at1 fb s)(z:b0<=w.heap.size)(A:s.clock=(c:Int))(k:c<=3000)(M:Inv s.nodes rho c)(N:s.nodes[i]?=some n)(hf:c+rho i+1<=f){a r o:Nat}(q:n.args[o]?=some a)(C:n.read[o]?=some r)(F:(∃v u,n.t=[v,u]/\o=0)\/(∃v u x y,n.t=[v,u,x,y]/\n.args.length=2/\o=1))(U:n.aP=true->o=0)(hx:Rf.sym f s a r=some x)(hy:(match x.2 with|none=>some (x.1,false)|some _=>Rf.after x.1 i o)=some y):
  Calls prog 166 #[ptrB (at1 i),ptrB fb] w fun e w'=>∃b,e=.returned (.bool b)/\uJ w b0 own at1 fb s.nodes.length y (.returned (.bool b)) w':=by
 have P:=M.at' i n N;obtain⟨la,ra⟩:=P.arg o a q;have d:s.nodes[a]?=some s.nodes[a]:=List.getElem?_eq_getElem la;obtain⟨x0,L,p⟩:=total f s a r rho c A k M _ d (P.rd o a r _ q C d) (by omega);rw[hx]at L;cases L
 have H:∀v,x.2=some v->∃n',x.1.nodes[a]?=some n'/\n'.out[r]?=some v:=fun v e=>We f s a r x.1 v (by rw[hx];cases x;simp only at e;rw[e])
 obtain⟨p0,q0,p1,q1,p2,q2,p3,q3,mt,pl,gv,cv,nv,l,g,cc,nn,Y⟩:=h.seen M N
 obtain⟨D,W⟩:rArg n=some a/\gB n=r:=by
  rcases F with⟨v,u,I,rfl⟩|⟨v,u,x',y',I,hl,rfl⟩
  ·exact⟨by unfold rArg;rw[I];exact q,by unfold gB;rw[I];simp[List.getD_eq_getElem?_getD,C]⟩
  ·exact⟨by unfold rArg;rw[I];exact q,by unfold gB;rw[I];simp[List.getD_eq_getElem?_getD,C]⟩
 have J:∀w1,Chg w w1 []->Calls prog 88 #[.agg #[eW at1 (rArg n),.int .i64 (gB n)],ptrB fb] w1 fun e w2=>∃O,e=.returned (.int .i64 O)/\Li w2 (at1 i) fb O fun e w'=>∃b,e=.returned (.bool b)/\uJ w b0 own at1 fb s.nodes.length y (.returned (.bool b)) w':=by
  intro w1 c1;rw[D,W];refine(Zl hS h z A k M d (P.rd o a r _ q C d) (by omega) hx w1 c1).mono ?_;rintro e w2⟨O,rfl,rfl,E⟩;exact⟨_,rfl,aIF (f:=f) R h z k N q C ra F U hy E p H⟩
 have j:=h.tG Y
 cases B:n.nest with
 |false=>exact aHt j (Y.bV.nst.1 B) J
 |true=>
  obtain⟨nb,T,S,_⟩:=Y.bV.nst.2 B
  have X:eW at1 (rArg n)=ptrB (at1 a):=by rw[D];rfl
  exact aHu j T X S (Mf h d) (aWK h N d (fun e=>by rw[e]at ra;omega)) J
theorem aS1 {f:Nat}(hS:nU f)(al:hV)(h:Net w b0 own at1 fb s)(N:b0<=w.heap.size)(ao:s.clock=(c:Int))(A:c<=3000)(hI:Inv s.nodes rho c)(hn:s.nodes[i]?=some n){a0 p:Nat}{v u x' y':V}(ht:n.t=[v,u,x',y'])(o:n.args=[a0])(I:n.read=[p])(S:n.nest=true)(ax:n.aP=false)(ok:jO s.nodes rho c i n a0)(hd:deeper s.nodes n=some d)(J:n1={n with args:=n.args++[d.2],read:=n.read++[0]}){k:Rf.St}(W:Rf.put d.1 i n1=some k.nodes)(j:k.clock=(c:Int)){B:NU}(D:Inv k.nodes B c)(C:Rf.hP s.nodes rho i k.nodes B)(R:k.nodes[i]?=some n1)(hf:c+rho i+1<=f)(hx:Rf.sym f k d.2 0=some x)(hy:(match x.2 with|none=>some (x.1,false)|some _=>Rf.after x.1 i 1)=some y):
  Calls prog 166 #[ptrB (at1 i),ptrB fb] w fun e w'=>∃b,e=.returned (.bool b)/\uJ w b0 own at1 fb s.nodes.length y (.returned (.bool b)) w':=by
 have hN:=hI.at' i n hn;have hi:=(List.getElem?_eq_some_iff.1 hn).1;have ak:=D.at' i n1 R
 have ha:n1.args[1]?=some d.2:=by rw[J,o];rfl
 have hr:n1.read[1]?=some 0:=by rw[J,I];rfl
 obtain⟨la,ra⟩:=ak.arg 1 d.2 ha;have ab:k.nodes[d.2]?=some k.nodes[d.2]:=List.getElem?_eq_getElem la;have a9:B i=rho i:=C.agree i hi;obtain⟨xo,ad,H⟩:=total f k d.2 0 B c j A D _ ab (Nat.zero_le _) (by omega);rw[hx]at ad;cases ad
 have Y:∀v,x.2=some v->∃n',x.1.nodes[d.2]?=some n'/\n'.out[0]?=some v:=fun v e=>We f k d.2 0 x.1 v (by rw[hx];cases x;simp only at e;rw[e])
 obtain⟨p0,q0,p1,q1,p2,q2,p3,q3,mt,pl,gv,cv,nv,l,g,cc,nn,hs⟩:=h.seen hI hn;obtain⟨nb,ar,_,T⟩:=hs.bV.nst.2 S;obtain⟨xs,zs,fst,bp,a⟩:=Nst.of (T (by rw[ht];rfl) (by rw[o];rfl));obtain⟨o1,o2⟩:=a.Es
 have ay:rArg n=none:=by unfold rArg;rw[ht,o];rfl
 have az:gB n=0:=by unfold gB;rw[ht,I];rfl
 have U:=h.tG hs;have r:=U;rw[ay]at r;have bz:=hN.ku;refine aGd (nb:=nb) r ar a.bV a.hold a.len a.bits o1 o2 ?_ ?_
 ·intro P
  have X:n.op≠.sqrt:=fun e=>P (by rw[e];rfl)
  rw[(a.fn X).1,aR2 (by omega)];exact(Vy ok.op X (by omega)).2
 ·intro w1 m am hm au F;obtain⟨ae,at2,hk,q,L,M⟩:=aQZ h N A hI hn ht o I S ok hd J W hs a am hm au F
  have a3:(⟨k.nodes,s.clock⟩:Rf.St)=k:=by
   cases k;simp only at j ⊢;rw[ao,j]
  rw[a3]at q;rw[<-M,az];have O:b0<=w1.heap.size:=le_trans N hk.on.size;refine(Zl hS q O j A D ab (Nat.zero_le _) (by omega) hx w1 (Chg.refl w1)).mono ?_;rintro e w2⟨cd,rfl,rfl,z⟩;refine⟨_,rfl,?_⟩;have hA:=aIF (f:=f) al q O A R ha hr ra (Or.inr ⟨v,u,x',y',by rw[J];exact ht,by rw[J,o];rfl,rfl⟩) (fun e=>by rw[J]at e;simp only at e;rw[ax]at e;cases e) hy z H Y;rw[L i hi]at hA
  have conv:∀{e:Ending} {w':World},(∃b,e=.returned (.bool b)/\uJ w1 b0 ae at2 fb k.nodes.length y (.returned (.bool b)) w')->∃b,e=.returned (.bool b)/\uJ w b0 own at1 fb s.nodes.length y (.returned (.bool b)) w':=by
   rintro e w'⟨b,he,hb,z⟩;exact⟨b,he,hb,kM.after hk L C.le.len z⟩
  refine⟨fun E w3 c3=>conv (hA.none E w3 c3),fun E=>?_⟩;obtain⟨p0,q0,p1,q1,p2,q2,p3,q3,a2,a5,mt,lr,rr,pl,c',lp,rp,gv,cv,nv,t1,t2,t3,t4,t5,t6,t7,t8⟩:=hA.some E;refine⟨p0,q0,p1,q1,p2,q2,p3,q3,a2,a5,mt,lr,rr,pl,c',lp,rp,gv,cv,nv,t1,t2,t3,t4,t5,t6,fun aq w3 c3=>conv (t7 aq w3 c3),fun ap=>?_⟩;obtain⟨z1,z2⟩:=t8 ap;refine⟨z1,fun w3 c3 av=>(z2 w3 c3 av).mono ?_⟩;rintro e w4⟨vv,rfl,hF⟩;exact⟨vv,rfl,fun w5 c5=>conv (hF w5 c5)⟩
end
section
variable {w:World} {b0 fb:Nat} {own:Nat->Option Own} {at1:NU} {i:Nat} {n:Nd} {s:Rf.St} {rho:NU} {c:Nat}
theorem aSZ {f:Nat}(hS:nU f)(J:hV)(h:Net w b0 own at1 fb s)(ap:b0<=w.heap.size)(p:s.clock=(c:Int))(o:c<=3000)(B:Inv s.nodes rho c)(E:s.nodes[i]?=some n)(hf:c+rho i+1<=f)(ho:Rf.nextP s.nodes n=some none){y:Rf.St×Bool}(M:Rf.reads (Rf.sym f) s i n=some y):
  ∀w1,Chg w w1 []->Calls prog 149 #[ptrB (at1 i),ptrB fb] w1 (uJ w b0 own at1 fb s.nodes.length y):=by
 intro w1 c1;have h1:=h.still B c1;have hN:=B.at' i n E
 have conv:∀{P:World} {e:Ending} {z:World},Chg w P []->uJ P b0 own at1 fb s.nodes.length y e z->uJ w b0 own at1 fb s.nodes.length y e z:=by
  rintro P e z c2⟨he,Y⟩;exact⟨he,kM.after (Kept.still c2) (fun _ _=>rfl) (le_refl _) Y⟩
 by_cases ht:n.t=[]
 ·exact(aVn h1 p o B E ht M).mono fun e z A=>conv c1 A
 ·obtain⟨sd,s1,H,n1,a,r,e1,e2,e3,e4,e5,e6,O,S,e9,R,hcase⟩:=Rf.aF0 p o B E ht ho;have T:=e4.at' i n1 e6;obtain⟨la,ra⟩:=T.arg sd a O;have ab:s1.nodes[a]?=some s1.nodes[a]:=List.getElem?_eq_getElem la;have a9:H i=rho i:=e5.agree i (List.getElem?_eq_some_iff.1 E).1;obtain⟨x,hx,_⟩:=total f s1 a r H c e3 o e4 _ ab (T.rd sd a r _ O S ab) (by omega);unfold Rf.reads at M;rw[if_neg ht,e1,Option.bind_some,e2,Option.bind_some,e6,Option.bind_some,O,Option.bind_some,S,Option.bind_some,hx,Option.bind_some]at M;obtain⟨p0,q0,p1,q1,p2,q2,p3,q3,mt,pl,gv,cv,nv,l,g,cc,nn,hs⟩:=h1.seen B E;refine aIC (b:=decide (n.t.length=4/\sd=0)) (by rw[<-hs.bV.oO ht];exact(hs.bV.nd.cell rfl).1) ?_;refine(hs.reads hN e1).mono ?_;rintro e P⟨rfl,c2⟩;have I:=c1.trans c2;have h2:=h.still B I;have D:b0<=P.heap.size:=le_trans ap I.on.size
  have C:∀{e:Ending} {z:World},(∃b,e=.returned (.bool b)/\uJ P b0 own at1 fb s.nodes.length y (.returned (.bool b)) z)->∃b,e=.returned (.bool b)/\uJ w b0 own at1 fb s.nodes.length y (.returned (.bool b)) z:=by
   rintro e z⟨b,he,U⟩;exact⟨b,he,conv I U⟩
  refine⟨rfl,fun U=>?_,fun U=>?_⟩
  ·obtain⟨h4,N⟩:=of_decide_eq_true U;subst N
   rcases hcase with⟨v,u,L,_⟩|⟨v,u,x',y',q,k,_,rfl,rfl,hp⟩|⟨a0,v,u,x',y',_,_,N,_⟩
   ·rw[L]at h4;cases h4
   ·exact(aST hS h2 D p o B E hf q hp O S hx M).mono fun e z A=>C A
   ·cases N
  ·have W:=of_decide_eq_false U
   rcases hcase with⟨v,u,L,ha,N,rfl,rfl⟩|⟨v,u,x',y',q,k,be,rfl,rfl,hp⟩|⟨a0,v,u,x',y',q,ao,N,ax,hp,ok,av,r0,d,A,hd,dT,au,X⟩
   ·subst N
    exact(aK1 hS J h2 D p o B E hf O S (Or.inl ⟨v,u,L,rfl⟩) R hx M).mono fun e z A=>C A
   ·have az:sd=1:=by
     rw[q]at W;simp at W;omega
    subst az
    have ar:n1.args.length=2:=by
     cases hN.shp with
     |fK F j _ _=>rw[j]at k;simp at k
     |gM v F j _ _=>rw[j]at k;simp at k
     |kU v u a F j _=>rw[j]at k;simp at k
     |bin a b v u x y F j _=>rw[j];rfl
     |nest a v u x y F j _ _ _=>rw[j]at k;simp at k
    exact(aK1 hS J h2 D p o B E hf O S (Or.inr ⟨v,u,x',y',q,ar,rfl⟩) R hx M).mono fun e z A=>C A
   ·subst N ax dT
    exact(aS1 hS J h2 D p o B E q ao A av hp ok hd au X e3 e4 e5 e6 hf hx M).mono fun e z A=>C A
theorem aWj (am:hV)(f:Nat):nU f:=by
 induction f using Nat.strongRecOn with
 |ind f ih=>
  intro w b0 fb own at1 s rho c i j n x h ap aq a6 hI hn hj hf hx;have hi:=(List.getElem?_eq_some_iff.1 hn).1
  have ba:j<=3000:=by have:=(hI.at' i n hn).iP;omega
  refine aIR (m:=f) (J:=fun(m:Nat) (w':World)=>∃(q:Nat->Option Own) (at2:NU) (L:Rf.St) (r:NU) (U:Nat) (C:Nd),Kept w w' own q fb/\Net w' b0 q at2 fb L/\(∀a,a<s.nodes.length->at2 a=at1 a)/\L.clock=(U:Int)/\U<=c/\Inv L.nodes r U/\L.nodes[i]?=some C/\j<=C.out.length/\s.nodes.length<=L.nodes.length/\U+r i+2<=m/\m<=f/\Rf.sym m L i j=some x) (by omega) ⟨?_⟩ ⟨own,at1,s,rho,c,n,Kept.still (Chg.refl w),h,fun _ _=>rfl,aq,le_refl _,hI,hn,hj,le_refl _,hf,le_refl _,hx⟩;rintro m w'⟨q,at2,L,r,U,C,hk,p,M,B,a5,A,z,a9,Y,bb,bc,b⟩
  obtain⟨S,rfl⟩:∃S,m=S+1:=⟨m-1,by omega⟩
  have al:=A.at' i C z;obtain⟨p0,q0,p1,q1,p2,q2,p3,q3,mt,pl,gv,cv,nv,l,g,cc,nn,hs⟩:=p.seen A z;have E:=M i hi;have o:=(hs.bV.nd.cell rfl).2;rw[E]at o;have be:=al.iP;rw[Rf.aK9,z,Option.bind_some]at b
  cases d:C.out[j]? with
  |some v=>
   rw[d]at b;simp only at b;cases b;have D:=(List.getElem?_eq_some_iff.1 d).1
   rcases hs.bV.Aw with⟨T,W⟩|⟨g',k,af,T,W,g3,g4,g5,g6⟩
   ·rw[W]at D;simp at D
   ·refine⟨_,C.out.length,k,⟨gv,o,T⟩,by omega,Or.inr ⟨D,g',code v,rfl,?_,rfl,?_⟩⟩
    ·refine bH W ?_;rw[List.getElem?_toArray,getElem?_append_left (by simpa using D),List.getElem?_map,d];rfl
    ·exact⟨q,hk,fun _=>⟨at2,p,M⟩⟩
  |none=>
   rw[d]at b;simp only at b;obtain⟨y,hy,b⟩:=Option.bind_eq_some_iff.1 b;obtain⟨s2,b2,ad,ae⟩:=Rf.aQx (f:=S) B (by omega) A z (by omega);rw[hy]at ad;cases ad;have au:C.out.length<=j:=List.getElem?_eq_none_iff.1 d
   have O:∃gb k,gv=.slice gb C.out.length k:=by
    rcases hs.bV.Aw with⟨T,W⟩|⟨g',k,af,T,_⟩
    ·exact⟨none,0,by rw[T,W];rfl⟩
    ·exact⟨_,k,T⟩
   obtain⟨gb,k,ar⟩:=O;refine⟨gb,C.out.length,k,⟨gv,o,ar⟩,by omega,Or.inl ⟨au,?_⟩⟩;have F:b0<=w'.heap.size:=le_trans ap hk.on.size;rw[<-E];refine(aSN (f:=S) p F B (by omega) A z hy (fun e=>?_) (fun aa w1 c1=>?_)).mono ?_
   ·obtain⟨u,c2,_,_,ak,_⟩:=ae e;exact⟨u,c2,ak⟩
   ·have ax:Rf.reads (Rf.sym S) L i C=some (s2,b2):=by
     unfold Rf.step1 at hy;rw[aa,Option.bind_some]at hy;exact hy
    exact aSZ (ih S (by omega)) am p F B (by omega) A z (by omega) aa ax w1 c1
   ·rintro e w2⟨rfl,H⟩;refine⟨b2,rfl,fun hb=>?_,fun hb=>?_⟩
    ·subst hb;obtain⟨u,c2,k1,k2,k3,k4,n2,k5,k6⟩:=ae rfl;obtain⟨I,N,P⟩:=H;obtain⟨ai,R,X⟩:=P rfl;simp only[if_true]at b;have a1:u i=r i:=k4.agree i (by omega);exact⟨S,by omega,I,ai,s2,u,c2,n2,hk.trans N,R,fun a ha=>(X a (by omega)).trans (M a ha),k2,by omega,k3,k5,by omega,le_trans Y k4.le.len,by omega,by omega,b⟩
    ·subst hb;simp only[Bool.false_eq_true,if_false,Option.some.injEq]at b;subst b;obtain⟨I,N,_⟩:=H;exact⟨rfl,kM.no (hk.trans N)⟩
end
variable {n:World}{Q:XW}
theorem aT5 {P:Program}{o:Oper}{a:Act}{K k:AW}{l:XW}(g:∀a n,K a n->k a n)(j:∀e a n,e≠.normal->Q e a n->l e a n)(h:o.wp P a n K Q):o.wp P a n k l:=by
 unfold Oper.wp at*;generalize (execOp a.eval o).run P n=r at*
 cases r with
 |ok b s=>
  cases b<;>simp only[Oper.upon]at h ⊢
  case value v=>exact g _ _ h
  case skip=>exact g _ _ h
  case defer d=>exact g _ _ h
  case enter f args=>
   refine Calls.mono h fun e u i=>?_
   cases e with
   |returned v=>exact g _ _ i
   |panicked c=>exact j _ _ _ (by simp) i
   |outgrown=>
    obtain⟨p,y,q⟩:=i;exact⟨p,y,j _ _ _ (by simp) q⟩
  case row row args=>exact Rows.mono h fun _ _ i=>g _ _ i
 |halt x s=>
  cases x<;>simp only[Oper.upon]at h ⊢
  case panic v=>exact j _ _ _ (by simp) h
def sS (ops:Array Oper)(j:Nat):Bool:=
 let M:=masks [] ops.toList
 (List.range j).all (fun i=>(M.getD j 0).testBit i)&&(List.range ops.size).all (fun i=>Nat.ble i j||(M.getD i 0).testBit (i-1))&&ops.toList.all (fun o=>o.guard.isNone)&&ops.toList.zipIdx.all (fun x=>x.1.after.toList.all fun e=>Nat.blt e.on x.2)
def pF (n m:Nat):Array Bool:=(Array.range n).map fun i=>decide (i<m)
theorem Ih (n m i:Nat)(d:Bool)(hi:i<n):(pF n m).getD i d=decide (i<m):=by
 unfold pF;simp[Array.getD_eq_getD_getElem?,hi]
variable {ops:Array Oper}
theorem aLw {m:Nat}(h:∀(i:Nat) (o:Oper),ops[i]?=some o->∀e∈o.after,e.on<i):qK ops fun i=>(pF ops.size m).getD i false:=by
 intro i o hi b e d _;have a:=(Array.getElem?_eq_some_iff.1 b).1;have f:=h i o b e d;simp only at hi ⊢;rw[Ih _ _ _ _ a]at hi;rw[Ih _ _ _ _ (by omega)];simp at hi ⊢;omega
theorem aKe {P:Program}{ops:Array Oper}{w:Nat}{Q:XW}(s:∀i,i<ops.size->w<i->((masks [] ops.toList).getD i 0).testBit (i-1)=true)(p:∀(i:Nat) (o:Oper),ops[i]?=some o->∀e∈o.after,e.on<i):∀(fuel m:Nat) (a:Act) (b:World),m+fuel=ops.size->w<=m->wpOps P ops Q ((List.range ops.size).drop m) a b->wpAny P .any ops Q fuel (pF ops.size m) a b
 |0,m,a,b,D,B,h=>by
  have e:(List.range ops.size).drop m=[]:=by simp;omega
  rw[e]at h;refine⟨?_,h⟩;apply List.eq_nil_iff_forall_not_mem.2;intro i hi;obtain⟨k,o,n,_⟩:=mem_ready.1 hi;have d:=(Array.getElem?_eq_some_iff.1 n).1;rw[Ih _ _ _ _ d]at k;simp at k;omega
 |fuel+1,m,a,b,D,B,h=>by
  have g:m<ops.size:=by omega
  have f:m∈Region.ready .any ops (pF ops.size m):=by
   refine mem_ready.2 ⟨by rw[Ih _ _ _ _ g];simp,ops[m],Array.getElem?_eq_getElem g,fun e A _=>?_⟩;have:=p m ops[m] (Array.getElem?_eq_getElem g) e A;rw[Ih _ _ _ _ (by omega)]
   simpa using this
  refine⟨fun l=>(by rw[l]at f;cases f),fun i hi=>?_⟩;obtain⟨k,o,n,z⟩:=mem_ready.1 hi;have d:=(Array.getElem?_eq_some_iff.1 n).1;rw[Ih _ _ _ _ d]at k
  have q:i=m:=by
   by_cases C:m<i
   ·have:=Nn (aLw (m:=m) p) i o n z (i-1) (s i d (by omega));rw[Ih _ _ _ _ (by omega)]at this;simp at this;omega
   ·simp at k;omega
  subst q
  have e:(List.range ops.size).drop i=i::(List.range ops.size).drop (i+1):=by
   rw[List.drop_eq_getElem_cons (by simpa using d)];simp
  rw[e,wpOps_cons]at h;refine wpOp_mono ?_ h;intro v F y
  have E:(pF ops.size i).setIfInBounds i true=pF ops.size (i+1):=by
   apply Array.ext_getElem?;intro x;rw[Array.getElem?_setIfInBounds];unfold pF
   by_cases u:i=x
   ·subst u;simp[d]
   ·rw[if_neg u]
    by_cases r:x<ops.size
    ·simp[r];omega
    ·rw[Array.getElem?_eq_none (by simp;omega),Array.getElem?_eq_none (by simp;omega)]
  rw[E];exact aKe s p fuel (i+1) v F (by omega) (by omega) y
variable {w:Nat}
theorem aJr {i:Nat}(hi:i<w):(ops.extract 0 w)[i]?=ops[i]?:=by
 rw[Array.getElem?_extract];simp;omega
theorem aPn {P:Program}{Q':XW}(a0:w<ops.size)(ab:∀i,i<w->((masks [] ops.toList).getD w 0).testBit i=true)(hM:∀i,i<ops.size->w<i->((masks [] ops.toList).getD i 0).testBit (i-1)=true)(Y:∀(i:Nat) (o:Oper),ops[i]?=some o->∀e∈o.after,e.on<i)(hG:∀(i:Nat) (o:Oper),ops[i]?=some o->o.guard=none)
  (hQ:∀e a b,e≠.normal->Q' e a b->Q e a b) (hT:∀a b,Q' .normal a b->wpAny P .any ops Q (ops.size-w) (pF ops.size w) a b):
  ∀(fuel:Nat) (f l:Array Bool) (a:Act) (b:World),f.size=w->l.size=ops.size->(∀i,i<w->l.getD i false=f.getD i false)->(∀i,w<=i->i<ops.size->l.getD i false=false)->((List.range w).filter fun i=>!f.getD i false).length=fuel->qK ops (fun i=>l.getD i false)->wpAny P .any (ops.extract 0 w) Q' fuel f a b->wpAny P .any ops Q (fuel+(ops.size-w)) l a b:=by
 intro fuel
 induction fuel with
 |zero=>
  intro f l a b T hs g p U z h
  have R:∀i,i<w->f.getD i false=true:=by
   intro i hi
   cases hv:f.getD i false with
   |true=>rfl
   |false=>
    have:i∈(List.range w).filter fun i=>!f.getD i false:=by simp[hi,<-Array.getD_eq_getD_getElem?,hv]
    rw[List.length_eq_zero_iff.1 U]at this;cases this
  have hl:l=pF ops.size w:=by
   apply Array.ext
   ·simp[pF,hs]
   ·intro i D h2
    have H:i<ops.size:=by omega
    have W:l[i]=l.getD i false:=by simp[Array.getD_eq_getD_getElem?,D]
    rw[W]
    by_cases hi:i<w
    ·rw[g i hi,R i hi];simp[pF,hi]
    ·rw[p i (by omega) H];simp[pF,hi]
  rw[hl,Nat.zero_add];exact hT a b h.2
 |succ fuel ih=>
  intro f l a b T hs g p U z h
  have v:∃i,i<w/\f.getD i false=false:=by
   have ai:((List.range w).filter fun i=>!f.getD i false)≠[]:=by intro e;rw[e]at U;simp at U
   obtain⟨i,r,e⟩:=List.exists_cons_of_ne_nil ai
   have hi:i∈(List.range w).filter fun i=>!f.getD i false:=by rw[e];simp
   rw[List.mem_filter,List.mem_range]at hi;exact⟨i,hi.1,by simpa using hi.2⟩
  have d:∀(x:Array Bool) (i:Nat),i<x.size->x.getD i true=x.getD i false:=by
   intro x i hi;simp[Array.getD_eq_getD_getElem?,hi]
  have aj:∀i,i∈Region.ready .any ops l->i<w/\i∈Region.ready .any (ops.extract 0 w) f:=by
   intro i hi;obtain⟨D,o,q,E⟩:=mem_ready.1 hi;have H:=(Array.getElem?_eq_some_iff.1 q).1
   have k:i<w:=by
    by_cases ae:i<w
    ·exact ae
    ·exfalso
     by_cases u:i=w
     ·subst u;obtain⟨x,A,N⟩:=v;have:=Nn z i o q E x (ab x A);rw[g x A,N]at this;cases this
     ·have:=Nn z i o q E (i-1) (hM i H (by omega));rw[p (i-1) (by omega) (by omega)]at this;cases this
   refine⟨k,mem_ready.2 ⟨?_,o,by rw[aJr k];exact q,fun e u F=>?_⟩⟩
   ·rw[d f i (by omega),<-g i k,<-d l i (by omega)];exact D
   ·have:=E e u F;have M:=Y i o q e u;rw[<-g e.on (by omega)];exact this
  have aq:∀i,i∈Region.ready .any (ops.extract 0 w) f->i∈Region.ready .any ops l:=by
   intro i hi;obtain⟨D,o,q,E⟩:=mem_ready.1 hi
   have k:i<w:=by
    have:=(Array.getElem?_eq_some_iff.1 q).1;simp at this;omega
   rw[aJr k]at q;refine mem_ready.2 ⟨?_,o,q,fun e u F=>?_⟩
   ·rw[d l i (by omega),g i k,<-d f i (by omega)];exact D
   ·have M:=Y i o q e u;rw[g e.on (by omega)];exact E e u F
  rw[show fuel+1+(ops.size-w)=(fuel+(ops.size-w))+1 by omega];refine⟨fun S=>?_,fun i hi=>?_⟩
  ·exfalso
   have O:∀n,n<w->f.getD n false=false->False:=by
    intro n
    induction n using Nat.strongRecOn with
    |ind n al=>
     intro ag ah;have ho:ops[n]?=some (ops[n]'(by omega)):=Array.getElem?_eq_getElem (by omega)
     have B:n∈Region.ready .any ops l:=by
      refine mem_ready.2 ⟨?_,_,ho,fun e u F=>?_⟩
      ·rw[d l n (by omega),g n ag];exact ah
      ·have M:=Y n _ ho e u
       cases hv:l.getD e.on false with
       |true=>rfl
       |false=>
        rw[g e.on (by omega)]at hv;exact(al e.on M (by omega) hv).elim
     rw[S]at B;cases B
   obtain⟨x,A,N⟩:=v;exact O x A N
  ·obtain⟨k,ad⟩:=aj i hi;have s:=h.2 i ad;obtain⟨D,o,q,E⟩:=mem_ready.1 hi
   have aa:f.getD i false=false:=by
    rw[<-g i k,<-d l i (by omega)];exact D
   have J:∀a b,wpAny P .any (ops.extract 0 w) Q' fuel (f.setIfInBounds i true) a b->wpAny P .any ops Q (fuel+(ops.size-w)) (l.setIfInBounds i true) a b:=by
    intro a' w' h'
    have C:∀(x:Array Bool),i<x.size->(fun m=>(x.setIfInBounds i true).getD m false)=fun m=>x.getD m false||m==i:=by
     intro x hx;funext m
     by_cases I:m=i
     ·subst I;simp[hx,Array.getElem?_setIfInBounds]
     ·rw[getD_set_ne false (Ne.symm I)];simp[I]
    have sA:=C f (by omega);have sl:=C l (by omega);refine ih (f.setIfInBounds i true) (l.setIfInBounds i true) a' w' (by simpa using T) (by simpa using hs) ?_ ?_ ?_ ?_ h'
    ·intro m I;have W:=congrFun sA m;have X:=congrFun sl m;rw[W,X,g m I]
    ·intro m I af;have X:=congrFun sl m;rw[X,p m I af];simp;omega
    ·have:=Zp (fun m=>f.getD m false) i aa (List.range w) List.nodup_range (by simpa using k)
     have e:(fun m=>!(f.setIfInBounds i true).getD m false)=fun m=>!(f.getD m false||m==i):=by
      funext m;exact congrArg Bool.not (congrFun sA m)
     rw[e];omega
    ·rw[sl];intro x o' hx L e u F;simp only[Bool.or_eq_true,beq_iff_eq]at hx ⊢
     rcases hx with hx|hx
     ·exact Or.inl (z x o' hx L e u F)
     ·subst hx;rw[q]at L;cases L;exact Or.inl (E e u F)
   unfold wpOp at s ⊢;rw[aJr k,q]at s;rw[q];simp only at s ⊢
   have hw:∀y,Region.wanted o y=true:=by
    intro y;unfold Region.wanted;rw[hG i o q]
   rw[if_pos (hw _)]at s ⊢
   rcases s with s|⟨q1,q2⟩
   ·exact Or.inl (aT5 J hQ s)
   ·obtain⟨a2,w2,h2⟩:=q2;exact Or.inr ⟨q1,a2,w2,hQ _ _ _ (by simp) h2⟩
variable {q φ:LI}
theorem Lr {L:fG}{sp:Spec}(S:L.P.follows .mixedOrders=true)(B:SpecOk L n q sp)(z:w<ops.size)(g:sS ops w=true){s I:AS}{p:List Prop}(O:aK L sp (ops.extract 0 w) s=some (I,p))(T:Holds p){a:Act}{b:World}{id:Nat}(U:Rep L n q φ s a b)
  (N:∀r k l,Rep L n q r I k l->wpOps L.P ops Q ((List.range ops.size).drop w) k l):(Code.region id ops true).wp L.P Q a b:=by
 unfold sS at g;simp only[Bool.and_eq_true]at g;obtain⟨⟨⟨b1,b2⟩,J⟩,b4⟩:=g
 have x:∀i,i<w->((masks [] ops.toList).getD w 0).testBit i=true:=fun i hi=>List.all_eq_true.1 b1 i (List.mem_range.2 hi)
 have H:∀i,i<ops.size->w<i->((masks [] ops.toList).getD i 0).testBit (i-1)=true:=by
  intro i hi R;have:=List.all_eq_true.1 b2 i (List.mem_range.2 hi)
  rcases Bool.or_eq_true _ _▸this with h|h
  ·have:=Nat.le_of_ble_eq_true h;omega
  ·exact h
 have M:∀(i:Nat) (o:Oper),ops[i]?=some o->o.guard=none:=by
  intro i o v
  have u:o∈ops.toList:=by rw[<-Array.getElem?_toList]at v;exact mem_of_getElem? v
  have:=List.all_eq_true.1 J o u
  simpa using this
 have F:∀(i:Nat) (o:Oper),ops[i]?=some o->∀e∈o.after,e.on<i:=by
  intro i o v e y;have:=List.all_eq_true.1 b4 (o,i) (Ud (by rw[Array.getElem?_toList];exact v));simp only[List.all_eq_true]at this;exact Nat.blt_eq▸this e (by simpa using y)
 refine wp_region_any S ?_
 have E:=aIc (Q:=fun e k l=>e=.normal/\wpOps L.P ops Q ((List.range ops.size).drop w) k l) B O T U fun r k l _ A=>⟨rfl,N r k l A⟩
 have D:(ops.extract 0 w).size=w:=by simp;omega
 rw[D]at E
 have f:∀d i,(Array.replicate d false).getD i false=false:=by
  intro d i;rw[Array.getD_eq_getD_getElem?]
  by_cases hi:i<d
  ·simp[hi]
  ·rw[Array.getElem?_eq_none (by simp;omega)];rfl
 have:=aPn (P:=L.P) (Q:=Q) (Q':=fun e k l=>e=.normal/\wpOps L.P ops Q ((List.range ops.size).drop w) k l) z x H F M (fun e a b y h=>absurd h.1 y) (fun k l h=>aKe H F (ops.size-w) w k l (by omega) (le_refl _) h.2) w (Array.replicate w false) (Array.replicate ops.size false) a _ (by simp) (by simp) (fun i _=>by rw[f,f]) (fun i _ _=>f _ _) ?_ ?_ E
 ·rw[show w+(ops.size-w)=ops.size by omega]at this;exact this
 ·have:((List.range w).filter fun i=>!(Array.replicate w false).getD i false)=List.range w:=by
   apply List.filter_eq_self.2;intro i _;rw[f];rfl
  rw[this];simp
 ·intro i o hi;have hi:(Array.replicate ops.size false).getD i false=true:=hi;rw[f]at hi;cases hi
theorem aQr {L:fG}{w:World}{s z:AS}(h:RepW L n q φ s w)(Y:z.next=s.next)(O:z.nums=s.nums)(X:z.dirty=s.dirty)(l:∀b a,look z.boxes b=some a->∃B,look s.boxes b=some B/\a={B with cs:=a.cs}/\a.cs.length=B.cs.length/\∀A,All2 (relC L φ s.nums w) B.cs A->All2 (relC L φ s.nums w) a.cs A):RepW L n q φ z w:=by
 refine⟨?_,?_,?_,?_,?_,h.lt,?_,h.on,h.base,?_⟩
 ·intro b a g;obtain⟨B,f,d,j,E⟩:=l b a g;obtain⟨k,o,P,A,y,k1,k2,k3,k4⟩:=h.box b B f;rw[O];exact⟨k,o,P,A,y,k1,by rw[d];exact k2,k3,E A k4⟩
 ·intro b a k o g v u;obtain⟨B,f,d,j,E⟩:=l b a g;rw[d]at v;exact h.own b B k o f v u
 ·intro b R B a k o o' g M u N;obtain⟨D,f,d,j,_⟩:=l b B g;obtain⟨T,I,p,J,_⟩:=l R a M
  rcases h.inj b R D T k o o' f I u N with e|⟨F,H,U,W⟩
  ·exact Or.inl e
  ·refine Or.inr ⟨by rw[d];exact F,by rw[p];exact H,by rw[d,p];exact U,?_⟩;intro x
   have i:D.tip=true:=by rw[d]at x;exact x
   rw[j,J];exact W i
 ·intro b a g x;obtain⟨B,f,d,j,E⟩:=l b a g
  have i:B.tip=true:=by rw[d]at x;exact x
  rw[d];exact h.tip b B f i
 ·intro b r;exact h.fresh b (by rw[Y]at r;exact r)
 ·rw[X];exact h.low
 ·intro b a k o g v S u;obtain⟨B,f,d,j,E⟩:=l b a g;rw[d]at v S;obtain⟨F,H⟩:=h.qH b B k o f v S u;refine⟨F,?_⟩;rw[j,d];exact H
def sP (p:Oper->Bool):List (K (List AT))->Bool
 |.code (.region _ ops true)::_=>ops.any p
 |_=>false
def qF (p:Oper->Bool):Code->List (K (List AT))->Option (Nat×Array Oper×List (K (List AT)))
 |.region id ops true,d=>bif ops.any p then some (id,ops,d)else none
 |.seq a b,d=>match qF p a (.code b::d)with|some r=>some r|none=>qF p b d
 |.block id b,d=>qF p b (.bV id::d)
 |.cond _ a b,d=>match qF p a d with|some r=>some r|none=>qF p b d
 |_,_=>none
def xY (p:Oper->Bool)(fn:Func):Nat×Array Oper×List (K (List AT)):=(qF p (aE fn) [.top fn]).getD (0,#[],[])
noncomputable def sR:Nat×Array Oper×List (K (List AT)):=xY (aF 193) f180
section
variable (p0 q0 p1 q1 p2 q2 p3 q3:Int) (hs:Bool) (uns mt lr rr pl c:Int) (lp rp cst nst gv:Value)
def zF (a:List AT):AS:=⟨a,[(0,yR (.sbool hs::bJ true 0 8++[.lit cst,.sint .i64 mt,.lit lp,.sint .i64 lr,.lit rp,.sint .i64 rr,.lit gv,.int .i64 uns,.lit nst,.sint .i64 pl]) 190),(6,uH c)],7,[p0,q0,p1,q1,p2,q2,p3,q3].map fun z=>(z,10),[]⟩
abbrev Yp:List AT:=P0::List.replicate 45 .fX
theorem bAC:(run Z (aD tN) bW (aK Z (aD tN)) (sP (aF 193)) 400 [.code (aE f180),.top f180] (zF p0 q0 p1 q1 p2 q2 p3 q3 hs 0 mt lr rr pl c lp rp cst nst gv Yp)).bind (eD (eX [0,6] [] 7 []) (eX [0,6] [0] 7 []))
  = some (.ret (.tup []) (zF p0 q0 p1 q1 p2 q2 p3 q3 hs 0 mt lr rr pl c lp rp cst nst gv (slot [] 0 46))):=by kernel_rfl
theorem Sy (h:uns=10\/uns=11\/uns=12\/uns=13):(run Z (aD tN) bW (aK Z (aD tN)) (sP (aF 193)) 400 [.code (aE f180),.top f180] (zF p0 q0 p1 q1 p2 q2 p3 q3 hs uns mt lr rr pl c lp rp cst nst gv Yp)).bind (eD (eX [0,6] [] 7 []) (eX [0,6] [0] 7 []))
  = some (.br (!iF uns p0 q0 p1 q1) (.ret (.tup []) (zF p0 q0 p1 q1 p2 q2 p3 q3 hs uns mt lr rr pl c lp rp cst nst gv (slot [] 0 46))) (.stp (.code (.region sR.1 sR.2.1 true)::sR.2.2) (zF p0 q0 p1 q1 p2 q2 p3 q3 hs uns mt lr rr pl c lp rp cst nst gv (slot [(0,P0)] 0 46)))):=by
 rcases h with rfl|rfl|rfl|rfl<;>kernel_rfl
noncomputable def seS:AS:=((aK Z (aD tN) (sR.2.1.extract 0 14) (zF p0 q0 p1 q1 p2 q2 p3 q3 hs uns mt lr rr pl c lp rp cst nst gv (slot [(0,P0)] 0 46))).getD (⟨[],[],0,[],[]⟩,[])).1
theorem bAD:aK Z (aD tN) (sR.2.1.extract 0 14) (zF p0 q0 p1 q1 p2 q2 p3 q3 hs uns mt lr rr pl c lp rp cst nst gv (slot [(0,P0)] 0 46))=some (seS p0 q0 p1 q1 p2 q2 p3 q3 hs uns mt lr rr pl c lp rp cst nst gv,[]):=by kernel_rfl
theorem aWd:sS sR.2.1 14=true/\14<sR.2.1.size/\(List.range sR.2.1.size).drop 14=[14,15]:=by
 have e:sR.2.1.size=16:=by kernel_rfl
 exact⟨by kernel_rfl,by rw[e];decide,by rw[e];rfl⟩
theorem bAE (v y1 y2 y3 y4 x y z A B a b d e f g h i j l n o p q r s u:Value):(run Z (aD tN) bW (aK Z (aD tN)) (fun _=>false) 400 (.ops sR.2.1 [15]::sR.2.2) (sW [p0,q0,p1,q1,p2,q2,p3,q3] hs uns mt lr rr pl c (.lit lp) (.lit rp) (.lit cst) (.lit nst) (.lit gv) [(1,ext ([v,y1,y2,y3,y4,x,y,z,A,B,a,b,d,e,f,g,h,i,j,l,n,o,p,q,r,s,u].map .lit) 190)] (slot [(0,P0),(40,.val (.one (.ptr 1 0)))] 0 46))).bind (eD (eX [0,6,1] [] 7 []) (eX [0,6,1] [] 7 []))
  = some (.ret (.tup []) ⟨slot [] 0 46,[(0,yR ([v,y1,y2,y3,y4,x,y,z,A,B,a,b,d,e,f,g,h,i,j,l,n,o,p,q,r,s,u].map .lit) 190),(6,uH c),(1,ext ([v,y1,y2,y3,y4,x,y,z,A,B,a,b,d,e,f,g,h,i,j,l,n,o,p,q,r,s,u].map .lit) 190)],7,[],[0]⟩):=by kernel_rfl
end
theorem aRd {R:AC->Value->Prop}:∀{cs a:List AC} {b:LB},All2 (fun c d=>∀x,R c x->R d x) cs a->All2 R cs b->All2 R a b
 | [],[],[],_,_=>trivial
 | [],[],_::_,_,h=>h.elim
 | [],_::_,_,h,_=>h.elim
 |_::_,[],_,h,_=>h.elim
 |_::_,_::_,[],_,h=>h.elim
 |_::_,_::_,y::_,⟨g,i⟩,⟨e,f⟩=>⟨g y e,aRd i f⟩
variable {mt:Int}{lp rp gv:Value}
theorem aNl {w:World}{k fb:Nat}{p0 q0 p1 q1 p2 q2 p3 q3:Int}{hs:Bool}{uns lr rr pl c:Int}{cv nv:Value}(h:Pos2 w k fb [p0,q0,p1,q1,p2,q2,p3,q3] hs uns mt lr rr pl c lp rp gv cv nv)(a:List AT):RepW Z w (phW k fb fun _=>none) (phW k fb fun _=>none) (zF p0 q0 p1 q1 p2 q2 p3 q3 hs uns mt lr rr pl c lp rp cv nv gv a) w:=by
 refine aQr (h.rep a) rfl rfl rfl ?_;intro b f d;have:=nC d;simp only[zF,mem_cons,not_mem_nil,or_false,Prod.mk.injEq]at this
 rcases this with⟨rfl,rfl⟩|⟨rfl,rfl⟩
 ·refine⟨_,rfl,rfl,rfl,fun e h=>aRd ?_ h⟩;exact⟨fun _ h=>h,fun _ h=>h,fun _ h=>h,fun _ h=>h,fun _ h=>h,fun _ h=>h,fun _ h=>h,fun _ h=>h,fun _ h=>h,fun _ h=>h,fun _ h=>h,fun _ h=>h,fun _ h=>h,fun _ h=>h,fun _ h=>h,fun _ h=>h,fun _ h=>h,fun _ h=>h,fun _ h=>h,fun _ h=>h,fun _ h=>h,fun _ h=>h,fun _ h=>h,fun _ h=>h,fun _ h=>h,fun _ h=>h,fun _ h=>h,trivial⟩
 ·exact⟨_,rfl,rfl,rfl,fun e h=>h⟩
section
variable {w:World} {k fb:Nat} {p0 q0 p1 q1 p2 q2 p3 q3:Int} {hs:Bool} {uns mt lr rr pl c:Int} {lp rp gv cv nv:Value}
theorem aF2 (h:Pos2 w k fb [p0,q0,p1,q1,p2,q2,p3,q3] hs uns mt lr rr pl c lp rp gv cv nv)(b:uns=0\/((uns=10\/uns=11\/uns=12\/uns=13)/\iF uns p0 q0 p1 q1=false)):Calls prog 180 #[ptrB k] w fun e f=>∃v,e=.returned v/\Chg w f []:=by
 have F:=bF func180 rfl rfl;refine nV F (φ:=phW k fb fun _=>none) (vs:=[.one (.ptr 0 0)]) (args:=[ptrB k]) (s:=zF p0 q0 p1 q1 p2 q2 p3 q3 hs uns mt lr rr pl c lp rp cv nv gv Yp) (by kernel_rfl) ⟨⟨k,0,rfl,rfl⟩,trivial⟩ (aNl h _) ?_
 rcases b with rfl|⟨b,g⟩
 ·refine cC (cZ kA) rV (pQ rfl rfl) (jD (pQ rfl rfl)) (bAC p0 q0 p1 q1 p2 q2 p3 q3 hs mt lr rr pl c lp rp cv nv gv) (fun r s=>s.dirty=[]) (fun _ _=>False) rfl ?_ (fun _ _ h=>h.elim);rintro r s φ v f a _ _ d;exact⟨v,rfl,qN d a⟩
 ·refine cC (cZ kA) rV (pQ rfl rfl) (jD (pQ rfl rfl)) (Sy p0 q0 p1 q1 p2 q2 p3 q3 hs uns mt lr rr pl c lp rp cv nv gv b) (fun r s=>s.dirty=[]) (fun _ _=>False) ⟨fun _=>rfl,fun e=>by rw[g]at e;cases e⟩ ?_ (fun _ _ h=>h.elim);rintro r s φ v f a _ _ d;exact⟨v,rfl,qN d a⟩
theorem bAZ {i:LB}(h:i.length=27):∃y y1 y2 y3 y4 z A B C D a b d e f g j l n o p q r s u v x,i=[y,y1,y2,y3,y4,z,A,B,C,D,a,b,d,e,f,g,j,l,n,o,p,q,r,s,u,v,x]:=by
 match i,h with
 | [y,y1,y2,y3,y4,z,A,B,C,D,a,b,d,e,f,g,j,l,n,o,p,q,r,s,u,v,x],_=>exact⟨y,y1,y2,y3,y4,z,A,B,C,D,a,b,d,e,f,g,j,l,n,o,p,q,r,s,u,v,x,rfl⟩
theorem aIL (h:Pos2 w k fb [p0,q0,p1,q1,p2,q2,p3,q3] hs uns mt lr rr pl c lp rp gv cv nv)(hu:uns=10\/uns=11\/uns=12\/uns=13)(he:iF uns p0 q0 p1 q1=true){R:World->Prop}
  (aj:∀w1 xs,Chg w w1 []->aU true w1 [p1,q1] xs->Calls prog 193 #[.int .i64 uns,rp,.agg xs.toArray] w1 fun e p=>∃m,∃ys:LB,e=.returned (ptrB m)/\m≠k/\p.heap[m]?=some (.cells ys.toArray 190 (0,0))/\ys.length=27/\(∀y∈ys,One y)/\Pos2 p k fb [p0,q0,p1,q1,p2,q2,p3,q3] hs uns mt lr rr pl c lp rp gv cv nv/\∀w3,Chg p w3 [k]->w3.heap[k]?=some (.cells ys.toArray 190 (0,0))->R w3):
  Calls prog 180 #[ptrB k] w fun e w'=>∃v,e=.returned v/\R w':=by
 have F:=bF func180 rfl rfl;refine nV F (φ:=phW k fb fun _=>none) (vs:=[.one (.ptr 0 0)]) (args:=[ptrB k]) (s:=zF p0 q0 p1 q1 p2 q2 p3 q3 hs uns mt lr rr pl c lp rp cv nv gv Yp) (by kernel_rfl) ⟨⟨k,0,rfl,rfl⟩,trivial⟩ (aNl h _) ?_;refine cC (cZ kA) rV (pQ rfl rfl) (jD (pQ rfl rfl)) (Sy p0 q0 p1 q1 p2 q2 p3 q3 hs uns mt lr rr pl c lp rp cv nv gv hu) (fun _ _=>False) (fun ks s=>ks=.code (.region sR.1 sR.2.1 true)::sR.2.2/\s=zF p0 q0 p1 q1 p2 q2 p3 q3 hs uns mt lr rr pl c lp rp cv nv gv (slot [(0,P0)] 0 46)) ⟨fun e=>(by rw[he]at e;cases e),fun _=>⟨rfl,rfl⟩⟩ (fun _ _ _ _ _ h=>h.elim) ?_;rintro ks s⟨rfl,rfl⟩
 have ag:noFr sR.2.2=true:=by kernel_rfl
 refine⟨by kernel_rfl,fun bk ax a1 w1 ak bc=>?_⟩;obtain⟨bb,bj,bd⟩:=aWd
 match bk,ak ax [] w1 with
 |.code cc::ap,⟨a6,al⟩=>
 subst a6;show(Code.region sR.1 sR.2.1 true).wp Z.P _ a1 w1;refine Lr mixed (cZ kA) bj bb (bAD p0 q0 p1 q1 p2 q2 p3 q3 hs uns mt lr rr pl c lp rp cv nv gv) gG bc ?_;intro bo a2 p i;rw[bd];have c2:Chg w p []:=qN i.wd (by kernel_rfl);show gC Z.P _ (.ops sR.2.1 [14,15]::ap) .normal a2 p;refine pP (f:=193) (vs:=[.one (.int .i64 uns),.one (.lit rp),.agg (bJ true 2 2)]) (dst:=some 40) (ks:=.ops sR.2.1 [14,15]::sR.2.2) (ks2:=.ops sR.2.1 [15]::sR.2.2) (by kernel_rfl) (bF func193 rfl rfl).en (by simpa[noFr]using ag) (φ1:=bo) (ν1:=[]) (w1:=p) ⟨rfl,rfl,SR.any ag al⟩ i ?_;intro us bg
 match us,bg with
 | [u1,u2,u3],⟨aa,ab,⟨xs,bf,bh⟩,_⟩=>
 have aa:u1=.int .i64 uns:=aa;have ab:u2=rp:=ab.1;rw[aa,ab,bf]
 have hH:aU true p [p1,q1] xs:=Mi [p1,q1] 2 xs bh (by
  intro j z n
  have hn:(seS p0 q0 p1 q1 p2 q2 p3 q3 hs uns mt lr rr pl c lp rp cv nv gv).nums=[p0,q0,p1,q1,p2,q2,p3,q3].map fun z=>(z,10):=by kernel_rfl
  rw[hn];refine⟨10,?_⟩
  match j,n with
  |0,n=>cases n;rfl
  |1,n=>cases n;rfl
  |j+2,n=>simp at n)
 refine(aj p xs c2 hH).mono ?_;rintro e w3⟨m,ys,rfl,a9,hm,ao,bi,a,hR⟩;refine⟨_,rfl,fun aq b6 am=>?_⟩
 have a8:m≠fb:=by
  rintro rfl;have hy:=a.fu;rw[hm]at hy;exact absurd (Obj.cells.inj (Option.some.inj hy)).2.1 (by decide)
 obtain⟨y0,y1,y2,y3,y4,y5,y6,y7,y8,y9,q,u,A,C,D,E,H,I,J,L,M,N,O,S,T,U,W,rfl⟩:=bAZ ao
 have ah:∀b x,phW k fb (ph1 1 m) b=some x->[0,6,1].contains b=true:=Xe rfl rfl fun b x e=>by
  unfold ph1 at e;split at e
  ·subst_vars;rfl
  ·cases e
 have Y:=a.Ew (exφ:=ph1 1 m) (ex:=[(1,ext ([y0,y1,y2,y3,y4,y5,y6,y7,y8,y9,q,u,A,C,D,E,H,I,J,L,M,N,O,S,T,U,W].map .lit) 190)]) (rpC:=.lit rp) (cvC:=.lit cv) (nvC:=.lit nv) ⟨rfl,a.o2⟩ ⟨rfl,a.o4⟩ ⟨rfl,a.o5⟩ (by
  intro b B hB;have:=nC hB;simp only[mem_cons,not_mem_nil,or_false,Prod.mk.injEq]at this;obtain⟨rfl,rfl⟩:=this
  exact⟨rfl,rfl,rfl,m,0,rfl,a9,a8,[],_,[],(show w3.heap[m]?=some (.cells ([]++[y0,y1,y2,y3,y4,y5,y6,y7,y8,y9,q,u,A,C,D,E,H,I,J,L,M,N,O,S,T,U,W]++[]).toArray 190 (0,0)) by simpa using hm),rfl,aJy _ bi⟩) (by
  intro b k' o d;unfold ph1 at d;split at d
  ·cases d;exact gE hm
  ·cases d) (slot [(0,P0),(40,.val (.one (.ptr 1 0)))] 0 46)
 have be:=nM (kb:=[0,6]) (kt:=[0]) (dst:=some 40) (r:=.val (.one (.ptr 1 0))) (v:=ptrB m) i Y (by kernel_rfl) (by
  intro b hb
  have d:b=0\/b=6:=by simpa using hb
  rcases d with rfl|rfl
  ·rw[i.wd.base 0 (k,0) rfl];rfl
  ·rw[i.wd.base 6 (fb,0) rfl];rfl) ⟨m,0,rfl,rfl⟩
 refine cC (cZ kA) rV ah (jD ah) (bAE p0 q0 p1 q1 p2 q2 p3 q3 hs uns mt lr rr pl c lp rp cv nv gv y0 y1 y2 y3 y4 y5 y6 y7 y8 y9 q u A C D E H I J L M N O S T U W) (fun r s=>s.dirty=[0]/\look s.boxes 0=some (yR ([y0,y1,y2,y3,y4,y5,y6,y7,y8,y9,q,u,A,C,D,E,H,I,J,L,M,N,O,S,T,U,W].map .lit) 190)) (fun _ _=>False) ⟨rfl,rfl⟩ ?_ (fun _ _ h=>h.elim) aq _ _ _ (am _ _ _) be;rintro r s ci v w5⟨hd,l0⟩ _ _ g;refine⟨v,rfl,hR w5 ⟨g.on,fun j hj hn=>g.low j hj fun b hb o e=>?_⟩ ?_⟩
 ·rw[hd]at hb;simp only[List.mem_singleton]at hb;subst hb;rw[g.base 0 (k,0) rfl]at e;cases e;exact hn (by simp)
 ·obtain⟨k',o,bn,zs,ar,g1,g2,g3,g4⟩:=g.box 0 _ l0;rw[g.base 0 (k,0) rfl]at g1;cases g1;have ai:bn=[]:=List.length_eq_zero_iff.1 g3;subst ai;have n:=aJx _ zs g4;subst n;have l:=g.on.shape (a.nd.shape a.h8);unfold World.shape? at l;rw[g2]at l;simp only[Option.some.injEq,Prod.mk.injEq,List.size_toArray,List.nil_append,List.length_append]at l;have X:ar=[]:=List.length_eq_zero_iff.1 (by have:=l.2;simp at this;omega);subst X;rw[g2];rfl
end
theorem aKs {a z:Int}(b:0<z):(a/z).natAbs<=a.natAbs:=by
 rcases lt_or_le a 0 with h|h
 ·have d:a<=a/z:=by
   have:=Int.mul_le_mul_of_nonneg_left (show(1:Int)<=z by omega) (show(0:Int)<=-a by omega);rw[Int.le_ediv_iff_mul_le b]
   have e:a*z=-(-a*z):=by rw[Int.neg_mul];omega
   rw[e];omega
  have f:a/z<0:=Int.ediv_neg_of_neg_of_pos h b;omega
 ·have d:a/z<=a:=Int.ediv_le_self _ h;have f:0<=a/z:=Int.ediv_nonneg h (by omega);omega
theorem aJz {t b:Int}(d:0<aV t b):(aG t b).natAbs<=t.natAbs/\(aL t b).natAbs<=b.natAbs:=by
 have k:∀x:Int,(x/aV t b).natAbs<=x.natAbs:=fun x=>aKs d
 have a:∀x:Int,(-x/aV t b).natAbs<=x.natAbs:=fun x=>by have:=k (-x);simpa using this
 unfold aG aL;constructor
 ·cases decide (Nm.cmp b 0<0)<;>simp only[cond_true,cond_false]
  ·cases (Nm.cmp b 0==0)<;>simp only[cond_true,cond_false]
   ·exact k t
   ·cases decide (Nm.cmp t 0<0)<;>simp only[cond_true,cond_false]
    ·exact k t
    ·exact a t
  ·exact a t
 ·cases decide (Nm.cmp b 0<0)<;>simp only[cond_true,cond_false]
  ·cases (Nm.cmp b 0==0)<;>simp only[cond_true,cond_false]
   ·exact k b
   ·cases decide (Nm.cmp t 0<0)<;>simp only[cond_true,cond_false]
    ·exact k b
    ·exact a b
  ·exact a b
def Bc:List Nat->Nat
 | [n,m]=>bif Nat.ble n m then m else n
 |_=>40
theorem aSV:bI Z 123 (gZ true yA tB Bc [40,40]):=by
 refine aLd aRs ?_ ?_
 ·intro l out h p _;exact⟨h,p⟩
 ·intro l ns out h i o a;clear a;unfold yA at h;split at h
  ·rename_i t b;cases h;have g:0<aV t b:=i _ (by simp[tB]);obtain⟨q,r⟩:=aJz g
   match ns,o with
   | [n,m],⟨d,e,_⟩=>
   have j:n<=Bc [n,m]/\m<=Bc [n,m]:=by
    simp only[Bc]
    cases f:Nat.ble n m with
    |true=>simp only[cond_true];exact⟨Nat.le_of_ble_eq_true f,le_refl _⟩
    |false=>
     simp only[cond_false];refine⟨le_refl _,?_⟩
     have:¬n<=m:=fun h=>by rw[Nat.ble_eq_true_of_le h]at f;cases f
     omega
   intro z k;simp only[mem_cons,not_mem_nil,or_false]at k
   have up:∀{x y:Int} {u:Nat},x.natAbs<=y.natAbs->Bits u y->Bits u x:=fun d e=>Nat.lt_of_le_of_lt d e
   rcases k with rfl|rfl
   ·exact eJ (up q (d t (by simp))) j.1
   ·exact eJ (up r (e b (by simp))) j.2
  ·cases h
noncomputable def tS:List (FuncId×TE):=(123,gZ true yA tB Bc [40,40])::tN
theorem nN:cG Z tS:=⟨aSV,kA⟩
def numOf (ν:LV):List AC->Option (List Int)
 | []=>some []
 |.sg i::.dg true j::r=>bif i==j then(ν[i]?).bind fun x=>(numOf ν r).map fun l=>x.1::l else none
 |.bool false::.lit (.slice none 0 0)::r=>(numOf ν r).map fun l=>0::l
 |_=>none
theorem aPd (w:World):aU true w [0] [.bool false,.slice none 0 0]:=by
 have h:dV true [.c (.bool false),.c (.lit (.slice none 0 0))]=some ([0],0):=rfl;exact(Fw (k:=true) (w:=w) _ _ _ [.bool false,.slice none 0 0] h ⟨rfl,rfl,rfl,⟨rfl,rfl⟩,trivial⟩).1
variable {ν:LV}
theorem Il:∀(cs:List AC) (e:LN) (a:LB),numOf ν cs=some e->All2 (relC Z φ ν n) cs a->aU true n e a:=by
 intro cs
 induction cs using numOf.induct with
 |case1=>
  intro e a h d;simp only[numOf,Option.some.injEq]at h;subst h
  match a,d with
  | [],_=>trivial
 |case2 i j r b q=>
  intro e a h d;simp only[numOf,b,cond_true]at h;obtain⟨x,o,p⟩:=aT h;obtain⟨l,k,rfl⟩:=cA p
  have b:i=j:=by simpa using b
  subst b
  match a,d with
  |y1::y2::a,⟨⟨y,u,f,g⟩,⟨z,v,f1,f2,f3⟩,d⟩=>
  rw[o]at f f1;cases f;cases f1;exact⟨g,f2,q l a k d⟩
 |case3 i j r b=>
  intro e a h d;simp only[numOf,b,cond_false]at h;cases h
 |case4 r q=>
  intro e a h d;simp only[numOf]at h;obtain⟨l,k,rfl⟩:=cA h
  match a,d with
  |y1::y2::a,⟨f,g,d⟩=>
  have f:y1=.bool false:=f;have g:y2=.slice none 0 0:=g.1;subst f g;obtain⟨k1,s,_⟩:=aPd n;exact⟨k1,s,q l a k d⟩
 |case5 r o p k=>
  intro e a h d;unfold numOf at h;split at h
  ·exact(o rfl).elim
  ·exact(p _ _ _ rfl).elim
  ·exact(k _ rfl).elim
  ·cases h
variable {i:LB}{s:LN}{r:Int}
theorem aKJ {k:Nat}{c0 c1 c2 c3 c4 g j l o p b:AC}{f:List AC}{a:Bool}{v F u:Int}{Y E:Value}(h:All2 (relC Z φ ν n) (c0::f++[c1,c2,c3,c4,g,j,l,o,p,b]) i)(C:n.heap[k]?=some (.cells i.toArray 190 (0,0)))(B:f.length=16)(hz:numOf ν f=some s)
  (N:∀x,relC Z φ ν n c0 x->x=.bool a) (O:∀x,relC Z φ ν n c1 x->x=Y) (q:∀x,relC Z φ ν n c2 x->x=.int .i64 mt) (P:∀x,relC Z φ ν n c3 x->x=lp) (R:∀x,relC Z φ ν n c4 x->x=.int .i64 r) (S:∀x,relC Z φ ν n g x->x=rp) (T:∀x,relC Z φ ν n j x->x=.int .i64 F) (U:∀x,relC Z φ ν n l x->x=gv) (W:∀x,relC Z φ ν n o x->x=.int .i64 v) (X:∀x,relC Z φ ν n p x->x=E) (A:∀x,relC Z φ ν n b x->x=.int .i64 u):NodeAt n k s a v mt r F u lp rp gv Y E:=by
 have D:=h.len
 match i,h,C,D with
 |y::i,⟨hy,z⟩,C,D=>
  have H:i.length=26:=by simp[B]at D;omega
  have e:i=i.take 16++i.drop 16:=(List.take_append_drop 16 i).symm;have z:All2 (relC Z φ ν n) (f++[c1,c2,c3,c4,g,j,l,o,p,b]) i:=z
  have ga:All2 (relC Z φ ν n) f (i.take 16):=by
   have:=z.take 16;rw[List.take_append_of_le_length (by omega),List.take_of_length_le (by omega)]at this;exact this
  have d:All2 (relC Z φ ν n) [c1,c2,c3,c4,g,j,l,o,p,b] (i.drop 16):=by
   have:=z.drop 16;rw[List.drop_append_of_le_length (by omega),List.drop_of_length_le (by omega)]at this;exact this
  have hold:aU true n s (i.take 16):=Il f s _ hz ga
  match hd:i.drop 16,d with
  | [a0,a1,a2,a3,a4,a5,a6,a7,a8,a9],d=>
   obtain⟨b0,b1,b2,I,b4,b5,b6,J,L,M,_⟩:=d;refine⟨i.take 16,?_,hold⟩
   have q:i=i.take 16++[Y,.int .i64 mt,lp,.int .i64 r,rp,.int .i64 F,gv,.int .i64 v,E,.int .i64 u]:=by
    rw[<-O _ b0,<-q _ b1,<-P _ b2,<-R _ I,<-S _ b4,<-T _ b5,<-U _ b6,<-W _ J,<-X _ L,<-A _ M,<-hd];exact e
   rw[C,N _ hy];generalize i.take 16=t at q;subst q;rfl
theorem Wa {g:World}{v k:Int}{x:Value}(l:g.heap[w]?=some (.cells (.int .i64 v::x::i).toArray 164 (0,0)))(R:One x)(O:aU true g s i)(h8:s.length=8)(y:∀z∈s,Bits 1 z){needs:List Prop}{a b c d:Int}{n:Nat}(hc:jS v s k=some (needs,.one (.ns [a,b,c,d]),n))(M:Holds needs):
  Calls prog 172 #[ptrB w,.int .i64 k] g fun e q=>∃r:LB,e=.returned (.agg r.toArray)/\aU true q [a,b,c,d] r/\Below g.heap.size g q:=by
 unfold jS at hc;obtain⟨o,E,F⟩:=aT hc;obtain⟨W,H,I⟩:=aT E
 have p:RepW Z g (ph1 0 w) (ph1 0 w) (Lb v s k) g:=by
  refine sN rfl ?_ ?_ ?_
  ·intro b B L;have:=nC L;simp[Lb]at this;obtain⟨rfl,rfl⟩:=this;refine⟨rfl,rfl,rfl,w,0,rfl,[],.int .i64 v::x::i,[],(show g.heap[w]?=some (.cells ([]++(Value.int .i64 v::x::i)++[]).toArray 164 (0,0)) by simpa using l),rfl,rfl,R,?_⟩
   have:=sL s i 0 (φ:=ph1 0 w) (s.map fun z=>(z,1)) O y fun j z P=>by rw[Nat.zero_add,List.getElem?_map,P];rfl
   rw[h8]at this;exact this
  ·intro b y;have:1<=b:=y;unfold ph1;rw[if_neg (by omega)]
  ·intro b S o h;unfold ph1 at h;split at h
   ·cases h;exact gE l
   ·cases h
 refine uD (vs:=[.one (.ptr 0 0),.one (.sint .i64 k)]) (args:=[ptrB w,.int .i64 k]) (bF func172 rfl rfl) (cZ kA) aSh (by kernel_rfl) ⟨⟨w,0,rfl,rfl⟩,rfl,trivial⟩ p H _ (yU I (Dq F M (le_refl _))) ?_;rintro U st φ f q⟨A,T,J,u⟩ hrel N;obtain⟨r,C,D⟩:=u q f (Ct J hrel);refine⟨r,by rw[C],?_,RepF.below N A⟩;exact(Fw (k:=true) (w:=q) _ [a,b,c,d] _ r (show dV true ([a,b,c,d].map fun z=>.num true z n)=some ([a,b,c,d],_)from rfl) D).1
def oS (len:Nat)(a:PH)(own:Nat->Option Own):Nat->Option Own:=fun k=>match a.idxOf? k with|some j=>some (.nd (len+j))|none=>own k
def kB (len:Nat)(blks:PH)(at1:NU):NU:=fun j=>if j<len then at1 j else blks.getD (j-len) 0
theorem aRo:∀{a:PH} {j b:Nat},a.Nodup->a[j]?=some b->a.idxOf? b=some j
 | [],j,b,_,h=>by simp at h
 |x::l,0,b,_,h=>by
  simp at h;subst h;simp[List.idxOf?_cons]
 |x::l,j+1,b,o,h=>by
  obtain⟨g,k⟩:=List.nodup_cons.1 o
  have f:l[j]?=some b:=by simpa using h
  have d:x≠b:=fun e=>g (e▸mem_of_getElem? f)
  have:=aRo k f;rw[List.idxOf?_cons,this];simp[d]
variable {f:PH}
theorem Pt {len j b:Nat}{own:Nat->Option Own}(a:f.Nodup)(h:f[j]?=some b):oS len f own b=some (.nd (len+j)):=by
 unfold oS;rw[aRo a h]
variable {k:Nat}
theorem aN6 {len:Nat}{own:Nat->Option Own}(h:k∉f):oS len f own k=own k:=by
 unfold oS;rw[List.idxOf?_eq_none_iff.2 h]
theorem vR {len a:Nat}{at1:NU}(h:a<len):kB len f at1 a=at1 a:=by unfold kB;rw[if_pos h]
theorem Cu {len j b:Nat}{blks:PH}{at1:NU}(h:blks[j]?=some b):kB len blks at1 (len+j)=b:=by
 unfold kB;rw[if_neg (by omega),show len+j-len=j by omega,List.getD_eq_getElem?_getD,h];rfl
section
variable {w w3:World} {b0 fb:Nat} {own own':Nat->Option Own} {at1 at2:NU} {i:Nat} {n n':Nd} {s:Rf.St} {rho:NU} {c:Nat}
theorem Ny {j:List Nd}{N a:Nat}{d:Nd}{s:LN}{u v:V}(b:NodeAt w (at2 N) s false 0 0 0 0 0 aA (ptrB (at2 a)) aI aA aA)(h8:s.length=8)(l:j[a]?=some d)(k:d.dT[0]?=some Rf.one)(f:eO [u,v] (cH s))(h:own' (at2 N)=some (.nd N))(g:b0<=at2 N):cK w b0 own' at2 j N (Rf.fresh true [u,v] [a]):=by
 obtain⟨o,x,p,y,q,z,r,A,rfl⟩:=eight h8;exact⟨⟨o,x,p,y,q,z,r,A,0,0,aI,aA,aA,⟨b,Or.inl ⟨rfl,rfl⟩,fun e=>(by cases e),fun _=>rfl,fun _=>rfl,fun e=>(by cases e)⟩,[u,v],Zd rfl rfl rfl l k rfl,f⟩,HC.fresh _ _ _,h,g,fun e=>by cases e⟩
theorem Uk {j:List Nd}{N cb:Nat}{op:Rf.Op}{p q:Int}(a:NodeAt w (at2 N) [1,0,0,1,0,0,0,0] false 0 0 0 0 0 aA aA aI (ptrB cb) aA)(b:fT w (Rf.row op p q) cb)(f:own' (at2 N)=some (.nd N))(d:b0<=at2 N):cK w b0 own' at2 j N (Rf.row op p q):=by
 refine⟨⟨1,0,0,1,0,0,0,0,0,0,aI,ptrB cb,aA,⟨a,Or.inl ⟨rfl,rfl⟩,fun _=>⟨rfl,cb,rfl,b⟩,fun e=>absurd rfl e,fun _=>rfl,fun e=>(by cases e)⟩,[(1,0),(0,1)],Pg.aFx rfl rfl rfl,?_⟩,(HC.fresh true [] []).of rfl rfl rfl,f,d,fun e=>by cases e⟩;exact .El (e:=1) (by decide) (gY _).symm (gY _).symm (gY _).symm (gY _).symm
theorem Pd (h:Net w b0 own at1 fb s)(P:Inv s.nodes rho c)(x:s.nodes[i]?=some n){new f:List Nd}(g:f=(s.nodes++new).set i n')(M:n'.pos=n.pos)(N:n'.dT=n.dT)(O:n'.out=n.out)(p:Chg w w3 [at1 i])(v:∀a,a<s.nodes.length->at2 a=at1 a)(l:∀k,k<w.heap.size->own' k=own k)(F:cK w3 b0 own' at2 f i n')(y:∀j B,new[j]?=some B->cK w3 b0 own' at2 f (s.nodes.length+j) B):
  kM w b0 own at1 fb s.nodes.length true ⟨f,s.clock⟩ w3:=by
 have hi:=(List.getElem?_eq_some_iff.1 x).1
 have H:(s.nodes++new)[i]?=some n:=by rw[getElem?_append_left hi];exact x
 have E:Pg.Go s.nodes f:=by
  rw[g];exact(Pg.Go.more _ _).trans (yW H M N O)
 have A:=(h.nd i n x).own
 have u:zM w own i [at1 i]:=by
  intro k d cs ty B D;simp at d;subst d;obtain⟨C,b⟩:=Mf h x;rw[D]at b;exact Or.inl ⟨(Obj.cells.inj (Option.some.inj b)).2.1,A⟩
 refine⟨own',Kept.Qj p (fun k d R z=>?_) (fun k d J=>by rw[l k d];exact J),fun _=>⟨at2,h.step (i:=i) P (fun j r I=>?_) E p u (fun k o d J _=>by rw[l k d];exact J) v (p.at h.fuel ?_) fun j B r L=>?_,v⟩⟩
 ·simp at d;subst d;rw[A]at z;cases z
 ·rw[g,getElem?_set_ne (fun e=>I e.symm),getElem?_append_left r]
 ·intro d
  rcases u fb d _ _ _ h.fuel with⟨e,_⟩|⟨e,_⟩|e
  ·exact absurd e (by decide)
  ·exact absurd e (by decide)
  ·simp at d;obtain⟨C,b⟩:=Mf h x;rw[<-d,h.fuel]at b;exact absurd (Obj.cells.inj (Option.some.inj b)).2.1 (by decide)
 ·by_cases q:j=i
  ·subst q;rw[g,List.getElem?_set_self (by simp;omega)]at r;cases r;exact F
  ·rcases L with e|e
   ·exact absurd e q
   ·rw[g,getElem?_set_ne (fun e=>q e.symm),List.getElem?_append_right e]at r;have:=y _ _ r;rw[show s.nodes.length+(j-s.nodes.length)=j by omega]at this;exact this
theorem NodeAt.copy {n w3:World}{m:Nat}{i:LB}{s:LN}{a:Bool}{v y u:Int}{Y e:Value}(h:NodeAt n m s a v mt r y u lp rp gv Y e)(j:n.heap[m]?=some (.cells i.toArray 190 (0,0)))(g:w3.heap[k]?=some (.cells i.toArray 190 (0,0)))(b:On Z.bt n w3):NodeAt w3 k s a v mt r y u lp rp gv Y e:=by
 obtain⟨l,d,f⟩:=h.ex;rw[j]at d;refine⟨l,?_,mC b f⟩;rw[g];exact d
end
noncomputable def bT:FF:=fun f=>bif f==200 then some f200 else bif f==179 then some f179 else bif f==191 then some f191 else bif f==201 then some f201 else bif f==125 then some f125 else bif f==142 then some f142 else bif f==141 then some f141 else bif f==103 then some f103 else bif f==106 then some f106 else bif f==124 then some f124 else none
theorem vO {M g:FuncId}{b fn:Func}{x:Option Func}(h:(bif M==g then some b else x)=some fn)(d:Fn g b)(e:x=some fn->prog.funcs[M]?=some fn/\Enters Z.P M):prog.funcs[M]?=some fn/\Enters Z.P M:=by
 cases a:M==g with
 |true=>
  rw[a]at h;cases h
  have:M=g:=by simpa using a
  subst this;exact⟨d.at',d.en⟩
 |false=>rw[a]at h;exact e h
theorem nW:bU Z bT:=by
 intro f fn h;unfold bT at h
 refine vO h (bF func200 rfl rfl) fun h=>vO h (bF func179 rfl rfl) fun h=>vO h (bF func191 rfl rfl) fun h=>vO h (bF func201 rfl rfl) fun h=>vO h (bF func125 rfl rfl) fun h=>vO h (bF func142 rfl rfl) fun h=>vO h (bF func141 rfl rfl) fun h=>vO h (bF func103 rfl rfl) fun h=>vO h (bF func106 rfl rfl) fun h=>vO h (bF func124 rfl rfl) fun h=>by cases h
def stS (a p q:Int):AS:=⟨.val (.one (.int .i64 a))::.val (.one (.ptr 2 0))::.val (.agg (bJ true 0 2))::List.replicate 49 .fX,[(2,ext [.bool false] 190)],3,[(p,1),(q,1)],[]⟩
noncomputable def tT (a p q:Int):Option Tr:=run Z (aD tS) bT (aK Z (aD tS)) (fun _=>false) 2000 [.code (aE f193),.top f193] (stS a p q)
def dD:List Bool->Tr->Option (AT×AS)
 |p,.need _ t=>dD p t
 |b::p,.br _ x y=>bif b then dD p x else dD p y
 | [],.ret r s=>some (r,s)
 |_,_=>none
noncomputable def lS (a p q:Int)(l:List Bool):AS:=(((tT a p q).bind (dD l)).map (·.2)).getD ⟨[],[],0,[],[]⟩
noncomputable def lR (a p q:Int)(l:List Bool):AT:=(((tT a p q).bind (dD l)).map (·.1)).getD .top
section
variable (p q:Int)
theorem aXD:tT 10 p q=some (.need [0<aV p q] (.need [0<aG p q/\0<aL p q/\(near (aG p q) (aL p q) 20000 1).isSome=true] (.ret (.val (.one (.ptr 24 0))) (lS 10 p q [])))):=by kernel_rfl
def skT (a p q:Int)(sq:Bool)(b d e f:AT)(g h i j:AS):Tr:=.need [0<aV p q] (.br (decide (Nm.cmp (aG p q) 0=0)) (.br sq (.need [(gI a 0).natAbs<1000000000000000000] (.need [(gJ a 0).natAbs<1000000000000000000] (.ret b g))) (.need [(gI a 0).natAbs<1000000000000000000] (.need [(gJ a 0).natAbs<1000000000000000000] (.ret d h))))
 (.need [0<aV (aG p q*aG p q) (aL p q*aL p q)] (.br sq (.need [(gI a 0).natAbs<1000000000000000000] (.need [(gJ a 0).natAbs<1000000000000000000] (.ret e i))) (.need [(gI a 0).natAbs<1000000000000000000] (.need [(gJ a 0).natAbs<1000000000000000000] (.ret f j))))))
theorem aWn:tT 11 p q=some (skT 11 p q true (.val (.one (.ptr 33 0))) (lR 11 p q [true,false]) (.val (.one (.ptr 67 0))) (lR 11 p q [false,false]) (lS 11 p q [true,true]) (lS 11 p q [true,false]) (lS 11 p q [false,true]) (lS 11 p q [false,false])):=by kernel_rfl
theorem aWo:tT 12 p q=some (skT 12 p q false (lR 12 p q [true,true]) (.val (.one (.ptr 9 0))) (lR 12 p q [false,true]) (.val (.one (.ptr 42 0))) (lS 12 p q [true,true]) (lS 12 p q [true,false]) (lS 12 p q [false,true]) (lS 12 p q [false,false])):=by kernel_rfl
theorem aWp:tT 13 p q=some (skT 13 p q true (.val (.one (.ptr 32 0))) (lR 13 p q [true,false]) (.val (.one (.ptr 65 0))) (lR 13 p q [false,false]) (lS 13 p q [true,true]) (lS 13 p q [true,false]) (lS 13 p q [false,true]) (lS 13 p q [false,false])):=by kernel_rfl
end
def qR (s:AS)(b:Nat):List AC:=match look s.boxes b with|some B=>B.cs|none=>[]
def xW (s:AS)(b:Nat):List AC:=((qR s b).drop 1).take 16
structure cF (s:AS) (b:Nat) (zs:LN) (cv lp rp nv:AC):Prop where
 look:look s.boxes b=some ⟨.bool false::xW s b++[cv,.int .i64 0,lp,.int .i64 0,rp,.int .i64 0,.lit aI,.int .i64 0,nv,.int .i64 0],190,true,false,false⟩
 len:(xW s b).length=16
 num:numOf s.nums (xW s b)=some zs
structure kE (s:AS) (b:Nat) (kd:Int) (fst fur:AC) (zs:LN):Prop where
 look:look s.boxes b=some ⟨.int .i64 kd::fst::fur::(qR s b).drop 3,232,true,false,false⟩
 num:numOf s.nums ((qR s b).drop 3)=some zs
structure jM (s:AS) (b:Nat) (kd:Int) (zs:LN):Prop where
 look:look s.boxes b=some ⟨.int .i64 kd::.lit aI::(qR s b).drop 2,164,true,false,false⟩
 num:numOf s.nums ((qR s b).drop 2)=some zs
section
variable (p q:Int)
theorem aVf:cF (lS 10 p q []) 24 [0,0,eN (aG p q) (aL p q),0,eM (aG p q) (aL p q),eN (aG p q) (aL p q),0,eM (aG p q) (aL p q)] (.lit aA) (.ptr 2 0) (.lit aA) (.ptr 22 0):=⟨by kernel_rfl,by kernel_rfl,by kernel_rfl⟩
theorem aVe:kE (lS 10 p q []) 22 10 (.ptr 2 0) (.ptr 2 0) [0,0,eN (aG p q) (aL p q),0,eM (aG p q) (aL p q),eN (aG p q) (aL p q),0,eM (aG p q) (aL p q)]:=⟨by kernel_rfl,by kernel_rfl⟩
theorem aVg:clean (lS 10 p q [])=true:=by kernel_rfl
theorem aU1:cF (lS 12 p q [false,false]) 42 [0,0,1,0,1,0,0,1] (.lit aA) (.ptr 16 0) (.ptr 20 0) (.lit aA):=⟨by kernel_rfl,by kernel_rfl,by kernel_rfl⟩
theorem aU0:cF (lS 12 p q [false,false]) 20 (lD 12 0) (.lit aA) (.ptr 17 0) (.lit aA) (.ptr 18 0):=⟨by kernel_rfl,by kernel_rfl,by kernel_rfl⟩
theorem aUZ:kE (lS 12 p q [false,false]) 18 12 (.ptr 17 0) (.ptr 17 0) [0,0,0,0,0,0,0,0]:=⟨by kernel_rfl,by kernel_rfl⟩
theorem aUY:cF (lS 12 p q [false,false]) 17 [aL p q,0,-aG p q,aG p q+aL p q,0,0,0,0] (.lit aA) (.lit aA) (.ptr 2 0) (.lit aA):=⟨by kernel_rfl,by kernel_rfl,by kernel_rfl⟩
theorem aUX:cF (lS 12 p q [false,false]) 16 [1,0,0,1,0,0,0,0] (.ptr 13 0) (.lit aA) (.lit aA) (.lit aA):=⟨by kernel_rfl,by kernel_rfl,by kernel_rfl⟩
theorem aUW:jM (lS 12 p q [false,false]) 13 12 [aG p q,aL p q,aG ((aG p q)*aG p q) ((aL p q)*aL p q),aL ((aG p q)*aG p q) ((aL p q)*aL p q),0,0,0,0]:=⟨by kernel_rfl,by kernel_rfl⟩
theorem aU2:clean (lS 12 p q [false,false])=true:=by kernel_rfl
theorem aU9:cF (lS 13 p q [false,true]) 65 [0,0,1,0,1,0,0,1] (.lit aA) (.ptr 16 0) (.ptr 43 0) (.lit aA):=⟨by kernel_rfl,by kernel_rfl,by kernel_rfl⟩
theorem aU8:cF (lS 13 p q [false,true]) 43 (lD 13 0) (.lit aA) (.ptr 17 0) (.lit aA) (.ptr 18 0):=⟨by kernel_rfl,by kernel_rfl,by kernel_rfl⟩
theorem aU7:cF (lS 13 p q [false,true]) 40 [1,0,0,0,0,0,0,1] (.lit aA) (.ptr 17 0) (.ptr 17 0) (.lit aA):=⟨by kernel_rfl,by kernel_rfl,by kernel_rfl⟩
theorem aU6:kE (lS 13 p q [false,true]) 18 13 (.ptr 17 0) (.ptr 40 0) [0,0,0,0,0,0,0,0]:=⟨by kernel_rfl,by kernel_rfl⟩
theorem aU5:cF (lS 13 p q [false,true]) 17 [aL p q,aG p q,-aG p q,aL p q,0,0,0,0] (.lit aA) (.lit aA) (.ptr 2 0) (.lit aA):=⟨by kernel_rfl,by kernel_rfl,by kernel_rfl⟩
theorem aU4:cF (lS 13 p q [false,true]) 16 [1,0,0,1,0,0,0,0] (.ptr 13 0) (.lit aA) (.lit aA) (.lit aA):=⟨by kernel_rfl,by kernel_rfl,by kernel_rfl⟩
theorem aU3:jM (lS 13 p q [false,true]) 13 13 [aG p q,aL p q,aG ((aG p q)*aG p q) ((aL p q)*aL p q),aL ((aG p q)*aG p q) ((aL p q)*aL p q),0,0,0,0]:=⟨by kernel_rfl,by kernel_rfl⟩
theorem aVa:clean (lS 13 p q [false,true])=true:=by kernel_rfl
theorem aUU:cF (lS 11 p q [false,true]) 67 [1,0,0,0,0,0,0,1] (.lit aA) (.ptr 17 0) (.ptr 45 0) (.lit aA):=⟨by kernel_rfl,by kernel_rfl,by kernel_rfl⟩
theorem aUT:cF (lS 11 p q [false,true]) 45 [1,-1,1,1,0,0,0,0] (.lit aA) (.lit aA) (.ptr 44 0) (.lit aA):=⟨by kernel_rfl,by kernel_rfl,by kernel_rfl⟩
theorem aUS:cF (lS 11 p q [false,true]) 44 (lD 11 0) (.lit aA) (.ptr 18 0) (.lit aA) (.ptr 19 0):=⟨by kernel_rfl,by kernel_rfl,by kernel_rfl⟩
theorem aUR:cF (lS 11 p q [false,true]) 41 [1,0,0,0,0,0,0,1] (.lit aA) (.ptr 18 0) (.ptr 18 0) (.lit aA):=⟨by kernel_rfl,by kernel_rfl,by kernel_rfl⟩
theorem aUQ:kE (lS 11 p q [false,true]) 19 11 (.ptr 18 0) (.ptr 41 0) [0,0,0,0,0,0,0,0]:=⟨by kernel_rfl,by kernel_rfl⟩
theorem aUP:cF (lS 11 p q [false,true]) 18 [aL p q,0,-aG p q,aL p q,0,0,0,0] (.lit aA) (.lit aA) (.ptr 2 0) (.lit aA):=⟨by kernel_rfl,by kernel_rfl,by kernel_rfl⟩
theorem aUO:cF (lS 11 p q [false,true]) 17 [1,-1,1,1,0,0,0,0] (.lit aA) (.lit aA) (.ptr 16 0) (.lit aA):=⟨by kernel_rfl,by kernel_rfl,by kernel_rfl⟩
theorem aUN:cF (lS 11 p q [false,true]) 16 [1,0,0,1,0,0,0,0] (.ptr 13 0) (.lit aA) (.lit aA) (.lit aA):=⟨by kernel_rfl,by kernel_rfl,by kernel_rfl⟩
theorem aUM:jM (lS 11 p q [false,true]) 13 11 [aG p q,aL p q,aG ((aG p q)*aG p q) ((aL p q)*aL p q),aL ((aG p q)*aG p q) ((aL p q)*aL p q),0,0,0,0]:=⟨by kernel_rfl,by kernel_rfl⟩
theorem aUV:clean (lS 11 p q [false,true])=true:=by kernel_rfl
theorem aWI:cF (lS 12 p q [true,false]) 9 [1,0,0,1,0,0,0,0] (.lit aA) (.lit aA) (.ptr 8 0) (.lit aA):=⟨by kernel_rfl,by kernel_rfl,by kernel_rfl⟩
theorem aWH:cF (lS 12 p q [true,false]) 8 (lD 12 0) (.lit aA) (.ptr 2 0) (.lit aA) (.ptr 6 0):=⟨by kernel_rfl,by kernel_rfl,by kernel_rfl⟩
theorem aWG:kE (lS 12 p q [true,false]) 6 12 (.ptr 2 0) (.ptr 2 0) [0,0,0,0,0,0,0,0]:=⟨by kernel_rfl,by kernel_rfl⟩
theorem aUG:clean (lS 12 p q [true,false])=true:=by kernel_rfl
theorem aUJ:cF (lS 13 p q [true,true]) 32 [1,0,0,1,0,0,0,0] (.lit aA) (.lit aA) (.ptr 31 0) (.lit aA):=⟨by kernel_rfl,by kernel_rfl,by kernel_rfl⟩
theorem aUI:cF (lS 13 p q [true,true]) 31 (lD 13 0) (.lit aA) (.ptr 2 0) (.lit aA) (.ptr 6 0):=⟨by kernel_rfl,by kernel_rfl,by kernel_rfl⟩
theorem aUH:cF (lS 13 p q [true,true]) 28 [1,0,0,0,0,0,0,1] (.lit aA) (.ptr 2 0) (.ptr 2 0) (.lit aA):=⟨by kernel_rfl,by kernel_rfl,by kernel_rfl⟩
theorem aWJ:kE (lS 13 p q [true,true]) 6 13 (.ptr 2 0) (.ptr 28 0) [0,0,0,0,0,0,0,0]:=⟨by kernel_rfl,by kernel_rfl⟩
theorem aUK:clean (lS 13 p q [true,true])=true:=by kernel_rfl
theorem aUE:cF (lS 11 p q [true,true]) 33 [1,0,0,1,0,0,0,0] (.lit aA) (.lit aA) (.ptr 32 0) (.lit aA):=⟨by kernel_rfl,by kernel_rfl,by kernel_rfl⟩
theorem aUD:cF (lS 11 p q [true,true]) 32 [1,-1,1,1,0,0,0,0] (.lit aA) (.lit aA) (.ptr 31 0) (.lit aA):=⟨by kernel_rfl,by kernel_rfl,by kernel_rfl⟩
theorem aUC:cF (lS 11 p q [true,true]) 31 (lD 11 0) (.lit aA) (.ptr 2 0) (.lit aA) (.ptr 6 0):=⟨by kernel_rfl,by kernel_rfl,by kernel_rfl⟩
theorem aUB:cF (lS 11 p q [true,true]) 28 [1,0,0,0,0,0,0,1] (.lit aA) (.ptr 2 0) (.ptr 2 0) (.lit aA):=⟨by kernel_rfl,by kernel_rfl,by kernel_rfl⟩
theorem aWF:kE (lS 11 p q [true,true]) 6 11 (.ptr 2 0) (.ptr 28 0) [0,0,0,0,0,0,0,0]:=⟨by kernel_rfl,by kernel_rfl⟩
theorem aUF:clean (lS 11 p q [true,true])=true:=by kernel_rfl
end
section
variable {w0 w:World} {ψ φ:LI} {s:AS}
theorem cL {v:Value}:∀x,relC Z φ ν w (.lit v) x->x=v:=fun x h=>h.1
variable {b:Nat}
theorem cN {m:Nat}(h:φ b=some (m,0)):∀x,relC Z φ ν w (.ptr b 0) x->x=ptrB m:=fun x a=>uE (ν:=ν) (w:=w) h a
theorem cF.at {b:Nat}{l:LN}{E lp rp k:AC}{d g e Y:Value}(h:cF s b l E lp rp k)(v:RepW Z w0 ψ φ s w){m:Nat}(u:φ b=some (m,0))(n:∀x,relC Z φ s.nums w E x->x=d)(o:∀x,relC Z φ s.nums w lp x->x=g)(p:∀x,relC Z φ s.nums w rp x->x=e)(q:∀x,relC Z φ s.nums w k x->x=Y):
  ∃f:LB,w0.heap.size<=m/\w.heap[m]?=some (.cells f.toArray 190 (0,0))/\f.length=27/\(∀y∈f,One y)/\NodeAt w m l false 0 0 0 0 0 g e aI d Y:=by
 obtain⟨A,f,k1,j,i,z⟩:=zA v h.look rfl rfl;rw[u]at k1;cases k1;have r:=i.len;refine⟨f,z,j,?_,Lv i,aKJ i j h.len h.num (fun x a=>a) n (fun x a=>a) o (fun x a=>a) p (fun x a=>a) cL (fun x a=>a) q (fun x a=>a)⟩;simp[h.len]at r;omega
theorem kE.at {b:Nat}{v:Int}{k:LN}{fst a:AC}{f g:Value}(h:kE s b v fst a k)(u:RepW Z w0 ψ φ s w){m:Nat}(r:φ b=some (m,0))(l:∀x,relC Z φ s.nums w fst x->x=f)(n:∀x,relC Z φ s.nums w a x->x=g):
  ∃j:LB,w0.heap.size<=m/\w.heap[m]?=some (.cells (.int .i64 v::f::g::j).toArray 232 (0,0))/\aU true w k j:=by
 obtain⟨A,e,k1,i,y,z⟩:=zA u h.look rfl rfl;rw[r]at k1;cases k1
 match e,y with
 |y1::y2::y3::e,⟨d,o,p,q⟩=>
 have d:y1=.int .i64 v:=d;rw[d,l y2 o,n y3 p]at i;exact⟨e,z,i,Il _ _ _ h.num q⟩
theorem jM.at {b:Nat}{v:Int}{g:LN}(h:jM s b v g)(l:RepW Z w0 ψ φ s w){m:Nat}(k:φ b=some (m,0)):
  ∃f:LB,w0.heap.size<=m/\w.heap[m]?=some (.cells (.int .i64 v::aI::f).toArray 164 (0,0))/\aU true w g f:=by
 obtain⟨p,d,k1,e,n,o⟩:=zA l h.look rfl rfl;rw[k]at k1;cases k1
 match d,n with
 |y1::y2::d,⟨a,i,j⟩=>
 have a:y1=.int .i64 v:=a;rw[a,show y2=aI from i.1]at e;exact⟨d,o,e,Il _ _ _ h.num j⟩
theorem gW {B:bQ}(f:RepW Z w0 ψ φ s w)(a:look s.boxes b=some B)(d:B.own=true)(e:B.ro=false):∃m,φ b=some (m,0):=by
 obtain⟨m,_,h,_⟩:=zA f a d e;exact⟨m,h⟩
theorem lG {m o:Nat}{B f:bQ}(l:RepW Z w0 ψ φ s w)(i:look s.boxes b=some B)(j:B.ro=false)(a:look s.boxes k=some f)(g:φ b=some (m,0))(h:φ k=some (o,0))(d:b≠k):m≠o:=by
 rintro rfl
 rcases l.inj b k B f m 0 0 i a g h with e|⟨e,_⟩
 ·exact d e
 ·rw[j]at e;cases e
end
variable {p q:Int}
theorem Ia {w:World}{d:Nat}{kd:Int}(C:∃n:LB,w.heap[d]?=some (.cells (.bool false::n).toArray 190 (0,0)))(y:aU true w [p,q] i)(h:∀z∈[p,q],Bits 1 z){X:Tr}(A:tT kd p q=some X)(G:AT->AS->Prop)(k:X.ok G fun _ _=>False){R:NN}
  (x:∀r s φ v l,G r s->relT Z φ s.nums l r v->RepW Z w (ph1 2 d) φ s l->R (.returned v) l):Calls prog 193 #[.int .i64 kd,ptrB d,.agg i.toArray] w R:=by
 obtain⟨n,g⟩:=C
 have f:RepW Z w (ph1 2 d) (ph1 2 d) (stS kd p q) w:=by
  refine sN rfl ?_ ?_ ?_
  ·intro b B u;have:=nC u;simp[stS]at this;obtain⟨rfl,rfl⟩:=this;exact⟨rfl,rfl,rfl,d,0,rfl,[],[.bool false],n,g,rfl,rfl,trivial⟩
  ·intro b h;have:3<=b:=h;unfold ph1;rw[if_neg (by omega)]
  ·intro b D o a;unfold ph1 at a;split at a
   ·cases a;exact gE g
   ·cases a
 refine uD (vs:=[.one (.int .i64 kd),.one (.ptr 2 0),.agg (bJ true 0 2)]) (args:=[.int .i64 kd,ptrB d,.agg i.toArray]) (bF func193 rfl rfl) (cZ nN) nW (by kernel_rfl) ⟨rfl,⟨d,0,rfl,rfl⟩,⟨i,rfl,?_⟩,trivial⟩ f A G k x
 exact sL [p,q] i 0 _ y h fun j z e=>by
  match j,e with
  |0,e=>cases e;rfl
  |1,e=>cases e;rfl
  |j+2,e=>simp at e
theorem Wz (e:0<=p)(f:0<q):∃g:Int,0<g/\aV p q=g/\p=g*aG p q/\q=g*aL p q/\0<=aG p q/\0<aL p q/\(aG p q=0↔p=0):=by
 have d:0<aV p q:=by
  unfold aV;have:0<Nat.gcd p.natAbs q.natAbs:=Nat.gcd_pos_of_pos_right _ (by omega);omega
 have b:aG p q=p/aV p q/\aL p q=q/aV p q:=by
  unfold aG aL;rw[Nm.gX f];exact⟨rfl,rfl⟩
 have d1:aV p q ∣ p:=by
  unfold aV;exact Int.ofNat_dvd_left.2 (Nat.gcd_dvd_left _ _)
 have d2:aV p q ∣ q:=by
  unfold aV;exact Int.ofNat_dvd_left.2 (Nat.gcd_dvd_right _ _)
 have a:p=aV p q*(p/aV p q):=(Int.mul_ediv_cancel' d1).symm;have i:q=aV p q*(q/aV p q):=(Int.mul_ediv_cancel' d2).symm;rw[b.1,b.2];refine⟨aV p q,d,rfl,a,i,Int.ediv_nonneg e (by omega),?_,?_⟩
 ·rcases lt_or_le 0 (q/aV p q)with h|h
  ·exact h
  ·exfalso;have:=Int.mul_nonpos_of_nonneg_of_nonpos (show(0:Int)<=aV p q by omega) h;omega
 ·constructor
  ·intro h;rw[h]at a
   simpa using a
  ·intro h;rw[h];simp
theorem aVj {a b:Int}:decide (Nm.cmp a b<=0)=decide (a<=b):=by
 rcases Int.lt_trichotomy a b with h|h|h
 ·rw[Nm.iV h,decide_eq_true (by decide),decide_eq_true (by omega)]
 ·rw[Nm.iU h,decide_eq_true (by decide),decide_eq_true (by omega)]
 ·rw[Nm.gX h,decide_eq_false (by decide),decide_eq_false (by omega)]
variable {op:Rf.Op}
theorem aMX (a:Rf.fn op)(b d lp e:Int):iF (aH op) b d lp e=qV op (b,d) (lp,e):=by
 unfold iF qV
 rcases a with rfl|rfl|rfl|rfl<;>simp[aH,aVj]
structure Probe (w:World) (b0:Nat) (own:Nat->Option Own) (at1:NU) (s:Rf.St) (rho:NU) (i:Nat) (n:Nd) (a:Nat) (x:Nd) (e1 e2:V) (p0 q0 p1 q1 p2 q2 p3 q3 mt pl:Int) (gv cv nv:Value) (dd:Int):Prop where
 t:n.t=[(1,0),(0,1)]
 nest:n.nest=false
 args:n.args=[a]
 read:∃r,n.read=[r]
 out:n.out=[]
 told:n.told=Rf.one
 dT:n.dT=[Rf.one]
 pos:n.pos=true
 k:n.k=0
 fn:Rf.fn n.op
 rZ:s.nodes[a]?=some x
 Fg:x.pos=true
 rk:rho a<rho i
 ends:Rf.ends s.nodes n 0=some (e1,e2)
 seen:∃l g cc nn,Seen w b0 own at1 s.nodes i n p0 q0 p1 q1 p2 q2 p3 q3 mt pl gv cv nv l g cc nn
 d0:0<dd
 c1:e1=sc dd (p0,q0)
 c2:e2=sc dd (p1,q1)
 lo:0<=p1
 Ye:0<q1
 bits:∀z∈[p1,q1],Bits 1 z
 b1:dX 6100 e2
theorem aGv {d x:Int}(a:0<d):(0<=d*x↔0<=x)/\(0<d*x↔0<x):=by
 constructor
 ·constructor
  ·intro h
   rcases lt_or_le x 0 with h1|h1
   ·have:=Int.mul_neg_of_pos_of_neg a h1;omega
   ·exact h1
  ·exact fun h=>Int.mul_nonneg (by omega) h
 ·constructor
  ·intro h
   rcases lt_or_le 0 x with h1|h1
   ·exact h1
   ·have:=Int.mul_nonpos_of_nonneg_of_nonpos (show(0:Int)<=d by omega) h1;omega
  ·exact fun h=>Int.mul_pos a h
section
variable {w:World} {b0 fb:Nat} {own:Nat->Option Own} {at1:NU} {i:Nat} {n:Nd} {s:Rf.St} {rho:NU} {c:Nat}
theorem aOh (h:Net w b0 own at1 fb s)(O:Inv s.nodes rho c)(W:s.nodes[i]?=some n)(B:n.aP=true):∃a x e1 e2 p0 q0 p1 M p2 q2 p3 q3 mt pl gv P nv R,Probe w b0 own at1 s rho i n a x e1 e2 p0 q0 p1 M p2 q2 p3 q3 mt pl gv P nv R:=by
 have j:=O.at' i n W;obtain⟨p,X⟩:=(h.nd i n W).Ss B
 have hS:∃u,n.args=[u]/\n.pos=true/\Rf.fn n.op/\n.out=[]/\Rf.Pos s.nodes u/\n.k=0:=by
  cases j.shp with
  |fK p A d hc=>rw[B]at d;cases d
  |gM v p A d hv=>rw[B]at d;cases d
  |kU v w u p o d=>
   obtain⟨k1,k2,k3,k4,k5,k6⟩:=d B;exact⟨u,o,k1,k2,k3,k4,k6⟩
  |bin u b v w x y p o d=>rw[B]at d;cases d
  |nest u v w x y p o d a5 ok=>rw[B]at d;cases d
 obtain⟨a,A,H,aa,Y,⟨x,q,L⟩,hk⟩:=hS;obtain⟨r,hr⟩:∃r,n.read=[r]:=List.length_eq_one_iff.1 (by rw[j.len,A];rfl);have J:=j.fst Y
 have F:n.dT=[Rf.one]:=by
  have h1:=j.kZ;have T:=j.nJ;rw[Y]at h1;obtain⟨m,hm⟩:=List.length_eq_one_iff.1 h1;rw[hm]at T ⊢;simp at T;rw[T]
 obtain⟨m,x',r',g1,g2,S,g4⟩:=Fo O j (sd:=0) (a:=a) (by rw[A];rfl);rw[q]at g1;cases g1;have f:=O.at' a x q;have ad:Up m:=(f.up L).2 m (mem_of_getElem? S);have U:=f.lW r' m S
 have I:r'<=3000:=by have:=f.iP;have:=f.kZ;have:=(List.getElem?_eq_some_iff.1 S).1;omega
 obtain⟨b1,b2⟩:=Rf.aNH U I;obtain⟨l1,l2,_⟩:=aSU ad;obtain⟨p0,q0,p1,M,p2,q2,p3,q3,mt,pl,gv,P,nv,l,g,cc,nn,hs⟩:=h.seen O W
 have D:Rf.corners s.nodes n=some [eZ m (1,0),eZ m (0,1)]:=by
  unfold Rf.corners;rw[Pg.Ux p,g4,J,map_some,map_some,Pg.Pm];have e:(⟨((1,0):V).1,((0,1):V).1,((1,0):V).2,((0,1):V).2⟩:Mt)=Rf.one:=rfl;rw[e];simp only[Pg.Md]
 have C:=hs.Gw;have hl:=hs.Cx;rw[D]at hl;cases hl;obtain⟨R,E,c1,c2,_,_⟩:=C.of2
 have hq:0<=p1/\0<M:=by
  rw[c2]at l1 l2;exact⟨(aGv E).1.1 l1,(aGv E).2.1 l2⟩
 have hb:∀z∈[p1,M],Bits 1 z:=by
  rw[c2]at b1 b2;intro z hz;simp at hz
  rcases hz with rfl|rfl
  ·exact xL (N:=6100) (by decide) (Nat.lt_of_le_of_lt (Iv E _) b1)
  ·exact xL (N:=6100) (by decide) (Nat.lt_of_le_of_lt (Iv E _) b2)
 exact⟨a,x,_,_,p0,q0,p1,M,p2,q2,p3,q3,mt,pl,gv,P,nv,R,p,X,A,⟨r,hr⟩,Y,J,F,H,hk,aa,q,L,(j.arg 0 a (by rw[A];rfl)).2,g4,⟨_,g,cc,nn,hs⟩,E,c1,c2,hq.1,hq.2,hb,⟨b1,b2⟩⟩
theorem aJe (h:Net w b0 own at1 fb s)(k:Inv s.nodes rho c){a:Nat}{x:Nd}(f:s.nodes[a]?=some x)(e:x.pos=true):∃g:LB,w.heap[at1 a]?=some (.cells (.bool false::g).toArray 190 (0,0)):=by
 obtain⟨o,r,p1,u,p,v,p3,y,mt,q,gv,j,l,d,_⟩:=(h.nd a x f).ex;obtain⟨z,b,_⟩:=d.nd.ex;rw[e]at b;exact⟨_,b⟩
theorem Ls (h:Rf.fn op):aH op=10\/aH op=11\/aH op=12\/aH op=13:=by
 rcases h with rfl|rfl|rfl|rfl
 ·exact Or.inl rfl
 ·exact Or.inr (Or.inl rfl)
 ·exact Or.inr (Or.inr (Or.inl rfl))
 ·exact Or.inr (Or.inr (Or.inr rfl))
theorem aOz (z:∀ (w:World) (b0 fb:Nat) (own:Nat->Option Own) (at1:NU) (s:Rf.St) (rho:NU) (c i:Nat) (n:Nd) (j:List Nd) (a:Nat) (x:Nd) (o k:V) (C D p1 A R T p3 U mt S:Int) (gv N P:Value) (Y:Int),Net w b0 own at1 fb s->b0<=w.heap.size->c<=3000->Inv s.nodes rho c->s.nodes[i]?=some n->n.aP=true->Probe w b0 own at1 s rho i n a x o k C D p1 A R T p3 U mt S gv N P Y->(n.op=.sqrt->0<p1)->turn (s.nodes.set i {n with read:=[0],aP:=false}) i {n with read:=[0],aP:=false} k=some j->∀ q X,Chg w q []->aU true q [p1,A] X->
  Calls prog 193 #[.int .i64 (aH n.op),ptrB (at1 a),.agg X.toArray] q fun e W=>∃m,∃E:LB,e=.returned (ptrB m)/\Chg q W []/\q.heap.size<=m/\W.heap[m]?=some (.cells E.toArray 190 (0,0))/\E.length=27/\(∀y∈E,One y)/\∀w3,Chg W w3 [at1 i]->w3.heap[at1 i]?=some (.cells E.toArray 190 (0,0))->kM w b0 own at1 fb s.nodes.length true ⟨j,s.clock⟩ w3):hV:=by
 intro w b0 fb own at1 s rho c i n j h ad ae u O b;have az:(⟨s.nodes,s.clock⟩:Rf.St)=s:=rfl
 have still:∀{M:World},Chg w M []->j=s.nodes->kM w b0 own at1 fb s.nodes.length true ⟨j,s.clock⟩ M:=by
  intro M hc e;subst e;exact⟨own,Kept.still hc,fun _=>⟨at1,h.still u hc,fun _ _=>rfl⟩⟩
 unfold Rf.settle at b
 cases B:n.aP with
 |false=>
  rw[B]at b;simp only[Bool.false_eq_true,if_false,Option.some.injEq]at b;obtain⟨C,D,p1,A,R,T,p3,U,mt,S,gv,N,P,l,g,cc,nn,hs⟩:=h.seen u O
  have hu:fM n=0:=by unfold fM;rw[B];rfl
  refine(aF2 (h.tG hs) (Or.inl hu)).mono ?_;rintro e M⟨v,rfl,hc⟩;exact⟨v,rfl,still hc b.symm⟩
 |true=>
  rw[B]at b;simp only[if_true]at b;obtain⟨a,x,o,k,C,D,p1,A,R,T,p3,U,mt,S,gv,N,P,Y,d⟩:=aOh h u O B;obtain⟨l,g,cc,nn,hs⟩:=d.seen;rw[d.ends,Option.bind_some]at b
  have hu:fM n=aH n.op:=by unfold fM;rw[B];rfl
  have H:Rf.known n.op k o=iF (aH n.op) C D p1 A:=by
   rw[aMX d.fn,d.c1,d.c2];exact Pg.aPR d.fn d.d0 _ _
  have f:=h.tG hs;rw[hu]at f;simp only at b
  by_cases p:Rf.known n.op k o=true
  ·rw[if_pos p]at b;obtain⟨a5,J,b⟩:=Option.bind_eq_some_iff.1 b;have I:=(Cv J).1;subst I;obtain⟨r,hr⟩:=d.read
   have ag:n.read.set 0 0=[0]:=by rw[hr];rfl
   rw[ag]at b
   have L:rArg n=some a:=by unfold rArg;rw[d.t,d.args];rfl
   have ai:n.op=.sqrt->0<p1:=by
    intro e;rw[e]at p;have F:decide (o.1*k.2<=2*(k.1*o.2))=true:=p
    rcases lt_or_le 0 p1 with h1|h1
    ·exact h1
    ·exfalso
     have af:p1=0:=by have:=d.lo;omega
     -- the upper end is above the lower one
     have hN:=u.at' i n O;obtain⟨m,x',r',g1,g2,g3,g4⟩:=Fo u hN (sd:=0) (a:=a) (by rw[d.args];rfl);rw[d.rZ]at g1;cases g1;rw[d.ends]at g4
     have g5:o=eZ m (1,0)/\k=eZ m (0,1):=by
      have:=Option.some.inj g4;exact⟨congrArg Prod.fst this,congrArg Prod.snd this⟩
     have ab:=u.at' a x d.rZ;have ak:Up m:=(ab.up d.Fg).2 m (mem_of_getElem? g3);obtain⟨_,_,l3⟩:=aSU ak;rw[g5.1,g5.2]at p;have h3:=l3 p;rw[<-g5.2,d.c2,af]at h3;simp[sc]at h3
   refine aIL f (Ls d.fn) (by rw[<-H];exact p) fun q X c1 hh=>?_
   rw[L];refine(z w b0 fb own at1 s rho c i n j a x o k C D p1 A R T p3 U mt S gv N P Y h ad ae u O B d ai b q X c1 hh).mono ?_;rintro e W⟨m,E,rfl,c2,hm,k1,k2,k3,k4⟩;have ax:at1 i<q.heap.size:=Nat.lt_of_lt_of_le f.nd.lt c1.on.size;refine⟨m,E,rfl,by omega,k1,k2,k3,?_,k4⟩;have:=(f.aS c1).aS c2;rw[L]at this;exact this
  ·rw[if_neg p]at b
   have F:iF (aH n.op) C D p1 A=false:=by
    rw[<-H]
    simpa using p
   refine(aF2 f (Or.inr ⟨Ls d.fn,F⟩)).mono ?_;rintro e M⟨v,rfl,hc⟩;exact⟨v,rfl,still hc (Option.some.inj b).symm⟩
end
theorem Wb {d:Type}{l new:List d}{i:Nat}{a b:d}(hi:i<l.length):((l.set i a)++new).set i b=(l++new).set i b:=by
 rw[List.set_append_left _ _ (by simpa using hi),List.set_append_left _ _ hi,set_set]
def Hy (P:Nd->Prop):Prop:=∀(w:World) (b0 l:Nat) (own:Nat->Option Own) (at1:NU) (s:Rf.St) (d:NU) (c i:Nat) (n:Nd) (b:List Nd) (a:Nat) (x:Nd) (u k:V) (z C p1 o A D p3 E mt B:Int) (gv q v:Value) (r:Int),P n->Net w b0 own at1 l s->b0<=w.heap.size->c<=3000->Inv s.nodes d c->s.nodes[i]?=some n->n.aP=true->Probe w b0 own at1 s d i n a x u k z C p1 o A D p3 E mt B gv q v r->(n.op=.sqrt->0<p1)->turn (s.nodes.set i {n with read:=[0],aP:=false}) i {n with read:=[0],aP:=false} k=some b->∀f p,Chg w f []->aU true f [p1,o] p->
  Calls prog 193 #[.int .i64 (aH n.op),ptrB (at1 a),.agg p.toArray] f fun e h=>∃m,∃g:LB,e=.returned (ptrB m)/\Chg f h []/\f.heap.size<=m/\h.heap[m]?=some (.cells g.toArray 190 (0,0))/\g.length=27/\(∀y∈g,One y)/\∀j,Chg h j [at1 i]->j.heap[at1 i]?=some (.cells g.toArray 190 (0,0))->kM w b0 own at1 l s.nodes.length true ⟨b,s.clock⟩ j
theorem bL {a:Prop}(h:a):Holds [a]:=fun x b=>by simp at b;rw[b];exact h
theorem aNI {a:V}(j:0<=p)(k:0<q)(e:0<r)(b:a=sc r (p,q)):∃g:Int,0<g/\a.1=g*aG p q/\a.2=g*aL p q/\0<aV p q/\0<=aG p q/\0<aL p q/\(aG p q=0↔a.1=0)/\(aG p q=0↔p=0):=by
 obtain⟨g,f,i,l,n,o,b0,d⟩:=Wz j k;refine⟨r*g,Int.mul_pos e f,?_,?_,by omega,o,b0,?_,d⟩
 ·rw[b];show r*p=_;rw[Int.mul_assoc,<-l]
 ·rw[b];show r*q=_;rw[Int.mul_assoc,<-n]
 ·rw[d,b];show p=0↔r*p=0;constructor
  ·intro h;rw[h];simp
  ·intro h
   rcases Int.mul_eq_zero.1 h with h|h
   ·omega
   ·exact h
theorem aOY:Hy fun n=>n.op=.sqrt:=by
 intro w b0 fb own at1 s bs c i n ad a x e1 e2 p0 q0 p1 f p2 q2 p3 q3 mt pl gv cv nv dd p h be bf hI J hp b ao o w1 xs c1 hh;have hi:=(List.getElem?_eq_some_iff.1 J).1;have bj:=(List.getElem?_eq_some_iff.1 b.rZ).1;obtain⟨g,hg,E1,E2,U,t0,O,hz,ar⟩:=aNI b.lo b.Ye b.d0 b.c2;have bk:=ao p
 have hT:0<aG p1 f:=by
  rcases lt_or_le 0 (aG p1 f)with h1|h1
  ·exact h1
  ·have:aG p1 f=0:=by omega
   have:=ar.1 this;omega
 -- the machine
 unfold turn at o;simp only[b.args,List.getElem?_cons_zero,Option.bind_some]at o;rw[if_pos p]at o;obtain⟨d,l,Y⟩:=Option.bind_eq_some_iff.1 o;have E:=(Cv Y).1;rw[set_set]at E;rw[E1,E2,Pg.aNO hg]at l
 have hA:eM (aG p1 f) (aL p1 f)=d.1/\eN (aG p1 f) (aL p1 f)=d.2:=by
  unfold eM eN;rw[l];exact⟨rfl,rfl⟩
 obtain⟨l1,l2⟩:=aJz U
 have M:dX 6100 (aG p1 f,aL p1 f):=by
  have hb:=b.b1
  have k:∀{z y:Int},z.natAbs<=(dd*y).natAbs->(dd*y).natAbs<2^6100->z.natAbs<2^6100:=fun h1 h2=>Nat.lt_of_le_of_lt h1 h2
  rw[b.c2]at hb;exact⟨k (le_trans l1 (Iv b.d0 _)) hb.1,k (le_trans l2 (Iv b.d0 _)) hb.2⟩
 obtain⟨A,B,T,_,bc,bA,bB⟩:=Rf.Pn hT O M.1 M.2;have P:d=(A,B):=Option.some.inj (l.symm.trans T)
 have bA:Nat.lt d.1.natAbs (2^12300):=by rw[P];exact bA
 have bB:Nat.lt d.2.natAbs (2^3100):=by rw[P];exact bB
 have H:(near (aG p1 f) (aL p1 f) 20000 1).isSome=true:=by rw[l];rfl
 clear T;generalize near (aG p1 f) (aL p1 f) 20000 1=NR at l;obtain⟨av,aa⟩:=aJe (h.still hI c1) hI b.rZ b.Fg;rw[p];refine Ia (kd:=10) ⟨av,aa⟩ hh b.bits (aXD p1 f) (fun r st=>r=.val (.one (.ptr 24 0))/\cF st 24 [0,0,eN (aG p1 f) (aL p1 f),0,eM (aG p1 f) (aL p1 f),eN (aG p1 f) (aL p1 f),0,eM (aG p1 f) (aL p1 f)] (.lit aA) (.ptr 2 0) (.lit aA) (.ptr 22 0)/\kE st 22 10 (.ptr 2 0) (.ptr 2 0) [0,0,eN (aG p1 f) (aL p1 f),0,eM (aG p1 f) (aL p1 f),eN (aG p1 f) (aL p1 f),0,eM (aG p1 f) (aL p1 f)]/\clean st=true) ⟨bL U,bL ⟨hT,O,H⟩,rfl,aVf p1 f,aVe p1 f,aVg p1 f⟩ ?_;rintro r st φ v w2⟨rfl,S,R,ag⟩ hrel L;obtain⟨m,hm⟩:=gW L S.look rfl rfl;obtain⟨nb,W⟩:=gW L R.look rfl rfl;have I:φ 2=some (at1 a,0):=L.base 2 (at1 a,0) rfl;have hv:v=ptrB m:=cN (ν:=st.nums) (w:=w2) hm v hrel;obtain⟨ys,k1,k2,k3,k4,k5⟩:=S.at L hm cL (cN I) cL (cN W);obtain⟨au,j1,j2,j3⟩:=R.at L W (cN I) (cN I);have q:=RepF.below L ag;refine⟨m,ys,by rw[hv],Chg.eF q,k1,k2,k3,k4,fun w3 c3 h3=>?_⟩;rw[hA.1,hA.2]at k5 j3;have D:=k5.copy k2 h3 c3.on;have ak:Chg w w3 [at1 i]:=((c1.bO (by simp)).trans ((Chg.eF q).bO (by simp))).trans c3;have a0:at1 i<w1.heap.size:=Nat.lt_of_lt_of_le (by obtain⟨cs,al⟩:=Mf h J;exact gE al) c1.on.size
 have X:nb ∉ [at1 i]:=by simp;omega
 have C:=c3.at j2 X
 have F:(s.nodes++([]:List Nd)).set i {n with read:=[0],aP:=false,t:=[(0,0),(d.2,0),(d.1,d.2),(0,d.1)],nest:=true}=ad:=by rw[List.append_nil,E,b.args]
 have am:Pg.Go s.nodes ad:=by rw[E];exact yW J rfl rfl rfl
 obtain⟨xa,g1,_,g3,_⟩:=am.at' a x b.rZ;have ap:=g3 0 _ (h.nd a x b.rZ).hc.fst;have u:eO [(0,0),(d.2,0),(d.1,d.2),(0,d.1)] (cH [0,0,d.2,0,d.1,d.2,0,d.1]):=.Em (e:=1) (by decide) (gY _).symm (gY _).symm (gY _).symm (gY _).symm
 have aj:∀z∈[0,0,d.2,0,d.1,d.2,0,d.1],Bits 1 z:=by
  have u1:Bits 1 d.1:=xL (N:=12300) (by decide) bA;have u2:Bits 1 d.2:=xL (N:=3100) (by decide) bB;have u0:Bits 1 0:=xL (N:=1) (by decide) (by decide);intro z hz
  have aq:z=0\/z=d.1\/z=d.2:=by simp at hz;omega
  rcases aq with rfl|rfl|rfl<;>assumption
 refine Pd h hI J (n':={n with read:=[0],aP:=false,t:=[(0,0),(d.2,0),(d.1,d.2),(0,d.1)],nest:=true}) (new:=[]) F.symm rfl rfl rfl ak (fun _ _=>rfl) (fun _ _=>rfl) ?_ (fun j mm hj=>by simp at hj);refine Hz (a:=a) D rfl b.pos rfl rfl b.args rfl b.out b.told b.dT rfl g1 ap ⟨_,C⟩ ?_ u (h.nd i n J).own (h.nd i n J).lo;exact⟨au,[0,0,d.2,0,d.1,d.2,0,d.1],_,_,by rw[show aH n.op=10 by rw[p];rfl];exact C,mC c3.on j3,rfl,aj,fun _=>⟨a,by simp only;rw[b.args];rfl,rfl,rfl,u⟩,fun e=>absurd p e⟩
structure LfA (W:Nat) (w2:World) (kd:Int) (xk m nst ra nb pb:Nat) (fur:Value) (xs:LB):Prop where
 n0:W<=nst
 nd:NodeAt w2 nst (lD kd 0) false 0 0 0 0 0 (ptrB xk) aA aI aA (ptrB nb)
 b0:W<=nb
 bV:w2.heap[nb]?=some (.cells (.int .i64 kd::ptrB xk::fur::xs).toArray 232 (0,0))
 hold:aU true w2 [0,0,0,0,0,0,0,0] xs
 ln:kd=12->fur=ptrB xk
 sq:kd≠12->fur=ptrB pb/\W<=pb/\pb≠nst/\(kd=11->pb≠ra)/\NodeAt w2 pb [1,0,0,0,0,0,0,1] false 0 0 0 0 0 (ptrB xk) (ptrB xk) aI aA aA
 top:kd≠11->NodeAt w2 m [1,0,0,1,0,0,0,0] false 0 0 0 0 0 aA (ptrB nst) aI aA aA
 ex:kd=11->W<=ra/\ra≠nst/\NodeAt w2 ra [1,-1,1,1,0,0,0,0] false 0 0 0 0 0 aA (ptrB nst) aI aA aA/\NodeAt w2 m [1,0,0,1,0,0,0,0] false 0 0 0 0 0 aA (ptrB ra) aI aA aA
abbrev Told (w1:World)(e:Ending)(b:World)(K:Nat->Prop):Prop:=∃m,∃a:LB,e=.returned (ptrB m)/\Chg w1 b []/\w1.heap.size<=m/\b.heap[m]?=some (.cells a.toArray 190 (0,0))/\a.length=27/\(∀y∈a,One y)/\K m
section
variable {w1:World} {xk:Nat} {p q:Int} {xs:LB}
theorem aTA (E:∃l:LB,w1.heap[xk]?=some (.cells (.bool false::l).toArray 190 (0,0)))(D:aU true w1 [p,q] xs)(B:∀z∈[p,q],Bits 1 z)(C:0<aV p q)(F:aG p q=0):Calls prog 193 #[.int .i64 12,ptrB xk,.agg xs.toArray] w1 fun e f=>Told w1 e f fun m=>∃nst ra j pb h xs,LfA w1.heap.size f 12 xk m nst ra j pb h xs:=by
 refine Ia (kd:=12) E D B (aWo p q) (fun r st=>r=.val (.one (.ptr 9 0))/\cF st 9 [1,0,0,1,0,0,0,0] (.lit aA) (.lit aA) (.ptr 8 0) (.lit aA)/\cF st 8 (lD 12 0) (.lit aA) (.ptr 2 0) (.lit aA) (.ptr 6 0)/\kE st 6 12 (.ptr 2 0) (.ptr 2 0) [0,0,0,0,0,0,0,0]/\clean st=true) ⟨bL C,fun _=>⟨fun e=>(by cases e),fun _=>⟨bL (by decide),bL (by decide),rfl,aWI p q,aWH p q,aWG p q,aUG p q⟩⟩,fun e=>absurd (show Nm.cmp (aG p q) 0=0 from Nm.iU F) (of_decide_eq_false e)⟩ ?_;rintro r st φ v f⟨rfl,x,u,o,g⟩ hrel a;obtain⟨m,y⟩:=gW a x.look rfl rfl;obtain⟨nst,A⟩:=gW a u.look rfl rfl;obtain⟨j,d⟩:=gW a o.look rfl rfl;have b:φ 2=some (xk,0):=a.base 2 (xk,0) rfl;have hv:v=ptrB m:=cN (ν:=st.nums) (w:=f) y v hrel;obtain⟨l,k1,N,O,P,R⟩:=x.at a y cL cL (cN A) cL;obtain⟨_,H,_,_,_,I⟩:=u.at a A cL (cN b) cL (cN d);obtain⟨k,J,L,M⟩:=o.at a d (cN b) (cN b);exact⟨m,l,by rw[hv],Chg.eF (RepF.below a g),k1,N,O,P,nst,0,j,0,_,k,H,I,J,L,M,fun _=>rfl,fun e=>absurd rfl e,fun _=>R,fun e=>by cases e⟩
theorem aTB (H:∃y:LB,w1.heap[xk]?=some (.cells (.bool false::y).toArray 190 (0,0)))(F:aU true w1 [p,q] xs)(D:∀z∈[p,q],Bits 1 z)(E:0<aV p q)(I:aG p q=0):Calls prog 193 #[.int .i64 13,ptrB xk,.agg xs.toArray] w1 fun e g=>Told w1 e g fun m=>∃nst ra u pb l xs,LfA w1.heap.size g 13 xk m nst ra u pb l xs:=by
 refine Ia (kd:=13) H F D (aWp p q) (fun r st=>r=.val (.one (.ptr 32 0))/\cF st 32 [1,0,0,1,0,0,0,0] (.lit aA) (.lit aA) (.ptr 31 0) (.lit aA)/\cF st 31 (lD 13 0) (.lit aA) (.ptr 2 0) (.lit aA) (.ptr 6 0)/\cF st 28 [1,0,0,0,0,0,0,1] (.lit aA) (.ptr 2 0) (.ptr 2 0) (.lit aA)/\kE st 6 13 (.ptr 2 0) (.ptr 28 0) [0,0,0,0,0,0,0,0]/\clean st=true) ⟨bL E,fun _=>⟨fun _=>⟨bL (by decide),bL (by decide),rfl,aUJ p q,aUI p q,aUH p q,aWJ p q,aUK p q⟩,fun e=>(by cases e)⟩,fun e=>absurd (show Nm.cmp (aG p q) 0=0 from Nm.iU I) (of_decide_eq_false e)⟩ ?_;rintro r st φ v g⟨rfl,B,h,k,A,j⟩ hrel a;obtain⟨m,C⟩:=gW a B.look rfl rfl;obtain⟨nst,o⟩:=gW a h.look rfl rfl;obtain⟨u,f⟩:=gW a A.look rfl rfl;obtain⟨pb,d⟩:=gW a k.look rfl rfl;have b:φ 2=some (xk,0):=a.base 2 (xk,0) rfl;have hv:v=ptrB m:=cN (ν:=st.nums) (w:=g) C v hrel;obtain⟨y,k1,P,R,S,T⟩:=B.at a C cL cL (cN o) cL;obtain⟨_,J,_,_,_,L⟩:=h.at a o cL (cN b) cL (cN f);obtain⟨_,U,_,_,_,W⟩:=k.at a d cL (cN b) (cN b) cL;obtain⟨x,M,N,O⟩:=A.at a f (cN b) (cN d);exact⟨m,y,by rw[hv],Chg.eF (RepF.below a j),k1,P,R,S,nst,0,u,pb,_,x,J,L,M,N,O,fun e=>(by cases e),fun _=>⟨rfl,U,lG a k.look rfl h.look d o (by decide),fun e=>(by cases e),W⟩,fun _=>T,fun e=>by cases e⟩
theorem aTz (J:∃B:LB,w1.heap[xk]?=some (.cells (.bool false::B).toArray 190 (0,0)))(I:aU true w1 [p,q] xs)(F:∀z∈[p,q],Bits 1 z)(H:0<aV p q)(L:aG p q=0):Calls prog 193 #[.int .i64 11,ptrB xk,.agg xs.toArray] w1 fun e o=>Told w1 e o fun m=>∃nst ra y pb x xs,LfA w1.heap.size o 11 xk m nst ra y pb x xs:=by
 refine Ia (kd:=11) J I F (aWn p q) (fun r st=>r=.val (.one (.ptr 33 0))/\cF st 33 [1,0,0,1,0,0,0,0] (.lit aA) (.lit aA) (.ptr 32 0) (.lit aA)/\cF st 32 [1,-1,1,1,0,0,0,0] (.lit aA) (.lit aA) (.ptr 31 0) (.lit aA)/\cF st 31 (lD 11 0) (.lit aA) (.ptr 2 0) (.lit aA) (.ptr 6 0)/\cF st 28 [1,0,0,0,0,0,0,1] (.lit aA) (.ptr 2 0) (.ptr 2 0) (.lit aA)/\kE st 6 11 (.ptr 2 0) (.ptr 28 0) [0,0,0,0,0,0,0,0]/\clean st=true) ⟨bL H,fun _=>⟨fun _=>⟨bL (by decide),bL (by decide),rfl,aUE p q,aUD p q,aUC p q,aUB p q,aWF p q,aUF p q⟩,fun e=>(by cases e)⟩,fun e=>absurd (show Nm.cmp (aG p q) 0=0 from Nm.iU L) (of_decide_eq_false e)⟩ ?_;rintro r st φ v o⟨rfl,D,j,h,k,C,u⟩ hrel a;obtain⟨m,E⟩:=gW a D.look rfl rfl;obtain⟨nst,l⟩:=gW a h.look rfl rfl;obtain⟨y,g⟩:=gW a C.look rfl rfl;obtain⟨pb,b⟩:=gW a k.look rfl rfl;obtain⟨ra,d⟩:=gW a j.look rfl rfl;have f:φ 2=some (xk,0):=a.base 2 (xk,0) rfl;have hv:v=ptrB m:=cN (ν:=st.nums) (w:=o) E v hrel;obtain⟨B,k1,S,T,U,W⟩:=D.at a E cL cL (cN d) cL;obtain⟨_,M,_,_,_,N⟩:=h.at a l cL (cN f) cL (cN g);obtain⟨_,s1,_,_,_,s5⟩:=k.at a b cL (cN f) (cN f) cL;obtain⟨A,O,P,R⟩:=C.at a g (cN f) (cN b);obtain⟨_,X,_,_,_,Y⟩:=j.at a d cL cL (cN l) cL;exact⟨m,B,by rw[hv],Chg.eF (RepF.below a u),k1,S,T,U,nst,ra,y,pb,_,A,M,N,O,P,R,fun e=>(by cases e),fun _=>⟨rfl,s1,lG a k.look rfl h.look b l (by decide),fun _=>lG a k.look rfl j.look b d (by decide),s5⟩,fun e=>absurd rfl e,fun _=>⟨X,lG a j.look rfl h.look d l (by decide),Y,W⟩⟩
end
section
variable {w w3:World} {b0 fb:Nat} {own own':Nat->Option Own} {at1 at2:NU} {i:Nat} {n n':Nd} {s:Rf.St} {rho:NU} {c:Nat}
theorem aF4 {j:List Nd}{N a:Nat}{xa:Nd}{s:LN}{u v:V}{b:Nd}(d:NodeAt w (at2 N) s false 0 0 0 0 0 aA (ptrB (at2 a)) aI aA aA)(h8:s.length=8)(f1:b.pos=true)(f2:b.aP=false)(f3:b.t=[u,v])(z:b.args=[a])(A:b.read=[0])(g:b.out=[])(B:b.told=Rf.one)(k:b.dT=[Rf.one])(I:b.nest=false)(y:j[a]?=some xa)(x:xa.dT[0]?=some Rf.one)(f:eO [u,v] (cH s))(o:own' (at2 N)=some (.nd N))(l:b0<=at2 N):cK w b0 own' at2 j N b:=by
 obtain⟨J,P,L,R,M,S,O,T,rfl⟩:=eight h8;refine⟨⟨J,P,L,R,M,S,O,T,0,0,aI,aA,aA,⟨?_,Or.inl ⟨rfl,g⟩,fun e=>?_,fun _=>rfl,fun _=>rfl,fun e=>?_⟩,[u,v],Zd f3 (by rw[z];rfl) (by rw[A];rfl) y x B,f⟩,⟨by rw[k,g];rfl,by rw[k];rfl,by rw[k,g,B];rfl,fun r U W h=>by rw[g]at h;simp at h⟩,o,l,fun e=>by rw[f2]at e;cases e⟩
 ·have C:lArg b=none:=by unfold lArg;rw[f3];rfl
  have D:rArg b=some a:=by unfold rArg;rw[f3,z];rfl
  have E:hY b=0:=by unfold hY;rw[f3];rfl
  have F:gB b=0:=by unfold gB;rw[f3,A];rfl
  have H:fM b=0:=by unfold fM;rw[f2];rfl
  rw[C,D,E,F,H,f1];exact d
 ·rw[f3]at e;cases e
 ·rw[I]at e;cases e
theorem aFr {j:List Nd}{N a b:Nat}{xa xb:Nd}{s:LN}{u v y z:V}{d:Nd}(f:NodeAt w (at2 N) s false 0 0 0 0 0 (ptrB (at2 a)) (ptrB (at2 b)) aI aA aA)(h8:s.length=8)(f1:d.pos=true)(f2:d.aP=false)(f3:d.t=[u,v,y,z])(o:d.args=[a,b])(x:d.read=[0,0])(l:d.out=[])(H:d.told=Rf.one)(A:d.dT=[Rf.one])(P:d.nest=false)(E:j[a]?=some xa)(D:xa.dT[0]?=some Rf.one)(F:j[b]?=some xb)(g:xb.dT[0]?=some Rf.one)(k:eO [u,v,y,z] (cH s))(C:own' (at2 N)=some (.nd N))(B:b0<=at2 N):cK w b0 own' at2 j N d:=by
 obtain⟨R,W,S,X,T,Y,U,s3,rfl⟩:=eight h8;refine⟨⟨R,W,S,X,T,Y,U,s3,0,0,aI,aA,aA,⟨?_,Or.inl ⟨rfl,l⟩,fun e=>?_,fun _=>rfl,fun _=>rfl,fun e=>?_⟩,[u,v,y,z],Pg.Ze f3 o x E D F g H,k⟩,⟨by rw[A,l];rfl,by rw[A];rfl,by rw[A,l,H];rfl,fun r cc mm h=>by rw[l]at h;simp at h⟩,C,B,fun e=>by rw[f2]at e;cases e⟩
 ·have I:lArg d=some a:=by unfold lArg;rw[f3,o];rfl
  have J:rArg d=some b:=by unfold rArg;rw[f3,o];rfl
  have L:hY d=0:=by unfold hY;rw[f3,x];rfl
  have M:gB d=0:=by unfold gB;rw[f3,x];rfl
  have O:fM d=0:=by unfold fM;rw[f2];rfl
  rw[I,J,L,M,O,f1];exact f
 ·rw[f3]at e;cases e
 ·rw[P]at e;cases e
end
def mP (b:Int)(pb N len:Nat)(a:PH)(own:Nat->Option Own):Nat->Option Own:=if b=12 then oS len a own else oR pb (.pd N) (oS len a own)
variable {v:Int}{pb:Nat}
theorem Gf {N len W:Nat}{own:Nat->Option Own}(g:k<W)(a:∀b∈f,W<=b)(d:v≠12->W<=pb):mP v pb N len f own k=own k:=by
 unfold mP
 have e:oS len f own k=own k:=aN6 fun h=>by have:=a k h;omega
 split
 ·exact e
 ·rename_i h;have:=d h;rw[Dl (by omega)];exact e
theorem Iu {len j b:Nat}{own:Nat->Option Own}(d:f.Nodup)(a:f[j]?=some b)(g:v≠12->pb≠b):mP v pb k len f own b=some (.nd (len+j)):=by
 unfold mP;split
 ·exact Pt d a
 ·rename_i h;rw[Dl (fun e=>g h e.symm)];exact Pt d a
theorem Wn {len:Nat}{own:Nat->Option Own}(h:v≠12):mP v pb k len f own pb=some (.pd k):=by
 unfold mP;rw[if_neg h];exact Wm
theorem aY:∀z∈([0,0,0,0,0,0,0,0]:LN),Bits 1 z:=by
 intro z a;simp at a;subst a;exact xL (N:=1) (by decide) (by decide)
theorem Wl {b0 p nb:Nat}{T:Nat->Option Own}{at2:NU}{x:Value}(b:op≠.sqrt)(a:n.heap[nb]?=some (.cells (.int .i64 (aH op)::ptrB (at2 p)::x::i).toArray 232 (0,0)))(hold:aU true n [0,0,0,0,0,0,0,0] i)(d:op=.fL->x=ptrB (at2 p))(f:op≠.fL->x=ptrB pb/\T pb=some (.pd k)/\b0<=pb/\NodeAt n pb [1,0,0,0,0,0,0,1] false 0 0 0 0 0 (ptrB (at2 p)) (ptrB (at2 p)) aI aA aA):jC n b0 T at2 k (eR op 0 p p none) nb 0:=
 ⟨i,_,_,x,a,hold,rfl,aY,fun e=>absurd e b,fun _=>⟨rfl,p,rfl,rfl,d,fun g=>⟨fun s e=>(by cases e),fun _=>⟨pb,f g⟩⟩⟩⟩
theorem Ot:eO [((1,0):V),(0,1)] (cH [1,0,0,1,0,0,0,0]):=.El (e:=1) (by decide) (gY _).symm (gY _).symm (gY _).symm (gY _).symm
theorem Ui:eO [((1,-1):V),(1,1)] (cH [1,-1,1,1,0,0,0,0]):=.El (e:=1) (by decide) (gY _).symm (gY _).symm (gY _).symm (gY _).symm
theorem Ur (a:Rf.fn op)(b:op≠.sqrt)(A:Nat):eO (eR op 0 A A none).t (cH (lD (aH op) 0)):=by
 have:=(Vy a b (k:=0) (by omega)).1;rw[show((0:Nat):Int)=0 from rfl]at this;rw[this];exact .Em (e:=1) (by decide) (gY _).symm (gY _).symm (gY _).symm (gY _).symm
theorem Qm (a:Rf.fn op):aH op=12↔op=.fL:=by
 rcases a with rfl|rfl|rfl|rfl<;>simp[aH]
theorem Mr (a:Rf.fn op):aH op=11↔op=.exp:=by
 rcases a with rfl|rfl|rfl|rfl<;>simp[aH]
theorem bAF (g:Rf.fn op)(h:op≠.sqrt)(j:∃r:LB,n.heap[w]?=some (.cells (.bool false::r).toArray 190 (0,0)))(f:aU true n [p,q] i)(b:∀z∈[p,q],Bits 1 z)(d:0<aV p q)(k:aG p q=0):Calls prog 193 #[.int .i64 (aH op),ptrB w,.agg i.toArray] n fun e l=>Told n e l fun m=>∃nst ra o pb a i,LfA n.heap.size l (aH op) w m nst ra o pb a i:=by
 rcases g with rfl|rfl|rfl|rfl
 ·exact absurd rfl h
 ·exact aTz j f b d k
 ·exact aTA j f b d k
 ·exact aTB j f b d k
theorem aWr {w1:World}{b0 fb:Nat}{own:Nat->Option Own}{at1:NU}{s:Rf.St}{ax:NU}{c i:Nat}{d:Nd}{J:List Nd}{a:Nat}{x:Nd}{e1 e2:V}{p0 z p1 y p2 R p3 q3 pl:Int}{g nv:Value}{dd:Int}{xs:LB}(N:d.op≠.sqrt)(h:Net n b0 own at1 fb s)(b3:b0<=n.heap.size)(hI:Inv s.nodes ax c)(M:s.nodes[i]?=some d)(p:Probe n b0 own at1 s ax i d a x e1 e2 p0 z p1 y p2 R p3 q3 mt pl gv g nv dd)(hz:e2.1=0)(o:turn (s.nodes.set i {d with read:=[0],aP:=false}) i {d with read:=[0],aP:=false} e2=some J)(c1:Chg n w1 [])(hh:aU true w1 [p1,y] xs):
  Calls prog 193 #[.int .i64 (aH d.op),ptrB (at1 a),.agg xs.toArray] w1 fun e w2=>∃m,∃ys:LB,e=.returned (ptrB m)/\Chg w1 w2 []/\w1.heap.size<=m/\w2.heap[m]?=some (.cells ys.toArray 190 (0,0))/\ys.length=27/\(∀l∈ys,One l)/\∀w3,Chg w2 w3 [at1 i]->w3.heap[at1 i]?=some (.cells ys.toArray 190 (0,0))->kM n b0 own at1 fb s.nodes.length true ⟨J,s.clock⟩ w3:=by
 have hi:=(List.getElem?_eq_some_iff.1 M).1;have bf:=(List.getElem?_eq_some_iff.1 p.rZ).1;obtain⟨f,hg,E1,E2,be,t0,bu,bk,b8⟩:=aNI p.lo p.Ye p.d0 p.c2;have hT:aG p1 y=0:=bk.2 hz;have D:=p.fn;obtain⟨bp,ar⟩:=aJe (h.still hI c1) hI p.rZ p.Fg;refine(bAF D N ⟨bp,ar⟩ hh p.bits be hT).mono ?_;rintro e w2⟨m,ys,rfl,c2,k1,k2,k3,k4,nst,ra,nb,pb,b1,cn,L⟩;refine⟨m,ys,rfl,c2,k1,k2,k3,k4,fun w3 c3 h3=>?_⟩;have b7:n.heap.size<=w1.heap.size:=c1.on.size
 have T:at1 i<n.heap.size:=by obtain⟨cs,ba⟩:=Mf h M;exact gE ba
 have am:Chg n w3 [at1 i]:=((c1.bO (by simp)).trans (c2.bO (by simp))).trans c3
 have up:∀{k:Nat} {zs:LN} {lp rp g nv:Value},w1.heap.size<=k->NodeAt w2 k zs false 0 0 0 0 0 lp rp aI g nv->NodeAt w3 k zs false 0 0 0 0 0 lp rp aI g nv:=fun hk M=>M.aS c3.on (c3.low _ M.lt (by simp;omega))
 have U:=up L.n0 L.nd;have C:=c3.at L.bV (by have:=L.b0;simp;omega);have P:=mC c3.on L.hold;have A:∀{al:PH},kB s.nodes.length al at1 a=at1 a:=vR bf
 have bi:aH d.op≠12->d.op≠.fL:=fun h e=>h ((Qm D).2 e)
 -- the machine
 unfold turn at o;simp only[p.args,List.getElem?_cons_zero,Option.bind_some]at o;rw[if_neg N,if_neg (by omega)]at o;simp only[Option.bind_some]at o;obtain⟨cc,H,o⟩:=Option.bind_eq_some_iff.1 o;unfold Rf.nest at H;rw[if_neg (by omega)]at H;obtain⟨Kv,ad,bb⟩:=Option.map_eq_some_iff.1 H;have ap:=xM ad;subst ap;subst bb;simp only at o
 by_cases F:d.op=.exp
 ·rw[if_pos F]at o;obtain⟨rb,bh,o⟩:=Option.bind_eq_some_iff.1 o;obtain⟨cd,bg,bc⟩:=Option.map_eq_some_iff.1 bh;have ao:=xM bg;subst ao;subst bc;rw[if_pos hz]at o;have q:=(Cv o).1;simp only[List.length_set,List.length_append,List.length_singleton]at q;rw[List.append_assoc,Wb hi]at q;obtain⟨r1,r2,r3,r4⟩:=L.ex ((Mr D).2 F)
  have O:aH d.op≠12:=fun e=>by rw[F]at e;cases e
  obtain⟨af,ag,au,bn,ah⟩:=L.sq O;have av:=bn ((Mr D).2 F)
  have r:[nst,ra].Nodup:=by simp;exact fun e=>r2 e.symm
  have B:∀b∈[nst,ra],n.heap.size<=b:=by
   intro b hb;simp at hb;have:=L.n0
   rcases hb with rfl|rfl<;>omega
  have ab:Pg.Go s.nodes J:=by
   rw[q];exact(Pg.Go.more _ _).trans (yW (n:=d) (by rw[getElem?_append_left hi];exact M) rfl rfl rfl)
  obtain⟨xa,g1,_,g3,_⟩:=ab.at' a x p.rZ;have ae:=g3 0 _ (h.nd a x p.rZ).hc.fst
  have aa:J[s.nodes.length]?=some (eR d.op 0 a a none):=by
   rw[q,getElem?_set_ne (by omega),List.getElem?_append_right (le_refl _)];simp
  have a8:J[s.nodes.length+1]?=some (Rf.raised s.nodes.length):=by
   rw[q,getElem?_set_ne (by omega),List.getElem?_append_right (by omega)];simp
  have I:mP (aH d.op) pb s.nodes.length s.nodes.length [nst,ra] own (at1 i)=some (.nd i):=by
   rw[Gf (W:=n.heap.size) T B (fun _=>by omega)];exact(h.nd i d M).own
  have S:kB s.nodes.length [nst,ra] at1 s.nodes.length=nst:=Cu (j:=0) rfl;have A1:kB s.nodes.length [nst,ra] at1 (s.nodes.length+1)=ra:=Cu (j:=1) rfl;have Y:kB s.nodes.length [nst,ra] at1 i=at1 i:=vR hi;refine Pd h hI M (own':=mP (aH d.op) pb s.nodes.length s.nodes.length [nst,ra] own) (at2:=kB s.nodes.length [nst,ra] at1) q rfl rfl rfl am (fun a ha=>vR ha) (fun k hk=>Gf hk B (fun _=>by omega)) ?_ ?_
  ·refine aF4 (a:=s.nodes.length+1) (xa:=Rf.raised s.nodes.length) (u:=(1,0)) (v:=(0,1)) ?_ rfl p.pos rfl p.t rfl rfl p.out p.told p.dT p.nest a8 rfl Ot (by rw[Y];exact I) (by rw[Y];exact(h.nd i d M).lo);rw[Y,A1];exact r4.copy k2 h3 c3.on
  ·intro j mm E
   match j,E with
   |0,E=>
    simp at E;subst E;refine Hz (a:=a) (nb:=nb) ?_ rfl rfl rfl rfl rfl rfl rfl rfl rfl rfl g1 ae ⟨_,C⟩ (Wl N (by rw[A];exact C) P (fun e=>by rw[F]at e;cases e) (fun _=>⟨af,Wn O,by omega,by rw[A];exact up ag ah⟩)) (Ur D N a) ?_ ?_
    ·rw[add_zero,S,A];exact U
    ·rw[add_zero,S];exact Iu (j:=0) r rfl (fun _=>au)
    ·rw[add_zero,S];have:=L.n0;omega
   |1,E=>
    simp at E;subst E;refine Ny (a:=s.nodes.length) ?_ rfl aa rfl Ui ?_ ?_
    ·rw[A1,S];exact up r1 r3
    ·rw[A1];exact Iu (j:=1) r rfl (fun _=>av)
    ·rw[A1];omega
   |j+2,E=>simp at E
 ·rw[if_neg F]at o;simp only[Option.bind_some]at o;rw[if_pos hz]at o;have q:=(Cv o).1;simp only[List.length_set]at q;rw[Wb hi]at q;have aq:=L.top (fun e=>F ((Mr D).1 e))
  have r:[nst].Nodup:=by simp
  have B:∀b∈[nst],n.heap.size<=b:=by
   intro b hb;simp at hb;have:=L.n0;omega
  have X:aH d.op≠12->n.heap.size<=pb:=fun h=>by have:=(L.sq h).2.1;omega
  have ab:Pg.Go s.nodes J:=by
   rw[q];exact(Pg.Go.more _ _).trans (yW (n:=d) (by rw[getElem?_append_left hi];exact M) rfl rfl rfl)
  obtain⟨xa,g1,_,g3,_⟩:=ab.at' a x p.rZ;have ae:=g3 0 _ (h.nd a x p.rZ).hc.fst
  have aa:J[s.nodes.length]?=some (eR d.op 0 a a none):=by
   rw[q,getElem?_set_ne (by omega),List.getElem?_append_right (le_refl _)];simp
  have I:mP (aH d.op) pb s.nodes.length s.nodes.length [nst] own (at1 i)=some (.nd i):=by
   rw[Gf (W:=n.heap.size) T B X];exact(h.nd i d M).own
  have S:kB s.nodes.length [nst] at1 s.nodes.length=nst:=Cu (j:=0) rfl;have Y:kB s.nodes.length [nst] at1 i=at1 i:=vR hi;refine Pd h hI M (own':=mP (aH d.op) pb s.nodes.length s.nodes.length [nst] own) (at2:=kB s.nodes.length [nst] at1) q rfl rfl rfl am (fun a ha=>vR ha) (fun k hk=>Gf hk B X) ?_ ?_
  ·refine aF4 (a:=s.nodes.length) (xa:=eR d.op 0 a a none) (u:=(1,0)) (v:=(0,1)) ?_ rfl p.pos rfl p.t rfl rfl p.out p.told p.dT p.nest aa rfl Ot (by rw[Y];exact I) (by rw[Y];exact(h.nd i d M).lo);rw[Y,S];exact aq.copy k2 h3 c3.on
  ·intro j mm E
   match j,E with
   |0,E=>
    simp at E;subst E;refine Hz (a:=a) (nb:=nb) ?_ rfl rfl rfl rfl rfl rfl rfl rfl rfl rfl g1 ae ⟨_,C⟩ (Wl (pb:=pb) N (by rw[A];exact C) P (fun e=>by rw[A];exact L.ln ((Qm D).2 e)) (fun hl=>?_)) (Ur D N a) ?_ ?_
    ·rw[add_zero,S,A];exact U
    ·have O:aH d.op≠12:=fun e=>hl ((Qm D).1 e)
     obtain⟨af,ag,au,_,ah⟩:=L.sq O;exact⟨af,Wn O,by omega,by rw[A];exact up ag ah⟩
    ·rw[add_zero,S];exact Iu (j:=0) r rfl (fun h=>(L.sq h).2.2.1)
    ·rw[add_zero,S];have:=L.n0;omega
   |j+1,E=>simp at E
end Ab
end Go.Proofs.YthhffdeihoofiaaGreatDoor
