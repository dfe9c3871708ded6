import Derived.Test.YteghhlfmcjmnoaaGreatDoorCKn17
import Derived.Test.YteghhlfmcjmnoaaGreatDoorCKn12
set_option linter.unusedSimpArgs false
set_option linter.unusedVariables false
set_option maxRecDepth 100000
set_option maxHeartbeats 2000000
namespace Go.Proofs.YteghhlfmcjmnoaaGreatDoor
open Go.RowKit
namespace Ab
open Rf (Nd Inv NInv)
theorem aHt {x n m:Nat}(hnm:n<=m)(h:x<2^n):x<2^m:=Nat.lt_of_lt_of_le h (Nat.pow_le_pow_right (by decide) hnm)
theorem aPM {z:Int}{n:Nat}(h:z.natAbs<2^n):(z*z).natAbs<2^(n+n):=by
 rw [Int.natAbs_mul,Nat.pow_add];exact Nat.mul_lt_mul'' h h
theorem aCv {f a:Int}(hf:0<f):a.natAbs<=(f*a).natAbs:=Pg.aES hf a
theorem aTb {n:Nat}(l:n+n<=10000000){T B T2 B2 g2:Int}(d:T.natAbs<2^n)(e:B.natAbs<2^n)(a:0<g2)(j:T*T=g2*T2)(k:B*B=g2*B2):∀ z∈[T,B,T2,B2,0,0,0,0],Bits 1 z:=by
 have f:T2.natAbs<2^(n+n):=Nat.lt_of_le_of_lt (by rw [j];exact aCv a) (aPM d);have g:B2.natAbs<2^(n+n):=Nat.lt_of_le_of_lt (by rw [k];exact aCv a) (aPM e)
 have b:∀ {z:Int},z.natAbs<2^(n+n)->Bits 1 z:=fun h=>aBL (N:=n+n) (by omega) h
 intro z i
 have c:z=T\/z=B\/z=T2\/z=B2\/z=0:=by simp at i;omega
 rcases c with rfl | rfl | rfl | rfl | rfl
 ·exact b (aHt (by omega) d)
 ·exact b (aHt (by omega) e)
 ·exact b f
 ·exact b g
 ·exact bits0 0 (by simp)
theorem aLw {w:World}{cb:Nat}{j:Rf.Op}(y:Rf.fn j)(F:j≠.sqrt){T B T2 B2 G g2:Int}{cs:List Value}(A:0<G)(hT:0<T)(hB:0<B)(H:0<g2)(X:T*T=g2*T2)(Y:B*B=g2*B2)(L:Rf.VBits 6100 (G*T,G*B))(o:w.heap[cb]?=some (.cells (.int .i64 (kindZ j)::nilS'::cs).toArray 224 (0,0)))(I:Hold true w [T,B,T2,B2,0,0,0,0] cs):ConAt w (Rf.row j (G*T) (G*B)) cb:=by
 refine ⟨⟨_,o⟩,fun k hk=>?_⟩;obtain ⟨_,C⟩:=aIm y F
 obtain ⟨f,a,b,c,d,S,D,l⟩:=aT0 (n:=Rf.row j (G*T) (G*B)) (kd:=kindZ j) (p:=T) (q:=B) (s:=T2) (r:=B2) (g:=G) (h:=G*G*g2) (k:=k) (by omega) C A (Int.mul_pos (Int.mul_pos A A) H) rfl rfl (by
  show G*T*(G*T)=G*G*g2*T2;rw [Int.mul_assoc (G*G),<-X]
  grind) (by
  show G*B*(G*B)=G*G*g2*B2;rw [Int.mul_assoc (G*G),<-Y]
  grind)
 obtain ⟨m,E,i⟩:=Rf.aCn (n:=Rf.row j (G*T) (G*B)) (Or.inr (Or.inr (Or.inr ⟨y,Int.mul_pos A hT,Int.mul_pos A hB⟩))) (k:=k) hk L.1 L.2;rw [l] at E;have hm:m=Pg.msc f ⟨a,b,c,d⟩:=(Option.some.inj E).symm
 have t:∀ z∈[a,b,c,d],Bits 2 z:=by
  have J:∀ {z:Int},(f*z).natAbs<2^18400->Bits 2 z:=fun h=>aBL (N:=18400) (by decide) (Nat.lt_of_le_of_lt (aCv S) h)
  rw [hm] at i;intro z U;simp at U
  rcases U with rfl | rfl | rfl | rfl
  ·exact J i.a
  ·exact J i.b
  ·exact J i.c
  ·exact J i.d
 refine ⟨f,a,b,c,d,S,l,t,fun W hW=>?_⟩
 have u:W.heap[cb]?=some (.cells (.int .i64 (kindZ j)::nilS'::cs).toArray 224 (0,0)):=by
  rcases hW.blk cb _ o with e | ⟨e,_⟩
  ·exact e
  ·have e':bt0.contains 224=true:=e;exact absurd e' (by decide)
 have M:∀ z∈[T,B,T2,B2,0,0,0,0],Bits 1 z:=aTb (n:=6100) (by decide) (Nat.lt_of_le_of_lt (aCv A) L.1) (Nat.lt_of_le_of_lt (aCv A) L.2) H X Y;obtain ⟨_,O,P⟩:=aGa y F (k:=k) (by omega)
 have v:Holds (serN (kindZ j) k):=by
  intro x R;unfold serN at R;simp only [List.mem_cons,List.not_mem_nil,or_false] at R
  rcases R with rfl | rfl | rfl | rfl | rfl | rfl
  ·exact fun _ _=>O
  ·exact fun _ _=>P
  ·exact fun _ _=>O
  ·exact fun _ _=>P
  ·exact fun _=>O
  ·exact fun _=>P
 refine aGc u rfl (aAm hW I) rfl M (n:=2) (needs:=serN (kindZ j) k) ?_ v;rw [<-D]
 rcases C with ⟨h1,_⟩ | ⟨h1,_⟩ | ⟨h1,_⟩<;>rw [h1]
 ·exact con11 T B T2 B2 0 0 0 0 k
 ·exact con12 T B T2 B2 0 0 0 0 k
 ·exact con13 T B T2 B2 0 0 0 0 k
theorem aNR {a:Rf.Op}(b:Rf.fn a)(c:a≠.sqrt){T B G:Int}{d:Rf.V}(f:0<G)(g:d.1=G*T)(h:d.2=G*B):∃ u v,Rf.restCols a d=[u,v]/\Pg.Cof [u,v] (colsZ (restZ (kindZ a) T B)):=by
 refine ⟨_,_,rfl,?_⟩
 rcases b with rfl | rfl | rfl | rfl
 ·exact absurd rfl c
 ·refine .mk2 (e:=G) f ?_ ?_ ?_ ?_<;>simp [restZ,Pg.sc,kindZ,g,h,Int.mul_neg]
 ·refine .mk2 (e:=G) f ?_ ?_ ?_ ?_<;>simp [restZ,Pg.sc,kindZ,g,h,Int.mul_neg,Int.mul_add]
 ·refine .mk2 (e:=G) f ?_ ?_ ?_ ?_<;>simp [restZ,Pg.sc,kindZ,g,h,Int.mul_neg]
theorem aQm:Pg.Cof Rf.Kind.add.cols (colsZ [0,0,1,0,1,0,0,1]):=.mk4 (e:=1) (by decide) (Pg.aAu _).symm (Pg.aAu _).symm (Pg.aAu _).symm (Pg.aAu _).symm
theorem aQn:Pg.Cof Rf.Kind.mul.cols (colsZ [1,0,0,0,0,0,0,1]):=.mk4 (e:=1) (by decide) (Pg.aAu _).symm (Pg.aAu _).symm (Pg.aAu _).symm (Pg.aAu _).symm
end Ab
open Go.RowKit
namespace Ab
open Rf (Nd Inv NInv)
theorem aUc {w w1:World}{b0 fb:Nat}{own:Nat->Option Own}{at1:Nat->Nat}{s:Rf.St}{rho:Nat->Nat}{c i:Nat}{n:Nd}{ns':List Nd}{a:Nat}{x:Nd}{e1 Y:Rf.V}{p0 q0 p1 q1 p2 q2 p3 q3 mt pl:Int}{gv cv nv:Value}{dd:Int}{xs:List Value}(C:n.op≠.sqrt)(h:Net w b0 own at1 fb s)(dk:b0<=w.heap.size)(hI:Inv s.nodes rho c)(F:s.nodes[i]?=some n)(f:Probe w b0 own at1 s rho i n a x e1 Y p0 q0 p1 q1 p2 q2 p3 q3 mt pl gv cv nv dd)(hz:0<Y.1)(d:Rf.turn (s.nodes.set i {n with read:=[0],probe:=false}) i {n with read:=[0],probe:=false} Y=some ns')(c1:Chg w w1 [])(hh:Hold true w1 [p1,q1] xs):
  Calls Tryz.prog 236 #[.int .i64 (kindZ n.op),ptrB (at1 a),.agg xs.toArray] w1 fun e w2=>∃ m,∃ ys:List Value,e=.returned (ptrB m)/\Chg w1 w2 []/\w1.heap.size<=m/\w2.heap[m]?=some (.cells ys.toArray 205 (0,0))/\ys.length=27/\(∀ y∈ys,One y)/\∀ w3,Chg w2 w3 [at1 i]->w3.heap[at1 i]?=some (.cells ys.toArray 205 (0,0))->Res w b0 own at1 fb s.nodes.length true ⟨ns',s.clock⟩ w3:=by
 have hi:=(List.getElem?_eq_some_iff.1 F).1;have al:=(List.getElem?_eq_some_iff.1 f.xat).1;obtain ⟨G,hG,E1,E2,a5,t0,ag,a6,cg⟩:=aMl f.lo f.lo2 f.d0 f.c2
 have hT:0<lowT p1 q1:=by
  rcases Int.lt_or_le 0 (lowT p1 q1) with h1 | h1
  ·exact h1
  ·have:lowT p1 q1=0:=by omega
   have:=a6.1 this;omega
 have v:=f.fn;obtain ⟨g2,a7,b3,m1,m2,_,_,_⟩:=aJp (p:=lowT p1 q1*lowT p1 q1) (q:=lowB p1 q1*lowB p1 q1) (Int.mul_nonneg t0 t0) (Int.mul_pos ag ag);obtain ⟨a8,ax⟩:=aH9 (h.still hI c1) hI f.xat f.xpos;refine (setBB v C ⟨a8,ax⟩ hh f.bits a5 hT (by omega)).mono ?_;rintro e w2 ⟨m,ys,rfl,c2,k1,k2,k3,k4,z,nst,ra,far0,far,nb,pb,cb,dg,dh,cs,L⟩;refine ⟨m,ys,rfl,c2,k1,k2,k3,k4,fun w3 c3 h3=>?_⟩;have cd:w.heap.size<=w1.heap.size:=c1.on.size
 have aa:at1 i<w.heap.size:=by obtain ⟨cs,a9⟩:=aD1 h F;exact aAf a9
 have am:Chg w w3 [at1 i]:=((c1.weak (by simp)).trans (c2.weak (by simp))).trans c3
 have R:∀ {k:Nat} {zs:List Int} {lp rp cv nv:Value},w1.heap.size<=k->NodeAt w2 k zs false 0 0 0 0 0 lp rp nilS' cv nv->NodeAt w3 k zs false 0 0 0 0 0 lp rp nilS' cv nv:=fun hk F=>F.keep c3.on (c3.low _ F.lt (by simp;omega))
 have B:=c3.at L.blk (by have:=L.b0;simp;omega);have H:=aAm c3.on L.hold;have an:=c3.at L.con (by have:=L.c0;simp;omega);have ao:=aAm c3.on L.chold;have I:=aLw v C hG hT ag a7 m1 m2 (by rw [<-E1,<-E2];exact f.b1) an ao;rw [<-E1,<-E2] at I;obtain ⟨ru,rv,N,P⟩:=aNR v C hG E1 E2;have z0:=L.z0;have n0:=L.n0;have f0:=L.f0
 -- the machine
 unfold Rf.turn at d;simp only [f.args,List.getElem?_cons_zero,Option.bind_some] at d;rw [if_neg C,if_pos hz] at d;obtain ⟨zb,ba,d⟩:=Option.bind_eq_some_iff.1 d;obtain ⟨ck,bb,bc⟩:=Option.map_eq_some_iff.1 ba;have ap:=aBM bb;subst ap;subst bc;simp only at d;obtain ⟨cm,D,d⟩:=Option.bind_eq_some_iff.1 d;unfold Rf.nest at D;rw [if_neg (by omega)] at D;obtain ⟨cn,ah,bd⟩:=Option.map_eq_some_iff.1 D;have aq:=aBM ah;subst aq;subst bd;simp only at d
 by_cases u:n.op=.exp
 ·rw [if_pos u] at d;obtain ⟨rb,be,d⟩:=Option.bind_eq_some_iff.1 d;obtain ⟨co,bf,bg⟩:=Option.map_eq_some_iff.1 be;have ar:=aBM bf;subst ar;subst bg;rw [if_neg (by omega)] at d;obtain ⟨ob,t,d⟩:=Option.bind_eq_some_iff.1 d;unfold Rf.outright at t;obtain ⟨bh,ai,t⟩:=Option.bind_eq_some_iff.1 t;have J:=aBM ai;subst J;rw [if_pos u] at t;obtain ⟨cr,bi,bj⟩:=Option.map_eq_some_iff.1 t;have au:=aBM bi;subst au;subst bj;have o:=(aDs d).1;simp only [List.length_set,List.length_append,List.length_singleton,if_pos u,N] at o;rw [List.append_assoc,List.append_assoc,List.append_assoc,List.append_assoc,aGM hi] at o;have S:kindZ n.op=11:=(aKz v).2 u;obtain ⟨r1,r2,hR,hU,r7,r8,r9⟩:=L.ex S;have HR:=hid hR;have HU:=hid hU;clear hR hU
  have M:kindZ n.op≠12:=fun e=>by rw [u] at e;cases e
  obtain ⟨s1,s2,hS,s6,s7⟩:=L.sq M;have HS:=hid hS;have H6:=hid (s6 S);clear hS s6
  have l:[z,nst,ra,far0,far].Nodup:=by
   obtain ⟨r3,r4,r5,r6⟩:=HR.out;obtain ⟨u1,u2,u3⟩:=HU.out;simp [L.d1,L.d2,L.d3,Ne.symm r3,Ne.symm r4,r5,r6,Ne.symm u1,Ne.symm u2,Ne.symm u3]
  have r:∀ b∈[z,nst,ra,far0,far],w.heap.size<=b:=by
   intro b hb;simp at hb
   rcases hb with rfl | rfl | rfl | rfl | rfl<;>omega
  have ad:Pg.Go s.nodes ns':=by
   rw [o];exact (Pg.Go.more _ _).trans (aB0 (n:=n) (by rw [List.getElem?_append_left hi];exact F) rfl rfl rfl)
  obtain ⟨xa,g1,_,g3,_⟩:=ad.at' a x f.xat;have ae:=g3 0 _ (h.nd a x f.xat).hc.fst
  have T:∀ (j:Nat) (mm:Nd),([Rf.fresh true [ru,rv] [a]]++([Rf.nestNd n.op 0 s.nodes.length s.nodes.length none]++([Rf.raised (s.nodes.length+1)]++([Rf.row n.op Y.1 Y.2]++[Rf.raised (s.nodes.length+1+1+1)]))))[j]?=some mm->ns'[s.nodes.length+j]?=some mm:=by
   intro j mm g;rw [o,List.getElem?_set_ne (by omega),List.getElem?_append_right (by omega),show s.nodes.length+j-s.nodes.length=j by omega];exact g
  have A:∀ {j b:Nat},[z,nst,ra,far0,far][j]?=some b->atL s.nodes.length [z,nst,ra,far0,far] at1 (s.nodes.length+j)=b:=fun g=>aDq g
  have O:∀ {j b:Nat},[z,nst,ra,far0,far][j]?=some b->pb≠b->ownT (kindZ n.op) pb (s.nodes.length+1) s.nodes.length [z,nst,ra,far0,far] own b=some (.nd (s.nodes.length+j)):=fun g hb=>aDy l g (fun _=>hb)
  have E:atL s.nodes.length [z,nst,ra,far0,far] at1 s.nodes.length=z:=A (j:=0) rfl;have U:atL s.nodes.length [z,nst,ra,far0,far] at1 (s.nodes.length+1)=nst:=A (j:=1) rfl;have X:atL s.nodes.length [z,nst,ra,far0,far] at1 (s.nodes.length+2)=ra:=A (j:=2) rfl;have A3:atL s.nodes.length [z,nst,ra,far0,far] at1 (s.nodes.length+3)=far0:=A (j:=3) rfl;have A4:atL s.nodes.length [z,nst,ra,far0,far] at1 (s.nodes.length+4)=far:=A (j:=4) rfl;have Ai:atL s.nodes.length [z,nst,ra,far0,far] at1 i=at1 i:=aCl hi;have Aa:atL s.nodes.length [z,nst,ra,far0,far] at1 a=at1 a:=aCl al;refine aDW h hI F (own':=ownT (kindZ n.op) pb (s.nodes.length+1) s.nodes.length [z,nst,ra,far0,far] own) (at2:=atL s.nodes.length [z,nst,ra,far0,far] at1) o rfl rfl rfl am (fun a ha=>aCl ha) (fun k hk=>aC3 hk r (fun _=>by omega)) ?_ ?_
  ·refine aEW (a:=s.nodes.length+4) (b:=s.nodes.length+2) (xa:=Rf.raised (s.nodes.length+1+1+1)) (xb:=Rf.raised (s.nodes.length+1)) ?_ rfl f.pos rfl rfl rfl rfl f.out f.told f.had f.nest (T 4 _ rfl) rfl (T 2 _ rfl) rfl aQn (by rw [Ai,aC3 (W:=w.heap.size) aa r (fun _=>by omega)];exact (h.nd i n F).own) (by rw [Ai];exact (h.nd i n F).lo);rw [Ai,A4,X];exact r9.copy k2 h3 c3.on
  ·intro j mm g
   match j,g with
   | 0,g=>
    simp at g;subst g;refine aCF (a:=a) ?_ rfl g1 ae P ?_ ?_
    ·rw [Nat.add_zero s.nodes.length,E,Aa];exact R z0 L.zn
    ·rw [Nat.add_zero s.nodes.length,E];exact O (j:=0) rfl HS.out.1
    ·rw [Nat.add_zero s.nodes.length,E];omega
   | 1,g=>
    simp at g;subst g;refine aBz (a:=s.nodes.length) (nb:=nb) ?_ rfl rfl rfl rfl rfl rfl rfl rfl rfl rfl (T 0 _ rfl) rfl ⟨_,B⟩ (aGv C (by rw [E];exact B) H (fun e=>by rw [u] at e;cases e) (fun _=>⟨s1,aGz M,by omega,by rw [E];exact R s2 s7⟩)) (aEA v C _) ?_ ?_
    ·rw [U,E];exact R n0 L.nd
    ·rw [U];exact O (j:=1) rfl HS.out.2.1
    ·rw [U];omega
   | 2,g=>
    simp at g;subst g;refine aCF (a:=s.nodes.length+1) ?_ rfl (T 1 _ rfl) rfl aDd ?_ ?_
    ·rw [X,U];exact R r1 r7
    ·rw [X];exact O (j:=2) rfl H6.out.1
    ·rw [X];omega
   | 3,g=>
    simp at g;subst g;refine aDf (cb:=cb) ?_ I ?_ ?_
    ·rw [A3];exact R f0 L.fn
    ·rw [A3];exact O (j:=3) rfl HS.out.2.2
    ·rw [A3];omega
   | 4,g=>
    simp at g;subst g;refine aCF (a:=s.nodes.length+3) ?_ rfl (T 3 _ rfl) rfl aDd ?_ ?_
    ·rw [A4,A3];exact R r2 r8
    ·rw [A4];exact O (j:=4) rfl H6.out.2
    ·rw [A4];omega
   | j+5,g=>simp at g
 ·rw [if_neg u] at d;simp only [Option.bind_some] at d;rw [if_neg (by omega)] at d;obtain ⟨ob,t,d⟩:=Option.bind_eq_some_iff.1 d;unfold Rf.outright at t;obtain ⟨bh,ai,t⟩:=Option.bind_eq_some_iff.1 t;have J:=aBM ai;subst J;rw [if_neg u] at t;cases t;have o:=(aDs d).1;simp only [List.length_set,List.length_append,List.length_singleton,if_neg u,N] at o;rw [List.append_assoc,List.append_assoc,aGM hi] at o
  have S:kindZ n.op≠11:=fun e=>u ((aKz v).1 e)
  have av:=L.top S
  have ab:kindZ n.op≠12->w.heap.size<=pb:=fun h=>by have:=(L.sq h).2.1;omega
  have l:[z,nst,far0].Nodup:=by simp [L.d1,L.d2,L.d3]
  have r:∀ b∈[z,nst,far0],w.heap.size<=b:=by
   intro b hb;simp at hb
   rcases hb with rfl | rfl | rfl<;>omega
  have ad:Pg.Go s.nodes ns':=by
   rw [o];exact (Pg.Go.more _ _).trans (aB0 (n:=n) (by rw [List.getElem?_append_left hi];exact F) rfl rfl rfl)
  obtain ⟨xa,g1,_,g3,_⟩:=ad.at' a x f.xat;have ae:=g3 0 _ (h.nd a x f.xat).hc.fst
  have T:∀ (j:Nat) (mm:Nd),([Rf.fresh true [ru,rv] [a]]++([Rf.nestNd n.op 0 s.nodes.length s.nodes.length none]++[Rf.row n.op Y.1 Y.2]))[j]?=some mm->ns'[s.nodes.length+j]?=some mm:=by
   intro j mm g;rw [o,List.getElem?_set_ne (by omega),List.getElem?_append_right (by omega),show s.nodes.length+j-s.nodes.length=j by omega];exact g
  have E:atL s.nodes.length [z,nst,far0] at1 s.nodes.length=z:=aDq (j:=0) rfl;have U:atL s.nodes.length [z,nst,far0] at1 (s.nodes.length+1)=nst:=aDq (j:=1) rfl;have X:atL s.nodes.length [z,nst,far0] at1 (s.nodes.length+2)=far0:=aDq (j:=2) rfl;have Ai:atL s.nodes.length [z,nst,far0] at1 i=at1 i:=aCl hi;have Aa:atL s.nodes.length [z,nst,far0] at1 a=at1 a:=aCl al;refine aDW h hI F (own':=ownT (kindZ n.op) pb (s.nodes.length+1) s.nodes.length [z,nst,far0] own) (at2:=atL s.nodes.length [z,nst,far0] at1) o rfl rfl rfl am (fun a ha=>aCl ha) (fun k hk=>aC3 hk r ab) ?_ ?_
  ·refine aEW (a:=s.nodes.length+2) (b:=s.nodes.length+1) (xa:=Rf.row n.op Y.1 Y.2) (xb:=Rf.nestNd n.op 0 s.nodes.length s.nodes.length none) ?_ rfl f.pos rfl rfl rfl rfl f.out f.told f.had f.nest (T 2 _ rfl) rfl (T 1 _ rfl) rfl aQm (by rw [Ai,aC3 (W:=w.heap.size) aa r ab];exact (h.nd i n F).own) (by rw [Ai];exact (h.nd i n F).lo);rw [Ai,X,U];exact av.copy k2 h3 c3.on
  ·intro j mm g
   match j,g with
   | 0,g=>
    simp at g;subst g;refine aCF (a:=a) ?_ rfl g1 ae P ?_ ?_
    ·rw [Nat.add_zero s.nodes.length,E,Aa];exact R z0 L.zn
    ·rw [Nat.add_zero s.nodes.length,E];exact aDy (j:=0) l rfl (fun h=>(L.sq h).2.2.1.1)
    ·rw [Nat.add_zero s.nodes.length,E];omega
   | 1,g=>
    simp at g;subst g;refine aBz (a:=s.nodes.length) (nb:=nb) ?_ rfl rfl rfl rfl rfl rfl rfl rfl rfl rfl (T 0 _ rfl) rfl ⟨_,B⟩ (aGv (pb:=pb) C (by rw [E];exact B) H (fun e=>by rw [E];exact L.ln ((aMe v).2 e)) (fun hl=>?_)) (aEA v C _) ?_ ?_
    ·rw [U,E];exact R n0 L.nd
    ·have M:kindZ n.op≠12:=fun e=>hl ((aMe v).1 e)
     obtain ⟨s1,s2,_,_,s7⟩:=L.sq M;exact ⟨s1,aGz M,by omega,by rw [E];exact R s2 s7⟩
    ·rw [U];exact aDy (j:=1) l rfl (fun h=>(L.sq h).2.2.1.2.1)
    ·rw [U];omega
   | 2,g=>
    simp at g;subst g;refine aDf (cb:=cb) ?_ I ?_ ?_
    ·rw [X];exact R f0 L.fn
    ·rw [X];exact aDy (j:=2) l rfl (fun h=>(L.sq h).2.2.1.2.2)
    ·rw [X];omega
   | j+3,g=>simp at g
theorem aM6:SettleOk:=by
 refine aM5 ?_;intro w v y f g s j c i n k a x z l A B C D E F H I J L M N O P h e m o p R d q b S T r t
 by_cases u:n.op=.sqrt
 ·exact aNt w v y f g s j c i n k a x z l A B C D E F H I J L M N O P u h e m o p R d q b S T r t
 ·have U:0<=l.1:=by
   rw [d.c2];exact Int.mul_nonneg (by have:=d.d0;omega) d.lo
  rcases Int.lt_or_le 0 l.1 with hz | hz
  ·exact aUc u h e o p d hz b r t
  ·exact aUb u h e o p d (by omega) b r t
theorem aNe (f:Nat):SymOk f:=aT5 aM6 f
end Ab
namespace Rf
open Nw
inductive Wt where
 | fr (p q:Int)
 | con (op:Op) (ts:List Int)
 | neg (t:Wt)
 | two (k:Kind) (a b:Wt)
 | fn (op:Op) (t:Wt)
noncomputable def of:Wt->List Nd->Option (List Nd×Nat)
 | .fr p q,ns=>(more ns (fresh (decide (0<=p)) [(p,q)] [])).map fun ns1=>(ns1,ns.length)
 | .con op ts,ns=>(more ns { fresh true [] [] with op:=op,terms:=ts}).map fun ns1=>(ns1,ns.length)
 | .neg t,ns=>(of t ns).bind fun x=>(more x.1 (fresh false [(-1,0),(0,1)] [x.2])).map fun ns1=>(ns1,x.1.length)
 | .two k a b,ns=>(of a ns).bind fun x=>(of b x.1).bind fun y=>(y.1[x.2]?).bind fun nx=>(y.1[y.2]?).bind fun ny=>(more y.1 (two k nx.pos ny.pos x.2 y.2)).map fun ns1=>(ns1,y.1.length)
 | .fn op (.fr p q),ns=>outright ns op p q
 | .fn op t,ns=>(of t ns).bind fun x=>(x.1[x.2]?).bind fun nx=>
   (if nx.pos then some x else (more x.1 (fresh true [(1,0),(0,1)] [x.2])).map fun ns1=>(ns1,x.1.length)).bind fun y=>
   (more y.1 { fresh true [(1,0),(0,1)] [y.2] with op:=op,probe:=true}).map fun ns1=>(ns1,y.1.length)
def Wt.size:Wt->Nat
 | .fr _ _=>1
 | .con _ _=>1
 | .neg t=>t.size+1
 | .two _ a b=>a.size+b.size+1
 | .fn _ t=>t.size+1
def Wt.Ok:Wt->Prop
 | .fr p q=>0<q/\Bits 6100 p/\Bits 6100 q
 | .con op ts=>op=.pi\/op=.e\/(op=.cf/\2<=ts.length/\∀ a∈ts,Bits 40 a)
 | .neg t=>t.Ok
 | .two _ a b=>a.Ok/\b.Ok
 | .fn op t=>Rf.fn op/\t.Ok/\(∀ p q,t=.fr p q->0<p)
section
variable {ns:List Nd} {rho:Nat->Nat} {c:Nat}
theorem aLv (k:Kind):∀ v∈k.cols,Bits 13000 v.1/\Bits 13000 v.2:=by
 have a:Bits 13000 0:=bits0;have b:Bits 13000 1:=bits1 (by decide);intro v c
 cases k<;>simp [Kind.cols] at c
 ·rcases c with rfl | rfl | rfl
  ·exact ⟨a,a⟩
  ·exact ⟨b,a⟩
  ·exact ⟨a,b⟩
 ·rcases c with rfl | rfl | rfl | rfl
  ·exact ⟨a,a⟩
  ·exact ⟨b,a⟩
  ·exact ⟨aBw b,a⟩
  ·exact ⟨a,b⟩
 ·rcases c with rfl | rfl | rfl
  ·exact ⟨b,a⟩
  ·exact ⟨a,a⟩
  ·exact ⟨a,b⟩
 ·rcases c with rfl | rfl | rfl | rfl<;>first | exact ⟨a,a⟩ | exact ⟨b,a⟩ | exact ⟨a,b⟩
theorem aL9:∀ v∈[((1:Int),(0:Int)),(0,1)],Bits 13000 v.1/\Bits 13000 v.2:=by
 intro v a;simp at a
 rcases a with rfl | rfl
 ·exact ⟨bits1 (by decide),bits0⟩
 ·exact ⟨bits0,bits1 (by decide)⟩
theorem aJj {op:Op}{t:Wt}(i:c<=3000)(p:fn op){ns1:List Nd}{f:Nat->Nat}{d R:Nat}(g:Grown ns rho c R ns1 f)(q:d<ns1.length)(z:f d<=R)(A:ns.length<=d):
  ∃ ns' rho' e,((ns1[d]?).bind fun nx=>
   (if nx.pos then some (ns1,d) else (more ns1 (fresh true [(1,0),(0,1)] [d])).map fun ns2=>(ns2,ns1.length)).bind fun y=>
   (more y.1 { fresh true [(1,0),(0,1)] [y.2] with op:=op,probe:=true}).map fun ns1=>(ns1,y.1.length))=some (ns',e)/\Grown ns rho c (R+3200) ns' rho'/\e<ns'.length/\rho' e<=R+3200/\ns.length<=e:=by
 have s:ns1[d]?=some ns1[d]:=List.getElem?_eq_getElem q;rw [s,Option.bind_some]
 have Y:∃ ns2 a y,(if ns1[d].pos then some (ns1,d) else (more ns1 (fresh true [(1,0),(0,1)] [d])).map fun ns2=>(ns2,ns1.length))=some (ns2,y)/\Grown ns rho c (R+1) ns2 a/\Pos ns2 y/\a y<=R+1:=by
  cases v:ns1[d].pos with
  | true=>exact ⟨ns1,f,d,by simp,g.weak (by omega),⟨_,s,v⟩,by omega⟩
  | false=>
   obtain ⟨k,l,m⟩:=aA5 g.inv (r:=R+1) (n':=fresh true [(1,0),(0,1)] [d]) (by
    refine aA0 i rfl rfl rfl rfl rfl (by simpa [fresh] using i) aL9 bits0 bits0 ?_ (.una _ _ d rfl rfl (fun e=>by cases e));intro j b o;have:=args1 o;subst this;rw [aBg q,aAQ]
    exact ⟨q,by omega⟩)
   simp only [Bool.false_eq_true,if_false];rw [k];exact ⟨_,_,_,rfl,(g.weak (by omega)).trans l,aBT rfl,by rw [m];exact Nat.le_refl _⟩
 obtain ⟨ns2,a,y,u,n,h,x⟩:=Y;rw [u,Option.bind_some];simp only
 obtain ⟨k,l,m⟩:=aA5 n.inv (r:=R+3200) (n':={ fresh true [(1,0),(0,1)] [y] with op:=op,probe:=true}) (by
  refine aA0 i rfl rfl rfl rfl rfl (by simpa [fresh] using i) aL9 bits0 bits0 ?_ (.una _ _ y rfl rfl (fun _=>⟨rfl,p,rfl,h,by rw [aBg h.lt,aAQ];omega,rfl⟩));intro j b o;have:=args1 o;subst this;rw [aBg h.lt,aAQ]
  exact ⟨h.lt,by omega⟩)
 rw [k];have:=n.le.len;exact ⟨_,_,_,rfl,(n.weak (by omega)).trans l,by simp,by rw [m];exact Nat.le_refl _,by omega⟩
theorem aBs:∀ (t:Wt) (ns:List Nd) (rho:Nat->Nat),t.Ok->c<=3000->Inv ns rho c->∃ ns' rho' d,of t ns=some (ns',d)/\Grown ns rho c (3200*t.size) ns' rho'/\d<ns'.length/\rho' d<=3200*t.size/\ns.length<=d
 | .fr p q,ns,rho,ht,hc,h=>by
  obtain ⟨hq,bp,bq⟩:=ht
  obtain ⟨k1,k2,k3⟩:=aA5 h (r:=0) (n':=fresh (decide (0<=p)) [(p,q)] []) (by
   refine aA0 hc rfl rfl rfl rfl rfl (by simpa [fresh] using hc) ?_ bits0 bits0 (fun j a ha=>by simp [fresh] at ha) (.frac (p,q) rfl rfl rfl ?_)
   ·intro v hv;simp [fresh] at hv;subst hv;exact ⟨aAg bp (by decide),aAg bq (by decide)⟩
   ·by_cases hp:0<=p
    ·refine Or.inl ?_;show fits [vag one (p,q)]=true;rw [aC7,fits1];exact Or.inl ⟨hp,by simp only;omega,Or.inr hq⟩
    ·refine Or.inr ⟨by simp [fresh];omega,rfl,by simp only;omega,hq⟩)
  unfold of;rw [k1];exact ⟨_,_,_,rfl,k2.weak (by omega),by simp,by rw [k3];omega,Nat.le_refl _⟩
 | .con op ts,ns,rho,ht,hc,h=>by
  obtain ⟨k1,k2,k3⟩:=aA5 h (r:=0) (n':={ fresh true [] [] with op:=op,terms:=ts}) (by
   refine aA0 hc rfl rfl rfl rfl rfl (by simpa [fresh] using hc) (fun v hv=>by simp [fresh] at hv) bits0 bits0 (fun j a ha=>by simp [fresh] at ha) (.con rfl rfl rfl ?_)
   rcases ht with e | e | e
   ·exact Or.inl e
   ·exact Or.inr (Or.inl e)
   ·exact Or.inr (Or.inr (Or.inl e)))
  unfold of;rw [k1];exact ⟨_,_,_,rfl,k2.weak (by omega),by simp,by rw [k3];omega,Nat.le_refl _⟩
 | .neg t,ns,rho,ht,hc,h=>by
  obtain ⟨ns1,rho1,d,e1,g,hd,rd,h0⟩:=aBs t ns rho ht hc h
  obtain ⟨k1,k2,k3⟩:=aA5 g.inv (r:=3200*t.size+1) (n':=fresh false [(-1,0),(0,1)] [d]) (by
   refine aA0 hc rfl rfl rfl rfl rfl (by simpa [fresh] using hc) ?_ bits0 bits0 ?_ (.una _ _ d rfl rfl (fun e=>by cases e))
   ·intro v hv;simp [fresh] at hv
    rcases hv with rfl | rfl
    ·exact ⟨aBw (bits1 (by decide)),bits0⟩
    ·exact ⟨bits0,bits1 (by decide)⟩
   ·intro j b hb;have:=args1 hb;subst this;rw [aBg hd,aAQ]
    exact ⟨hd,by omega⟩)
  unfold of;rw [e1,Option.bind_some,k1];have:=g.le.len;exact ⟨_,_,_,rfl,((g.weak (by omega)).trans k2).weak (by simp [Wt.size];omega),by simp,by rw [k3];simp [Wt.size];omega,by simp only;omega⟩
 | .two k a b,ns,rho,ht,hc,h=>by
  obtain ⟨ns1,rho1,d,e1,g1,hd,rd,h0⟩:=aBs a ns rho ht.1 hc h;obtain ⟨ns2,rho2,e,e2,g2,he,re,h1⟩:=aBs b ns1 rho1 ht.2 hc g1.inv;have hd2:d<ns2.length:=Nat.lt_of_lt_of_le hd g2.le.len;have rd2:rho2 d=rho1 d:=g2.agree d hd
  obtain ⟨k1,k2,k3⟩:=aA5 g2.inv (r:=3200*(a.size+b.size)+1) (n':=two k ns2[d].pos ns2[e].pos d e) (by
   refine aA0 hc rfl rfl rfl rfl rfl (by simpa [two,fresh] using hc) (aLv k) bits0 bits0 ?_ ?_
   ·intro j x hx
    rcases args2 hx with rfl | rfl
    ·rw [aBg hd2,aAQ];exact ⟨hd2,by omega⟩
    ·rw [aBg he,aAQ];exact ⟨he,by omega⟩
   ·cases k
    ·exact .bin d e _ _ _ _ rfl rfl rfl
    ·exact .bin d e _ _ _ _ rfl rfl rfl
    ·exact .bin d e _ _ _ _ rfl rfl rfl
    ·exact .bin d e _ _ _ _ rfl rfl rfl)
  unfold of;rw [e1,Option.bind_some];simp only;rw [e2,Option.bind_some,List.getElem?_eq_getElem hd2,Option.bind_some,List.getElem?_eq_getElem he,Option.bind_some,k1];have l1:=g1.le.len;have l2:=g2.le.len;exact ⟨_,_,_,rfl,(((g1.weak (by omega)).trans (g2.weak (by omega))).trans k2).weak (by simp [Wt.size];omega),by simp,by rw [k3];simp [Wt.size];omega,by simp only;omega⟩
 | .fn op (.fr p q),ns,rho,ht,hc,h=>by
  obtain ⟨h1,h2,h3⟩:=ht;obtain ⟨k1,k2,k3⟩:=h2;obtain ⟨ns1,rho1,d,e1,g,hd,pd⟩:=aEu h hc h1 (h3 p q rfl) k1 k2 k3;have:=g.ranks d hd pd.lt;unfold of;exact ⟨_,_,_,e1,g.weak (by simp [Wt.size]),pd.lt,by simp [Wt.size];omega,hd⟩
 | .fn op (.con o ts),ns,rho,ht,hc,h=>by
  obtain ⟨ns1,rho1,d,e1,g,hd,rd,h0⟩:=aBs (.con o ts) ns rho ht.2.1 hc h;obtain ⟨ns2,rho2,e,f1,f2,f3,f4,f5⟩:=aJj (t:=.con o ts) hc ht.1 g hd rd h0;unfold of;rw [e1,Option.bind_some];exact ⟨_,_,_,f1,f2.weak (by simp [Wt.size]),f3,by simp [Wt.size] at *;omega,f5⟩
 | .fn op (.neg t),ns,rho,ht,hc,h=>by
  obtain ⟨ns1,rho1,d,e1,g,hd,rd,h0⟩:=aBs (.neg t) ns rho ht.2.1 hc h;obtain ⟨ns2,rho2,e,f1,f2,f3,f4,f5⟩:=aJj (t:=.neg t) hc ht.1 g hd rd h0;unfold of;rw [e1,Option.bind_some];exact ⟨_,_,_,f1,f2.weak (by simp [Wt.size];omega),f3,by simp [Wt.size] at *;omega,f5⟩
 | .fn op (.two k a b),ns,rho,ht,hc,h=>by
  obtain ⟨ns1,rho1,d,e1,g,hd,rd,h0⟩:=aBs (.two k a b) ns rho ht.2.1 hc h;obtain ⟨ns2,rho2,e,f1,f2,f3,f4,f5⟩:=aJj (t:=.two k a b) hc ht.1 g hd rd h0;unfold of;rw [e1,Option.bind_some];exact ⟨_,_,_,f1,f2.weak (by simp [Wt.size];omega),f3,by simp [Wt.size] at *;omega,f5⟩
 | .fn op (.fn o t),ns,rho,ht,hc,h=>by
  obtain ⟨ns1,rho1,d,e1,g,hd,rd,h0⟩:=aBs (.fn o t) ns rho ht.2.1 hc h;obtain ⟨ns2,rho2,e,f1,f2,f3,f4,f5⟩:=aJj (t:=.fn o t) hc ht.1 g hd rd h0;unfold of;rw [e1,Option.bind_some];exact ⟨_,_,_,f1,f2.weak (by simp [Wt.size];omega),f3,by simp [Wt.size] at *;omega,f5⟩
theorem aE6 (rho:Nat->Nat)(c:Nat):Inv [] rho c:=⟨fun i n h=>by simp at h⟩
end
end Rf
open Go.RowKit
namespace Ab
open Rf (Nd Inv NInv Wt)
def Nod (w:World)(b0:Nat)(own:Nat->Option Own)(at':Nat->Nat)(ns:List Nd):Prop:=∀ i n,ns[i]?=some n->NodeOk w b0 own at' ns i n
section
variable {w w':World} {b0:Nat} {own own':Nat->Option Own} {at1 at2:Nat->Nat} {ns:List Nd} {rho:Nat->Nat} {c:Nat}
theorem Nod.more (h:Nod w b0 own at1 ns)(m:Inv ns rho c){new:List Nd}(f:Chg w w' [])(d:∀ k,k<w.heap.size->own' k=own k)(g:∀ a,a<ns.length->at2 a=at1 a)(e:∀ j mm,new[j]?=some mm->NodeOk w' b0 own' at2 (ns++new) (ns.length+j) mm):Nod w' b0 own' at2 (ns++new):=by
 intro i n b
 by_cases l:i<ns.length
 ·rw [List.getElem?_append_left l] at b;exact (h i n b).keep (i0:=ns.length+1) f aMa (by omega) l (Pg.Go.more _ _) (fun k o hk ho _=>by rw [d k hk];exact ho) g (m.at' i n b)
 ·rw [List.getElem?_append_right (by omega)] at b;have:=e _ _ b;rw [show ns.length+(i-ns.length)=i by omega] at this;exact this
theorem Nod.still (h:Nod w b0 own at1 ns)(b:Inv ns rho c)(a:Chg w w' []):Nod w' b0 own at1 ns:=by
 have:=h.more b (new:=[]) (own':=own) (at2:=at1) a (fun _ _=>rfl) (fun _ _=>rfl) (fun j mm hj=>by simp at hj);rw [List.append_nil] at this;exact this
end
def kdK:Rf.Kind->Int
 | .add=>6
 | .sub=>7
 | .mul=>8
 | .div=>9
def PartB (w:World)(k:Nat)(kd:Int)(xs:List Value)(tv lv rv:Value):Prop:=w.heap[k]?=some (.cells (.int .i64 kd::xs++[tv,lv,rv]).toArray 93 (0,0))
def IntRow (w:World)(ts:List Int)(v:Value):Prop:=∃ g cap,∃ rest:List Value,v=.slice (some ⟨g,0,none⟩) ts.length cap/\ts.length<=1000000/\w.heap[g]?=some (.cells (ts.map (fun t=>Value.int .i64 t)++rest).toArray 3 (0,0))
def PartAt (w:World):Wt->Value->Prop
 | .fr p q,v=>∃ k xs tv lv rv,v=ptrB k/\PartB w k 1 xs tv lv rv/\Hold true w [p,q] xs/\One tv/\One lv/\One rv
 | .con op ts,v=>∃ k xs zs tv lv rv,v=ptrB k/\PartB w k (kindZ op) xs tv lv rv/\Hold true w zs xs/\zs.length=2/\(∀ z∈zs,Bits 1 z)/\One tv/\One lv/\One rv/\(op=.cf->IntRow w ts tv)
 | .neg t,v=>∃ k xs zs tv lv rv,v=ptrB k/\PartB w k 5 xs tv lv rv/\Hold true w zs xs/\zs.length=2/\(∀ z∈zs,Bits 1 z)/\One tv/\One rv/\PartAt w t lv
 | .two kd a b,v=>∃ k xs zs tv lv rv,v=ptrB k/\PartB w k (kdK kd) xs tv lv rv/\Hold true w zs xs/\zs.length=2/\(∀ z∈zs,Bits 1 z)/\One tv/\PartAt w a lv/\PartAt w b rv
 | .fn op t,v=>∃ k xs zs tv lv rv,v=ptrB k/\PartB w k (kindZ op) xs tv lv rv/\Hold true w zs xs/\zs.length=2/\(∀ z∈zs,Bits 1 z)/\One tv/\One rv/\PartAt w t lv
theorem aBX {w w':World}(a:On Z.bt w w'){k:Nat}{cs:Array Value}{ty:TypeId}(h:w.heap[k]?=some (.cells cs ty (0,0)))(c:bt0.contains ty=false):w'.heap[k]?=some (.cells cs ty (0,0)):=by
 rcases a.blk k _ h with e | ⟨e,_⟩
 ·exact e
 ·have b:bt0.contains ty=true:=e;rw [c] at b;cases b
theorem PartAt.keep {w w':World}(hon:On Z.bt w w'):∀ (t:Wt) (v:Value),PartAt w t v->PartAt w' t v
 | .fr p q,v,⟨k,xs,tv,lv,rv,h1,h2,h3,h4⟩=>⟨k,xs,tv,lv,rv,h1,aBX hon h2 (by decide),aAm hon h3,h4⟩
 | .con op ts,v,⟨k,xs,zs,tv,lv,rv,h1,h2,h3,h4,h5,h6,h7,h8,h9⟩=>⟨k,xs,zs,tv,lv,rv,h1,aBX hon h2 (by decide),aAm hon h3,h4,h5,h6,h7,h8,fun e=>by
   obtain ⟨g,cap,rest,e1,e0,e2⟩:=h9 e
   exact ⟨g,cap,rest,e1,e0,aBX hon e2 (by decide)⟩⟩
 | .neg t,v,⟨k,xs,zs,tv,lv,rv,h1,h2,h3,h4,h5,h6,h7,h8⟩=>⟨k,xs,zs,tv,lv,rv,h1,aBX hon h2 (by decide),aAm hon h3,h4,h5,h6,h7,PartAt.keep hon t lv h8⟩
 | .two kd a b,v,⟨k,xs,zs,tv,lv,rv,h1,h2,h3,h4,h5,h6,h7,h8⟩=>⟨k,xs,zs,tv,lv,rv,h1,aBX hon h2 (by decide),aAm hon h3,h4,h5,h6,PartAt.keep hon a lv h7,PartAt.keep hon b rv h8⟩
 | .fn op t,v,⟨k,xs,zs,tv,lv,rv,h1,h2,h3,h4,h5,h6,h7,h8⟩=>⟨k,xs,zs,tv,lv,rv,h1,aBX hon h2 (by decide),aAm hon h3,h4,h5,h6,h7,PartAt.keep hon t lv h8⟩
theorem PartAt.ptr {w:World}:∀ (t:Wt) (v:Value),PartAt w t v->∃ k,v=ptrB k
 | .fr p q,v,⟨k,xs,tv,lv,rv,h1,_⟩=>⟨k,h1⟩
 | .con op ts,v,⟨k,xs,zs,tv,lv,rv,h1,_⟩=>⟨k,h1⟩
 | .neg t,v,⟨k,xs,zs,tv,lv,rv,h1,_⟩=>⟨k,h1⟩
 | .two kd a b,v,⟨k,xs,zs,tv,lv,rv,h1,_⟩=>⟨k,h1⟩
 | .fn op t,v,⟨k,xs,zs,tv,lv,rv,h1,_⟩=>⟨k,h1⟩
end Ab
open Go.RowKit
namespace Ab
open Rf (Nd Inv NInv Wt)
noncomputable def sFr (p q:Int):AS:=⟨.val (.agg (numCs true 0 1))::.val (.agg (numCs true 1 1))::List.replicate (Tryz.f156.ntmps-2) .und,[],0,[(p,1),(q,1)],[]⟩
noncomputable def sCo (cv:Value):AS:=⟨.val (.one (.lit cv))::List.replicate (Tryz.f157.ntmps-1) .und,[],0,[],[]⟩
noncomputable def sMi (b:Bool):AS:=⟨.val (.one (.ptr 1 0))::List.replicate (Tryz.f159.ntmps-1) .und,[(1,ext [.bool b] 205)],3,[],[]⟩
noncomputable def sOp (kd:Int)(a b:Bool):AS:=⟨.val (.one (.int .i64 kd))::.val (.one (.ptr 1 0))::.val (.one (.ptr 2 0))::List.replicate (Tryz.f160.ntmps-3) .und,[(1,ext [.bool a] 205),(2,ext [.bool b] 205)],3,[],[]⟩
noncomputable def goT (fn:Func)(s:AS):Option Tr:=run Z (tabSp tS) bT (drawA Z (tabSp tS)) (fun _=>false) 1000 [.code (bodyOf fn),.top fn] s
noncomputable def lfS (fn:Func)(s:AS):AS:=(((goT fn s).bind (leafT [])).map (·.2)).getD ⟨[],[],0,[],[]⟩
structure IsNe (s:AS) (b:Nat) (c0:AC) (zs:List Int) (cv lp rp:AC) (uns:Int):Prop where
 look:look s.boxes b=some ⟨c0::colc s b++[cv,.int .i64 0,lp,.int .i64 0,rp,.int .i64 0,.lit nilS',.int .i64 uns,.lit nilP,.int .i64 0],205,true,false,false⟩
 len:(colc s b).length=16
 num:numOf s.nums (colc s b)=some zs
theorem IsNe.at {w0 w:World}{ψ φ:Nat->Option (Nat×Nat)}{s:AS}{b:Nat}{c0:AC}{hs:Bool}{zs:List Int}{cv lp rp:AC}{uns:Int}{a c d:Value}(h:IsNe s b c0 zs cv lp rp uns)(j:RepW Z w0 ψ φ s w){m:Nat}(k:φ b=some (m,0))(l:∀ x,relC Z φ s.nums w c0 x->x=.bool hs)(n:∀ x,relC Z φ s.nums w cv x->x=a)(o:∀ x,relC Z φ s.nums w lp x->x=c)(p:∀ x,relC Z φ s.nums w rp x->x=d):
  w0.heap.size<=m/\NodeAt w m zs hs uns 0 0 0 0 c d nilS' a nilP:=by
 obtain ⟨q,r,e,f,g,i⟩:=aB1 j h.look rfl rfl;rw [k] at e;cases e;exact ⟨i,aJv g f h.len h.num l n (fun x hx=>hx) o (fun x hx=>hx) p (fun x hx=>hx) aAh (fun x hx=>hx) aAh (fun x hx=>hx)⟩
section
variable (p q:Int) (cv:Value)
theorem fr_t:goT Tryz.f156 (sFr p q)=some (.ret (.val (.one (.ptr 10 0))) (lfS Tryz.f156 (sFr p q))):=by kernel_rfl
theorem fr_n:IsNe (lfS Tryz.f156 (sFr p q)) 10 (.sbool (decide (Nm.cmp p 0<0))) [p,q,0,0,0,0,0,0] (.lit nilP) (.lit nilP) (.lit nilP) 0:=⟨by kernel_rfl,by kernel_rfl,by kernel_rfl⟩
theorem fr_c:clean (lfS Tryz.f156 (sFr p q))=true:=by kernel_rfl
theorem co_t:goT Tryz.f157 (sCo cv)=some (.ret (.val (.one (.ptr 1 0))) (lfS Tryz.f157 (sCo cv))):=by kernel_rfl
theorem co_n:IsNe (lfS Tryz.f157 (sCo cv)) 1 (.bool false) [1,0,0,1,0,0,0,0] (.lit cv) (.lit nilP) (.lit nilP) 0:=⟨by kernel_rfl,by kernel_rfl,by kernel_rfl⟩
theorem co_c:clean (lfS Tryz.f157 (sCo cv))=true:=by kernel_rfl
theorem mi_t (b:Bool):goT Tryz.f159 (sMi b)=some (.ret (.val (.one (.ptr 3 0))) (lfS Tryz.f159 (sMi b))):=by kernel_rfl
theorem mi_n (b:Bool):IsNe (lfS Tryz.f159 (sMi b)) 3 (.bool true) [-1,0,0,1,0,0,0,0] (.lit nilP) (.lit nilP) (.ptr 1 0) 0:=⟨by kernel_rfl,by kernel_rfl,by kernel_rfl⟩
theorem mi_c (b:Bool):clean (lfS Tryz.f159 (sMi b))=true:=by kernel_rfl
def opZ:Rf.Kind->List Int
 | .add=>[0,0,1,0,1,0,0,1]
 | .sub=>[0,0,1,0,-1,0,0,1]
 | .mul=>[1,0,0,0,0,0,0,1]
 | .div=>[0,0,1,0,0,1,0,0]
def opS (kd:Rf.Kind)(a b:Bool):Bool:=(match kd with | .sub=>true | _=>false)||a||b
theorem op_t (kd:Rf.Kind)(a b:Bool):goT Tryz.f160 (sOp (kdK kd) a b)=some (.ret (.val (.one (.ptr 24 0))) (lfS Tryz.f160 (sOp (kdK kd) a b))):=by
 cases kd<;>cases a<;>cases b<;>kernel_rfl
theorem op_n (kd:Rf.Kind)(a b:Bool):IsNe (lfS Tryz.f160 (sOp (kdK kd) a b)) 24 (.bool (opS kd a b)) (opZ kd) (.lit nilP) (.ptr 1 0) (.ptr 2 0) 0:=by
 cases kd<;>cases a<;>cases b<;>exact ⟨by kernel_rfl,by kernel_rfl,by kernel_rfl⟩
theorem op_c (kd:Rf.Kind)(a b:Bool):clean (lfS Tryz.f160 (sOp (kdK kd) a b))=true:=by
 cases kd<;>cases a<;>cases b<;>kernel_rfl
end
theorem aQl (p:Int):decide (Nm.cmp p 0<0)=decide (p<0):=by
 by_cases h:p<0
 ·rw [Nm.aAC h];simp [h]
 ·have a:Nm.cmp 0 0=0:=Nm.aAz rfl
  rcases Int.lt_or_eq_of_le (Int.not_lt.1 h) with h1 | h1
  ·rw [Nm.aAt h1];simp [h]
  ·rw [<-h1,a]
def NewNd (w:World)(zs:List Int)(hs:Bool)(uns:Int)(lp rp cv:Value)(e:Ending)(w':World):Prop:=∃ m,e=.returned (ptrB m)/\Chg w w' []/\w.heap.size<=m/\NodeAt w' m zs hs uns 0 0 0 0 lp rp nilS' cv nilP
theorem aCi {w:World}{tm:List AT}{nx:Nat}{ν:List (Int×Nat)}:RepW Z w (fun _=>none) (fun _=>none) ⟨tm,[],nx,ν,[]⟩ w:=aBh rfl (fun b B hB=>(by cases hB)) (fun _ _=>rfl) (fun _ _ _ e=>(by cases e))
theorem aKs {w:World}{p q:Int}{xs ys:List Value}(i:Hold true w [p] xs)(k:Hold true w [q] ys)(l:Bits 1 p)(n:Bits 1 q):Calls Tryz.prog 156 #[.agg xs.toArray,.agg ys.toArray] w (NewNd w [p,q,0,0,0,0,0,0] (decide (p<0)) 0 nilP nilP nilP):=by
 refine aBo (φ:=fun _=>none) (s:=sFr p q) (vs:=[.agg (numCs true 0 1),.agg (numCs true 1 1)]) (args:=[.agg xs.toArray,.agg ys.toArray]) (aAj Tryz.func156 rfl rfl) (aAd aB6) aCd (by kernel_rfl) ⟨⟨xs,rfl,?_⟩,⟨ys,rfl,?_⟩,trivial⟩ aCi (fr_t p q) (fun r s=>r=.val (.one (.ptr 10 0))/\IsNe s 10 (.sbool (decide (Nm.cmp p 0<0))) [p,q,0,0,0,0,0,0] (.lit nilP) (.lit nilP) (.lit nilP) 0/\clean s=true) ⟨rfl,fr_n p q,fr_c p q⟩ ?_
 ·exact aBe [p] xs 0 _ i (by simpa using l) fun j z hz=>by
   match j,hz with
   | 0,hz=>cases hz;rfl
   | j+1,hz=>simp at hz
 ·exact aBe [q] ys 1 _ k (by simpa using n) fun j z hz=>by
   match j,hz with
   | 0,hz=>cases hz;rfl
   | j+1,hz=>simp at hz
 ·rintro r s φ v g ⟨rfl,d,h⟩ hrel a;obtain ⟨m,b⟩:=aAp a d.look rfl rfl;have e:v=ptrB m:=aAo (ν:=s.nums) (w:=g) b v hrel;obtain ⟨f,c⟩:=d.at (hs:=decide (Nm.cmp p 0<0)) a b (fun x hx=>hx) aAh aAh aAh;refine ⟨m,by rw [e],Chg.aAi (RepF.below a h),f,?_⟩;rw [aQl] at c;exact c
theorem aIe {w:World}{cv:Value}(i:One cv):Calls Tryz.prog 157 #[cv] w (NewNd w [1,0,0,1,0,0,0,0] false 0 nilP nilP cv):=by
 refine aBo (φ:=fun _=>none) (s:=sCo cv) (vs:=[.one (.lit cv)]) (args:=[cv]) (aAj Tryz.func157 rfl rfl) (aAd aB6) aCd (by kernel_rfl) ⟨⟨rfl,i⟩,trivial⟩ aCi (co_t cv) (fun r s=>r=.val (.one (.ptr 1 0))/\IsNe s 1 (.bool false) [1,0,0,1,0,0,0,0] (.lit cv) (.lit nilP) (.lit nilP) 0/\clean s=true) ⟨rfl,co_n cv,co_c cv⟩ ?_;rintro r s φ v g ⟨rfl,c,h⟩ hrel a;obtain ⟨m,b⟩:=aAp a c.look rfl rfl;have d:v=ptrB m:=aAo (ν:=s.nums) (w:=g) b v hrel;obtain ⟨e,f⟩:=c.at (hs:=false) a b (fun x hx=>hx) aAh aAh aAh;exact ⟨m,by rw [d],Chg.aAi (RepF.below a h),e,f⟩
theorem aIr {w:World}{xk:Nat}{b:Bool}(g:∃ ys:List Value,w.heap[xk]?=some (.cells (.bool b::ys).toArray 205 (0,0))):Calls Tryz.prog 159 #[ptrB xk] w (NewNd w [-1,0,0,1,0,0,0,0] true 0 nilP (ptrB xk) nilP):=by
 obtain ⟨ys,d⟩:=g
 have c:RepW Z w (ph1 1 xk) (ph1 1 xk) (sMi b) w:=by
  refine aBh rfl ?_ ?_ ?_
  ·intro u B q;have:=aAy q;simp [sMi] at this;obtain ⟨rfl,rfl⟩:=this;exact ⟨rfl,rfl,rfl,xk,0,rfl,[],[.bool b],ys,d,rfl,rfl,trivial⟩
  ·intro b t;have:3<=b:=t;unfold ph1;rw [if_neg (by omega)]
  ·intro b y o a;unfold ph1 at a;split at a
   ·cases a;exact aAf d
   ·cases a
 refine aBo (s:=sMi b) (vs:=[.one (.ptr 1 0)]) (args:=[ptrB xk]) (aAj Tryz.func159 rfl rfl) (aAd aB6) aCd (by kernel_rfl) ⟨⟨xk,0,rfl,rfl⟩,trivial⟩ c (mi_t b) (fun r s=>r=.val (.one (.ptr 3 0))/\IsNe s 3 (.bool true) [-1,0,0,1,0,0,0,0] (.lit nilP) (.lit nilP) (.ptr 1 0) 0/\clean s=true) ⟨rfl,mi_n b,mi_c b⟩ ?_;rintro r s φ v n ⟨rfl,i,p⟩ hrel e;obtain ⟨m,h⟩:=aAp e i.look rfl rfl;have j:v=ptrB m:=aAo (ν:=s.nums) (w:=n) h v hrel;have f:φ 1=some (xk,0):=e.base 1 (xk,0) rfl;obtain ⟨k,l⟩:=i.at (hs:=true) e h (fun x g=>g) aAh aAh (aAo f);exact ⟨m,by rw [j],Chg.aAi (RepF.below e p),k,l⟩
def phQ (x y:Nat):Nat->Option (Nat×Nat)
 | 1=>some (x,0)
 | 2=>some (y,0)
 | _=>none
theorem aKN {w:World}{xk d:Nat}{a b:Bool}(kd:Rf.Kind)(k:∃ ys:List Value,w.heap[xk]?=some (.cells (.bool a::ys).toArray 205 (0,0)))(D:∃ ys:List Value,w.heap[d]?=some (.cells (.bool b::ys).toArray 205 (0,0))):Calls Tryz.prog 160 #[.int .i64 (kdK kd),ptrB xk,ptrB d] w (NewNd w (opZ kd) (opS kd a b) 0 (ptrB xk) (ptrB d) nilP):=by
 obtain ⟨ys,f⟩:=k;obtain ⟨q,g⟩:=D
 have e:RepW Z w (phQ xk d) (phQ xk d) (sOp (kdK kd) a b) w:=by
  refine aBh rfl ?_ ?_ ?_
  ·intro E B A;have:=aAy A;simp [sOp] at this
   rcases this with ⟨rfl,rfl⟩ | ⟨rfl,rfl⟩
   ·exact ⟨rfl,rfl,rfl,xk,0,rfl,[],[.bool a],ys,f,rfl,rfl,trivial⟩
   ·exact ⟨rfl,rfl,rfl,d,0,rfl,[],[.bool b],q,g,rfl,rfl,trivial⟩
  ·intro b C;have:3<=b:=C
   match b,this with
   | b+3,_=>rfl
  ·intro b F o c
   match b,c with
   | 0,c=>cases c
   | 1,c=>cases c;exact aAf f
   | 2,c=>cases c;exact aAf g
   | b+3,c=>cases c
 refine aBo (s:=sOp (kdK kd) a b) (vs:=[.one (.int .i64 (kdK kd)),.one (.ptr 1 0),.one (.ptr 2 0)]) (args:=[.int .i64 (kdK kd),ptrB xk,ptrB d]) (aAj Tryz.func160 rfl rfl) (aAd aB6) aCd (by kernel_rfl) ⟨rfl,⟨xk,0,rfl,rfl⟩,⟨d,0,rfl,rfl⟩,trivial⟩ e (op_t kd a b) (fun r s=>r=.val (.one (.ptr 24 0))/\IsNe s 24 (.bool (opS kd a b)) (opZ kd) (.lit nilP) (.ptr 1 0) (.ptr 2 0) 0/\clean s=true) ⟨rfl,op_n kd a b,op_c kd a b⟩ ?_;rintro r s φ v y ⟨rfl,n,z⟩ hrel h;obtain ⟨m,l⟩:=aAp h n.look rfl rfl;have p:v=ptrB m:=aAo (ν:=s.nums) (w:=y) l v hrel;have i:φ 1=some (xk,0):=h.base 1 (xk,0) rfl;have j:φ 2=some (d,0):=h.base 2 (d,0) rfl;obtain ⟨t,u⟩:=n.at (hs:=opS kd a b) h l (fun x k=>k) aAh (aAo i) (aAo j);exact ⟨m,by rw [p],Chg.aAi (RepF.below h z),t,u⟩
end Ab
open Go.RowKit
namespace Ab
open Rf (Nd Inv NInv Wt)
def sA (kd:Int)(tv lv rv:Value)(tm:List AT):AS:=⟨tm,[(0,ext (.int .i64 kd::anys 4++[.lit tv,.lit lv,.lit rv]) 93)],1,[],[]⟩
def maS (p q:Int)(tv lv rv:Value)(tm:List AT):AS:=⟨tm,[(0,ext (.int .i64 1::numCs true 0 2++[.lit tv,.lit lv,.lit rv]) 93)],1,[(p,1),(q,1)],[]⟩
def sE (d:Nat)(v:Value):AS:=⟨slot [(d,litT v)] 0 83,[],0,[],[]⟩
def pD (d:Nat)(o:Oper):Bool:=o.dst==some d
noncomputable def rN:Nat×Array Oper×List (K (List AT)):=drwR (opCalls 156) Tryz.f124
noncomputable def rC:Nat×Array Oper×List (K (List AT)):=drwR (opCalls 157) Tryz.f124
noncomputable def rF:Nat×Array Oper×List (K (List AT)):=drwR (opCalls 158) Tryz.f124
def stM (ks:List (K (List AT))):Bool:=atDrw (fun o=>opCalls 156 o||opCalls 157 o||opCalls 158 o) ks||atOp (fun o=>opCalls 124 o||opCalls 160 o) ks
abbrev maT:List AT:=P0::List.replicate 82 .und
noncomputable def mRun (kt:List Nat)(ks:List (K (List AT)))(s:AS):Option XT:=(run Z (tabSp tS) bT (drawA Z (tabSp tS)) stM 400 ks s).bind (outX (nrm [0] [] 1 []) (nrm [0] kt 1 []))
noncomputable def mK:List (K (List AT)):=[.code (bodyOf Tryz.f124),.top Tryz.f124]
noncomputable def mTail (ks:List (K (List AT)))(s:AS):Option Tr:=run Z (tabSp tS) bT (drawA Z (tabSp tS)) (fun _=>false) 50 ks s
def retL:Tr->Option (AT×Bool)
 | .ret r s=>some (r,clean s)
 | _=>none
section
variable (p q:Int) (tv lv rv v v1 v2:Value)
theorem w_N:mRun [0] mK (maS p q tv lv rv maT)=some (.stp (.code (.region rN.1 rN.2.1 true)::rN.2.2) (maS p q tv lv rv (slot [(0,P0)] 0 83))):=by kernel_rfl
theorem w_C {kd:Int}(h:kd=2\/kd=3\/kd=4):mRun [0] mK (sA kd tv lv rv maT)=some (.stp (.code (.region rC.1 rC.2.1 true)::rC.2.2) (sA kd tv lv rv (slot [(0,P0)] 0 83))):=by
 rcases h with rfl | rfl | rfl<;>kernel_rfl
theorem w_F {kd:Int}(h:kd=10\/kd=11\/kd=12\/kd=13):mRun [0] mK (sA kd tv lv rv maT)=some (.stp (.code (.region rF.1 rF.2.1 true)::rF.2.2) (sA kd tv lv rv (slot [(0,P0)] 0 83))):=by
 rcases h with rfl | rfl | rfl | rfl<;>kernel_rfl
theorem w_M:mRun [0,58] mK (sA 5 tv lv rv maT)=some (.stp (bef (pD 59) Tryz.f124) (sA 5 tv lv rv (slot [(0,P0),(58,litT lv)] 0 83))):=by kernel_rfl
theorem w_B (kd:Rf.Kind):mRun [0,69] mK (sA (kdK kd) tv lv rv maT)=some (.stp (bef (pD 70) Tryz.f124) (sA (kdK kd) tv lv rv (slot [(0,P0),(69,litT lv)] 0 83))):=by
 cases kd<;>kernel_rfl
theorem w_B2 (kd:Rf.Kind):mRun [0,3,74] (aft (pD 70) Tryz.f124) (sA (kdK kd) tv lv rv (slot [(0,P0),(70,litT v1)] 0 83))=some (.stp (bef (pD 75) Tryz.f124) (sA (kdK kd) tv lv rv (slot [(0,P0),(3,litT v1),(74,litT rv)] 0 83))):=by
 cases kd<;>kernel_rfl
theorem w_B3 (kd:Rf.Kind):mRun [0,79,80,81] (aft (pD 75) Tryz.f124) (sA (kdK kd) tv lv rv (slot [(0,P0),(3,litT v1),(75,litT v2)] 0 83))=some (.stp (bef (pD 82) Tryz.f124) (sA (kdK kd) tv lv rv (slot [(0,P0),(79,.val (.one (.int .i64 (kdK kd)))),(80,litT v1),(81,litT v2)] 0 83))):=by
 cases kd<;>kernel_rfl
theorem t_N:(mTail (.ops rN.2.1 [11]::rN.2.2) (sE 23 v)).bind retL=some (litT v,true):=by kernel_rfl
theorem t_C:(mTail (.ops rC.2.1 [11]::rC.2.2) (sE 38 v)).bind retL=some (litT v,true):=by kernel_rfl
theorem t_F:(mTail (.ops rF.2.1 [9]::rF.2.2) (sE 52 v)).bind retL=some (litT v,true):=by kernel_rfl
theorem t_M:(mTail (aft (pD 60) Tryz.f124) (sE 60 v)).bind retL=some (litT v,true):=by kernel_rfl
theorem t_B:(mTail (aft (pD 82) Tryz.f124) (sE 82 v)).bind retL=some (litT v,true):=by kernel_rfl
noncomputable def dN:AS:=((drawA Z (tabSp tS) (rN.2.1.extract 0 10) (maS p q tv lv rv (slot [(0,P0)] 0 83))).getD (⟨[],[],0,[],[]⟩,[])).1
noncomputable def dC (kd:Int):AS:=((drawA Z (tabSp tS) (rC.2.1.extract 0 10) (sA kd tv lv rv (slot [(0,P0)] 0 83))).getD (⟨[],[],0,[],[]⟩,[])).1
noncomputable def dF (kd:Int):AS:=((drawA Z (tabSp tS) (rF.2.1.extract 0 8) (sA kd tv lv rv (slot [(0,P0)] 0 83))).getD (⟨[],[],0,[],[]⟩,[])).1
theorem d_N:drawA Z (tabSp tS) (rN.2.1.extract 0 10) (maS p q tv lv rv (slot [(0,P0)] 0 83))=some (dN p q tv lv rv,[]):=by kernel_rfl
theorem d_C (kd:Int):drawA Z (tabSp tS) (rC.2.1.extract 0 10) (sA kd tv lv rv (slot [(0,P0)] 0 83))=some (dC tv lv rv kd,[]):=by kernel_rfl
theorem d_F (kd:Int):drawA Z (tabSp tS) (rF.2.1.extract 0 8) (sA kd tv lv rv (slot [(0,P0)] 0 83))=some (dF tv lv rv kd,[]):=by kernel_rfl
theorem aUr:barB rN.2.1 10=true/\10<rN.2.1.size/\(List.range rN.2.1.size).drop 10=[10,11]:=⟨by kernel_rfl,Nat.lt_of_lt_of_eq (by decide:10<12) (by kernel_rfl),by kernel_rfl⟩
theorem aUp:barB rC.2.1 10=true/\10<rC.2.1.size/\(List.range rC.2.1.size).drop 10=[10,11]:=⟨by kernel_rfl,Nat.lt_of_lt_of_eq (by decide:10<12) (by kernel_rfl),by kernel_rfl⟩
theorem aUq:barB rF.2.1 8=true/\8<rF.2.1.size/\(List.range rF.2.1.size).drop 8=[8,9]:=⟨by kernel_rfl,Nat.lt_of_lt_of_eq (by decide:8<10) (by kernel_rfl),by kernel_rfl⟩
theorem c_N:callAt Z (dN p q tv lv rv) (.ops rN.2.1 [10,11]::rN.2.2)=some (156,[.agg (numCs true 0 1),.agg (numCs true 1 1)],some 23,.ops rN.2.1 [11]::rN.2.2):=by kernel_rfl
theorem c_C (kd:Int):callAt Z (dC tv lv rv kd) (.ops rC.2.1 [10,11]::rC.2.2)=some (157,[.one (.ptr 10 0)],some 38,.ops rC.2.1 [11]::rC.2.2):=by kernel_rfl
theorem c_F (kd:Int):callAt Z (dF tv lv rv kd) (.ops rF.2.1 [8,9]::rF.2.2)=some (158,[.one (.int .i64 kd),.one (.lit lv)],some 52,.ops rF.2.1 [9]::rF.2.2):=by kernel_rfl
theorem c_M:callAt Z (sA 5 tv lv rv (slot [(0,P0),(58,litT lv)] 0 83)) (bef (pD 59) Tryz.f124)=some (124,[.one (.lit lv)],some 59,bef (pD 60) Tryz.f124):=by kernel_rfl
theorem c_M2:callAt Z (sE 59 v) (bef (pD 60) Tryz.f124)=some (159,[.one (.lit v)],some 60,aft (pD 60) Tryz.f124):=by kernel_rfl
theorem c_B (kd:Int):callAt Z (sA kd tv lv rv (slot [(0,P0),(69,litT lv)] 0 83)) (bef (pD 70) Tryz.f124)=some (124,[.one (.lit lv)],some 70,aft (pD 70) Tryz.f124):=by kernel_rfl
theorem c_B2 (kd:Int):callAt Z (sA kd tv lv rv (slot [(0,P0),(3,litT v1),(74,litT rv)] 0 83)) (bef (pD 75) Tryz.f124)=some (124,[.one (.lit rv)],some 75,aft (pD 75) Tryz.f124):=by kernel_rfl
theorem c_B3 (kd:Int):callAt Z (sA kd tv lv rv (slot [(0,P0),(79,.val (.one (.int .i64 kd))),(80,litT v1),(81,litT v2)] 0 83)) (bef (pD 82) Tryz.f124)=some (160,[.one (.int .i64 kd),.one (.lit v1),.one (.lit v2)],some 82,aft (pD 82) Tryz.f124):=by kernel_rfl
theorem aHm:noFr (rN.2.2)=true/\noFr (rC.2.2)=true/\noFr (rF.2.2)=true/\noFr (bef (pD 59) Tryz.f124)=true/\noFr (bef (pD 60) Tryz.f124)=true/\noFr (bef (pD 70) Tryz.f124)=true/\noFr (bef (pD 75) Tryz.f124)=true/\noFr (bef (pD 82) Tryz.f124)=true/\noFr (aft (pD 60) Tryz.f124)=true/\noFr (aft (pD 70) Tryz.f124)=true/\noFr (aft (pD 75) Tryz.f124)=true/\noFr (aft (pD 82) Tryz.f124)=true:=⟨by kernel_rfl,by kernel_rfl,by kernel_rfl,by kernel_rfl,by kernel_rfl,by kernel_rfl,by kernel_rfl,by kernel_rfl,by kernel_rfl,by kernel_rfl,by kernel_rfl,by kernel_rfl⟩
theorem aQu:(dN p q tv lv rv).nums=[(p,1),(q,1)]:=by kernel_rfl
theorem aTl:(dN p q tv lv rv).tmps.length=83:=by kernel_rfl
theorem aUz:clean (dN p q tv lv rv)=true:=by kernel_rfl
theorem aTi (kd:Int):(dC tv lv rv kd).tmps.length=83:=by kernel_rfl
theorem aUx (kd:Int):clean (dC tv lv rv kd)=true:=by kernel_rfl
theorem aTk (kd:Int):(dF tv lv rv kd).tmps.length=83:=by kernel_rfl
theorem aUy (kd:Int):clean (dF tv lv rv kd)=true:=by kernel_rfl
theorem aQt (kd:Int):look (dC tv lv rv kd).boxes 10=some ⟨.int .i64 kd::.lit tv::(bxc (dC tv lv rv kd) 10).drop 2,224,true,false,false⟩:=by kernel_rfl
theorem aTj (kd:Int):numOf (dC tv lv rv kd).nums ((bxc (dC tv lv rv kd) 10).drop 2)=some [0,0,0,0,0,0,0,0]:=by kernel_rfl
theorem aE7:∀ (ts:List AT) (i:Nat),keepT [] [] i ts=List.replicate ts.length .top
 | [],_=>rfl
 | t::r,i=>by show AT.top::keepT [] [] (i+1) r=_;rw [aE7 r (i+1)];rfl
theorem aTX {d:Nat}{v:Value}{ts:List AT}(h:ts.length=83)(hs:putT (List.replicate 83 .top) (some d) (litT v)=slot [(d,litT v)] 0 83):(sE d v).tmps=putT (keepT [] [] 0 ts) (some d) (litT v):=by
 rw [aE7,h];exact hs.symm
end
end Ab
end Go.Proofs.YteghhlfmcjmnoaaGreatDoor
