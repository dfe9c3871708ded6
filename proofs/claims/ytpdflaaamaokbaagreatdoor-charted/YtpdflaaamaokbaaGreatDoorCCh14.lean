import Derived.Test.YtpdflaaamaokbaaGreatDoorCCh13
import Derived.Test.YtpdflaaamaokbaaGreatDoorCCh09
set_option linter.all false
set_option maxRecDepth 100000
set_option maxHeartbeats 2000000
namespace Go.Proofs.YtpdflaaamaokbaaGreatDoor
open List renaming getElem?_eq_some_iff->j8,length_set->j9,length_append->k8,length_singleton->k9,append_assoc->l4,getElem?_append_left->l5,getElem?_set_ne->l7,getElem?_append_right->l8,getElem?_eq_getElem->l9,replicate->n4,range->n5,mem_singleton->n6
open Option renaming bind_some->n7,bind_eq_some_iff->n8,map_eq_some_iff->n9
open Nat renaming add_zero->o8,le_refl->o9,lt_of_lt_of_eq->p7
open Prod.mk renaming injEq->p8
open Go.Proofs.Tryz
open Go.RowKit
namespace Ab
open Rf (Nd Inv aY)
theorem aWJ {n w1:World}{b0 fb:Nat}{own:Nat->Option Own}{at1:NN}{s:Rf.St}{be:NN}{c i:Nat}{d:Nd}{Y:List Nd}{a:Nat}{x:Nd}{e1 e2:Rf.V}{v z p1 y p2 A p3 H mt pl:Int}{gv g u:Value}{dd:Int}{xs:LB}(S:d.op≠.sqrt)(h:Net n b0 own at1 fb s)(dh:b0<=n.heap.size)(hI:Inv s.nodes be c)(X:s.nodes[i]?=some d)(C:Probe n b0 own at1 s be i d a x e1 e2 v z p1 y p2 A p3 H mt pl gv g u dd)(hz:0<e2.1)(r:Rf.turn (s.nodes.set i {d with read:=[0],aP:=false}) i {d with read:=[0],aP:=false} e2=some Y)(c1:Chg n w1 [])(hh:Hold true w1 [p1,y] xs):
  Calls prog 190 #[.int .i64 (aH d.op),aA (at1 a),.agg xs.toArray] w1 λe w2=>∃m,∃ys:LB,e=.returned (aA m)/\Chg w1 w2 []/\w1.heap.size<=m/\w2.heap[m]?=some (.cells ys.toArray 120 (0,0))/\ys.length=27/\(∀l∈ys,One l)/\∀w3,Chg w2 w3 [at1 i]->w3.heap[at1 i]?=some (.cells ys.toArray 120 (0,0))->kM n b0 own at1 fb s.nodes.length true ⟨Y,s.clock⟩ w3:=by
 have hi:=(j8.1 X).1;have a6:=(j8.1 C.rV).1;obtain⟨G,hG,E1,E2,b6,t0,ar,cd,dp⟩:=aN6 C.lo C.Xx C.d0 C.c2
 have hT:0<lowT p1 y:=by
  rcases Int.lt_or_le 0 (lowT p1 y)with h1|h1
  .exact h1
  .have:lowT p1 y=0:=by omega
   have:=cd.1 this;omega
 have R:=C.fn;obtain⟨g2,b4,cy,m1,m2,_,_,_⟩:=Gl (p:=lowT p1 y*lowT p1 y) (q:=lowB p1 y*lowB p1 y) (Int.mul_nonneg t0 t0) (Int.mul_pos ar ar);obtain⟨ck,bc⟩:=aJn (h.still hI c1) hI C.rV C.Fg;refine(Sw R S ⟨ck,bc⟩ hh C.bits b6 hT (by omega)).mono ?_;rintro e w2⟨m,ys,rfl,c2,k1,k2,k3,k4,o,nst,ra,B,E,nb,pb,cb,df,ei,cs,L⟩;refine⟨m,ys,rfl,c2,k1,k2,k3,k4,λw3 c3 h3=>?_⟩;have dk:n.heap.size<=w1.heap.size:=c1.on.size
 have ao:at1 i<n.heap.size:=by obtain⟨cs,bu⟩:=Lp h X;exact gZ bu
 have a4:Chg n w3 [at1 i]:=((c1.bO (by simp)).trans (c2.bO (by simp))).trans c3
 have up:∀{k:Nat} {zs:LN} {lp rp g u:Value},w1.heap.size<=k->NodeAt w2 k zs false 0 0 0 0 0 lp rp aI g u->NodeAt w3 k zs false 0 0 0 0 0 lp rp aI g u:=λhk X=>X.aT c3.on (c3.low _ X.lt (by simp;omega))
 have P:=c3.at L.bS (by have:=L.b0;simp;omega);have af:=nD c3.on L.hold;have a3:=c3.at L.fH (by have:=L.c0;simp;omega);have a5:=nD c3.on L.Qo;have ad:=aNf R S hG hT ar b4 m1 m2 (by rw[<-E1,<-E2];exact C.b1) a3 a5;rw[<-E1,<-E2]at ad;obtain⟨ru,rv,ag,ab⟩:=aPQ R S hG E1 E2;have z0:=L.z0;have n0:=L.n0;have f0:=L.f0
 -- the machine
 unfold Rf.turn at r;simp only[C.args,List.getElem?_cons_zero,n7]at r;rw[if_neg S,if_pos hz]at r;obtain⟨zb,cc,r⟩:=n8.1 r;obtain⟨dy,b9,b3⟩:=n9.1 cc;have ba:=xD b9;subst ba;subst b3;simp only at r;obtain⟨du,T,r⟩:=n8.1 r;unfold Rf.nest at T;rw[if_neg (by omega)]at T;obtain⟨Jy,ay,bx⟩:=n9.1 T;have a9:=xD ay;subst a9;subst bx;simp only at r
 by_cases N:d.op=.exp
 .rw[if_pos N]at r;obtain⟨rb,ca,r⟩:=n8.1 r;obtain⟨dv,b7,bz⟩:=n9.1 ca;have a7:=xD b7;subst a7;subst bz;rw[if_neg (by omega)]at r;obtain⟨ob,M,r⟩:=n8.1 r;unfold Rf.outright at M;obtain⟨cf,ax,M⟩:=n8.1 M;have ae:=xD ax;subst ae;rw[if_pos N]at M;obtain⟨dx,b8,b2⟩:=n9.1 M;have a8:=xD b8;subst a8;subst b2;have J:=(Cu r).1;simp only[j9,k8,k9,if_pos N,ag]at J;rw[l4,l4,l4,l4,Vx hi]at J;have ak:aH d.op=11:=(Lz R).2 N;obtain⟨r1,r2,hR,hU,r7,r8,r9⟩:=L.ex ak;have HR:=hid hR;have HU:=hid hU;clear hR hU
  have aa:aH d.op≠12:=λe=>by rw[N]at e;cases e
  obtain⟨s1,s2,hS,s6,s7⟩:=L.sq aa;have HS:=hid hS;have H6:=hid (s6 ak);clear hS s6
  have F:[o,nst,ra,B,E].Nodup:=by
   obtain⟨r3,r4,r5,r6⟩:=HR.out;obtain⟨u1,u2,u3⟩:=HU.out;simp[L.d1,L.d2,L.d3,Ne.symm r3,Ne.symm r4,r5,r6,Ne.symm u1,Ne.symm u2,Ne.symm u3]
  have I:∀b∈[o,nst,ra,B,E],n.heap.size<=b:=by
   intro b hb;simp at hb
   rcases hb with rfl|rfl|rfl|rfl|rfl<;>omega
  have av:Pg.Go s.nodes Y:=by
   rw[J];exact(Pg.Go.more _ _).trans (yL (n:=d) (by rw[l5 hi];exact X) rfl rfl rfl)
  obtain⟨xa,g1,_,g3,_⟩:=av.at' a x C.rV;have az:=g3 0 _ (h.nd a x C.rV).hc.fst
  have hN:∀(j:Nat) (mm:Nd),([Rf.fresh true [ru,rv] [a]]++([Rf.eR d.op 0 s.nodes.length s.nodes.length none]++([Rf.raised (s.nodes.length+1)]++([Rf.row d.op e2.1 e2.2]++[Rf.raised (s.nodes.length+1+1+1)]))))[j]?=some mm->Y[s.nodes.length+j]?=some mm:=by
   intro j mm D;rw[J,l7 (by omega),l8 (by omega),show s.nodes.length+j-s.nodes.length=j by omega];exact D
  have f:∀{j b:Nat},[o,nst,ra,B,E][j]?=some b->kA s.nodes.length [o,nst,ra,B,E] at1 (s.nodes.length+j)=b:=λD=>Ct D
  have O:∀{j b:Nat},[o,nst,ra,B,E][j]?=some b->pb≠b->mQ (aH d.op) pb (s.nodes.length+1) s.nodes.length [o,nst,ra,B,E] own b=some (.nd (s.nodes.length+j)):=λD hb=>Ie F D (λ_=>hb)
  have U:kA s.nodes.length [o,nst,ra,B,E] at1 s.nodes.length=o:=f (j:=0) rfl;have A1:kA s.nodes.length [o,nst,ra,B,E] at1 (s.nodes.length+1)=nst:=f (j:=1) rfl;have A2:kA s.nodes.length [o,nst,ra,B,E] at1 (s.nodes.length+2)=ra:=f (j:=2) rfl;have A3:kA s.nodes.length [o,nst,ra,B,E] at1 (s.nodes.length+3)=B:=f (j:=3) rfl;have A4:kA s.nodes.length [o,nst,ra,B,E] at1 (s.nodes.length+4)=E:=f (j:=4) rfl;have Ai:kA s.nodes.length [o,nst,ra,B,E] at1 i=at1 i:=vB hi;have Aa:kA s.nodes.length [o,nst,ra,B,E] at1 a=at1 a:=vB a6;refine Ou h hI X (own':=mQ (aH d.op) pb (s.nodes.length+1) s.nodes.length [o,nst,ra,B,E] own) (at2:=kA s.nodes.length [o,nst,ra,B,E] at1) J rfl rfl rfl a4 (λa ha=>vB ha) (λk hk=>Gf hk I (λ_=>by omega)) ?_ ?_
  .refine aFH (a:=s.nodes.length+4) (b:=s.nodes.length+2) (xa:=Rf.raised (s.nodes.length+1+1+1)) (xb:=Rf.raised (s.nodes.length+1)) ?_ rfl C.pos rfl rfl rfl rfl C.out C.told C.dR C.nest (hN 4 _ rfl) rfl (hN 2 _ rfl) rfl aSE (by rw[Ai,Gf (W:=n.heap.size) ao I (λ_=>by omega)];exact(h.nd i d X).own) (by rw[Ai];exact(h.nd i d X).lo);rw[Ai,A4,A2];exact r9.copy k2 h3 c3.on
  .intro j mm D
   match j,D with
   |0,D=>
    simp at D;subst D;refine Nq (a:=a) ?_ rfl g1 az ab ?_ ?_
    .rw[o8 s.nodes.length,U,Aa];exact up z0 L.zn
    .rw[o8 s.nodes.length,U];exact O (j:=0) rfl HS.out.1
    .rw[o8 s.nodes.length,U];omega
   |1,D=>
    simp at D;subst D;refine Hr (a:=s.nodes.length) (nb:=nb) ?_ rfl rfl rfl rfl rfl rfl rfl rfl rfl rfl (hN 0 _ rfl) rfl ⟨_,P⟩ (Wi S (by rw[U];exact P) af (λe=>by rw[N]at e;cases e) (λ_=>⟨s1,Wk aa,by omega,by rw[U];exact up s2 s7⟩)) (Uv R S _) ?_ ?_
    .rw[A1,U];exact up n0 L.nd
    .rw[A1];exact O (j:=1) rfl HS.out.2.1
    .rw[A1];omega
   |2,D=>
    simp at D;subst D;refine Nq (a:=s.nodes.length+1) ?_ rfl (hN 1 _ rfl) rfl Uc ?_ ?_
    .rw[A2,A1];exact up r1 r7
    .rw[A2];exact O (j:=2) rfl H6.out.1
    .rw[A2];omega
   |3,D=>
    simp at D;subst D;refine Ue (cb:=cb) ?_ ad ?_ ?_
    .rw[A3];exact up f0 L.fn
    .rw[A3];exact O (j:=3) rfl HS.out.2.2
    .rw[A3];omega
   |4,D=>
    simp at D;subst D;refine Nq (a:=s.nodes.length+3) ?_ rfl (hN 3 _ rfl) rfl Uc ?_ ?_
    .rw[A4,A3];exact up r2 r8
    .rw[A4];exact O (j:=4) rfl H6.out.2
    .rw[A4];omega
   |j+5,D=>simp at D
 .rw[if_neg N]at r;simp only[n7]at r;rw[if_neg (by omega)]at r;obtain⟨ob,M,r⟩:=n8.1 r;unfold Rf.outright at M;obtain⟨cf,ax,M⟩:=n8.1 M;have ae:=xD ax;subst ae;rw[if_neg N]at M;cases M;have J:=(Cu r).1;simp only[j9,k8,k9,if_neg N,ag]at J;rw[l4,l4,Vx hi]at J
  have ak:aH d.op≠11:=λe=>N ((Lz R).1 e)
  have bb:=L.top ak
  have ap:aH d.op≠12->n.heap.size<=pb:=λh=>by have:=(L.sq h).2.1;omega
  have F:[o,nst,B].Nodup:=by simp[L.d1,L.d2,L.d3]
  have I:∀b∈[o,nst,B],n.heap.size<=b:=by
   intro b hb;simp at hb
   rcases hb with rfl|rfl|rfl<;>omega
  have av:Pg.Go s.nodes Y:=by
   rw[J];exact(Pg.Go.more _ _).trans (yL (n:=d) (by rw[l5 hi];exact X) rfl rfl rfl)
  obtain⟨xa,g1,_,g3,_⟩:=av.at' a x C.rV;have az:=g3 0 _ (h.nd a x C.rV).hc.fst
  have hN:∀(j:Nat) (mm:Nd),([Rf.fresh true [ru,rv] [a]]++([Rf.eR d.op 0 s.nodes.length s.nodes.length none]++[Rf.row d.op e2.1 e2.2]))[j]?=some mm->Y[s.nodes.length+j]?=some mm:=by
   intro j mm D;rw[J,l7 (by omega),l8 (by omega),show s.nodes.length+j-s.nodes.length=j by omega];exact D
  have U:kA s.nodes.length [o,nst,B] at1 s.nodes.length=o:=Ct (j:=0) rfl;have A1:kA s.nodes.length [o,nst,B] at1 (s.nodes.length+1)=nst:=Ct (j:=1) rfl;have A2:kA s.nodes.length [o,nst,B] at1 (s.nodes.length+2)=B:=Ct (j:=2) rfl;have Ai:kA s.nodes.length [o,nst,B] at1 i=at1 i:=vB hi;have Aa:kA s.nodes.length [o,nst,B] at1 a=at1 a:=vB a6;refine Ou h hI X (own':=mQ (aH d.op) pb (s.nodes.length+1) s.nodes.length [o,nst,B] own) (at2:=kA s.nodes.length [o,nst,B] at1) J rfl rfl rfl a4 (λa ha=>vB ha) (λk hk=>Gf hk I ap) ?_ ?_
  .refine aFH (a:=s.nodes.length+2) (b:=s.nodes.length+1) (xa:=Rf.row d.op e2.1 e2.2) (xb:=Rf.eR d.op 0 s.nodes.length s.nodes.length none) ?_ rfl C.pos rfl rfl rfl rfl C.out C.told C.dR C.nest (hN 2 _ rfl) rfl (hN 1 _ rfl) rfl aSD (by rw[Ai,Gf (W:=n.heap.size) ao I ap];exact(h.nd i d X).own) (by rw[Ai];exact(h.nd i d X).lo);rw[Ai,A2,A1];exact bb.copy k2 h3 c3.on
  .intro j mm D
   match j,D with
   |0,D=>
    simp at D;subst D;refine Nq (a:=a) ?_ rfl g1 az ab ?_ ?_
    .rw[o8 s.nodes.length,U,Aa];exact up z0 L.zn
    .rw[o8 s.nodes.length,U];exact Ie (j:=0) F rfl (λh=>(L.sq h).2.2.1.1)
    .rw[o8 s.nodes.length,U];omega
   |1,D=>
    simp at D;subst D;refine Hr (a:=s.nodes.length) (nb:=nb) ?_ rfl rfl rfl rfl rfl rfl rfl rfl rfl rfl (hN 0 _ rfl) rfl ⟨_,P⟩ (Wi (pb:=pb) S (by rw[U];exact P) af (λe=>by rw[U];exact L.ln ((Qe R).2 e)) (λhl=>?_)) (Uv R S _) ?_ ?_
    .rw[A1,U];exact up n0 L.nd
    .have aa:aH d.op≠12:=λe=>hl ((Qe R).1 e)
     obtain⟨s1,s2,_,_,s7⟩:=L.sq aa;exact⟨s1,Wk aa,by omega,by rw[U];exact up s2 s7⟩
    .rw[A1];exact Ie (j:=1) F rfl (λh=>(L.sq h).2.2.1.2.1)
    .rw[A1];omega
   |2,D=>
    simp at D;subst D;refine Ue (cb:=cb) ?_ ad ?_ ?_
    .rw[A2];exact up f0 L.fn
    .rw[A2];exact Ie (j:=2) F rfl (λh=>(L.sq h).2.2.1.2.2)
    .rw[A2];omega
   |j+3,D=>simp at D
theorem aOY:gY:=by
 refine aOX ?_;intro w b0 z own at1 s r c i n q a x y f C F p1 H D I p3 J mt E gv u B v h e j g l A d p b L M c1 k
 by_cases o:n.op=.sqrt
 .exact aPl w b0 z own at1 s r c i n q a x y f C F p1 H D I p3 J mt E gv u B v o h e j g l A d p b L M c1 k
 .have N:0<=f.1:=by
   rw[d.c2];exact Int.mul_nonneg (by have:=d.d0;omega) d.lo
  rcases Int.lt_or_le 0 f.1 with hz|hz
  .exact aWJ o h e g l d hz b c1 k
  .exact aWI o h e g l d (by omega) b c1 k
theorem aPb (f:Nat):nX f:=aWB aOY f
end Ab
namespace Rf
open Nw
inductive Wt where
 |fr (p q:Int)
 |fH (op:Op) (ts:LN)
 |neg (t:Wt)
 |two (k:Kind) (a b:Wt)
 |fn (op:Op) (t:Wt)
noncomputable def of:Wt->List Nd->Option (List Nd×Nat)
 |.fr p q,ns=>(more ns (fresh (decide (0<=p)) [(p,q)] [])).map λd=>(d,ns.length)
 |.fH op ts,ns=>(more ns { fresh true [] []with op:=op,terms:=ts}).map λd=>(d,ns.length)
 |.neg t,ns=>(of t ns).bind λx=>(more x.1 (fresh false [(-1,0),(0,1)] [x.2])).map λd=>(d,x.1.length)
 |.two k a b,ns=>(of a ns).bind λx=>(of b x.1).bind λy=>(y.1[x.2]?).bind λe=>(y.1[y.2]?).bind λf=>(more y.1 (two k e.pos f.pos x.2 y.2)).map λd=>(d,y.1.length)
 |.fn op (.fr p q),ns=>outright ns op p q
 |.fn op t,ns=>(of t ns).bind λx=>(x.1[x.2]?).bind λe=>
   (if e.pos then some x else(more x.1 (fresh true [(1,0),(0,1)] [x.2])).map λd=>(d,x.1.length)).bind λy=>
   (more y.1 { fresh true [(1,0),(0,1)] [y.2]with op:=op,aP:=true}).map λd=>(d,y.1.length)
def Wt.size:Wt->Nat
 |.fr _ _=>1
 |.fH _ _=>1
 |.neg t=>t.size+1
 |.two _ a b=>a.size+b.size+1
 |.fn _ t=>t.size+1
def Wt.Ok:Wt->Prop
 |.fr p q=>0<q/\Bits 6100 p/\Bits 6100 q
 |.fH op ts=>op=.pi\/op=.e\/(op=.cf/\2<=ts.length/\∀a∈ts,Bits 40 a)
 |.neg t=>t.Ok
 |.two _ a b=>a.Ok/\b.Ok
 |.fn op t=>Rf.fn op/\t.Ok/\(∀p q,t=.fr p q->0<p)
section
variable {ns:List Nd} {rho:NN} {c:Nat}
theorem aNe (k:Kind):∀v∈k.cols,Bits 13000 v.1/\Bits 13000 v.2:=by
 have b0:Bits 13000 0:=aW;have b1:Bits 13000 1:=eJ (by decide);intro v hv
 cases k<;>simp[Kind.cols]at hv
 .rcases hv with rfl|rfl|rfl
  .exact⟨b0,b0⟩
  .exact⟨b1,b0⟩
  .exact⟨b0,b1⟩
 .rcases hv with rfl|rfl|rfl|rfl
  .exact⟨b0,b0⟩
  .exact⟨b1,b0⟩
  .exact⟨yO b1,b0⟩
  .exact⟨b0,b1⟩
 .rcases hv with rfl|rfl|rfl
  .exact⟨b1,b0⟩
  .exact⟨b0,b0⟩
  .exact⟨b0,b1⟩
 .rcases hv with rfl|rfl|rfl|rfl<;>first|exact⟨b0,b0⟩|exact⟨b1,b0⟩|exact⟨b0,b1⟩
theorem aNU:∀v∈[((1:Int),(0:Int)),(0,1)],Bits 13000 v.1/\Bits 13000 v.2:=by grind [Bits,eJ,aW]
theorem Wq {op:Op}{t:Wt}(hc:c<=3000)(s:fn op){j:List Nd}{P:NN}{d k:Nat}(g:Grown ns rho c k j P)(q:d<j.length)(rd:P d<=k)(B:ns.length<=d):
  ∃ l i e,((j[d]?).bind λA=>
   (if A.pos then some (j,d)else(more j (fresh true [(1,0),(0,1)] [d])).map λf=>(f,j.length)).bind λy=>
   (more y.1 { fresh true [(1,0),(0,1)] [y.2]with op:=op,aP:=true}).map λj=>(j,y.1.length))=some (l,e)/\Grown ns rho c (k+3200) l i/\e<l.length/\i e<=k+3200/\ns.length<=e:=by
 have w:j[d]?=some j[d]:=l9 q;rw[w,n7]
 have Y:∃f h y,(if j[d].pos then some (j,d)else(more j (fresh true [(1,0),(0,1)] [d])).map λf=>(f,j.length))=some (f,y)/\Grown ns rho c (k+1) f h/\Pos f y/\h y<=k+1:=by
  cases z:j[d].pos with
  |true=>exact⟨j,P,d,by simp,g.bO (by omega),⟨_,w,z⟩,by omega⟩
  |false=>
   obtain ⟨k1,u,v⟩:=uH g.inv (r:=k+1) (n':=fresh true [(1,0),(0,1)] [d]) (by
    refine wT hc rfl rfl rfl rfl rfl (by simpa[fresh]using hc) aNU aW aW ?_ (.kR _ _ d rfl rfl (λe=>by cases e));intro a b p;have:=lM p;subst this;rw[sJ q,uE]
    exact⟨q,by omega⟩)
   simp only[Bool.false_eq_true,if_false];rw[k1];exact⟨_,_,_,rfl,(g.bO (by omega)).trans u,Cm rfl,by rw[v];exact o9 _⟩
 obtain⟨f,h,y,x,o,n,C⟩:=Y;rw[x,n7];simp only
 obtain ⟨k1,u,v⟩:=uH o.inv (r:=k+3200) (n':={ fresh true [(1,0),(0,1)] [y] with op:=op,aP:=true}) (by
  refine wT hc rfl rfl rfl rfl rfl (by simpa[fresh]using hc) aNU aW aW ?_ (.kR _ _ y rfl rfl (λ_=>⟨rfl,s,rfl,n,by rw[sJ n.lt,uE];omega,rfl⟩));intro a b p;have:=lM p;subst this;rw[sJ n.lt,uE]
  exact⟨n.lt,by omega⟩)
 rw[k1];have:=o.le.len;exact⟨_,_,_,rfl,(o.bO (by omega)).trans u,by simp,by rw[v];exact o9 _,by omega⟩
theorem pX:∀(t:Wt) (ns:List Nd) (rho:NN),t.Ok->c<=3000->Inv ns rho c->∃E B d,of t ns=some (E,d)/\Grown ns rho c (3200*t.size) E B/\d<E.length/\B d<=3200*t.size/\ns.length<=d
 |.fr p q,ns,rho,i,hc,h=>by
  obtain⟨N,O,P⟩:=i
  obtain ⟨k1,z,A⟩:=uH h (r:=0) (n':=fresh (decide (0<=p)) [(p,q)] []) (by
   refine wT hc rfl rfl rfl rfl rfl (by simpa[fresh]using hc) ?_ aW aW (λj a J=>by simp[fresh]at J) (.gQ (p,q) rfl rfl rfl ?_)
   .intro v hv;simp[fresh]at hv;subst hv;exact⟨eI O (by decide),eI P (by decide)⟩
   .by_cases W:0<=p
    .refine Or.inl ?_;show fits [fG one (p,q)]=true;rw[Gi,mX];exact Or.inl ⟨W,by simp only;omega,Or.inr N⟩
    .refine Or.inr ⟨by simp[fresh];omega,rfl,by simp only;omega,N⟩)
  unfold of;rw[k1];exact⟨_,_,_,rfl,z.bO (by omega),by simp,by rw[A];omega,o9 _⟩
 |.fH op ts,ns,rho,i,hc,h=>by
  obtain ⟨k1,z,A⟩:=uH h (r:=0) (n':={ fresh true [] [] with op:=op,terms:=ts}) (by
   refine wT hc rfl rfl rfl rfl rfl (by simpa[fresh]using hc) (λv hv=>by simp[fresh]at hv) aW aW (λj a J=>by simp[fresh]at J) (.fH rfl rfl rfl ?_)
   rcases i with e|e|e
   .exact Or.inl e
   .exact Or.inr (Or.inl e)
   .exact Or.inr (Or.inr (Or.inl e)))
  unfold of;rw[k1];exact⟨_,_,_,rfl,z.bO (by omega),by simp,by rw[A];omega,o9 _⟩
 |.neg t,ns,rho,i,hc,h=>by
  obtain⟨s,f,d,w,g,n,rd,y⟩:=pX t ns rho i hc h
  obtain ⟨k1,z,A⟩:=uH g.inv (r:=3200*t.size+1) (n':=fresh false [(-1,0),(0,1)] [d]) (by
   refine wT hc rfl rfl rfl rfl rfl (by simpa[fresh]using hc) ?_ aW aW ?_ (.kR _ _ d rfl rfl (λe=>by cases e))
   .intro v hv;simp[fresh]at hv
    rcases hv with rfl|rfl
    .exact⟨yO (eJ (by decide)),aW⟩
    .exact⟨aW,eJ (by decide)⟩
   .intro j b U;have:=lM U;subst this;rw[sJ n,uE]
    exact⟨n,by omega⟩)
  unfold of;rw[w,n7,k1];have:=g.le.len;exact⟨_,_,_,rfl,((g.bO (by omega)).trans z).bO (by simp[Wt.size];omega),by simp,by rw[A];simp[Wt.size];omega,by simp only;omega⟩
 |.two k a b,ns,rho,i,hc,h=>by
  obtain⟨s,f,d,w,I,n,rd,y⟩:=pX a ns rho i.1 hc h;obtain⟨u,l,e,R,F,L,re,M⟩:=pX b s f i.2 hc I.inv;have D:d<u.length:=Nat.lt_of_lt_of_le n F.le.len;have rd2:l d=f d:=F.agree d n
  obtain ⟨k1,z,A⟩:=uH F.inv (r:=3200*(a.size+b.size)+1) (n':=two k u[d].pos u[e].pos d e) (by
   refine wT hc rfl rfl rfl rfl rfl (by simpa[two,fresh]using hc) (aNe k) aW aW ?_ ?_
   .intro j x X
    rcases args2 X with rfl|rfl
    .rw[sJ D,uE];exact⟨D,by omega⟩
    .rw[sJ L,uE];exact⟨L,by omega⟩
   .cases k
    .exact .bin d e _ _ _ _ rfl rfl rfl
    .exact .bin d e _ _ _ _ rfl rfl rfl
    .exact .bin d e _ _ _ _ rfl rfl rfl
    .exact .bin d e _ _ _ _ rfl rfl rfl)
  unfold of;rw[w,n7];simp only;rw[R,n7,l9 D,n7,l9 L,n7,k1];have Y:=I.le.len;have l2:=F.le.len;exact⟨_,_,_,rfl,(((I.bO (by omega)).trans (F.bO (by omega))).trans z).bO (by simp[Wt.size];omega),by simp,by rw[A];simp[Wt.size];omega,by simp only;omega⟩
 |.fn op (.fr p q),ns,rho,i,hc,h=>by
  obtain⟨M,S,T⟩:=i;obtain⟨k1,z,A⟩:=S;obtain⟨s,f,d,w,g,n,pd⟩:=aFa h hc M (T p q rfl) k1 z A;have:=g.jD d n pd.lt;unfold of;exact⟨_,_,_,w,g.bO (by simp[Wt.size]),pd.lt,by simp[Wt.size];omega,n⟩
 |.fn op (.fH o ts),ns,rho,i,hc,h=>by
  obtain⟨s,f,d,w,g,n,rd,y⟩:=pX (.fH o ts) ns rho i.2.1 hc h;obtain⟨u,l,e,f1,f2,f3,H,C⟩:=Wq (t:=.fH o ts) hc i.1 g n rd y;unfold of;rw[w,n7];exact⟨_,_,_,f1,f2.bO (by simp[Wt.size]),f3,by simp[Wt.size]at *;omega,C⟩
 |.fn op (.neg t),ns,rho,i,hc,h=>by
  obtain⟨s,f,d,w,g,n,rd,y⟩:=pX (.neg t) ns rho i.2.1 hc h;obtain⟨u,l,e,f1,f2,f3,H,C⟩:=Wq (t:=.neg t) hc i.1 g n rd y;unfold of;rw[w,n7];exact⟨_,_,_,f1,f2.bO (by simp[Wt.size];omega),f3,by simp[Wt.size]at *;omega,C⟩
 |.fn op (.two k a b),ns,rho,i,hc,h=>by
  obtain⟨s,f,d,w,g,n,rd,y⟩:=pX (.two k a b) ns rho i.2.1 hc h;obtain⟨u,l,e,f1,f2,f3,H,C⟩:=Wq (t:=.two k a b) hc i.1 g n rd y;unfold of;rw[w,n7];exact⟨_,_,_,f1,f2.bO (by simp[Wt.size];omega),f3,by simp[Wt.size]at *;omega,C⟩
 |.fn op (.fn o t),ns,rho,i,hc,h=>by
  obtain⟨s,f,d,w,g,n,rd,y⟩:=pX (.fn o t) ns rho i.2.1 hc h;obtain⟨u,l,e,f1,f2,f3,H,C⟩:=Wq (t:=.fn o t) hc i.1 g n rd y;unfold of;rw[w,n7];exact⟨_,_,_,f1,f2.bO (by simp[Wt.size];omega),f3,by simp[Wt.size]at *;omega,C⟩
theorem We (rho:NN)(c:Nat):Inv [] rho c:=⟨λi n h=>by simp at h⟩
end
end Rf
namespace Ab
open Rf (Nd Inv aY Wt)
def wR (w:World)(b0:Nat)(own:Nat->Option Own)(at':NN)(ns:List Nd):Prop:=∀i n,ns[i]?=some n->cH w b0 own at' ns i n
section
variable {w w':World} {b0:Nat} {own own':Nat->Option Own} {at1 at2:NN} {ns:List Nd} {rho:NN} {c:Nat}
theorem wR.more (h:wR w b0 own at1 ns)(p:Inv ns rho c){new:List Nd}(f:Chg w w' [])(d:∀k,k<w.heap.size->own' k=own k)(e:∀a,a<ns.length->at2 a=at1 a)(b:∀j l,new[j]?=some l->cH w' b0 own' at2 (ns++new) (ns.length+j) l):wR w' b0 own' at2 (ns++new):=by
 intro i n hi
 by_cases g:i<ns.length
 .rw[l5 g]at hi;exact(h i n hi).aT (i0:=ns.length+1) f aNX (by omega) g (Pg.Go.more _ _) (λk o q r _=>by rw[d k q];exact r) e (p.at' i n hi)
 .rw[l8 (by omega)]at hi;have:=b _ _ hi;rw[show ns.length+(i-ns.length)=i by omega]at this;exact this
theorem wR.still (h:wR w b0 own at1 ns)(b:Inv ns rho c)(a:Chg w w' []):wR w' b0 own at1 ns:=by
 have:=h.more b (new:=[]) (own':=own) (at2:=at1) a (λ_ _=>rfl) (λ_ _=>rfl) (λj e d=>by simp at d);rw[List.append_nil]at this;exact this
end
def cU:Rf.Kind->Int
 |.add=>6
 |.sub=>7
 |.mul=>8
 |.div=>9
def PartB (w:World)(k:Nat)(a:Int)(f:LB)(e b d:Value):Prop:=w.heap[k]?=some (.cells (.int .i64 a::f++[e,b,d]).toArray 157 (0,0))
def zE (w:World)(ts:LN)(v:Value):Prop:=∃g b,∃a:LB,v=.slice (some ⟨g,0,none⟩) ts.length b/\ts.length<=1000000/\w.heap[g]?=some (.cells (ts.map (λt=>Value.int .i64 t)++a).toArray 3 (0,0))
def aJ (w:World):Wt->Value->Prop
 |.fr p q,v=>∃k h d f g,v=aA k/\PartB w k 1 h d f g/\Hold true w [p,q] h/\One d/\One f/\One g
 |.fH op ts,v=>∃k h e d f g,v=aA k/\PartB w k (aH op) h d f g/\Hold true w e h/\e.length=2/\(∀z∈e,Bits 1 z)/\One d/\One f/\One g/\(op=.cf->zE w ts d)
 |.neg t,v=>∃k h e d f g,v=aA k/\PartB w k 5 h d f g/\Hold true w e h/\e.length=2/\(∀z∈e,Bits 1 z)/\One d/\One g/\aJ w t f
 |.two i a b,v=>∃k h e d f g,v=aA k/\PartB w k (cU i) h d f g/\Hold true w e h/\e.length=2/\(∀z∈e,Bits 1 z)/\One d/\aJ w a f/\aJ w b g
 |.fn op t,v=>∃k h e d f g,v=aA k/\PartB w k (aH op) h d f g/\Hold true w e h/\e.length=2/\(∀z∈e,Bits 1 z)/\One d/\One g/\aJ w t f
variable {k:Nat}
theorem Fp {w w':World}(a:On Z.bt w w'){cs:Array Value}{ty:TypeId}(h:w.heap[k]?=some (.cells cs ty (0,0)))(d:Md.contains ty=false):w'.heap[k]?=some (.cells cs ty (0,0)):=by
 rcases a.bS k _ h with e|⟨e,_⟩
 .exact e
 .have b:Md.contains ty=true:=e;rw[d]at b;cases b
theorem aJ.aT {w w':World}(d:On Z.bt w w'):∀(t:Wt) (v:Value),aJ w t v->aJ w' t v
 |.fr p q,v,⟨k,r,o,f,h,i,j,l,n⟩=>⟨k,r,o,f,h,i,Fp d j (by decide),nD d l,n⟩
 | .fH op ts,v,⟨k,r,y,o,f,h,i,j,l,n,s,u,x,h8,E⟩=>⟨k,r,y,o,f,h,i,Fp d j (by decide),nD d l,n,s,u,x,h8,λe=>by
   obtain⟨g,A,z,C,B,D⟩:=E e
   exact⟨g,A,z,C,B,Fp d D (by decide)⟩⟩
 |.neg t,v,⟨k,r,y,o,f,h,i,j,l,n,s,u,x,h8⟩=>⟨k,r,y,o,f,h,i,Fp d j (by decide),nD d l,n,s,u,x,aJ.aT d t f h8⟩
 |.two F a b,v,⟨k,r,y,o,f,h,i,j,l,n,s,u,x,h8⟩=>⟨k,r,y,o,f,h,i,Fp d j (by decide),nD d l,n,s,u,aJ.aT d a f x,aJ.aT d b h h8⟩
 |.fn op t,v,⟨k,r,y,o,f,h,i,j,l,n,s,u,x,h8⟩=>⟨k,r,y,o,f,h,i,Fp d j (by decide),nD d l,n,s,u,x,aJ.aT d t f h8⟩
theorem aJ.ptr {w:World}:∀(t:Wt) (v:Value),aJ w t v->∃k,v=aA k
 |.fr p q,v,⟨k,h,g,e,f,d,_⟩=>⟨k,d⟩
 |.fH op ts,v,⟨k,h,zs,g,e,f,d,_⟩=>⟨k,d⟩
 |.neg t,v,⟨k,h,zs,g,e,f,d,_⟩=>⟨k,d⟩
 |.two kd a b,v,⟨k,h,zs,g,e,f,d,_⟩=>⟨k,d⟩
 |.fn op t,v,⟨k,h,zs,g,e,f,d,_⟩=>⟨k,d⟩
noncomputable def Sq (p q:Int):AS:=⟨.val (.agg (bH true 0 1))::.val (.agg (bH true 1 1))::n4 (f85.ntmps-2) .gG,[],0,[(p,1),(q,1)],[]⟩
noncomputable def Sp (cv:Value):AS:=⟨.val (.one (.lit cv))::n4 (f86.ntmps-1) .gG,[],0,[],[]⟩
noncomputable def Kf (b:Bool):AS:=⟨.val (.one (.ptr 1 0))::n4 (f88.ntmps-1) .gG,[(1,ext [.bool b] 120)],3,[],[]⟩
noncomputable def Kg (d:Int)(a b:Bool):AS:=⟨.val (.one (.int .i64 d))::.val (.one (.ptr 1 0))::.val (.one (.ptr 2 0))::n4 (f89.ntmps-3) .gG,[(1,ext [.bool a] 120),(2,ext [.bool b] 120)],3,[],[]⟩
noncomputable def Rq (fn:Func)(s:AS):Option Tr:=run Z (aE tS) bT (aL Z (aE tS)) (λ_=>false) 1000 [.code (aF fn),.top fn] s
noncomputable def yW (fn:Func)(s:AS):AS:=(((Rq fn s).bind (dM [])).map (·.2)).getD ⟨[],[],0,[],[]⟩
structure fN (s:AS) (b:Nat) (c0:AC) (zs:LN) (cv lp rp:AC) (uns:Int):Prop where
 look:look s.boxes b=some ⟨c0::xO s b++[cv,.int .i64 0,lp,.int .i64 0,rp,.int .i64 0,.lit aI,.int .i64 uns,.lit aB,.int .i64 0],120,true,false,false⟩
 len:(xO s b).length=16
 num:numOf s.nums (xO s b)=some zs
theorem fN.at {n w:World}{q φ:LI}{s:AS}{b:Nat}{c0:AC}{hs:Bool}{e:LN}{cv lp rp:AC}{v:Int}{d g u:Value}(h:fN s b c0 e cv lp rp v)(o:RepW Z n q φ s w){m:Nat}(l:φ b=some (m,0))(f:∀x,relC Z φ s.nums w c0 x->x=.bool hs)(i:∀x,relC Z φ s.nums w cv x->x=d)(j:∀x,relC Z φ s.nums w lp x->x=g)(k:∀x,relC Z φ s.nums w rp x->x=u):
  n.heap.size<=m/\NodeAt w m e hs v 0 0 0 0 g u aI d aB:=by
 obtain⟨A,B,k1,r,y,z⟩:=zN o h.look rfl rfl;rw[l]at k1;cases k1;exact⟨z,aKV y r h.len h.num f i (λx a=>a) j (λx a=>a) k (λx a=>a) cJ (λx a=>a) cJ (λx a=>a)⟩
section
variable (p q:Int) (cv:Value)
theorem aZP:Rq f85 (Sq p q)=some (.ret (.val (.one (.ptr 10 0))) (yW f85 (Sq p q))):=by kernel_rfl
theorem aZO:fN (yW f85 (Sq p q)) 10 (.sbool (decide (Nm.cmp p 0<0))) [p,q,0,0,0,0,0,0] (.lit aB) (.lit aB) (.lit aB) 0:=⟨by kernel_rfl,by kernel_rfl,by kernel_rfl⟩
theorem aZN:clean (yW f85 (Sq p q))=true:=by kernel_rfl
theorem aZA:Rq f86 (Sp cv)=some (.ret (.val (.one (.ptr 1 0))) (yW f86 (Sp cv))):=by kernel_rfl
theorem aZz:fN (yW f86 (Sp cv)) 1 (.bool false) [1,0,0,1,0,0,0,0] (.lit cv) (.lit aB) (.lit aB) 0:=⟨by kernel_rfl,by kernel_rfl,by kernel_rfl⟩
theorem aZy:clean (yW f86 (Sp cv))=true:=by kernel_rfl
theorem bAc (b:Bool):Rq f88 (Kf b)=some (.ret (.val (.one (.ptr 3 0))) (yW f88 (Kf b))):=by kernel_rfl
theorem bAb (b:Bool):fN (yW f88 (Kf b)) 3 (.bool true) [-1,0,0,1,0,0,0,0] (.lit aB) (.lit aB) (.ptr 1 0) 0:=⟨by kernel_rfl,by kernel_rfl,by kernel_rfl⟩
theorem bAa (b:Bool):clean (yW f88 (Kf b))=true:=by kernel_rfl
def Sm:Rf.Kind->List Int
 |.add=>[0,0,1,0,1,0,0,1]
 |.sub=>[0,0,1,0,-1,0,0,1]
 |.mul=>[1,0,0,0,0,0,0,1]
 |.div=>[0,0,1,0,0,1,0,0]
def Mk (d:Rf.Kind)(a b:Bool):Bool:=(match d with|.sub=>true|_=>false)||a||b
theorem bAx (d:Rf.Kind)(a b:Bool):Rq f89 (Kg (cU d) a b)=some (.ret (.val (.one (.ptr 24 0))) (yW f89 (Kg (cU d) a b))):=by
 cases d<;>cases a<;>cases b<;>kernel_rfl
theorem bAw (d:Rf.Kind)(a b:Bool):fN (yW f89 (Kg (cU d) a b)) 24 (.bool (Mk d a b)) (Sm d) (.lit aB) (.ptr 1 0) (.ptr 2 0) 0:=by
 cases d<;>cases a<;>cases b<;>exact⟨by kernel_rfl,by kernel_rfl,by kernel_rfl⟩
theorem bAv (d:Rf.Kind)(a b:Bool):clean (yW f89 (Kg (cU d) a b))=true:=by
 cases d<;>cases a<;>cases b<;>kernel_rfl
end
theorem aSC (p:Int):decide (Nm.cmp p 0<0)=decide (p<0):=by
 by_cases h:p<0
 .rw[Nm.jC h];simp[h]
 .have a:Nm.cmp 0 0=0:=Nm.jB rfl
  rcases Int.lt_or_eq_of_le (Int.not_lt.1 h)with h1|h1
  .rw[Nm.hO h1];simp[h]
  .rw[<-h1,a]
def NewNd (w:World)(f:LN)(d:Bool)(a:Int)(lp rp cv:Value)(e:Ending)(b:World):Prop:=∃m,e=.returned (aA m)/\Chg w b []/\w.heap.size<=m/\NodeAt b m f d a 0 0 0 0 lp rp aI cv aB
variable {n:World}{w:Nat}
theorem Gh {d:List AT}{ν:LV}:RepW Z n (λ_=>none) (λ_=>none) ⟨d,[],w,ν,[]⟩ n:=rQ rfl (λb B a=>(by cases a)) (λ_ _=>rfl) (λ_ _ _ e=>(by cases e))
variable {p:Int}
theorem aLY {q:Int}{a d:LB}(l:Hold true n [p] a)(o:Hold true n [q] d)(i:Bits 1 p)(k:Bits 1 q):Calls prog 85 #[.agg a.toArray,.agg d.toArray] n (NewNd n [p,q,0,0,0,0,0,0] (decide (p<0)) 0 aB aB aB):=by
 refine sI (φ:=λ_=>none) (s:=Sq p q) (vs:=[.agg (bH true 0 1),.agg (bH true 1 1)]) (args:=[.agg a.toArray,.agg d.toArray]) (bD func85 rfl rfl) (dL nP) qJ (by kernel_rfl) ⟨⟨a,rfl,?_⟩,⟨d,rfl,?_⟩,trivial⟩ Gh (aZP p q) (λr s=>r=.val (.one (.ptr 10 0))/\fN s 10 (.sbool (decide (Nm.cmp p 0<0))) [p,q,0,0,0,0,0,0] (.lit aB) (.lit aB) (.lit aB) 0/\clean s=true) ⟨rfl,aZO p q,aZN p q⟩ ?_
 .exact tV [p] a 0 _ l (by simpa using i) λj z b=>by
   match j,b with
   |0,b=>cases b;rfl
   |j+1,b=>simp at b
 .exact tV [q] d 1 _ o (by simpa using k) λj z b=>by
   match j,b with
   |0,b=>cases b;rfl
   |j+1,b=>simp at b
 .rintro r s φ v y⟨rfl,g,hc⟩ hrel e;obtain⟨m,f⟩:=gU e g.look rfl rfl;have hv:v=aA m:=cN (ν:=s.nums) (w:=y) f v hrel;obtain⟨k1,h⟩:=g.at (hs:=decide (Nm.cmp p 0<0)) e f (λx u=>u) cJ cJ cJ;refine⟨m,by rw[hv],Chg.eC (RepF.below e hc),k1,?_⟩;rw[aSC]at h;exact h
theorem aJv {cv:Value}(e:One cv):Calls prog 86 #[cv] n (NewNd n [1,0,0,1,0,0,0,0] false 0 aB aB cv):=by
 refine sI (φ:=λ_=>none) (s:=Sp cv) (vs:=[.one (.lit cv)]) (args:=[cv]) (bD func86 rfl rfl) (dL nP) qJ (by kernel_rfl) ⟨⟨rfl,e⟩,trivial⟩ Gh (aZA cv) (λr s=>r=.val (.one (.ptr 1 0))/\fN s 1 (.bool false) [1,0,0,1,0,0,0,0] (.lit cv) (.lit aB) (.lit aB) 0/\clean s=true) ⟨rfl,aZz cv,aZy cv⟩ ?_;rintro r s φ v h⟨rfl,d,hc⟩ hrel a;obtain⟨m,b⟩:=gU a d.look rfl rfl;have hv:v=aA m:=cN (ν:=s.nums) (w:=h) b v hrel;obtain⟨k1,g⟩:=d.at (hs:=false) a b (λx f=>f) cJ cJ cJ;exact⟨m,by rw[hv],Chg.eC (RepF.below a hc),k1,g⟩
theorem aJM {b:Bool}(g:∃i:LB,n.heap[w]?=some (.cells (.bool b::i).toArray 120 (0,0))):Calls prog 88 #[aA w] n (NewNd n [-1,0,0,1,0,0,0,0] true 0 aB (aA w) aB):=by
 obtain⟨i,e⟩:=g
 have d:RepW Z n (ph1 1 w) (ph1 1 w) (Kf b) n:=by
  refine rQ rfl ?_ ?_ ?_
  .intro A B l;have:=nE l;simp[Kf]at this;obtain⟨rfl,rfl⟩:=this;exact⟨rfl,rfl,rfl,w,0,rfl,[],[.bool b],i,e,rfl,rfl,trivial⟩
  .intro b u;have:3<=b:=u;unfold ph1;rw[if_neg (by omega)]
  .intro b C o a;unfold ph1 at a;split at a
   .cases a;exact gZ e
   .cases a
 refine sI (s:=Kf b) (vs:=[.one (.ptr 1 0)]) (args:=[aA w]) (bD func88 rfl rfl) (dL nP) qJ (by kernel_rfl) ⟨⟨w,0,rfl,rfl⟩,trivial⟩ d (bAc b) (λr s=>r=.val (.one (.ptr 3 0))/\fN s 3 (.bool true) [-1,0,0,1,0,0,0,0] (.lit aB) (.lit aB) (.ptr 1 0) 0/\clean s=true) ⟨rfl,bAb b,bAa b⟩ ?_;rintro r s φ v z⟨rfl,k,hc⟩ hrel f;obtain⟨m,j⟩:=gU f k.look rfl rfl;have hv:v=aA m:=cN (ν:=s.nums) (w:=z) j v hrel;have h:φ 1=some (w,0):=f.base 1 (w,0) rfl;obtain⟨k1,y⟩:=k.at (hs:=true) f j (λx g=>g) cJ cJ (cN h);exact⟨m,by rw[hv],Chg.eC (RepF.below f hc),k1,y⟩
def phQ (x y:Nat):Nat->Option (Nat×Nat)
 |1=>some (x,0)
 |2=>some (y,0)
 |_=>none
theorem aMh {a b:Bool}(e:Rf.Kind)(l:∃j:LB,n.heap[w]?=some (.cells (.bool a::j).toArray 120 (0,0)))(E:∃j:LB,n.heap[k]?=some (.cells (.bool b::j).toArray 120 (0,0))):Calls prog 89 #[.int .i64 (cU e),aA w,aA k] n (NewNd n (Sm e) (Mk e a b) 0 (aA w) (aA k) aB):=by
 obtain⟨j,h⟩:=l;obtain⟨I,i⟩:=E
 have f:RepW Z n (phQ w k) (phQ w k) (Kg (cU e) a b) n:=by
  refine rQ rfl ?_ ?_ ?_
  .intro J B C;have:=nE C;simp[Kg]at this
   rcases this with⟨rfl,rfl⟩|⟨rfl,rfl⟩
   .exact⟨rfl,rfl,rfl,w,0,rfl,[],[.bool a],j,h,rfl,rfl,trivial⟩
   .exact⟨rfl,rfl,rfl,k,0,rfl,[],[.bool b],I,i,rfl,rfl,trivial⟩
  .intro b D;have:3<=b:=D
   match b,this with
   |b+3,_=>rfl
  .intro b L o d
   match b,d with
   |0,d=>cases d
   |1,d=>cases d;exact gZ h
   |2,d=>cases d;exact gZ i
   |b+3,d=>cases d
 refine sI (s:=Kg (cU e) a b) (vs:=[.one (.int .i64 (cU e)),.one (.ptr 1 0),.one (.ptr 2 0)]) (args:=[.int .i64 (cU e),aA w,aA k]) (bD func89 rfl rfl) (dL nP) qJ (by kernel_rfl) ⟨rfl,⟨w,0,rfl,rfl⟩,⟨k,0,rfl,rfl⟩,trivial⟩ f (bAx e a b) (λr s=>r=.val (.one (.ptr 24 0))/\fN s 24 (.bool (Mk e a b)) (Sm e) (.lit aB) (.ptr 1 0) (.ptr 2 0) 0/\clean s=true) ⟨rfl,bAw e a b,bAv e a b⟩ ?_;rintro r s φ v H⟨rfl,A,hc⟩ hrel g;obtain⟨m,z⟩:=gU g A.look rfl rfl;have hv:v=aA m:=cN (ν:=s.nums) (w:=H) z v hrel;have u:φ 1=some (w,0):=g.base 1 (w,0) rfl;have y:φ 2=some (k,0):=g.base 2 (k,0) rfl;obtain⟨k1,F⟩:=A.at (hs:=Mk e a b) g z (λx l=>l) cJ (cN u) (cN y);exact⟨m,by rw[hv],Chg.eC (RepF.below g hc),k1,F⟩
def sA (a:Int)(tv lv rv:Value)(b:List AT):AS:=⟨b,[(0,ext (.int .i64 a::Dx 4++[.lit tv,.lit lv,.lit rv]) 157)],1,[],[]⟩
def Hb (p q:Int)(tv lv rv:Value)(a:List AT):AS:=⟨a,[(0,ext (.int .i64 1::bH true 0 2++[.lit tv,.lit lv,.lit rv]) 157)],1,[(p,1),(q,1)],[]⟩
def sE (d:Nat)(v:Value):AS:=⟨slot [(d,litT v)] 0 83,[],0,[],[]⟩
def pD (d:Nat)(o:Oper):Bool:=o.dst==some d
noncomputable def rN:Nat×Array Oper×List (K (List AT)):=xQ (aG 85) f60
noncomputable def rC:Nat×Array Oper×List (K (List AT)):=xQ (aG 86) f60
noncomputable def rF:Nat×Array Oper×List (K (List AT)):=xQ (aG 87) f60
def stM (a:List (K (List AT))):Bool:=sK (λo=>aG 85 o||aG 86 o||aG 87 o) a||nH (λo=>aG 60 o||aG 89 o) a
abbrev Cz:List AT:=P0::n4 82 .gG
noncomputable def uS (b:NU)(a:List (K (List AT)))(s:AS):Option XT:=(run Z (aE tS) bT (aL Z (aE tS)) stM 400 a s).bind (eF (fF [0] [] 1 []) (fF [0] b 1 []))
noncomputable def mK:List (K (List AT)):=[.code (aF f60),.top f60]
noncomputable def oI (a:List (K (List AT)))(s:AS):Option Tr:=run Z (aE tS) bT (aL Z (aE tS)) (λ_=>false) 50 a s
def iY:Tr->Option (AT×Bool)
 |.ret r s=>some (r,clean s)
 |_=>none
section
variable (p q:Int) (tv lv rv v v1 v2:Value)
theorem w_N:uS [0] mK (Hb p q tv lv rv Cz)=some (.stp (.code (.region rN.1 rN.2.1 true)::rN.2.2) (Hb p q tv lv rv (slot [(0,P0)] 0 83))):=by kernel_rfl
theorem w_C {v:Int}(h:v=2\/v=3\/v=4):uS [0] mK (sA v tv lv rv Cz)=some (.stp (.code (.region rC.1 rC.2.1 true)::rC.2.2) (sA v tv lv rv (slot [(0,P0)] 0 83))):=by
 rcases h with rfl|rfl|rfl<;>kernel_rfl
theorem w_F {v:Int}(h:v=10\/v=11\/v=12\/v=13):uS [0] mK (sA v tv lv rv Cz)=some (.stp (.code (.region rF.1 rF.2.1 true)::rF.2.2) (sA v tv lv rv (slot [(0,P0)] 0 83))):=by
 rcases h with rfl|rfl|rfl|rfl<;>kernel_rfl
theorem w_M:uS [0,58] mK (sA 5 tv lv rv Cz)=some (.stp (eH (pD 59) f60) (sA 5 tv lv rv (slot [(0,P0),(58,litT lv)] 0 83))):=by kernel_rfl
theorem w_B (a:Rf.Kind):uS [0,69] mK (sA (cU a) tv lv rv Cz)=some (.stp (eH (pD 70) f60) (sA (cU a) tv lv rv (slot [(0,P0),(69,litT lv)] 0 83))):=by
 cases a<;>kernel_rfl
theorem bA6 (a:Rf.Kind):uS [0,3,74] (eE (pD 70) f60) (sA (cU a) tv lv rv (slot [(0,P0),(70,litT v1)] 0 83))=some (.stp (eH (pD 75) f60) (sA (cU a) tv lv rv (slot [(0,P0),(3,litT v1),(74,litT rv)] 0 83))):=by
 cases a<;>kernel_rfl
theorem bA7 (a:Rf.Kind):uS [0,79,80,81] (eE (pD 75) f60) (sA (cU a) tv lv rv (slot [(0,P0),(3,litT v1),(75,litT v2)] 0 83))=some (.stp (eH (pD 82) f60) (sA (cU a) tv lv rv (slot [(0,P0),(79,.val (.one (.int .i64 (cU a)))),(80,litT v1),(81,litT v2)] 0 83))):=by
 cases a<;>kernel_rfl
theorem t_N:(oI (.ops rN.2.1 [11]::rN.2.2) (sE 23 v)).bind iY=some (litT v,true):=by kernel_rfl
theorem t_C:(oI (.ops rC.2.1 [11]::rC.2.2) (sE 38 v)).bind iY=some (litT v,true):=by kernel_rfl
theorem t_F:(oI (.ops rF.2.1 [9]::rF.2.2) (sE 52 v)).bind iY=some (litT v,true):=by kernel_rfl
theorem t_M:(oI (eE (pD 60) f60) (sE 60 v)).bind iY=some (litT v,true):=by kernel_rfl
theorem t_B:(oI (eE (pD 82) f60) (sE 82 v)).bind iY=some (litT v,true):=by kernel_rfl
noncomputable def dN:AS:=((aL Z (aE tS) (rN.2.1.extract 0 10) (Hb p q tv lv rv (slot [(0,P0)] 0 83))).getD (⟨[],[],0,[],[]⟩,[])).1
noncomputable def dC (a:Int):AS:=((aL Z (aE tS) (rC.2.1.extract 0 10) (sA a tv lv rv (slot [(0,P0)] 0 83))).getD (⟨[],[],0,[],[]⟩,[])).1
noncomputable def dF (a:Int):AS:=((aL Z (aE tS) (rF.2.1.extract 0 8) (sA a tv lv rv (slot [(0,P0)] 0 83))).getD (⟨[],[],0,[],[]⟩,[])).1
theorem d_N:aL Z (aE tS) (rN.2.1.extract 0 10) (Hb p q tv lv rv (slot [(0,P0)] 0 83))=some (dN p q tv lv rv,[]):=by kernel_rfl
theorem d_C (a:Int):aL Z (aE tS) (rC.2.1.extract 0 10) (sA a tv lv rv (slot [(0,P0)] 0 83))=some (dC tv lv rv a,[]):=by kernel_rfl
theorem d_F (a:Int):aL Z (aE tS) (rF.2.1.extract 0 8) (sA a tv lv rv (slot [(0,P0)] 0 83))=some (dF tv lv rv a,[]):=by kernel_rfl
theorem aW5:sM rN.2.1 10=true/\10<rN.2.1.size/\(n5 rN.2.1.size).drop 10=[10,11]:=⟨by kernel_rfl,p7 (by decide:10<12) (by kernel_rfl),by kernel_rfl⟩
theorem aW3:sM rC.2.1 10=true/\10<rC.2.1.size/\(n5 rC.2.1.size).drop 10=[10,11]:=⟨by kernel_rfl,p7 (by decide:10<12) (by kernel_rfl),by kernel_rfl⟩
theorem aW4:sM rF.2.1 8=true/\8<rF.2.1.size/\(n5 rF.2.1.size).drop 8=[8,9]:=⟨by kernel_rfl,p7 (by decide:8<10) (by kernel_rfl),by kernel_rfl⟩
theorem c_N:cP Z (dN p q tv lv rv) (.ops rN.2.1 [10,11]::rN.2.2)=some (85,[.agg (bH true 0 1),.agg (bH true 1 1)],some 23,.ops rN.2.1 [11]::rN.2.2):=by kernel_rfl
theorem c_C (a:Int):cP Z (dC tv lv rv a) (.ops rC.2.1 [10,11]::rC.2.2)=some (86,[.one (.ptr 10 0)],some 38,.ops rC.2.1 [11]::rC.2.2):=by kernel_rfl
theorem c_F (a:Int):cP Z (dF tv lv rv a) (.ops rF.2.1 [8,9]::rF.2.2)=some (87,[.one (.int .i64 a),.one (.lit lv)],some 52,.ops rF.2.1 [9]::rF.2.2):=by kernel_rfl
theorem c_M:cP Z (sA 5 tv lv rv (slot [(0,P0),(58,litT lv)] 0 83)) (eH (pD 59) f60)=some (60,[.one (.lit lv)],some 59,eH (pD 60) f60):=by kernel_rfl
theorem aZt:cP Z (sE 59 v) (eH (pD 60) f60)=some (88,[.one (.lit v)],some 60,eE (pD 60) f60):=by kernel_rfl
theorem c_B (a:Int):cP Z (sA a tv lv rv (slot [(0,P0),(69,litT lv)] 0 83)) (eH (pD 70) f60)=some (60,[.one (.lit lv)],some 70,eE (pD 70) f60):=by kernel_rfl
theorem aZr (a:Int):cP Z (sA a tv lv rv (slot [(0,P0),(3,litT v1),(74,litT rv)] 0 83)) (eH (pD 75) f60)=some (60,[.one (.lit rv)],some 75,eE (pD 75) f60):=by kernel_rfl
theorem aZs (a:Int):cP Z (sA a tv lv rv (slot [(0,P0),(79,.val (.one (.int .i64 a))),(80,litT v1),(81,litT v2)] 0 83)) (eH (pD 82) f60)=some (89,[.one (.int .i64 a),.one (.lit v1),.one (.lit v2)],some 82,eE (pD 82) f60):=by kernel_rfl
theorem Qa:noFr (rN.2.2)=true/\noFr (rC.2.2)=true/\noFr (rF.2.2)=true/\noFr (eH (pD 59) f60)=true/\noFr (eH (pD 60) f60)=true/\noFr (eH (pD 70) f60)=true/\noFr (eH (pD 75) f60)=true/\noFr (eH (pD 82) f60)=true/\noFr (eE (pD 60) f60)=true/\noFr (eE (pD 70) f60)=true/\noFr (eE (pD 75) f60)=true/\noFr (eE (pD 82) f60)=true:=⟨by kernel_rfl,by kernel_rfl,by kernel_rfl,by kernel_rfl,by kernel_rfl,by kernel_rfl,by kernel_rfl,by kernel_rfl,by kernel_rfl,by kernel_rfl,by kernel_rfl,by kernel_rfl⟩
theorem aSL:(dN p q tv lv rv).nums=[(p,1),(q,1)]:=by kernel_rfl
theorem aVM:(dN p q tv lv rv).tmps.length=83:=by kernel_rfl
theorem aXe:clean (dN p q tv lv rv)=true:=by kernel_rfl
theorem aVJ (a:Int):(dC tv lv rv a).tmps.length=83:=by kernel_rfl
theorem aXc (a:Int):clean (dC tv lv rv a)=true:=by kernel_rfl
theorem aVL (a:Int):(dF tv lv rv a).tmps.length=83:=by kernel_rfl
theorem aXd (a:Int):clean (dF tv lv rv a)=true:=by kernel_rfl
theorem aSK (a:Int):look (dC tv lv rv a).boxes 10=some ⟨.int .i64 a::.lit tv::(zX (dC tv lv rv a) 10).drop 2,161,true,false,false⟩:=by kernel_rfl
theorem aVK (a:Int):numOf (dC tv lv rv a).nums ((zX (dC tv lv rv a) 10).drop 2)=some [0,0,0,0,0,0,0,0]:=by kernel_rfl
theorem aFV:∀(ts:List AT) (i:Nat),kP [] [] i ts=n4 ts.length .top
 | [],_=>rfl
 |t::r,i=>by show AT.top::kP [] [] (i+1) r=_;rw[aFV r (i+1)];rfl
theorem aWs {d:Nat}{v:Value}{ts:List AT}(h:ts.length=83)(a:putT (n4 83 .top) (some d) (litT v)=slot [(d,litT v)] 0 83):(sE d v).tmps=putT (kP [] [] 0 ts) (some d) (litT v):=by
 rw[aFV,h];exact a.symm
end
theorem NewNd.on {w b J:World}{zs:LN}{hs:Bool}{uns:Int}{lp rp u:Value}{e:Ending}(h:NewNd w zs hs uns lp rp u e b)(hc:Chg b J []):NewNd w zs hs uns lp rp u e J:=by
 obtain⟨m,d,f,g,a⟩:=h;exact⟨m,d,f.trans hc,g,a.aT hc.on (hc.low m a.lt (by simp))⟩
variable {w:World}
theorem NewNd.up {b J:World}{s:LN}{i:Bool}{v:Int}{lp rp u:Value}{e:Ending}(h:NewNd b s i v lp rp u e J)(hc:Chg w b []):NewNd w s i v lp rp u e J:=by
 obtain⟨m,a,d,f,g⟩:=h;exact⟨m,a,hc.trans d,Nat.le_trans hc.on.size f,g⟩
variable {xs:LB}{tv lv rv:Value}
theorem PartB.on {b:World}{kd:Int}(h:PartB w k kd xs tv lv rv)(hc:Chg w b []):PartB b k kd xs tv lv rv:=hc.at h (by simp)
theorem Lx {kd:Int}(h:PartB w k kd xs tv lv rv)(d:xs.length=4)(g:∀x∈xs,One x)(o1:One tv)(o2:One lv)(o3:One rv)(i:List AT):RepW Z w (ph1 0 k) (ph1 0 k) (sA kd tv lv rv i) w:=by
 refine rQ rfl ?_ ?_ ?_
 .intro b B e;have:=nE e;simp only[sA,n6,p8]at this;obtain⟨rfl,rfl⟩:=this;refine⟨rfl,rfl,rfl,k,0,rfl,[],.int .i64 kd::xs++[tv,lv,rv],[],(show w.heap[k]?=some (.cells ([]++(Value.int .i64 kd::xs++[tv,lv,rv])++[]).toArray 157 (0,0)) by simpa[PartB]using h),rfl,rfl,?_⟩;exact(Vt 4 xs d g).append ⟨⟨rfl,o1⟩,⟨rfl,o2⟩,⟨rfl,o3⟩,trivial⟩
 .intro b f;have:1<=b:=f;unfold ph1;rw[if_neg (by omega)]
 .intro b j o a;unfold ph1 at a;split at a
  .cases a;exact gZ h
  .cases a
theorem aTe {q:Int}(h:PartB w k 1 xs tv lv rv)(g:Hold true w [p,q] xs)(e:∀z∈[p,q],Bits 1 z)(o1:One tv)(o2:One lv)(o3:One rv)(i:List AT):RepW Z w (ph1 0 k) (ph1 0 k) (Hb p q tv lv rv i) w:=by
 refine rQ rfl ?_ ?_ ?_
 .intro b B f;have:=nE f;simp only[Hb,n6,p8]at this;obtain⟨rfl,rfl⟩:=this;refine⟨rfl,rfl,rfl,k,0,rfl,[],.int .i64 1::xs++[tv,lv,rv],[],(show w.heap[k]?=some (.cells ([]++(Value.int .i64 1::xs++[tv,lv,rv])++[]).toArray 157 (0,0)) by simpa[PartB]using h),rfl,rfl,?_⟩;refine(tV [p,q] xs 0 _ g e λj z d=>?_).append ⟨⟨rfl,o1⟩,⟨rfl,o2⟩,⟨rfl,o3⟩,trivial⟩
  match j,d with
  |0,d=>cases d;rfl
  |1,d=>cases d;rfl
  |j+2,d=>simp at d
 .intro b e;have:1<=b:=e;unfold ph1;rw[if_neg (by omega)]
 .intro b l o a;unfold ph1 at a;split at a
  .cases a;exact gZ h
  .cases a
theorem lH:∀b x,ph1 0 k b=some x->[0].contains b=true:=by
 intro b x e;unfold ph1 at e;split at e
 .subst_vars;rfl
 .cases e
variable {R:EW}
theorem aT7 {d:Nat}{v:Value}{o:List (K (List AT))}(y:(oI o (sE d v)).bind iY=some (litT v,true))(q:∀f,Chg n f []->R (.returned v) f){e:List (K Act)}{a:Act}(g:∀l j i,SR Z l j i o e)(u:Rep Z n (λ_=>none) (λ_=>none) (sE d v) a n):gD Z.P R e .normal a n:=by
 obtain⟨B,p,b⟩:=aS y
 match B,b with
 |.ret r s,b=>
  simp only[iY,Option.some.injEq,p8]at b;obtain⟨rfl,hc⟩:=b;refine vC (dL nP) qJ (rJ mixed (dL nP)) (λr s=>r=litT v/\clean s=true) (λ_ _=>False) (λ_ _ h=>h.elim) ?_ _ _ _ _ p ⟨rfl,hc⟩ e _ a n (g _ _ _) u;rintro r s φ x f⟨rfl,hc⟩ hrel z;have A:x=v:=hrel.1;rw[A];exact q f (Chg.eC (RepF.below z hc))
 |.br _ _ _,b=>cases b
 |.need _ _,b=>cases b
 |.stop _ _,b=>cases b
variable {φ:LI}
theorem Pf {d:Nat}{q:LI}{s:AS}{a:Act}{u j:List (K (List AT))}{i:List (K Act)}{B:FuncId}{D:List AV}(h:cP Z s u=some (B,D,some d,j))(l:Enters Z.P B)(o:noFr u=true)(p:∀z y x,SR Z z y x u i)(A:Rep Z n q φ s a w)(M:s.tmps.length=83)(O:∀v,putT (n4 83 .top) (some d) (litT v)=slot [(d,litT v)] 0 83)(S:∀v,(oI j (sE d v)).bind iY=some (litT v,true))
  (H:∀xs:LB,All2 (dU Z φ s.nums w) D xs->Calls Z.P B xs.toArray w λe E=>∃v,e=.returned v/\One v/\∀F,Chg E F []->R (.returned v) F):gD Z.P R i .normal a w:=by
 refine qI h l o (p φ s.nums w) A λxs r=>(H xs r).mono ?_
 rintro e E⟨v,rfl,N,I⟩;refine⟨v,rfl,λC L g=>?_⟩;exact aT7 (S v) I g (pK (kb:=[]) (kt:=[]) A Gh (aWs M (O v)) (λb J=>by simp at J) ⟨rfl,N⟩)
section
variable {w:World} {k:Nat} {kd:Int} {xs:LB} {tv lv rv:Value} {R:EW}
theorem Gg (m:Nat):One (aA m):=rfl
theorem aV8 {q:Int}(W:PartB w k 1 xs tv lv rv)(Y:Hold true w [p,q] xs)(o:∀z∈[p,q],Bits 1 z)(o1:One tv)(o2:One lv)(o3:One rv):Calls prog 60 #[aA k] w (NewNd w [p,q,0,0,0,0,0,0] (decide (p<0)) 0 aB aB aB):=by
 have F:=bD func60 rfl rfl;refine pM F (φ:=ph1 0 k) (vs:=[.one (.ptr 0 0)]) (args:=[aA k]) (s:=Hb p q tv lv rv Cz) (by kernel_rfl) ⟨⟨k,0,rfl,rfl⟩,trivial⟩ (aTe W Y o o1 o2 o3 _) ?_;refine cC (dL nP) qJ lH (jI lH) (w_N p q tv lv rv) (λ_ _=>False) (λL s=>L=.code (.region rN.1 rN.2.1 true)::rN.2.2/\s=Hb p q tv lv rv (slot [(0,P0)] 0 83)) ⟨rfl,rfl⟩ (λ_ _ _ _ _ h=>h.elim) ?_;rintro L s⟨rfl,rfl⟩;have b:noFr rN.2.2=true:=Qa.1;refine⟨by simpa[noFr]using b,λE H a1 M f x=>?_⟩;obtain⟨O,S,bd⟩:=aW5
 match E,f H [] M with
 |.code cc::i,⟨u,g⟩=>
 subst u;show(Code.region rN.1 rN.2.1 true).wp Z.P _ a1 M;refine La mixed (dL nP) S O (d_N p q tv lv rv) gJ x ?_;intro af N l d;rw[bd];have c2:Chg w l []:=Chg.eC (RepF.below d.wd (aXe p q tv lv rv));show gD Z.P _ (.ops rN.2.1 [10,11]::i) .normal N l;refine Pf (c_N p q tv lv rv) (bD func85 rfl rfl).en (by simpa[noFr]using b) (λae ad ab=>⟨rfl,rfl,SR.any b g⟩) d (aVM p q tv lv rv) (λv=>by kernel_rfl) t_N ?_;intro us B
 match us,B with
 | [u1,u2],⟨⟨x1,y,C⟩,⟨x2,A,D⟩,_⟩=>
 rw[y,A];have J:=aSL p q tv lv rv
 have T:Hold true l [p] x1:=Ld [p] 0 x1 C (by
  intro j z a;rw[J]
  match j,a with
  |0,a=>cases a;exact⟨1,rfl⟩
  |j+1,a=>simp at a)
 have U:Hold true l [q] x2:=Ld [q] 1 x2 D (by
  intro j z a;rw[J]
  match j,a with
  |0,a=>cases a;exact⟨1,rfl⟩
  |j+1,a=>simp at a)
 refine(aLY T U (o p (by simp)) (o q (by simp))).mono ?_;rintro e w3 n;obtain⟨m,I,X⟩:=id n;rw[I]at n;exact⟨aA m,I,Gg m,λw4 r=>(n.on r).up c2⟩
theorem aV6 (q:kd=2\/kd=3\/kd=4)(W:PartB w k kd xs tv lv rv)(U:xs.length=4)(hx:∀x∈xs,One x)(o1:One tv)(o2:One lv)(o3:One rv):Calls prog 60 #[aA k] w λe A=>∃a,∃cs:LB,NewNd w [1,0,0,1,0,0,0,0] false 0 aB aB (aA a) e A/\A.heap[a]?=some (.cells (.int .i64 kd::tv::cs).toArray 161 (0,0))/\Hold true A [0,0,0,0,0,0,0,0] cs/\w.heap.size<=a:=by
 have F:=bD func60 rfl rfl;refine pM F (φ:=ph1 0 k) (vs:=[.one (.ptr 0 0)]) (args:=[aA k]) (s:=sA kd tv lv rv Cz) (by kernel_rfl) ⟨⟨k,0,rfl,rfl⟩,trivial⟩ (Lx W U hx o1 o2 o3 _) ?_;refine cC (dL nP) qJ lH (jI lH) (w_C tv lv rv q) (λ_ _=>False) (λI s=>I=.code (.region rC.1 rC.2.1 true)::rC.2.2/\s=sA kd tv lv rv (slot [(0,P0)] 0 83)) ⟨rfl,rfl⟩ (λ_ _ _ _ _ h=>h.elim) ?_;rintro I s⟨rfl,rfl⟩;have b:noFr rC.2.2=true:=Qa.2.1;refine⟨by simpa[noFr]using b,λz D a1 L g r=>?_⟩;obtain⟨N,O,bd⟩:=aW3
 match z,g D [] L with
 |.code cc::j,⟨p,i⟩=>
 subst p;show(Code.region rC.1 rC.2.1 true).wp Z.P _ a1 L;refine La mixed (dL nP) O N (d_C tv lv rv kd) gJ r ?_;intro ai M B d;rw[bd];have c2:Chg w B []:=Chg.eC (RepF.below d.wd (aXc tv lv rv kd));show gD Z.P _ (.ops rC.2.1 [10,11]::j) .normal M B;refine Pf (c_C tv lv rv kd) (bD func86 rfl rfl).en (by simpa[noFr]using b) (λah ag af=>⟨rfl,rfl,SR.any b i⟩) d (aVJ tv lv rv kd) (λv=>by kernel_rfl) t_C ?_;intro us y
 match us,y with
 | [J],⟨u,_⟩=>
 obtain⟨a,C,k1,H,k3,k4⟩:=zN d.wd (aSK tv lv rv kd) rfl rfl;have Y:J=aA a:=cN (ν:=(dC tv lv rv kd).nums) (w:=B) k1 J u;rw[Y];refine(aJv (Gg a)).mono ?_;rintro e w3 n;obtain⟨m,E,o,X⟩:=id n;rw[E]at n;refine⟨aA m,E,Gg m,λw4 f=>?_⟩
 match C,k3 with
 |y1::y2::C,⟨l,S,T⟩=>
 have l:y1=.int .i64 kd:=l;rw[l,show y2=tv from S.1]at H;have hc:=o.trans f;exact⟨a,C,(n.on f).up c2,hc.at H (by simp),nD hc.on (Ot _ _ _ (aVK tv lv rv kd) T),k4⟩
theorem aRJ (q:kd=10\/kd=11\/kd=12\/kd=13)(I:PartB w k kd xs tv lv rv)(H:xs.length=4)(J:∀x∈xs,One x)(o1:One tv)(o2:One lv)(o3:One rv)(a:∀n,Chg w n []->Calls prog 87 #[.int .i64 kd,lv] n λe o=>∃v,e=.returned v/\One v/\∀B,Chg o B []->R (.returned v) B):Calls prog 60 #[aA k] w R:=by
 have F:=bD func60 rfl rfl;refine pM F (φ:=ph1 0 k) (vs:=[.one (.ptr 0 0)]) (args:=[aA k]) (s:=sA kd tv lv rv Cz) (by kernel_rfl) ⟨⟨k,0,rfl,rfl⟩,trivial⟩ (Lx I H J o1 o2 o3 _) ?_;refine cC (dL nP) qJ lH (jI lH) (w_F tv lv rv q) (λ_ _=>False) (λA s=>A=.code (.region rF.1 rF.2.1 true)::rF.2.2/\s=sA kd tv lv rv (slot [(0,P0)] 0 83)) ⟨rfl,rfl⟩ (λ_ _ _ _ _ h=>h.elim) ?_;rintro A s⟨rfl,rfl⟩;have b:noFr rF.2.2=true:=Qa.2.2.1;refine⟨by simpa[noFr]using b,λy z a1 n i r=>?_⟩;obtain⟨D,E,bd⟩:=aW4
 match y,i z [] n with
 |.code W::l,⟨p,j⟩=>
 subst p;show(Code.region rF.1 rF.2.1 true).wp Z.P _ a1 n;refine La mixed (dL nP) E D (d_F tv lv rv kd) gJ r ?_;intro U C o g;rw[bd];have c2:Chg w o []:=Chg.eC (RepF.below g.wd (aXd tv lv rv kd));show gD Z.P _ (.ops rF.2.1 [8,9]::l) .normal C o;refine Pf (c_F tv lv rv kd) (bD func87 rfl rfl).en (by simpa[noFr]using b) (λT S O=>⟨rfl,rfl,SR.any b j⟩) g (aVL tv lv rv kd) (λv=>by kernel_rfl) t_F ?_;intro N u
 match N,u with
 | [L,M],⟨d,f,_⟩=>
 have d:L=.int .i64 kd:=d;have f:M=lv:=f.1;rw[d,f];exact a o c2
theorem aV7 (L:PartB w k 5 xs tv lv rv)(J:xs.length=4)(T:∀x∈xs,One x)(o1:One tv)(o2:One lv)(o3:One rv)(d:∀i,Chg w i []->Calls prog 60 #[lv] i λe o=>∃m,e=.returned (aA m)/\(∃b,∃W:LB,o.heap[m]?=some (.cells (.bool b::W).toArray 120 (0,0)))/\∀C A,NewNd o [-1,0,0,1,0,0,0,0] true 0 aB (aA m) aB C A->R C A):Calls prog 60 #[aA k] w R:=by
 have F:=bD func60 rfl rfl;refine pM F (φ:=ph1 0 k) (vs:=[.one (.ptr 0 0)]) (args:=[aA k]) (s:=sA 5 tv lv rv Cz) (by kernel_rfl) ⟨⟨k,0,rfl,rfl⟩,trivial⟩ (Lx L J T o1 o2 o3 _) ?_;refine cC (dL nP) qJ lH (jI lH) (w_M tv lv rv) (λ_ _=>False) (λH s=>H=eH (pD 59) f60/\s=sA 5 tv lv rv (slot [(0,P0),(58,litT lv)] 0 83)) ⟨rfl,rfl⟩ (λ_ _ _ _ _ h=>h.elim) ?_;rintro H s⟨rfl,rfl⟩;obtain⟨_,_,_,j,p,_⟩:=Qa;refine⟨j,λU B a1 i l f=>?_⟩;have c1:Chg w i []:=Chg.eC (RepF.below f.wd rfl)
 refine qI (c_M tv lv rv) F.en j (l B [] i) f λz g=>?_
 match z,g with
 | [y],⟨a,_⟩=>
 have a:y=lv:=a.1;rw[a];refine(d i c1).mono ?_;rintro e o⟨m,rfl,⟨b,S⟩,N⟩;refine⟨aA m,rfl,λE P n=>?_⟩;have u:Rep Z o (λ_=>none) (λ_=>none) (sE 59 (aA m)) (a1.put (some 59) (aA m)) o:=pK (kb:=[]) (kt:=[]) f Gh (aWs (by rfl) (by kernel_rfl)) (λb O=>by simp at O) ⟨rfl,Gg m⟩;refine Pf (aZt (aA m)) (bD func88 rfl rfl).en p n u (by rfl) (λv=>by kernel_rfl) t_M ?_;intro z g
 match z,g with
 | [y],⟨a,_⟩=>
 have a:y=aA m:=a.1;rw[a];refine(aJM S).mono ?_;rintro e A q;obtain⟨I,D,M⟩:=id q;rw[D]at q;exact⟨aA I,D,Gg I,λX r=>N _ _ (q.on r)⟩
theorem aV5 (f:Rf.Kind)(hB:PartB w k (cU f) xs tv lv rv)(h4:xs.length=4)(hx:∀x∈xs,One x)(o1:One tv)(o2:One lv)(o3:One rv)(u:∀A,Chg w A []->Calls prog 60 #[lv] A λe D=>∃g,e=.returned (aA g)/\Chg A D []/\∀B,Chg D B []->Calls prog 60 #[rv] B λe E=>∃i,e=.returned (aA i)/\Chg B E []/\∀C,Chg E C []->∃a b,(∃ys:LB,C.heap[g]?=some (.cells (.bool a::ys).toArray 120 (0,0)))/\(∃ys:LB,C.heap[i]?=some (.cells (.bool b::ys).toArray 120 (0,0)))/\∀e6 w6,NewNd C (Sm f) (Mk f a b) 0 (aA g) (aA i) aB e6 w6->R e6 w6):Calls prog 60 #[aA k] w R:=by
 have F:=bD func60 rfl rfl;refine pM F (φ:=ph1 0 k) (vs:=[.one (.ptr 0 0)]) (args:=[aA k]) (s:=sA (cU f) tv lv rv Cz) (by kernel_rfl) ⟨⟨k,0,rfl,rfl⟩,trivial⟩ (Lx hB h4 hx o1 o2 o3 _) ?_;refine cC (dL nP) qJ lH (jI lH) (w_B tv lv rv f) (λ_ _=>False) (λq s=>q=eH (pD 70) f60/\s=sA (cU f) tv lv rv (slot [(0,P0),(69,litT lv)] 0 83)) ⟨rfl,rfl⟩ (λ_ _ _ _ _ h=>h.elim) ?_;rintro q s⟨rfl,rfl⟩;obtain⟨_,_,_,_,_,H,I,J,_⟩:=Qa;refine⟨H,λU al a1 A N o=>?_⟩;have c1:Chg w A []:=Chg.eC (RepF.below o.wd rfl)
 refine qI (c_B tv lv rv (cU f)) F.en H (N al [] A) o λus j=>?_
 match us,j with
 | [Y],⟨d,_⟩=>
 have d:Y=lv:=d.1;rw[d];refine(u A c1).mono ?_;rintro e D⟨g,rfl,c2,l⟩;refine⟨aA g,rfl,λW az O=>?_⟩
 have ag:Rep Z D (ph1 0 k) (ph1 0 k) (sA (cU f) tv lv rv (slot [(0,P0),(70,litT (aA g))] 0 83)) (a1.put (some 70) (aA g)) D:=pK (kb:=[0]) (kt:=[0]) (r:=litT (aA g)) o (Lx ((hB.on c1).on c2) h4 hx o1 o2 o3 _) (by kernel_rfl) (λb L=>by
  have:b=0:=by simpa using L
  subst this
  exact(o.wd.base 0 (k,0) rfl).symm) ⟨rfl,Gg g⟩
 refine cC (dL nP) qJ lH (jI lH) (bA6 tv lv rv (aA g) f) (λ_ _=>False) (λq s=>q=eH (pD 75) f60/\s=sA (cU f) tv lv rv (slot [(0,P0),(3,litT (aA g)),(74,litT rv)] 0 83)) ⟨rfl,rfl⟩ (λ_ _ _ _ _ h=>h.elim) ?_ W _ _ _ (O _ _ _) ag;rintro q s⟨rfl,rfl⟩;refine⟨I,λU am a3 B P p=>?_⟩;have c3:Chg D B []:=Chg.eC (RepF.below p.wd rfl)
 refine qI (aZr tv lv rv (aA g) (cU f)) F.en I (P am [] B) p λus j=>?_
 match us,j with
 | [Y],⟨d,_⟩=>
 have d:Y=rv:=d.1;rw[d];refine(l B c3).mono ?_;rintro e E⟨i,rfl,c4,n⟩;refine⟨aA i,rfl,λX a0 S=>?_⟩
 have ah:Rep Z E (ph1 0 k) (ph1 0 k) (sA (cU f) tv lv rv (slot [(0,P0),(3,litT (aA g)),(75,litT (aA i))] 0 83)) (a3.put (some 75) (aA i)) E:=pK (kb:=[0]) (kt:=[0,3]) (r:=litT (aA i)) p (Lx ((((hB.on c1).on c2).on c3).on c4) h4 hx o1 o2 o3 _) (by kernel_rfl) (λb L=>by
  have:b=0:=by simpa using L
  subst this
  exact(p.wd.base 0 (k,0) rfl).symm) ⟨rfl,Gg i⟩
 refine cC (dL nP) qJ lH (jI lH) (bA7 tv lv rv (aA g) (aA i) f) (λ_ _=>False) (λq s=>q=eH (pD 82) f60/\s=sA (cU f) tv lv rv (slot [(0,P0),(79,.val (.one (.int .i64 (cU f)))),(80,litT (aA g)),(81,litT (aA i))] 0 83)) ⟨rfl,rfl⟩ (λ_ _ _ _ _ h=>h.elim) ?_ X _ _ _ (S _ _ _) ah;rintro q s⟨rfl,rfl⟩;refine⟨J,λU a6 a5 C T M=>?_⟩;have c5:Chg E C []:=Chg.eC (RepF.below M.wd rfl);refine Pf (aZs tv lv rv (aA g) (aA i) (cU f)) (bD func89 rfl rfl).en J T M (by rfl) (λv=>by kernel_rfl) t_B ?_;intro us j
 match us,j with
 | [Y,u2,u3],⟨d,y,z,_⟩=>
 have d:Y=.int .i64 (cU f):=d;have y:u2=aA g:=y.1;have z:u3=aA i:=z.1;rw[d,y,z];obtain⟨a,b,ha,L,hR⟩:=n C c5;refine(aMh f ha L).mono ?_;rintro e w6 hN;obtain⟨m',he,av⟩:=id hN;rw[he]at hN;exact⟨aA m',he,Gg m',λw7 af=>hR _ _ (hN.on af)⟩
end
noncomputable def bG:XW:=λf=>bif f==104 then some f104 else bT f
theorem Xk:bQ Z bG:=by
 intro f fn h;unfold bG at h
 exact vA h (bD func104 rfl rfl) λh=>qJ f fn h
def stG (a:List (K (List AT))):Bool:=nH (aG 60) a
def Yf (p q:Int)(tv lv rv:Value)(a:List AT):AS:=⟨a,[(1,ext (.int .i64 1::bH true 0 2++[.lit tv,.lit lv,.lit rv]) 157)],2,[(p,1),(q,1)],[]⟩
def Sr (a:Int)(b:List AT):AS:=⟨b,[(1,ext [.int .i64 a] 157)],2,[],[]⟩
def Yg (a:Bool)(b:List AT):AS:=⟨b,[(1,ext [.bool a] 120)],2,[],[]⟩
abbrev Xu (kd:Int):List AT:=.val (.one (.int .i64 kd))::.val (.one (.ptr 1 0))::n4 31 .gG
noncomputable def aZQ (b:NU)(a:List (K (List AT)))(s:AS):Option XT:=(run Z (aE tS) bG (aL Z (aE tS)) stG 400 a s).bind (eF (fF [1] [] 2 []) (fF [1] b 2 []))
noncomputable def gK:List (K (List AT)):=[.code (aF f87),.top f87]
noncomputable def gF (kd p q:Int)(tv lv rv:Value):Option Tr:=run Z (aE tS) bG (aL Z (aE tS)) (λ_=>false) 600 gK (Yf p q tv lv rv (Xu kd))
noncomputable def sQ (kd p q:Int)(tv lv rv:Value):AS:=(((gF kd p q tv lv rv).bind (dM [])).map (·.2)).getD ⟨[],[],0,[],[]⟩
noncomputable def gA (kd:Int)(a:Bool):Option Tr:=run Z (aE tS) bG (aL Z (aE tS)) (λ_=>false) 400 (eE (pD 15) f87) (Yg a (slot [(0,.val (.one (.int .i64 kd))),(15,.val (.one (.ptr 1 0)))] 0 33))
noncomputable def Jj (kd:Int)(a:Bool):AS:=(((gA kd a).bind (dM [])).map (·.2)).getD ⟨[],[],0,[],[]⟩
def T2 (p q:Int):Int:=lowT (p*p) (q*q)
def B2 (p q:Int):Int:=lowB (p*p) (q*q)
section
variable (p q:Int) (tv lv rv:Value)
theorem aZS:gF 10 p q tv lv rv=some (.need [0<p/\0<q/\(Rf.near p q 20000 1).isSome=true] (.ret (.val (.one (.ptr 5 0))) (sQ 10 p q tv lv rv))):=by kernel_rfl
theorem aXo:fN (sQ 10 p q tv lv rv) 5 (.bool false) [1,0,0,1,0,0,0,0] (.ptr 3 0) (.lit aB) (.lit aB) 0:=⟨by kernel_rfl,by kernel_rfl,by kernel_rfl⟩
theorem aXm:jK (sQ 10 p q tv lv rv) 3 10 [0,0,0,0,eL p q*q,eM p q*p,eM p q*q,eL p q*q]:=⟨by kernel_rfl,by kernel_rfl⟩
theorem aXn:clean (sQ 10 p q tv lv rv)=true:=by kernel_rfl
theorem aZU:gF 12 p q tv lv rv=some (.need [0<aK (p*p) (q*q)] (.ret (.val (.one (.ptr 13 0))) (sQ 12 p q tv lv rv))):=by kernel_rfl
theorem aXv:fN (sQ 12 p q tv lv rv) 13 (.bool false) [1,0,0,1,0,0,0,0] (.ptr 10 0) (.lit aB) (.lit aB) 0:=⟨by kernel_rfl,by kernel_rfl,by kernel_rfl⟩
theorem aXt:jK (sQ 12 p q tv lv rv) 10 12 [p,q,T2 p q,B2 p q,0,0,0,0]:=⟨by kernel_rfl,by kernel_rfl⟩
theorem aXu:clean (sQ 12 p q tv lv rv)=true:=by kernel_rfl
theorem aZV:gF 13 p q tv lv rv=some (.need [0<aK (p*p) (q*q)] (.ret (.val (.one (.ptr 13 0))) (sQ 13 p q tv lv rv))):=by kernel_rfl
theorem aXy:fN (sQ 13 p q tv lv rv) 13 (.bool false) [1,0,0,1,0,0,0,0] (.ptr 10 0) (.lit aB) (.lit aB) 0:=⟨by kernel_rfl,by kernel_rfl,by kernel_rfl⟩
theorem aXw:jK (sQ 13 p q tv lv rv) 10 13 [p,q,T2 p q,B2 p q,0,0,0,0]:=⟨by kernel_rfl,by kernel_rfl⟩
theorem aXx:clean (sQ 13 p q tv lv rv)=true:=by kernel_rfl
theorem aZT:gF 11 p q tv lv rv=some (.need [0<aK (p*p) (q*q)] (.ret (.val (.one (.ptr 14 0))) (sQ 11 p q tv lv rv))):=by kernel_rfl
theorem aXs:fN (sQ 11 p q tv lv rv) 14 (.bool false) [1,-1,1,1,0,0,0,0] (.lit aB) (.lit aB) (.ptr 13 0) 0:=⟨by kernel_rfl,by kernel_rfl,by kernel_rfl⟩
theorem aXr:fN (sQ 11 p q tv lv rv) 13 (.bool false) [1,0,0,1,0,0,0,0] (.ptr 10 0) (.lit aB) (.lit aB) 0:=⟨by kernel_rfl,by kernel_rfl,by kernel_rfl⟩
theorem aXp:jK (sQ 11 p q tv lv rv) 10 11 [p,q,T2 p q,B2 p q,0,0,0,0]:=⟨by kernel_rfl,by kernel_rfl⟩
theorem aXq:clean (sQ 11 p q tv lv rv)=true:=by kernel_rfl
theorem g_f (kd:Int):gA kd false=some (.ret (.val (.one (.ptr 3 0))) (Jj kd false)):=by kernel_rfl
theorem aZX (kd:Int):fN (Jj kd false) 3 (.bool false) [1,0,0,1,0,0,0,0] (.lit aB) (.lit aB) (.ptr 1 0) kd:=⟨by kernel_rfl,by kernel_rfl,by kernel_rfl⟩
theorem aZW (kd:Int):clean (Jj kd false)=true:=by kernel_rfl
theorem g_t (kd:Int):gA kd true=some (.ret (.val (.one (.ptr 5 0))) (Jj kd true)):=by kernel_rfl
theorem aZ1 (kd:Int):fN (Jj kd true) 5 (.bool false) [1,0,0,1,0,0,0,0] (.lit aB) (.lit aB) (.ptr 3 0) kd:=⟨by kernel_rfl,by kernel_rfl,by kernel_rfl⟩
theorem aZ0 (kd:Int):fN (Jj kd true) 3 (.bool false) [1,0,0,1,0,0,0,0] (.lit aB) (.lit aB) (.ptr 1 0) 0:=⟨by kernel_rfl,by kernel_rfl,by kernel_rfl⟩
theorem aZZ (kd:Int):clean (Jj kd true)=true:=by kernel_rfl
def qE:LN:=[2,3,4,5,6,7,8,9,10,11,12,13]
theorem g_s (kd:Int){v:Int}(h:v∈qE):aZQ [0,14] gK (Sr v (Xu kd))=some (.stp (eH (pD 15) f87) (Sr v (slot [(0,.val (.one (.int .i64 kd))),(14,.val (.one (.ptr 1 0)))] 0 33))):=by
 simp only[qE,List.mem_cons,List.not_mem_nil,or_false]at h
 rcases h with rfl|rfl|rfl|rfl|rfl|rfl|rfl|rfl|rfl|rfl|rfl|rfl<;>kernel_rfl
theorem aZY (kd a:Int):cP Z (Sr a (slot [(0,.val (.one (.int .i64 kd))),(14,.val (.one (.ptr 1 0)))] 0 33)) (eH (pD 15) f87)=some (60,[.one (.ptr 1 0)],some 15,eE (pD 15) f87):=by kernel_rfl
theorem Ro:noFr (eH (pD 15) f87)=true:=by kernel_rfl
end
section
variable {w:World} {k:Nat} {kd:Int} {xs:LB} {tv lv rv:Value} {R:EW}{q:Int}
theorem aTT {w:World}{k:Nat}{xs:LB}{tv lv rv:Value}(h:PartB w k 1 xs tv lv rv)(g:Hold true w [p,q] xs)(e:∀z∈[p,q],Bits 1 z)(o1:One tv)(o2:One lv)(o3:One rv)(i:List AT):RepW Z w (ph1 1 k) (ph1 1 k) (Yf p q tv lv rv i) w:=by
 refine rQ rfl ?_ ?_ ?_
 .intro b B f;have:=nE f;simp only[Yf,n6,p8]at this;obtain⟨rfl,rfl⟩:=this;refine⟨rfl,rfl,rfl,k,0,rfl,[],.int .i64 1::xs++[tv,lv,rv],[],(show w.heap[k]?=some (.cells ([]++(Value.int .i64 1::xs++[tv,lv,rv])++[]).toArray 157 (0,0)) by simpa[PartB]using h),rfl,rfl,?_⟩;refine(tV [p,q] xs 0 _ g e λj z d=>?_).append ⟨⟨rfl,o1⟩,⟨rfl,o2⟩,⟨rfl,o3⟩,trivial⟩
  match j,d with
  |0,d=>cases d;rfl
  |1,d=>cases d;rfl
  |j+2,d=>simp at d
 .intro b e;have:2<=b:=e;unfold ph1;rw[if_neg (by omega)]
 .intro b l o a;unfold ph1 at a;split at a
  .cases a;exact gZ h
  .cases a
variable {a:LB}
theorem aHd {w:World}{k:Nat}{c:AC}{x:Value}{ty:TypeId}{i:List AT}(h:w.heap[k]?=some (.cells (x::a).toArray ty (0,0)))(g:relC Z (ph1 1 k) [] w c x):RepW Z w (ph1 1 k) (ph1 1 k) ⟨i,[(1,ext [c] ty)],2,[],[]⟩ w:=by
 refine rQ rfl ?_ ?_ ?_
 .intro b B e;have:=nE e;simp only[n6,p8]at this;obtain⟨rfl,rfl⟩:=this;exact⟨rfl,rfl,rfl,k,0,rfl,[],[x],a,h,rfl,g,trivial⟩
 .intro b f;have:2<=b:=f;unfold ph1;rw[if_neg (by omega)]
 .intro b j o d;unfold ph1 at d;split at d
  .cases d;exact gZ h
  .cases d
theorem aOE {k:Nat}:∀b x,ph1 1 k b=some x->[1].contains b=true:=by
 intro b x e;unfold ph1 at e;split at e
 .subst_vars;rfl
 .cases e
def NewC (w:World)(kd:Int)(d:LN)(e:Ending)(a:World):Prop:=∃b,∃cs:LB,NewNd w [1,0,0,1,0,0,0,0] false 0 aB aB (aA b) e a/\a.heap[b]?=some (.cells (.int .i64 kd::aI::cs).toArray 161 (0,0))/\Hold true a d cs
def De (w:World)(f:LN)(e:Ending)(b:World):Prop:=∃a,∃d,∃cs:LB,NewNd w [1,-1,1,1,0,0,0,0] false 0 aB (aA a) aB e b/\w.heap.size<=a/\NodeAt b a [1,0,0,1,0,0,0,0] false 0 0 0 0 0 aB aB aI (aA d) aB/\b.heap[d]?=some (.cells (.int .i64 11::aI::cs).toArray 161 (0,0))/\Hold true b f cs/\e≠.returned (aA a)
theorem Ws (d:PartB w k 1 xs tv lv rv)(g:Hold true w [p,q] xs)(f:∀z∈[p,q],Bits 1 z)(o1:One tv)(o2:One lv)(o3:One rv){X:Tr}(h:gF kd p q tv lv rv=some X)(G:AT->AS->Prop)(a:X.ok G λ_ _=>False)(e:∀r s φ v b,G r s->relT Z φ s.nums b r v->RepW Z w (ph1 1 k) φ s b->R (.returned v) b):Calls prog 87 #[.int .i64 kd,aA k] w R:=
 sI (s:=Yf p q tv lv rv (Xu kd)) (vs:=[.one (.int .i64 kd),.one (.ptr 1 0)]) (args:=[.int .i64 kd,aA k]) (bD func87 rfl rfl) (dL nP) Xk (by kernel_rfl) ⟨rfl,⟨k,0,rfl,rfl⟩,trivial⟩ (aTT d g f o1 o2 o3 _) h G a e
theorem aJQ {s:AS}{C:LI}{v:Value}{N k:Nat}{g:LN}(f:fN s N (.bool false) [1,0,0,1,0,0,0,0] (.ptr k 0) (.lit aB) (.lit aB) 0)(b:jK s k kd g)(hc:clean s=true)(hrel:relT Z φ s.nums n (.val (.one (.ptr N 0))) v)(d:RepW Z w C φ s n):NewC w kd g (.returned v) n:=by
 obtain⟨m,e⟩:=gU d f.look rfl rfl;obtain⟨h,a⟩:=gU d b.look rfl rfl;have hv:v=aA m:=cN (ν:=s.nums) (w:=n) e v hrel;obtain⟨k1,o⟩:=f.at (hs:=false) d e (λx i=>i) (cN a) cJ cJ;obtain⟨cs,r,j,l⟩:=b.at d a;exact⟨h,cs,⟨m,by rw[hv],Chg.eC (RepF.below d hc),k1,o⟩,j,l⟩
theorem aXg (d:PartB w k 1 xs tv lv rv)(f:Hold true w [p,q] xs)(e:∀z∈[p,q],Bits 1 z)(o1:One tv)(o2:One lv)(o3:One rv)(h:0<p)(i:0<q)(g:(Rf.near p q 20000 1).isSome=true):Calls prog 87 #[.int .i64 10,aA k] w (NewC w 10 [0,0,0,0,eL p q*q,eM p q*p,eM p q*q,eL p q*q]):=by
 refine Ws d f e o1 o2 o3 (aZS p q tv lv rv) (λr s=>r=.val (.one (.ptr 5 0))/\fN s 5 (.bool false) [1,0,0,1,0,0,0,0] (.ptr 3 0) (.lit aB) (.lit aB) 0/\jK s 3 10 [0,0,0,0,eL p q*q,eM p q*p,eM p q*q,eL p q*q]/\clean s=true) ⟨bJ ⟨h,i,g⟩,rfl,aXo p q tv lv rv,aXm p q tv lv rv,aXn p q tv lv rv⟩ ?_;rintro r s φ v l⟨rfl,a1,a,b⟩ hrel j;exact aJQ a1 a b hrel j
theorem aXi (d:PartB w k 1 xs tv lv rv)(g:Hold true w [p,q] xs)(e:∀z∈[p,q],Bits 1 z)(o1:One tv)(o2:One lv)(o3:One rv)(f:0<aK (p*p) (q*q)):Calls prog 87 #[.int .i64 12,aA k] w (NewC w 12 [p,q,T2 p q,B2 p q,0,0,0,0]):=by
 refine Ws d g e o1 o2 o3 (aZU p q tv lv rv) (λr s=>r=.val (.one (.ptr 13 0))/\fN s 13 (.bool false) [1,0,0,1,0,0,0,0] (.ptr 10 0) (.lit aB) (.lit aB) 0/\jK s 10 12 [p,q,T2 p q,B2 p q,0,0,0,0]/\clean s=true) ⟨bJ f,rfl,aXv p q tv lv rv,aXt p q tv lv rv,aXu p q tv lv rv⟩ ?_;rintro r s φ v i⟨rfl,a1,a,b⟩ hrel h;exact aJQ a1 a b hrel h
theorem aXj (d:PartB w k 1 xs tv lv rv)(g:Hold true w [p,q] xs)(e:∀z∈[p,q],Bits 1 z)(o1:One tv)(o2:One lv)(o3:One rv)(f:0<aK (p*p) (q*q)):Calls prog 87 #[.int .i64 13,aA k] w (NewC w 13 [p,q,T2 p q,B2 p q,0,0,0,0]):=by
 refine Ws d g e o1 o2 o3 (aZV p q tv lv rv) (λr s=>r=.val (.one (.ptr 13 0))/\fN s 13 (.bool false) [1,0,0,1,0,0,0,0] (.ptr 10 0) (.lit aB) (.lit aB) 0/\jK s 10 13 [p,q,T2 p q,B2 p q,0,0,0,0]/\clean s=true) ⟨bJ f,rfl,aXy p q tv lv rv,aXw p q tv lv rv,aXx p q tv lv rv⟩ ?_;rintro r s φ v i⟨rfl,a1,a,b⟩ hrel h;exact aJQ a1 a b hrel h
theorem aRQ {m k:Nat}(h:m≠k):Ending.returned (aA m)≠.returned (aA k):=by
 intro e;exact h (by injection e with e;injection e with e;injection e with e;injection e)
theorem aXh (n:PartB w k 1 xs tv lv rv)(y:Hold true w [p,q] xs)(o:∀z∈[p,q],Bits 1 z)(o1:One tv)(o2:One lv)(o3:One rv)(u:0<aK (p*p) (q*q)):Calls prog 87 #[.int .i64 11,aA k] w (De w [p,q,T2 p q,B2 p q,0,0,0,0]):=by
 refine Ws n y o o1 o2 o3 (aZT p q tv lv rv) (λr s=>r=.val (.one (.ptr 14 0))/\fN s 14 (.bool false) [1,-1,1,1,0,0,0,0] (.lit aB) (.lit aB) (.ptr 13 0) 0/\fN s 13 (.bool false) [1,0,0,1,0,0,0,0] (.ptr 10 0) (.lit aB) (.lit aB) 0/\jK s 10 11 [p,q,T2 p q,B2 p q,0,0,0,0]/\clean s=true) ⟨bJ u,rfl,aXs p q tv lv rv,aXr p q tv lv rv,aXp p q tv lv rv,aXq p q tv lv rv⟩ ?_;rintro r s φ v F⟨rfl,i,d,f,hc⟩ hrel b;obtain⟨m,h⟩:=gU b i.look rfl rfl;obtain⟨g,a⟩:=gU b d.look rfl rfl;obtain⟨l,e⟩:=gU b f.look rfl rfl;have hv:v=aA m:=cN (ν:=s.nums) (w:=F) h v hrel;obtain⟨k1,E⟩:=i.at (hs:=false) b h (λx j=>j) cJ cJ (cN a);obtain⟨A,B⟩:=d.at (hs:=false) b a (λx j=>j) (cN e) cJ cJ;obtain⟨cs,H,C,D⟩:=f.at b e;refine⟨g,l,cs,⟨m,by rw[hv],Chg.eC (RepF.below b hc),k1,E⟩,A,B,C,D,?_⟩;rw[hv];exact aRQ (lG b i.look rfl d.look h a (by decide))
theorem aVU {v:Int}(E:v∈qE)(X:w.heap[k]?=some (.cells (.int .i64 v::a).toArray 157 (0,0)))
  (u:∀B,Chg w B []->Calls prog 60 #[aA k] B λe l=>∃m b,e=.returned (aA m)/\(∃W:LB,l.heap[m]?=some (.cells (.bool b::W).toArray 120 (0,0)))/\∀D L,(b=false->NewNd l [1,0,0,1,0,0,0,0] false kd aB (aA m) aB D L->R D L)/\(b=true->∀x,l.heap.size<=x->NodeAt L x [1,0,0,1,0,0,0,0] false 0 0 0 0 0 aB (aA m) aI aB aB->NewNd l [1,0,0,1,0,0,0,0] false kd aB (aA x) aB D L->D≠.returned (aA x)->R D L)):Calls prog 87 #[.int .i64 kd,aA k] w R:=by
 have F:=bD func87 rfl rfl;refine pM F (φ:=ph1 1 k) (vs:=[.one (.int .i64 kd),.one (.ptr 1 0)]) (args:=[.int .i64 kd,aA k]) (s:=Sr v (Xu kd)) (by kernel_rfl) ⟨rfl,⟨k,0,rfl,rfl⟩,trivial⟩ (aHd X rfl) ?_;refine cC (dL nP) Xk aOE (jI aOE) (g_s kd E) (λ_ _=>False) (λT s=>T=eH (pD 15) f87/\s=Sr v (slot [(0,.val (.one (.int .i64 kd))),(14,.val (.one (.ptr 1 0)))] 0 33)) ⟨rfl,rfl⟩ (λ_ _ _ _ _ h=>h.elim) ?_;rintro T s⟨rfl,rfl⟩;refine⟨Ro,λaf P a1 B I i=>?_⟩;have c1:Chg w B []:=Chg.eC (RepF.below i.wd rfl)
 refine qI (aZY kd v) (bD func60 rfl rfl).en Ro (I P [] B) i λus M=>?_
 match us,M with
 | [U],⟨y,_⟩=>
 have y:U=aA k:=cN (ν:=[]) (w:=B) (i.wd.base 1 (k,0) rfl) U y;rw[y];refine(u B c1).mono ?_;rintro e l⟨m,b,rfl,⟨W,hm⟩,S⟩;refine⟨aA m,rfl,λo aa n=>?_⟩;have H:Rep Z l (ph1 1 m) (ph1 1 m) (Yg b (slot [(0,.val (.one (.int .i64 kd))),(15,.val (.one (.ptr 1 0)))] 0 33)) (a1.put (some 15) (aA m)) l:=pK (kb:=[]) (kt:=[0]) (r:=.val (.one (.ptr 1 0))) i (aHd hm rfl) (by kernel_rfl) (λb Y=>by simp at Y) ⟨m,0,rfl,rfl⟩
 cases b with
 |false=>
  refine vC (dL nP) Xk (rJ mixed (dL nP)) (λr s=>r=.val (.one (.ptr 3 0))/\fN s 3 (.bool false) [1,0,0,1,0,0,0,0] (.lit aB) (.lit aB) (.ptr 1 0) kd/\clean s=true) (λ_ _=>False) (λ_ _ h=>h.elim) ?_ _ _ _ _ (g_f kd) ⟨rfl,aZX kd,aZW kd⟩ o _ _ l (n _ _ _) H;rintro r s φ d O⟨rfl,C,hc⟩ hrel g;obtain⟨J,f⟩:=gU g C.look rfl rfl;have hv:d=aA J:=cN (ν:=s.nums) (w:=O) f d hrel;have z:φ 1=some (m,0):=g.base 1 (m,0) rfl;obtain⟨k1,N⟩:=C.at (hs:=false) g f (λx j=>j) cJ cJ (cN z);exact(S _ _).1 rfl ⟨J,by rw[hv],Chg.eC (RepF.below g hc),k1,N⟩
 |true=>
  refine vC (dL nP) Xk (rJ mixed (dL nP)) (λr s=>r=.val (.one (.ptr 5 0))/\fN s 5 (.bool false) [1,0,0,1,0,0,0,0] (.lit aB) (.lit aB) (.ptr 3 0) kd/\fN s 3 (.bool false) [1,0,0,1,0,0,0,0] (.lit aB) (.lit aB) (.ptr 1 0) 0/\clean s=true) (λ_ _=>False) (λ_ _ h=>h.elim) ?_ _ _ _ _ (g_t kd) ⟨rfl,aZ1 kd,aZ0 kd,aZZ kd⟩ o _ _ l (n _ _ _) H;rintro r s φ d O⟨rfl,C,j,hc⟩ hrel g;obtain⟨J,f⟩:=gU g C.look rfl rfl;obtain⟨x,A⟩:=gU g j.look rfl rfl;have hv:d=aA J:=cN (ν:=s.nums) (w:=O) f d hrel;have z:φ 1=some (m,0):=g.base 1 (m,0) rfl;obtain⟨k1,N⟩:=C.at (hs:=false) g f (λx j=>j) cJ cJ (cN A);obtain⟨i1,i2⟩:=j.at (hs:=false) g A (λx j=>j) cJ cJ (cN z);refine(S _ _).2 rfl x i1 i2 ⟨J,by rw[hv],Chg.eC (RepF.below g hc),k1,N⟩ ?_;rw[hv];exact aRQ (lG g C.look rfl j.look f A (by decide))
end
end Ab
end Go.Proofs.YtpdflaaamaokbaaGreatDoor
