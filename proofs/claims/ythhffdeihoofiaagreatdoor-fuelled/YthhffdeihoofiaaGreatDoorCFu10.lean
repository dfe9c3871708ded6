import Derived.Test.YthhffdeihoofiaaGreatDoorCFu09
import Derived.Test.YthhffdeihoofiaaGreatDoorCFu02
import Derived.Test.YthhffdeihoofiaaGreatDoorCFu01
import Derived.BigQuiet
import Derived.Deep.Trees
import Derived.Deep.LoopGhost
set_option linter.all false
set_option maxRecDepth 100000
set_option maxHeartbeats 2000000
namespace Go.Proofs.YthhffdeihoofiaaGreatDoor
open Nat (le_trans lt_of_lt_of_le le_refl)
open List (getElem?_append_left mem_singleton mem_cons not_mem_nil)
open Int (mul_pos one_mul ne_of_gt)
open Rf (qB Kind Vq)
open Nm (iV iU gX)
open Go.Proofs.Tryz
open Go.RowKit
namespace Ab
open Rf (Nd Inv aZ Wt)
variable {ns:List Nd}
theorem Fv {r:List Nd}{d:Nd}(h:Rf.more ns d=some r):r=ns++[d]:=by
 unfold Rf.more at h;split at h
 ·exact(Option.some.inj h).symm
 ·cases h
structure iB (w:World) (b0:Nat) (own:Nat->Option Own) (at1:NU) (ns:List Nd) (w':World) (ns':List Nd) (own':Nat->Option Own) (at2:NU):Prop where
 pR:Chg w w' []
 own:∀k,k<w.heap.size->own' k=own k
 Bi:xD w' b0 own' at2 ns'
 at':∀a,a<ns.length->at2 a=at1 a
section
variable {w w2 w3:World} {b0:Nat} {own own2:Nat->Option Own} {at1 at2:NU} {ns ns2:List Nd} {rho:NU} {c:Nat}{n:Nd}
theorem iB.one (g:iB w b0 own at1 ns w2 ns2 own2 at2)(z:Inv ns2 rho c)(C:ns.length<=ns2.length)(A:b0<=w.heap.size){zs:LN}{u:Bool}{v:Int}{lp rp q:Value}{e:Ending}(p:NewNd w2 zs u v lp rp q e w3)
  (D:∀d b,(∀a,a<ns2.length->b a=at2 a)->d (b ns2.length)=some (.nd ns2.length)->b0<=b ns2.length->NodeAt w3 (b ns2.length) zs u v 0 0 0 0 lp rp aI q aA->cK w3 b0 d b (ns2++[n]) ns2.length n):
  ∃d b,e=.returned (ptrB (b ns2.length))/\iB w b0 own at1 ns w3 (ns2++[n]) d b:=by
 obtain⟨m,B,h,s,f⟩:=p;have l:kB ns2.length [m] at2 ns2.length=m:=Cu (j:=0) rfl
 obtain ⟨k1,E,F⟩:=aNT (blks:=[m]) (new:=[n]) g.Bi z h (fun x y=>by simp at y;rw [y];exact s) (by
  intro j H i
  match j,i with
  |0,i=>
   cases i;refine D _ _ (fun a o=>vR o) ?_ ?_ ?_
   ·rw[l];exact Pt (j:=0) (by simp) rfl
   ·rw[l];exact le_trans A (le_trans g.pR.on.size s)
   ·rw[l];exact f
  |j+1,i=>simp at i)
 exact⟨_,_,by rw[l];exact B,g.pR.trans h,fun k r=>by rw[k1 k (lt_of_lt_of_le r g.pR.on.size),g.own k r],E,fun a o=>by rw[F a (by omega),g.at' a o]⟩
theorem iB.two (b:iB w b0 own at1 ns w2 ns2 own2 at2)(P:Inv ns2 rho c)(R:ns.length<=ns2.length)(F:b0<=w.heap.size){h:Nat}{s O:LN}{M:Bool}{v:Int}{u g p:Value}{e:Ending}(D:NewNd w2 O M v aA (ptrB h) aA e w3)(I:w2.heap.size<=h)(r:NodeAt w3 h s false 0 0 0 0 0 u g aI p aA)(E:e≠.returned (ptrB h)){n1:Nd}
  (C:∀f d,(∀a,a<ns2.length->d a=at2 a)->f (d ns2.length)=some (.nd ns2.length)->b0<=d ns2.length->NodeAt w3 (d ns2.length) s false 0 0 0 0 0 u g aI p aA->cK w3 b0 f d (ns2++[n1,n]) ns2.length n1)
  (S:∀f d,f (d (ns2.length+1))=some (.nd (ns2.length+1))->b0<=d (ns2.length+1)->NodeAt w3 (d (ns2.length+1)) O M v 0 0 0 0 aA (ptrB (d ns2.length)) aI aA aA->cK w3 b0 f d (ns2++[n1,n]) (ns2.length+1) n):
  ∃f d,e=.returned (ptrB (d (ns2.length+1)))/\iB w b0 own at1 ns w3 (ns2++[n1,n]) f d:=by
 obtain⟨m,H,q,L,o⟩:=D
 have B:h≠m:=by
  rintro rfl;exact E H
 have y:kB ns2.length [h,m] at2 ns2.length=h:=Cu (j:=0) rfl;have z:kB ns2.length [h,m] at2 (ns2.length+1)=m:=Cu (j:=1) rfl
 have i:[h,m].Nodup:=by simp[B]
 obtain ⟨k1,T,U⟩:=aNT (blks:=[h,m]) (new:=[n1,n]) b.Bi P q (fun x N=>by
  simp at N
  rcases N with rfl|rfl
  ·exact I
  ·exact L) (by
  intro j W l
  match j,l with
  |0,l=>
   cases l;refine C _ _ (fun a A=>vR A) ?_ ?_ ?_
   ·rw[y];exact Pt (j:=0) i rfl
   ·rw[y];exact le_trans F (le_trans b.pR.on.size I)
   ·rw[y];exact r
  |1,l=>
   cases l;refine S _ _ ?_ ?_ ?_
   ·rw[z];exact Pt (j:=1) i rfl
   ·rw[z];exact le_trans F (le_trans b.pR.on.size L)
   ·rw[y,z];exact o
  |j+2,l=>simp at l)
 exact⟨_,_,by rw[z];exact H,b.pR.trans q,fun k J=>by rw[k1 k (lt_of_lt_of_le J b.pR.on.size),b.own k J],T,fun a A=>by rw[U a (by omega),b.at' a A]⟩
theorem iB.refl (h:xD w b0 own at1 ns)(b:Inv ns rho c)(a:Chg w w2 []):iB w b0 own at1 ns w2 ns own at1:=⟨a,fun _ _=>rfl,h.still b a,fun _ _=>rfl⟩
theorem iB.on (g:iB w b0 own at1 ns w2 ns2 own2 at2)(b:Inv ns2 rho c)(a:Chg w2 w3 []):iB w b0 own at1 ns w3 ns2 own2 at2:=⟨g.pR.trans a,g.own,g.Bi.still b a,g.at'⟩
theorem iB.trans {T:Nat->Option Own}{B:NU}{j:List Nd}(g:iB w b0 own at1 ns w2 ns2 own2 at2)(f:ns.length<=ns2.length)(b:iB w2 b0 own2 at2 ns2 w3 j T B):iB w b0 own at1 ns w3 j T B:=⟨g.pR.trans b.pR,fun k d=>by rw[b.own k (lt_of_lt_of_le d g.pR.on.size),g.own k d],b.Bi,fun a e=>by rw[b.at' a (by omega),g.at' a e]⟩
theorem Pp (h:xD w b0 own at1 ns){d:Nat}(f:ns[d]?=some n):(∃g:LB,w.heap[at1 d]?=some (.cells (.bool (!n.pos)::g).toArray 190 (0,0)))/\n.dT[0]?=some Rf.one:=by
 have a:=h d n f;obtain⟨k,p,p1,q,l,r,p3,s,mt,o,gv,i,j,e,_⟩:=a.ex;obtain⟨u,b,_⟩:=e.nd.ex;exact⟨⟨_,b⟩,a.hc.fst⟩
end
def Fj (t:Wt)(w:World)(b0:Nat)(own:Nat->Option Own)(at1:NU)(ns:List Nd)(e:Ending)(f:World):Prop:=∃a d b at2,Rf.of t ns=some (a,d)/\e=.returned (ptrB (at2 d))/\iB w b0 own at1 ns f a b at2
def jN (t:Wt):Prop:=∀(w:World) (b0:Nat) (own:Nat->Option Own) (at1:NU) (ns:List Nd) (rho:NU) (c:Nat) (v:Value),xD w b0 own at1 ns->b0<=w.heap.size->c<=3000->Inv ns rho c->t.Ok->aJ w t v->Calls prog 78 #[v] w (Fj t w b0 own at1 ns)
variable {w:World}
theorem Ph {s:LN}{i:LB}(h:aU true w s i)(a:s.length=2)(b:∀z∈s,Bits 1 z):i.length=4/\∀x∈i,One x:=by
 have:=sL s i 0 (φ:=fun _=>none) (s.map fun z=>(z,1)) h b fun j z d=>by rw[Nat.zero_add,List.getElem?_map,d];rfl
 rw[a]at this;exact⟨this.len.symm,Lv this⟩
theorem uR {v:Int}(h:RB 6100 v):Bits 1 v:=xL (N:=6100) (by decide) h
theorem aSY (p q:Int):jN (.fr p q):=by
 rintro w b0 own at1 ns rho c v H I hc i f⟨k,R,O,M,N,rfl,E,F,o1,o2,o3⟩;obtain⟨J,r,d,b,_⟩:=qB (.fr p q) ns rho f hc i;have h:=b;unfold Rf.of at b;obtain⟨L,x,y⟩:=cA b;cases y;have A:=Fv x;subst A
 refine (aVS E F (by
  intro z o;simp at o
  rcases o with rfl|rfl
  ·exact uR f.2.1
  ·exact uR f.2.2) o1 o2 o3).mono ?_
 intro e P j
 obtain ⟨a,g,s,u⟩:=(iB.refl H i (Chg.refl w)).one i (le_refl _) I (n:=Rf.fresh (decide (0<=p)) [(p,q)] []) j (by
  intro a g _ B C D;refine Pl ?_ B C
  have:(!decide (0<=p))=decide (p<0):=by
   by_cases l:0<=p
   ·simp[l]
   ·simp[l];omega
  rw[this]
  exact D)
 exact⟨_,_,a,g,h,s,u⟩
theorem aPY (op:Rf.Op)(ts:LN):jN (.fK op ts):=by
 rintro w b0 own at1 ns rho c v O P hc r i⟨k,xs,zs,tv,lv,rv,rfl,M,N,X,Y,o1,o2,o3,s⟩;obtain⟨T,y,d,f,_⟩:=qB (.fK op ts) ns rho i hc r;have o:=f;unfold Rf.of at f;obtain⟨U,E,F⟩:=cA f;cases F;have H:=Fv E;subst H;obtain⟨x4,x1⟩:=Ph N X Y
 have x:aH op=2\/aH op=3\/aH op=4:=by
  rcases i with rfl|rfl|⟨rfl,_⟩
  ·exact Or.inl rfl
  ·exact Or.inr (Or.inl rfl)
  ·exact Or.inr (Or.inr rfl)
 refine(aVQ x M x4 x1 o1 o2 o3).mono ?_;rintro e W⟨cb,cs,l,a,hold,_⟩
 have u:Chg w W []:=by obtain⟨m,_,h,_⟩:=l;exact h
 obtain ⟨b,j,C,D⟩:=(iB.refl O r (Chg.refl w)).one r (le_refl _) P (n:={ Rf.fresh true [] [] with op:=op,terms:=ts}) l (by
  intro b j _ I J L;refine aSr L ?_ I J
  rcases i with rfl|rfl|⟨rfl,R,S⟩
  ·exact aVo o1 a hold
  ·exact aWS o1 a hold
  ·refine aVm ?_ R S a;obtain⟨g,q,p,A,z,B⟩:=s rfl
   exact⟨g,q,p,A,z,Fp u.on B (by decide)⟩)
 exact⟨_,_,b,j,o,C,D⟩
theorem Ir {t:Wt}{x:Value}(h:aJ w t x):One x:=by
 obtain⟨k,rfl⟩:=aJ.ptr t x h;rfl
theorem aPZ {t:Wt}(U:jN t):jN (.neg t):=by
 rintro w b0 own at1 ns rho c v F H hc j h⟨k,xs,zs,tv,J,rv,rfl,R,S,z2,zb,o1,o3,I⟩;obtain⟨X,L,d,f,_⟩:=qB (.neg t) ns rho h hc j;have q:=f;unfold Rf.of at f;obtain⟨⟨r,d1⟩,D,O⟩:=aT f;obtain⟨ns2,P,x⟩:=cA O;cases x;have y:=Fv P;subst y;obtain⟨s,M,u,A,C,b,_,_⟩:=qB t ns rho h hc j;rw[D]at A;cases A;obtain⟨x4,x1⟩:=Ph S z2 zb
 refine aVR R x4 x1 o1 (Ir I) o3 fun Y c1=>?_
 refine(U Y b0 own at1 ns rho c J (F.still j c1) (le_trans H c1.on.size) hc j h (aJ.aS c1.on t J I)).mono ?_;rintro e w2⟨s,u,own2,at2,B,rfl,g⟩;rw[D]at B;cases B;have p:r[d1]?=some r[d1]:=List.getElem?_eq_getElem b;obtain⟨l,o⟩:=Pp g.Bi p;refine⟨at2 d1,rfl,⟨_,l⟩,fun e3 w3 z=>?_⟩;have N:=(iB.refl F j c1).trans (le_refl _) g
 obtain ⟨a,i,k1,W⟩:=N.one C.inv C.le.len H (n:=Rf.fresh false [(-1,0),(0,1)] [d1]) z (by
  intro a i T x y E;rw[<-T d1 b]at E
  exact Pz E rfl rfl rfl rfl rfl rfl rfl rfl (fun e=>by cases e) (by rw[getElem?_append_left b];exact p) o aSq x y)
 exact⟨_,_,a,i,q,k1,W⟩
theorem aP0 (j:Kind){a b:Wt}(ag:jN a)(ah:jN b):jN (.two j a b):=by
 rintro w b0 own at1 ns rho c v hN hb hc F h⟨k,xs,zs,tv,lv,rv,rfl,hB,hH,z2,zb,o1,hl,hr⟩;obtain⟨a9,au,d,s,_⟩:=qB (.two j a b) ns rho h hc F;have J:=s;unfold Rf.of at s;obtain⟨⟨u,d1⟩,h1,h2⟩:=aT s;obtain⟨⟨ns2,d2⟩,h3,Y⟩:=aT h2;obtain⟨N,h5,E⟩:=aT Y;obtain⟨O,h7,h8⟩:=aT E;obtain⟨ba,h9,W⟩:=cA h8;cases W;have X:=Fv h9;subst X;obtain⟨L,p,R,e1,C,H,_,_⟩:=qB a ns rho h.1 hc F;rw[h1]at e1;cases e1;obtain⟨M,av,S,z,i,I,_,_⟩:=qB b u p h.2 hc C.inv;have D:Rf.of b u=some (ns2,d2):=h3;rw[D]at z;cases z;obtain⟨x4,x1⟩:=Ph hH z2 zb
 refine aVP j hB x4 x1 o1 (Ir hl) (Ir hr) fun w1 c1=>?_
 refine(ag w1 b0 own at1 ns rho c lv (hN.still F c1) (le_trans hb c1.on.size) hc F h.1 (aJ.aS c1.on a lv hl)).mono ?_;rintro e w2⟨L,R,own2,at2,z,rfl,g⟩;rw[h1]at z;cases z;refine⟨at2 d1,rfl,g.pR,fun w3 c3=>?_⟩;have g0:=(iB.refl hN F c1).trans (le_refl _) g;have P:=g0.on C.inv c3;refine(ah w3 b0 own2 at2 u p c rv P.Bi (le_trans hb P.pR.on.size) hc C.inv h.2 (aJ.aS P.pR.on b rv hr)).mono ?_;rintro e w4⟨M,S,ar,x,e4,rfl,T⟩;rw[D]at e4;cases e4;refine⟨x d2,rfl,T.pR,fun w5 c5=>?_⟩;have U:=(P.trans C.le.len T).on i.inv c5;have l:d1<ns2.length:=lt_of_lt_of_le H i.le.len;have A:ns2[d1]?=some N:=h5;have B:ns2[d2]?=some O:=h7;obtain⟨f,ad⟩:=Pp U.Bi A;obtain⟨r,ae⟩:=Pp U.Bi B;have y:x d1=at2 d1:=T.at' d1 H;rw[y]at f;refine⟨_,_,f,r,fun e6 w6 af=>?_⟩
 obtain ⟨o,q,k1,k2⟩:=U.one i.inv (le_trans C.le.len i.le.len) hb (n:=Rf.two j N.pos O.pos d1 d2) af (by
  intro o q ha Y h5 E
  have a1:q d1=at2 d1:=by rw[ha d1 l,y]
  rw[<-a1,<-ha d2 I]at E
  have hp:Na j (!N.pos) (!O.pos)=!(Rf.two j N.pos O.pos d1 d2).pos:=by
   cases j<;>cases N.pos<;>cases O.pos<;>rfl
  rw[hp]at E
  refine aVc E (by cases j<;>rfl) (by rw[getElem?_append_left l];exact A) ad (by rw[getElem?_append_left I];exact B) ae (aVk j) Y h5)
 exact⟨_,_,o,q,J,k1,k2⟩
theorem NewC.on {w w2 w3:World}{v:Int}{zs:LN}{e:Ending}(h:NewC w v zs e w2)(hc:Chg w2 w3 []):NewC w v zs e w3:=by
 obtain⟨a,cs,b,d,f⟩:=h;exact⟨a,cs,b.on hc,hc.at d (by simp),mC hc.on f⟩
theorem Dd.on {w w2 w3:World}{zs:LN}{e:Ending}(h:Dd w zs e w2)(hc:Chg w2 w3 []):Dd w zs e w3:=by
 obtain⟨a,d,cs,f,g,b,i,j,k⟩:=h;exact⟨a,d,cs,f.on hc,g,b.aS hc.on (hc.low a b.lt (by simp)),hc.at i (by simp),mC hc.on j,k⟩
variable {op:Rf.Op}{p q:Int}{cs:LB}
theorem aJj {b:Nat}(d:Rf.fn op)(h:op≠.sqrt)(e:0<p)(f:0<q)(i:RB 6100 p)(j:RB 6100 q)(a:w.heap[b]?=some (.cells (.int .i64 (aH op)::aI::cs).toArray 164 (0,0)))(hold:aU true w [p,q,T2 p q,B2 p q,0,0,0,0] cs):fT w (Rf.row op p q) b:=by
 obtain⟨g,n,o,k,l,_⟩:=Wz (p:=p*p) (q:=q*q) (Int.le_of_lt (mul_pos e e)) (mul_pos f f);have:=aMP (w:=w) (cb:=b) d h (T:=p) (B:=q) (T2:=T2 p q) (B2:=B2 p q) (G:=1) (g2:=g) (cs:=cs) (by decide) e f n k l ⟨(by show RB 6100 (1*p);rw[one_mul];exact i),(by show RB 6100 (1*q);rw[one_mul];exact j)⟩ a hold;rw[one_mul,one_mul]at this;exact this
theorem aVE (a:0<p)(b:0<q):0<aV (p*p) (q*q):=by
 obtain⟨g,e,d,_⟩:=Wz (p:=p*p) (q:=q*q) (Int.le_of_lt (mul_pos a a)) (mul_pos b b);rw[d];exact e
theorem aSX:jN (.fn op (.fr p q)):=by
 rintro w b0 own at1 ns rho c v hN hb hc U P⟨k,xs,Y,tv,lv,rv,rfl,hB,hH,z2,zb,o1,o3,hl⟩;obtain⟨ab,ah,d,E,_⟩:=qB (.fn op (.fr p q)) ns rho P hc U;have y:=E;obtain⟨R,⟨H,I,J⟩,S⟩:=P;have F:0<p:=S p q rfl;obtain⟨x4,x1⟩:=Ph hH z2 zb
 refine aRv (Ls R) hB x4 x1 o1 (Ir hl) o3 fun w1 c1=>?_
 obtain⟨W,ys,az,av,ay,rfl,l,o,p1,X,p3⟩:=aJ.aS c1.on (.fr p q) lv hl
 have r:∀z∈[p,q],Bits 1 z:=by
  intro z hz;simp at hz
  rcases hz with rfl|rfl
  ·exact uR I
  ·exact uR J
 have hg:=aVE F H;have g0:=iB.refl hN U c1
 have A:Rf.outright ns op p q=some (ab,d):=by
  unfold Rf.of at E;exact E
 unfold Rf.outright at A;obtain⟨ax,h1,T⟩:=aT A;have h3:=Fv h1;subst h3
 have h:op≠.exp->∀Y,(∀w3 x cs,w3.heap[x]?=some (.cells (.int .i64 (aH op)::aI::cs).toArray 164 (0,0))->aU true w3 Y cs->fT w3 (Rf.row op p q) x)->∀e w2,NewC w1 (aH op) Y e w2->∃v,e=.returned v/\One v/\∀w3,Chg w2 w3 []->Fj (.fn op (.fr p q)) w b0 own at1 ns (.returned v) w3:=by
  intro u Y L e w2 N;rw[if_neg u]at T;cases T
  obtain⟨m,s⟩:∃m,e=.returned (ptrB m):=by
   obtain⟨_,_,⟨m,s,_⟩,_⟩:=N;exact⟨m,s⟩
  refine⟨ptrB m,s,rfl,fun w3 c3=>?_⟩;obtain⟨x,cs,j,f,hold⟩:=N.on c3;rw[s]at j
  obtain ⟨g,i,k1,W⟩:=g0.one U (le_refl _) hb (n:=Rf.row op p q) j (by
   intro g i ha B C D
   exact Uk D (L w3 x cs f hold) B C)
  exact⟨_,_,g,i,y,k1,W⟩
 rcases R with rfl|rfl|rfl|rfl
 ·obtain⟨a,b,hn,_⟩:=Rf.Pn F H I J;refine(aWY l o r p1 X p3 F H (by rw[hn];rfl)).mono (h (by decide) _ fun w3 x cs f hold=>?_);exact aPv F H I J f hold
 ·refine(aWZ l o r p1 X p3 hg).mono ?_;intro e w2 O;rw[if_pos rfl]at T;obtain⟨ns2,B,C⟩:=cA T;cases C;have D:=Fv B
  obtain⟨m,s⟩:∃m,e=.returned (ptrB m):=by
   obtain⟨_,_,_,⟨m,s,_⟩,_⟩:=O;exact⟨m,s⟩
  refine⟨ptrB m,s,rfl,fun w3 c3=>?_⟩;obtain⟨ai,x,cs,j,hf,M,f,hold,u⟩:=O.on c3;rw[s]at j u
  obtain ⟨g,i,k1,W⟩:=g0.two U (le_refl _) hb (n1:=Rf.row .exp p q) (n:=Rf.raised ns.length) j hf M u (by
   intro g i ha B C D
   exact Uk D (aJj (Or.inr (Or.inl rfl)) (by decide) F H I J f hold) B C) (by
   intro g i B C D
   exact Pz (mN:=Rf.raised ns.length) (xa:=Rf.row .exp p q) D rfl rfl rfl rfl rfl rfl rfl rfl (fun e=>by cases e) (by simp) rfl Ui B C)
  refine⟨_,_,g,i,y,k1,?_⟩;rw[D,List.append_assoc];exact W
 ·exact(aW0 l o r p1 X p3 hg).mono (h (by decide) _ fun w3 x cs f hold=>aJj (Or.inr (Or.inr (Or.inl rfl))) (by decide) F H I J f hold)
 ·exact(aW1 l o r p1 X p3 hg).mono (h (by decide) _ fun w3 x cs f hold=>aJj (Or.inr (Or.inr (Or.inr rfl))) (by decide) F H I J f hold)
theorem aXt {t:Wt}(h:∀p q,t≠.fr p q):Rf.of (.fn op t) ns=(Rf.of t ns).bind fun x=>(x.1[x.2]?).bind fun b=>
   (if b.pos then some x else(Rf.more x.1 (Rf.fresh true [(1,0),(0,1)] [x.2])).map fun a=>(a,x.1.length)).bind fun y=>
   (Rf.more y.1 { Rf.fresh true [(1,0),(0,1)] [y.2]with op:=op,aP:=true}).map fun a=>(a,y.1.length):=by
 cases t with
 |fr p q=>exact absurd rfl (h p q)
 |fK _ _=>
  conv=>lhs;unfold Rf.of
 |neg _=>
  conv=>lhs;unfold Rf.of
 |two _ _ _=>
  conv=>lhs;unfold Rf.of
 |fn _ _=>
  conv=>lhs;unfold Rf.of
theorem aOb {t:Wt}{x:Value}(h:∀p q,t≠.fr p q)(e:t.Ok)(g:aJ w t x):∃k,x=ptrB k/\∃i∈qI,∃f:LB,w.heap[k]?=some (.cells (.int .i64 i::f).toArray 131 (0,0)):=by
 cases t with
 |fr p q=>exact absurd rfl (h p q)
 |fK op ts=>
  obtain⟨k,o,f,n,j,l,rfl,d,_⟩:=g;exact⟨k,rfl,aH op,by rcases e with rfl|rfl|⟨rfl,_⟩<;>decide,_,d⟩
 |neg t=>
  obtain⟨k,o,f,n,j,l,rfl,d,_⟩:=g;exact⟨k,rfl,5,by decide,_,d⟩
 |two r a b=>
  obtain⟨k,o,f,n,j,l,rfl,d,_⟩:=g;exact⟨k,rfl,dA r,by cases r<;>decide,_,d⟩
 |fn op t=>
  obtain⟨k,o,f,n,j,l,rfl,d,_⟩:=g;exact⟨k,rfl,aH op,by rcases e.1 with rfl|rfl|rfl|rfl<;>decide,_,d⟩
theorem Wj {t:Wt}(S:∀p q,t≠.fr p q)(ih:jN t):jN (.fn op t):=by
 rintro w b0 own at1 ns rho c v hN hb hc M T⟨k,xs,zs,tv,lv,rv,rfl,hB,hH,z2,zb,o1,o3,hl⟩;obtain⟨a7,av,d,H,_⟩:=qB (.fn op t) ns rho T hc M;have A:=H;rw[aXt S]at H;obtain⟨af,i,_⟩:=T;obtain⟨x4,x1⟩:=Ph hH z2 zb;obtain⟨⟨j,d1⟩,h1,h2⟩:=aT H;obtain⟨J,h3,D⟩:=aT h2;obtain⟨⟨ns2,y⟩,u,o⟩:=aT D;obtain⟨a8,h7,h8⟩:=cA o;cases h8;have h9:=Fv h7;obtain⟨l,ax,X,e1,W,r,_,_⟩:=qB t ns rho i hc M;rw[h1]at e1;cases e1
 refine aRv (Ls af) hB x4 x1 o1 (Ir hl) o3 fun w1 c1=>?_
 have P:=aJ.aS c1.on t lv hl;obtain⟨k2,rfl,a5,O,bc,F⟩:=aOb S i P
 refine aVD O F fun w2 c2=>?_
 have B:=c1.trans c2;refine(ih w2 b0 own at1 ns rho c _ (hN.still M B) (le_trans hb B.on.size) hc M i (aJ.aS c2.on t _ P)).mono ?_;rintro e w3⟨l,X,own2,at2,e2,rfl,g⟩;rw[h1]at e2;cases e2;have C:j[d1]?=some J:=h3;obtain⟨N,z⟩:=Pp g.Bi C;have g0:=(iB.refl hN M B).trans (le_refl _) g;refine⟨at2 d1,!J.pos,rfl,N,fun e4 w4=>⟨fun hp h=>?_,fun hp x hx U h R=>?_⟩⟩
 ·have I:J.pos=true:=by simpa using hp
  have E:(j,d1)=(ns2,y):=by simpa[I]using u
  cases E
  obtain⟨m,s⟩:∃m,e4=.returned (ptrB m):=by obtain⟨m,s,_⟩:=h;exact⟨m,s⟩
  refine⟨ptrB m,s,rfl,fun w5 L=>?_⟩;have b:=h.on L;rw[s]at b
  obtain ⟨a,f,j1,j2⟩:=g0.one W.inv W.le.len hb (n:={ Rf.fresh true [(1,0),(0,1)] [d1] with op:=op,aP:=true}) b (by
   intro a f ha D u o;rw[<-ha d1 r]at o
   exact Pz (xa:=J) o rfl rfl rfl rfl rfl rfl rfl rfl (fun _=>rfl) (by rw[getElem?_append_left r];exact C) z Ot D u)
  refine⟨_,_,a,f,A,j1,?_⟩;rw[h9];exact j2
 ·have I:J.pos=false:=by simpa using hp
  have E:(Rf.more j (Rf.fresh true [(1,0),(0,1)] [d1])).map (fun l=>(l,j.length))=some (ns2,y):=by simpa[I]using u
  obtain⟨au,Y,aa⟩:=cA E;cases aa;have ab:=Fv Y;subst ab
  obtain⟨m,s⟩:∃m,e4=.returned (ptrB m):=by obtain⟨m,s,_⟩:=h;exact⟨m,s⟩
  refine⟨ptrB m,s,rfl,fun w5 L=>?_⟩;have b:=h.on L;rw[s]at b R
  obtain ⟨a,f,j1,j2⟩:=g0.two W.inv W.le.len hb (n1:=Rf.fresh true [(1,0),(0,1)] [d1]) (n:={ Rf.fresh true [(1,0),(0,1)] [j.length] with op:=op,aP:=true}) b hx (U.aS L.on (L.low x U.lt (by simp))) R (by
   intro a f ha D u o;rw[<-ha d1 r]at o
   exact Pz (xa:=J) o rfl rfl rfl rfl rfl rfl rfl rfl (fun e=>by cases e) (by rw[getElem?_append_left r];exact C) z Ot D u) (by
   intro a f D u o
   exact Pz (xa:=Rf.fresh true [(1,0),(0,1)] [d1]) o rfl rfl rfl rfl rfl rfl rfl rfl (fun _=>rfl) (by simp) rfl Ot D u)
  refine⟨_,_,a,f,A,?_,?_⟩
  ·rw[j1];simp
  ·rw[h9,List.append_assoc];exact j2
theorem Ge:∀t:Wt,jN t
 |.fr p q=>aSY p q
 |.fK op ts=>aPY op ts
 |.neg t=>aPZ (Ge t)
 |.two d a b=>aP0 d (Ge a) (Ge b)
 |.fn op (.fr p q)=>aSX
 |.fn op (.fK o ts)=>Wj (fun _ _ e=>by cases e) (Ge (.fK o ts))
 |.fn op (.neg t)=>Wj (fun _ _ e=>by cases e) (Ge (.neg t))
 |.fn op (.two d a b)=>Wj (fun _ _ e=>by cases e) (Ge (.two d a b))
 |.fn op (.fn o t)=>Wj (fun _ _ e=>by cases e) (Ge (.fn o t))
variable {b0 p:Nat}{s:Rf.St}
theorem Net.side {b:World}{W:Nat}{own:Nat->Option Own}{at1:NU}(h:Net w b0 own at1 W s)(hc:Chg w b [p])(H:∀(k:Nat) (cs:Array Value) (ty:TypeId),w.heap[k]?=some (.cells cs ty (0,0))->(ty=190\/ty=143\/ty=232\/(ty=110/\∃o,own k=some o))->k≠p):Net b b0 own at1 W s:=by
 have ne:∀{k:Nat} {cs:Array Value} {ty:TypeId},w.heap[k]?=some (.cells cs ty (0,0))->(ty=190\/ty=143\/ty=232\/(ty=110/\∃o,own k=some o))->k ∉ [p]:=fun q C hm=>H _ _ _ q C (by simpa using hm)
 have a:∀{k:Nat} {I:LN} {hs:Bool} {u mt S U E:Int} {lp rp gv A D:Value},NodeAt w k I hs u mt S U E lp rp gv A D->NodeAt b k I hs u mt S U E lp rp gv A D:=by
  intro k I hs u mt S U E lp rp gv A D O;obtain⟨xs,d,_⟩:=O.ex;exact O.aS hc.on (hc.low _ O.lt (ne d (Or.inl rfl)))
 refine⟨fun i n hi=>?_,hc.at h.fuel (ne h.fuel (Or.inr (Or.inl rfl))),h.Rr⟩;have q:=h.nd i n hi;obtain⟨p0,q0,p1,q1,p2,q2,p3,q3,mt,E,gv,A,D,y,l,M,N⟩:=q.ex;refine⟨⟨p0,q0,p1,q1,p2,q2,p3,q3,mt,E,gv,A,D,⟨a y.nd,?_,?_,y.oO,?_⟩,l,M,N⟩,q.hc,q.own,q.lo,q.Ss⟩
 ·rcases y.Aw with h|⟨g,J,F,d,j,B,h4,X,h6⟩
  ·exact Or.inl h
  ·exact Or.inr ⟨g,J,F,d,hc.at j (ne j (Or.inr (Or.inr (Or.inr ⟨rfl,_,X⟩)))),B,h4,X,h6⟩
 ·intro C;obtain⟨d,cb,j,B⟩:=y.fK C;exact⟨d,cb,j,B.aS hc.on⟩
 ·refine⟨y.nst.1,fun P=>?_⟩;obtain⟨T,d,⟨cs,j⟩,B⟩:=y.nst.2 P;refine⟨T,d,⟨cs,hc.at j (ne j (Or.inr (Or.inr (Or.inl rfl))))⟩,fun C ha=>?_⟩;obtain⟨xs,I,fst,L,k1,k2,k3,k4,k5,k6⟩:=B C ha;refine⟨xs,I,fst,L,hc.at k1 (ne k1 (Or.inr (Or.inr (Or.inl rfl)))),mC hc.on k2,k3,k4,k5,fun R=>?_⟩;obtain⟨m1,x,m2,m3,m4,m5⟩:=k6 R;refine⟨m1,x,m2,m3,m4,fun Y=>⟨(m5 Y).1,fun e=>?_⟩⟩;obtain⟨pb,r1,r2,r3,r4⟩:=(m5 Y).2 e;exact⟨pb,r1,r2,r3,a r4⟩
variable {n:World}
theorem Net.aside {b:World}{i:Nat}{own:Nat->Option Own}{at1:NU}(a:Net n b0 own at1 i s)(hc:Chg n b [p]){h:TypeId}(g:∃cs:Array Value,n.heap[p]?=some (.cells cs h (0,0)))(d:h≠190/\h≠143/\h≠232/\h≠110):Net b b0 own at1 i s:=by
 obtain⟨l,g⟩:=g
 refine a.side hc fun k cs ty j q o=>?_
 subst o;rw[g]at j;cases j
 rcases q with e|e|e|⟨e,_⟩
 ·exact d.1 e
 ·exact d.2.1 e
 ·exact d.2.2.1 e
 ·exact d.2.2.2 e
noncomputable def nwK:List (K (List AT)):=[.code (aE f52),.top f52]
noncomputable def nxK:List (K (List AT)):=[.code (aE f60),.top f60]
def Bu (v:Value)(n:Int)(a:List AT):AS:=⟨a,[],0,[],[]⟩
def Bv (k:Value)(r:Int)(f:Value)(a:List AT):AS:=⟨a,[(0,yR [.lit k,.sint .i64 r,.lit f] 145)],1,[],[]⟩
noncomputable def rX:Nat×Array Oper×List (K (List AT)):=xY (aF 88) f60
def stX (a:List (K (List AT))):Bool:=lN (aF 78) a||sP (aF 88) a
noncomputable def nwA (n:Int)(hs:Bool):Option Tr:=run Z (aD tN) bT (aK Z (aD tN)) (fun _=>false) 100 (fJ (pD 7) f52) (Yo hs (slot [(1,cB n),(7,.val (.one (.ptr 1 0)))] 0 17))
noncomputable def Yi (n:Int)(hs:Bool):AS:=(((nwA n hs).bind (dD [])).map (·.2)).getD ⟨[],[],0,[],[]⟩
section
variable (v k f:Value) (n r z:Int) (hs:Bool)
theorem aZ9:(run Z (aD tN) bT (aK Z (aD tN)) stX 100 nwK (Bu v n (litT v::cB n::List.replicate 15 .fX))).bind (eD (eX [] [] 0 []) (eX [] [1,6] 0 []))=some (.stp (dY (pD 7) f52) (Bu v n (slot [(1,cB n),(6,litT v)] 0 17))):=by kernel_rfl
theorem aZ6:cM Z (Bu v n (slot [(1,cB n),(6,litT v)] 0 17)) (dY (pD 7) f52)=some (78,[.one (.lit v)],some 7,fJ (pD 7) f52):=by kernel_rfl
theorem So:noFr (dY (pD 7) f52)=true:=by kernel_rfl
theorem aZ8:nwA n hs=some (.ret (.val (.one (.ptr 3 0))) (Yi n hs)):=by kernel_rfl
theorem aZ5:look (Yi n hs).boxes 3=some ⟨[.ptr 1 0,.int .i64 0,.ptr 2 0],145,true,false,false⟩:=by kernel_rfl
theorem aZ4:look (Yi n hs).boxes 2=some ⟨[.sint .i64 n],143,true,false,false⟩:=by kernel_rfl
theorem aZ7:clean (Yi n hs)=true:=by kernel_rfl
theorem bAe:(run Z (aD tN) bT (aK Z (aD tN)) stX 100 nxK (Bv k r f (P0::List.replicate 24 .fX))).bind (eD (eX [0] [] 1 []) (eX [0] [0] 1 []))=some (.stp (.code (.region rX.1 rX.2.1 true)::rX.2.2) (Bv k r f (slot [(0,P0)] 0 25))):=by kernel_rfl
noncomputable def Yj:AS:=((aK Z (aD tN) (rX.2.1.extract 0 8) (Bv k r f (slot [(0,P0)] 0 25))).getD (⟨[],[],0,[],[]⟩,[])).1
theorem bAb:aK Z (aD tN) (rX.2.1.extract 0 8) (Bv k r f (slot [(0,P0)] 0 25))=some (Yj k f r,[]):=by kernel_rfl
theorem aVX:sS rX.2.1 8=true/\8<rX.2.1.size/\(List.range rX.2.1.size).drop 8=[8,9]:=⟨by kernel_rfl,Nat.lt_of_lt_of_eq (by decide:8<10) (by kernel_rfl),by kernel_rfl⟩
theorem bAa:cM Z (Yj k f r) (.ops rX.2.1 [8,9]::rX.2.2)=some (88,[.agg [.lit k,.sint .i64 r],.one (.lit f)],some 12,.ops rX.2.1 [9]::rX.2.2):=by kernel_rfl
theorem bAc:noFr rX.2.2=true:=by kernel_rfl
theorem aXn:(Yj k f r).dirty=[]:=by kernel_rfl
theorem aXo:putT (jE [0] [0] 0 (Yj k f r).tmps) (some 12) (cB z)=slot [(0,P0),(12,cB z)] 0 25:=by kernel_rfl
theorem bAd:(run Z (aD tN) bT (aK Z (aD tN)) (fun _=>false) 100 (.ops rX.2.1 [9]::rX.2.2) (Bv k r f (slot [(0,P0),(12,cB z)] 0 25))).bind (eD (eX [0] [] 1 []) (eX [0] [] 1 []))=some (.br (z != 0) (.ret (cB z) ⟨sl0 25,[(0,yR [.lit k,.sint .i64 (Wr (r+1)),.lit f] 145)],1,[],[0]⟩) (.ret (cB z) ⟨sl0 25,[(0,yR [.lit k,.sint .i64 r,.lit f] 145)],1,[],[]⟩)):=by kernel_rfl
end
structure NbAt (w:World) (b0 nb fb:Nat) (own:Nat->Option Own) (at1:NU) (s:Rf.St) (top r:Nat):Prop where
 yG:Net w b0 own at1 fb s
 bV:w.heap[nb]?=some (.cells #[ptrB (at1 top),.int .i64 r,ptrB fb] 145 (0,0))
 ow:own nb=none
 bs:b0<=w.heap.size
 Hj:b0<=nb
 nw:∀k,k<b0->own k=none
theorem aVV {t:Wt}{v:Value}{c:Nat}(E:t.Ok)(hp:aJ n t v)(hc:c<=3000):Calls prog 52 #[v,.int .i64 c] n fun e w'=>∃ns d own at1 L B,Rf.of t []=some (ns,d)/\e=.returned (ptrB L)/\Chg n w' []/\NbAt w' n.heap.size L B own at1 ⟨ns,c⟩ d 0:=by
 have F:=bF func52 rfl rfl;refine nV F (φ:=fun _=>none) (vs:=[.one (.lit v),.one (.sint .i64 c)]) (args:=[v,.int .i64 c]) (s:=Bu v c (litT v::cB c::List.replicate 15 .fX)) (by kernel_rfl) ⟨⟨rfl,Ir hp⟩,rfl,trivial⟩ zV ?_
 have C:∀b x,(fun _:Nat=>(none:Option (Nat×Nat))) b=some x->([]:PH).contains b=true:=fun b x e=>by cases e
 refine cC (cZ kA) nW C (jD C) (aZ9 v c) (fun _ _=>False) (fun ks s=>ks=dY (pD 7) f52/\s=Bu v c (slot [(1,cB c),(6,litT v)] 0 17)) ⟨rfl,rfl⟩ (fun _ _ _ _ _ h=>h.elim) ?_;rintro ks s⟨rfl,rfl⟩;refine⟨So,fun a2 ab a1 w1 H u=>?_⟩;have c1:Chg n w1 []:=Chg.eF (RepF.below u.wd rfl)
 refine pP (aZ6 v c) (bF func78 rfl rfl).en So (H ab [] w1) u fun us X=>?_
 match us,X with
 | [u1],⟨z,_⟩=>
 have z:u1=v:=z.1;rw[z];obtain⟨l,aj,d,D,gr,hd,_⟩:=qB t [] (fun _=>0) E hc (Vq _ c);refine(Ge t w1 n.heap.size (fun _=>none) (fun _=>0) [] (fun _=>0) c v (fun i f h=>by simp at h) c1.on.size hc (Vq _ c) E (aJ.aS c1.on t v hp)).mono ?_;rintro e A⟨a5,d1,p,at2,M,rfl,g⟩;rw[D]at M;cases M;have U:l[d]?=some l[d]:=List.getElem?_eq_getElem hd;obtain⟨⟨ys,o⟩,ae⟩:=Pp g.Bi U;refine⟨ptrB (at2 d),rfl,fun J aq I=>?_⟩;generalize (!l[d].pos)=b at o;have W:Rep Z A (ph1 1 (at2 d)) (ph1 1 (at2 d)) (Yo b (slot [(1,cB c),(7,.val (.one (.ptr 1 0)))] 0 17)) (a1.put (some 7) (ptrB (at2 d))) A:=nM (kb:=[]) (kt:=[1]) (r:=.val (.one (.ptr 1 0))) u (aG4 o rfl) (by kernel_rfl) (fun b hb=>by simp at hb) ⟨at2 d,0,rfl,rfl⟩;refine sI (cZ kA) nW (pN mixed (cZ kA)) (fun r s=>r=.val (.one (.ptr 3 0))/\look s.boxes 3=some ⟨[.ptr 1 0,.int .i64 0,.ptr 2 0],145,true,false,false⟩/\look s.boxes 2=some ⟨[.sint .i64 c],143,true,false,false⟩/\clean s=true) (fun _ _=>False) (fun _ _ h=>h.elim) ?_ _ _ _ _ (aZ8 c b) ⟨rfl,aZ5 c b,aZ4 c b,aZ7 c b⟩ J _ _ A (I _ _ _) W;rintro r s φ x O⟨rfl,l3,l2,S⟩ hrel N;have c3:Chg A O []:=Chg.eF (RepF.below N S);obtain⟨L,y3,j1,j2,j3,j4⟩:=zA N l3 rfl rfl;obtain⟨B,y2,i1,i2,i3,i4⟩:=zA N l2 rfl rfl;have Y:φ 1=some (at2 d,0):=N.base 1 (at2 d,0) rfl;have hv:x=ptrB L:=cN (ν:=s.nums) (w:=O) j1 x hrel
 have e3:y3=[ptrB (at2 d),.int .i64 0,ptrB B]:=by
  match y3,j3 with
  | [a,b,c],⟨q,P,R,_⟩=>
   have q:a=ptrB (at2 d):=cN (ν:=s.nums) (w:=O) Y a q;have P:b=.int .i64 0:=P;have R:c=ptrB B:=cN (ν:=s.nums) (w:=O) i1 c R;rw[q,P,R]
 have M:y2=[.int .i64 c]:=by
  match y2,i3 with
  | [a],⟨q,_⟩=>
   have q:a=.int .i64 c:=q;rw[q]
 rw[e3]at j2;rw[M]at i2;have y:n.heap.size<=A.heap.size:=le_trans c1.on.size g.pR.on.size;have hN:=g.Bi.more (own':=fun k=>if k<A.heap.size then p k else none) (at2:=at2) (new:=[]) gr.inv c3 (fun k T=>if_pos T) (fun _ _=>rfl) (fun j mm hj=>by simp at hj);rw[List.append_nil]at hN;refine⟨l,d,_,at2,L,B,D,by rw[hv],(c1.trans g.pR).trans c3,⟨⟨hN,i2,le_trans y i4⟩,j2,?_,le_trans y c3.on.size,le_trans y j4,fun k T=>?_⟩⟩
 ·exact if_neg (by omega)
 ·show(if k<A.heap.size then p k else none)=none;rw[if_pos (by omega),g.own k (lt_of_lt_of_le T c1.on.size)]
structure Nf (w:World) (b0 nb fb:Nat) (own:Nat->Option Own) (at1:NU) (s:Rf.St) (top r:Nat) (x:Rf.St×Option Int) (w':World):Prop where
 on:On Z.bt w w'
 low:∀k,k<b0->w'.heap[k]?=w.heap[k]?
 kept:∀k,k<w.heap.size->own k=none->k≠fb->k≠nb->w'.heap[k]?=w.heap[k]?
 some:x.2.isSome=true->∃own' at2,NbAt w' b0 nb fb own' at2 x.1 top (r+1)/\∀k,k<w.heap.size->own k=none->own' k=none
variable {g:Value}
theorem aOw {w r:Nat}{k:Value}(ok:One k)(of:One g)(h:n.heap[w]?=some (.cells #[k,.int .i64 r,g] 145 (0,0)))(q:List AT):RepW Z n (ph1 0 w) (ph1 0 w) (Bv k r g q) n:=by
 refine Wv rfl ?_ ?_ ?_ ?_
 ·intro b B l;have:=nC l;simp only[Bv,mem_singleton,Prod.mk.injEq]at this;obtain⟨rfl,rfl⟩:=this;exact⟨rfl,rfl,w,0,rfl,[],[k,.int .i64 r,g],[],h,rfl,⟨rfl,ok⟩,rfl,⟨rfl,of⟩,trivial⟩
 ·intro b u B s k1 o z i j v x;have d:=nC i;have e:=nC j;simp only[Bv,mem_singleton,Prod.mk.injEq]at d e;exact Or.inl (by rw[d.1,e.1])
 ·intro b p;have:1<=b:=p;unfold ph1;rw[if_neg (by omega)]
 ·intro b y o a;unfold ph1 at a;split at a
  ·cases a;exact gE h
  ·cases a
variable {k:Nat}
theorem aS4 {own:Nat->Option Own}{at1:NU}{top r c f:Nat}{B:NU}{d:Nd}{x:Rf.St×Option Int}(h:NbAt n b0 k p own at1 s top r)(a0:s.clock=(c:Int))(hc:c<=3000)(hI:Inv s.nodes B c)(hn:s.nodes[top]?=some d)(hr:r<=d.out.length)(cg:r<=1000000)(hf:c+B top+2<=f)(hx:Rf.sym f s top r=some x)(cj:x.2.isSome=true->∃B c,Inv x.1.nodes B c):
  Calls prog 60 #[ptrB k] n fun e w'=>e=.returned (.int .i64 (eL x.2))/\Nf n b0 k p own at1 s top r x w':=by
 have F:=bF func60 rfl rfl;have U:=(List.getElem?_eq_some_iff.1 hn).1
 have a6:k≠p:=by
  rintro rfl;have:=h.bV;rw[h.yG.fuel]at this;exact absurd (Obj.cells.inj (Option.some.inj this)).2.1 (by decide)
 refine nV F (φ:=ph1 0 k) (vs:=[.one (.ptr 0 0)]) (args:=[ptrB k]) (s:=Bv (ptrB (at1 top)) r (ptrB p) (P0::List.replicate 24 .fX)) (by kernel_rfl) ⟨⟨k,0,rfl,rfl⟩,trivial⟩ (aOw rfl rfl h.bV _) ?_;refine cC (cZ kA) nW lH (jD lH) (bAe (ptrB (at1 top)) (ptrB p) r) (fun _ _=>False) (fun ks s=>ks=.code (.region rX.1 rX.2.1 true)::rX.2.2/\s=Bv (ptrB (at1 top)) r (ptrB p) (slot [(0,P0)] 0 25)) ⟨rfl,rfl⟩ (fun _ _ _ _ _ h=>h.elim) ?_;rintro ks s0⟨rfl,rfl⟩;have M:noFr rX.2.2=true:=bAc;refine⟨by simpa[noFr]using M,fun bg am a1 w1 ae aa=>?_⟩;obtain⟨bb,bj,bd⟩:=aVX
 match bg,ae am [] w1 with
 |.code cc::ah,⟨az,af⟩=>
 subst az;show(Code.region rX.1 rX.2.1 true).wp Z.P _ a1 w1;refine Lr mixed (cZ kA) bj bb (bAb (ptrB (at1 top)) (ptrB p) r) gG aa ?_;intro bp a2 w2 D;rw[bd];have c2:Chg n w2 []:=qN D.wd (aXn _ _ _);show gC Z.P _ (.ops rX.2.1 [8,9]::ah) .normal a2 w2
 refine pP (bAa (ptrB (at1 top)) (ptrB p) r) (bF func88 rfl rfl).en (by simpa[noFr]using M) (φ1:=bp) (ν1:=[]) (w1:=w2) ⟨rfl,rfl,SR.any M af⟩ D fun us bc=>?_
 match us,bc with
 | [u1,u2],⟨⟨xs,ba,bf⟩,S,_⟩=>
 have S:u2=ptrB p:=S.1
 have e1:xs=[ptrB (at1 top),.int .i64 r]:=by
  match xs,bf with
  | [a,b],⟨y,L,_⟩=>
   have y:a=ptrB (at1 top):=y.1;have L:b=.int .i64 r:=L;rw[y,L]
 rw[ba,S,e1];have av:=h.yG.still hI c2
 have bh:∀J,Chg w2 J []->Calls prog 113 #[ptrB (at1 top),.int .i64 r,ptrB p] J fun e w'=>e=.returned (.int .i64 (eL x.2))/\kM J b0 own at1 p s.nodes.length x.2.isSome x.1 w':=fun J c3=>
  aOK f J b0 p own at1 s B c top r d x (av.still hI c3) (le_trans h.bs (le_trans c2.on.size c3.on.size)) a0 hc hI hn hr hf hx
 refine aEW (R:=fun e w'=>∃v,e=.returned v/\∀u,noFr (.ops rX.2.1 [9]::rX.2.2)=true->(∀bo bn bk,SR Z bo bn bk (.ops rX.2.1 [9]::rX.2.2) u)->gC Z.P _ u .normal (a2.put (some 12) v) w') fun J c3=>(bh J c3).mono ?_
 rintro e C⟨rfl,aj,T,a8⟩;have i:=c2.trans c3
 have l:C.heap[k]?=some (.cells #[ptrB (at1 top),.int .i64 r,ptrB p] 145 (0,0)):=by
  rw[T.low k (gE (i.at h.bV (by simp))) h.ow a6];exact i.at h.bV (by simp)
 have H:On Z.bt n C:=i.on.trans T.on
 have A:∀j,j<n.heap.size->own j=none->j≠p->C.heap[j]?=n.heap[j]?:=by
  intro j y X N;rw[T.low j (lt_of_lt_of_le y i.on.size) X N,i.low j y (by simp)]
 have ai:∀j,j<b0->C.heap[j]?=n.heap[j]?:=by
  intro j q;have y:j<n.heap.size:=lt_of_lt_of_le q h.bs
  have N:j≠p:=by have:=h.yG.Rr;omega
  exact A j y (h.nw j q) N
 refine⟨eL x.2,rfl,_,rfl,fun u cd ag=>?_⟩
 have a9:Rep Z C (ph1 0 k) (ph1 0 k) (Bv (ptrB (at1 top)) r (ptrB p) (slot [(0,P0),(12,cB (eL x.2))] 0 25)) (a2.put (some 12) (.int .i64 (eL x.2))) C:=nM (kb:=[0]) (kt:=[0]) (r:=cB (eL x.2)) D (aOw rfl rfl l _) (aXo _ _ _ _).symm (fun b z=>by
  have:b=0:=by simpa using z
  subst this
  exact(D.wd.base 0 (k,0) rfl).symm) rfl
 refine cC (cZ kA) nW lH (jD lH) (bAd (ptrB (at1 top)) (ptrB p) r (eL x.2)) (fun rr st=>rr=cB (eL x.2)/\(x.2.isSome=true->st.dirty=[0]/\look st.boxes 0=some (yR [.lit (ptrB (at1 top)),.sint .i64 (Wr ((r:Int)+1)),.lit (ptrB p)] 145))/\(x.2.isSome=false->st.dirty=[])) (fun _ _=>False) ?_ ?_ (fun _ _ h=>h.elim) u _ _ _ (ag _ _ _) a9
 ·cases ci:x.2 with
  |none=>exact⟨fun e=>(by simp[eL]at e),fun _=>⟨rfl,fun e=>(by cases e),fun _=>rfl⟩⟩
  |some v=>exact⟨fun _=>⟨rfl,fun _=>⟨rfl,rfl⟩,fun e=>(by cases e)⟩,fun e=>absurd (by simpa[eL]using e) (Vx v)⟩
 ·rintro rr st cq v w5⟨rfl,hy,a7⟩ _ hv g;have be:v=.int .i64 (eL x.2):=hv _ _ (Or.inl rfl);rw[be]
  have hd:st.dirty=[0]\/st.dirty=[]:=by
   cases hs:x.2.isSome with
   |true=>exact Or.inl (hy hs).1
   |false=>exact Or.inr (a7 hs)
  have I:∀j,j<C.heap.size->j≠k->w5.heap[j]?=C.heap[j]?:=by
   intro j a5 a4
   refine g.low j a5 fun b z o e=>?_
   rcases hd with hd|hd
   ·rw[hd]at z;simp only[mem_singleton]at z;subst z;rw[g.base 0 (k,0) rfl]at e;cases e;exact a4 rfl
   ·rw[hd]at z;cases z
  refine⟨rfl,H.trans g.on,fun j q=>?_,fun j q X hf hn=>?_,fun hs=>?_⟩
  ·rw[<-ai j q];exact I j (lt_of_lt_of_le q (le_trans h.bs H.size)) (by have:=h.Hj;omega)
  ·rw[<-A j q X hf];exact I j (lt_of_lt_of_le q H.size) hn
  ·obtain⟨hd,l0⟩:=hy hs;obtain⟨at2,ax,ay⟩:=a8 hs
   have c5:Chg C w5 [k]:=⟨g.on,fun j q hm=>g.low j q fun b z o e=>by
    rw[hd]at z;simp only[mem_singleton]at z;subst z;rw[g.base 0 (k,0) rfl]at e;cases e
    exact hm (by simp)⟩
   obtain⟨k',o,bi,zs,ak,g1,g2,g3,g4⟩:=g.box 0 _ l0;rw[g.base 0 (k,0) rfl]at g1;cases g1;have Y:bi=[]:=List.length_eq_zero_iff.1 g3;subst Y
   have hz:zs=[ptrB (at1 top),.int .i64 ((r+1:Nat):Int),ptrB p]:=by
    match zs,g4 with
    | [a,b,c],⟨y,L,h3,_⟩=>
     have y:a=ptrB (at1 top):=y.1;have L:b=.int .i64 (Wr ((r:Int)+1)):=L;have h3:c=ptrB p:=h3.1
     have h4:Wr ((r:Int)+1)=((r+1:Nat):Int):=by
      rw[mD (by omega) (by omega)];omega
     rw[y,L,h3,h4]
   subst hz
   have ad:C.shape? k=some (145,3):=by
    unfold World.shape?;rw[l];rfl
   have E:=g.on.shape ad;unfold World.shape? at E;rw[g2]at E;simp only[Option.some.injEq,Prod.mk.injEq,List.size_toArray,List.nil_append,List.length_append]at E;have O:ak=[]:=List.length_eq_zero_iff.1 (by have:=E.2;simpa using this);subst O;have W:k<(J).heap.size:=gE (i.at h.bV (by simp));refine⟨aj,at2,⟨ax.aside c5 ⟨_,l⟩ (by decide),?_,T.own k W h.ow,le_trans h.bs (H.trans g.on).size,h.Hj,fun j q=>T.own j (lt_of_lt_of_le q (le_trans h.bs i.on.size)) (h.nw j q)⟩,fun j q X=>T.own j (lt_of_lt_of_le q i.on.size) X⟩;rw[ay top U,g2];rfl
def phH (x y:Nat):Nat->Option (Nat×Nat)
 |0=>some (x,0)
 |1=>some (y,0)
 |_=>none
def Hu (k a b c d:Int):Int:=bif k==6 then a*d+c*b else bif k==7 then a*d+-c*b else bif k==8 then a*c else a*d
def Ht (k a b c d:Int):Int:=bif k==6 then b*d else bif k==7 then b*d else bif k==8 then b*d else b*c
def fWo:List G->Option RG
 | [.i .i64 k,.ns [a,b],.ns [c,d]]=>some (.one (.ns [bif k==6 then aG (a*d+c*b) (b*d)else bif k==7 then aG (a*d+-c*b) (b*d)else bif k==8 then aG (a*c) (b*d)else aG (a*d) (b*c),bif k==6 then aL (a*d+c*b) (b*d)else bif k==7 then aL (a*d+-c*b) (b*d)else bif k==8 then aL (a*c) (b*d)else aL (a*d) (b*c)]))
 |_=>none
def Sk:List G->List Prop
 | [.i .i64 k,.ns [a,b],.ns [c,d]]=>[0<aV (Hu k a b c d) (Ht k a b c d)]
 |_=>[]
theorem aXF:bI Z 77 (cY true fWo Sk 41 [0,10,10]):=by
 refine iA (l:=tF) aWk dG (bF func77 rfl rfl) ?_;intro o out h;unfold fWo at h;split at h
 ·rename_i k a b c d;cases h;refine⟨[(k==6)=true->0<aV (a*d+c*b) (b*d),(k==6)=false->(k==7)=true->0<aV (a*d+-c*b) (b*d),(k==6)=false->(k==7)=false->(k==8)=true->0<aV (a*c) (b*d),(k==6)=false->(k==7)=false->(k==8)=false->0<aV (a*d) (b*c)],41,by kernel_rfl,by decide,fun n _=>?_⟩;have f:0<aV (Hu k a b c d) (Ht k a b c d):=n.one;unfold Hu Ht at f;refine fH (fun e=>?_) (fH (fun g i=>?_) (fH (fun g i j=>?_) (fH (fun g i j=>?_) gG)))
  ·rw[e]at f;exact f
  ·rw[g,i]at f;exact f
  ·rw[g,i,j]at f;exact f
  ·rw[g,i,j]at f;exact f
 ·cases h
noncomputable def tP:List (FuncId×TE):=(77,cY true fWo Sk 41 [0,10,10])::tS
theorem qO:cG Z tP:=⟨aXF,nN⟩
noncomputable def bP:FF:=fun f=>bif f==73 then some f73 else bif f==46 then some f46 else bif f==76 then some f76 else none
theorem uG:bU Z bP:=by
 intro f fn h;unfold bP at h
 exact vO h (bF func73 rfl rfl) fun h=>vO h (bF func46 rfl rfl) fun h=>vO h (bF func76 rfl rfl) fun h=>by cases h
def Hl (i:Nat):bQ:=ext (.int .i64 1::bJ true i 2) 131
def Nb (a:Int):bQ:=ext [.int .i64 a] 131
def Hn (fn:Func)(a:List AV)(b:List (Nat×bQ))(ns:LV):AS:=⟨a.map .val++List.replicate (fn.ntmps-a.length) .fX,b,3,ns,[]⟩
noncomputable def zE (fn:Func)(s:AS):Option Tr:=run Z (aD tP) bP (aK Z (aD tP)) (fun _=>false) 400 [.code (aE fn),.top fn] s
noncomputable def lP (fn:Func)(s:AS)(l:List Bool):AS:=(((zE fn s).bind (dD l)).map (·.2)).getD ⟨[],[],0,[],[]⟩
abbrev tH:AV:=.one (.ptr 1 0)
abbrev Eu:AV:=.one (.ptr 2 0)
abbrev yC (k:Int):AV:=.one (.int .i64 k)
noncomputable def Sf (p q:Int):AS:=Hn f49 [tH] [(1,Hl 0)] [(p,1),(q,1)]
noncomputable def Sg (a:Int):AS:=Hn f49 [tH] [(1,Nb a)] []
noncomputable def Cy (a p q:Int):AS:=Hn f50 [yC a,tH] [(1,Hl 0)] [(p,1),(q,1)]
noncomputable def Rs (b a:Int):AS:=Hn f50 [yC b,tH] [(1,Nb a)] []
noncomputable def Bl (b p q a:Int):AS:=Hn f51 [yC b,tH,Eu] [(1,Hl 0),(2,Nb a)] [(p,1),(q,1)]
noncomputable def oP (b a p q:Int):AS:=Hn f51 [yC b,tH,Eu] [(1,Nb a),(2,Hl 0)] [(p,1),(q,1)]
noncomputable def rB (d a b:Int):AS:=Hn f51 [yC d,tH,Eu] [(1,Nb a),(2,Nb b)] []
structure gH (s:AS) (b:Nat) (kd:Int) (zs:LN) (lc rc:AC):Prop where
 look:look s.boxes b=some ⟨.int .i64 kd::((qR s b).drop 1).take 4++[.lit aI,lc,rc],131,true,false,false⟩
 num:numOf s.nums (((qR s b).drop 1).take 4)=some zs
abbrev fW (c:AC)(e:Int):AT:=.tup [.one c,.one (.int .i64 e)]
section
variable (p q:Int)
theorem aXj:zE f49 (Sf p q)=some (.ret (.val (.one (.ptr 4 0))) (lP f49 (Sf p q) [])):=by kernel_rfl
theorem aXi:gH (lP f49 (Sf p q) []) 4 1 [-p,q] (.lit aA) (.lit aA):=⟨by kernel_rfl,by kernel_rfl⟩
theorem aXh:clean (lP f49 (Sf p q) [])=true:=by kernel_rfl
variable {v:Int}
theorem aXk (h:v∈qI):zE f49 (Sg v)=some (.ret (.val (.one (.ptr 3 0))) (lP f49 (Sg v) []))/\gH (lP f49 (Sg v) []) 3 5 [0,0] (.ptr 1 0) (.lit aA)/\clean (lP f49 (Sg v) [])=true:=by
 simp only[qI,mem_cons,not_mem_nil,or_false]at h
 rcases h with rfl|rfl|rfl|rfl|rfl|rfl|rfl|rfl|rfl|rfl|rfl|rfl<;>exact⟨by kernel_rfl,⟨by kernel_rfl,by kernel_rfl⟩,by kernel_rfl⟩
theorem aW2 (h:v=10\/v=11\/v=12\/v=13):zE f50 (Cy v p q)=some (.br (decide (Nm.cmp p 0=-1)) (.ret (fW (.lit aA) 5) (lP f50 (Cy v p q) [true])) (.br (decide (Nm.cmp p 0=0)) (.ret (fW (.ptr 4 0) 0) (lP f50 (Cy v p q) [false,true])) (.ret (fW (.ptr 3 0) 0) (lP f50 (Cy v p q) [false,false]))))/\clean (lP f50 (Cy v p q) [true])=true/\gH (lP f50 (Cy v p q) [false,true]) 4 1 [if v=11 then 1 else 0,1] (.lit aA) (.lit aA)/\clean (lP f50 (Cy v p q) [false,true])=true/\gH (lP f50 (Cy v p q) [false,false]) 3 v [0,0] (.ptr 1 0) (.lit aA)/\clean (lP f50 (Cy v p q) [false,false])=true:=by
 rcases h with rfl|rfl|rfl|rfl<;>exact⟨by kernel_rfl,by kernel_rfl,⟨by kernel_rfl,by kernel_rfl⟩,by kernel_rfl,⟨by kernel_rfl,by kernel_rfl⟩,by kernel_rfl⟩
theorem aW3 (a:Int)(h:v∈qI):zE f50 (Rs a v)=some (.ret (fW (.ptr 3 0) 0) (lP f50 (Rs a v) []))/\gH (lP f50 (Rs a v) []) 3 a [0,0] (.ptr 1 0) (.lit aA)/\clean (lP f50 (Rs a v) [])=true:=by
 simp only[qI,mem_cons,not_mem_nil,or_false]at h
 rcases h with rfl|rfl|rfl|rfl|rfl|rfl|rfl|rfl|rfl|rfl|rfl|rfl<;>exact⟨by kernel_rfl,⟨by kernel_rfl,by kernel_rfl⟩,by kernel_rfl⟩
end
noncomputable def Sp (d p q a b:Int):AS:=Hn f51 [yC d,tH,Eu] [(1,Hl 0),(2,Hl 2)] [(p,1),(q,1),(a,1),(b,1)]
def rD (p q a b:Int)(d:List AT):AS:=⟨d,[(1,Hl 0),(2,Hl 2)],3,[(p,1),(q,1),(a,1),(b,1)],[]⟩
noncomputable def rO:Nat×Array Oper×List (K (List AT)):=xY (aF 46) f51
noncomputable def oK:List (K (List AT)):=[.code (aE f51),.top f51]
noncomputable def xFF (d p q a b:Int):Option XT:=(run Z (aD tP) bP (aK Z (aD tP)) (sP (aF 46)) 400 oK (Sp d p q a b)).bind (eD (eX [1,2] [] 3 []) (eX [1,2] [0,1,2] 3 []))
abbrev Kw (d:Int):List AT:=slot [(0,.val (yC d)),(1,.val tH),(2,.val Eu)] 0 44
noncomputable def dO (d p q a b:Int):AS:=((aK Z (aD tP) (rO.2.1.extract 0 10) (rD p q a b (Kw d))).getD (⟨[],[],0,[],[]⟩,[])).1
noncomputable def zO (d p q a b:Int):Option Tr:=run Z (aD tP) bP (aK Z (aD tP)) (fun _=>false) 100 (.ops rO.2.1 [10,11,12]::rO.2.2) (dO d p q a b)
noncomputable def zS (d p q a b:Int):AS:=(((zO d p q a b).bind (dD [])).map (·.2)).getD ⟨[],[],0,[],[]⟩
def wL (d:Kind)(p q a b:Int):Int:=aG (Hu (dA d) p q a b) (Ht (dA d) p q a b)
def wK (d:Kind)(p q a b:Int):Int:=aL (Hu (dA d) p q a b) (Ht (dA d) p q a b)
section
variable (p q a b:Int)
variable {v:Int}
theorem aXq (d:Kind)(h:v∈qI):zE f51 (Bl (dA d) p q v)=some (.ret (fW (.ptr 3 0) 0) (lP f51 (Bl (dA d) p q v) []))/\gH (lP f51 (Bl (dA d) p q v) []) 3 (dA d) [0,0] (.ptr 1 0) (.ptr 2 0)/\clean (lP f51 (Bl (dA d) p q v) [])=true:=by
 simp only[qI,mem_cons,not_mem_nil,or_false]at h
 rcases h with rfl|rfl|rfl|rfl|rfl|rfl|rfl|rfl|rfl|rfl|rfl|rfl<;>cases d<;>exact⟨by kernel_rfl,⟨by kernel_rfl,by kernel_rfl⟩,by kernel_rfl⟩
theorem aXr {d:Kind}(e:d≠.div)(h:v∈qI):zE f51 (oP (dA d) v p q)=some (.ret (fW (.ptr 3 0) 0) (lP f51 (oP (dA d) v p q) []))/\gH (lP f51 (oP (dA d) v p q) []) 3 (dA d) [0,0] (.ptr 1 0) (.ptr 2 0)/\clean (lP f51 (oP (dA d) v p q) [])=true:=by
 simp only[qI,mem_cons,not_mem_nil,or_false]at h
 cases d with
 |div=>exact absurd rfl e
 |add=>rcases h with rfl|rfl|rfl|rfl|rfl|rfl|rfl|rfl|rfl|rfl|rfl|rfl<;>exact⟨by kernel_rfl,⟨by kernel_rfl,by kernel_rfl⟩,by kernel_rfl⟩
 |sub=>rcases h with rfl|rfl|rfl|rfl|rfl|rfl|rfl|rfl|rfl|rfl|rfl|rfl<;>exact⟨by kernel_rfl,⟨by kernel_rfl,by kernel_rfl⟩,by kernel_rfl⟩
 |mul=>rcases h with rfl|rfl|rfl|rfl|rfl|rfl|rfl|rfl|rfl|rfl|rfl|rfl<;>exact⟨by kernel_rfl,⟨by kernel_rfl,by kernel_rfl⟩,by kernel_rfl⟩
theorem aVZ (h:v∈qI):zE f51 (oP 9 v p q)=some (.br (decide (Nm.cmp p 0=0)) (.ret (fW (.lit aA) 5) (lP f51 (oP 9 v p q) [true])) (.ret (fW (.ptr 3 0) 0) (lP f51 (oP 9 v p q) [false])))/\clean (lP f51 (oP 9 v p q) [true])=true/\gH (lP f51 (oP 9 v p q) [false]) 3 9 [0,0] (.ptr 1 0) (.ptr 2 0)/\clean (lP f51 (oP 9 v p q) [false])=true:=by
 simp only[qI,mem_cons,not_mem_nil,or_false]at h
 rcases h with rfl|rfl|rfl|rfl|rfl|rfl|rfl|rfl|rfl|rfl|rfl|rfl<;>exact⟨by kernel_rfl,by kernel_rfl,⟨by kernel_rfl,by kernel_rfl⟩,by kernel_rfl⟩
theorem aXs {e:Kind}(f:e≠.div)(d:Int)(h:v∈qI):zE f51 (rB (dA e) v d)=some (.ret (fW (.ptr 3 0) 0) (lP f51 (rB (dA e) v d) []))/\gH (lP f51 (rB (dA e) v d) []) 3 (dA e) [0,0] (.ptr 1 0) (.ptr 2 0)/\clean (lP f51 (rB (dA e) v d) [])=true:=by
 simp only[qI,mem_cons,not_mem_nil,or_false]at h
 cases e with
 |div=>exact absurd rfl f
 |add=>rcases h with rfl|rfl|rfl|rfl|rfl|rfl|rfl|rfl|rfl|rfl|rfl|rfl<;>exact⟨by kernel_rfl,⟨by kernel_rfl,by kernel_rfl⟩,by kernel_rfl⟩
 |sub=>rcases h with rfl|rfl|rfl|rfl|rfl|rfl|rfl|rfl|rfl|rfl|rfl|rfl<;>exact⟨by kernel_rfl,⟨by kernel_rfl,by kernel_rfl⟩,by kernel_rfl⟩
 |mul=>rcases h with rfl|rfl|rfl|rfl|rfl|rfl|rfl|rfl|rfl|rfl|rfl|rfl<;>exact⟨by kernel_rfl,⟨by kernel_rfl,by kernel_rfl⟩,by kernel_rfl⟩
theorem aV0 {z:Int}(h:v∈qI)(d:z∈qI):zE f51 (rB 9 v z)=some (.ret (fW (.ptr 3 0) 0) (lP f51 (rB 9 v z) []))/\gH (lP f51 (rB 9 v z) []) 3 9 [0,0] (.ptr 1 0) (.ptr 2 0)/\clean (lP f51 (rB 9 v z) [])=true:=by
 simp only[qI,mem_cons,not_mem_nil,or_false]at h d
 rcases h with rfl|rfl|rfl|rfl|rfl|rfl|rfl|rfl|rfl|rfl|rfl|rfl<;>rcases d with rfl|rfl|rfl|rfl|rfl|rfl|rfl|rfl|rfl|rfl|rfl|rfl<;>exact⟨by kernel_rfl,⟨by kernel_rfl,by kernel_rfl⟩,by kernel_rfl⟩
theorem aXp {d:Kind}(e:d≠.div):xFF (dA d) p q a b=some (.stp (.code (.region rO.1 rO.2.1 true)::rO.2.2) (rD p q a b (Kw (dA d)))):=by
 cases d with
 |div=>exact absurd rfl e
 |add=>kernel_rfl
 |sub=>kernel_rfl
 |mul=>kernel_rfl
theorem aVY:xFF 9 p q a b=some (.br (decide (Nm.cmp a 0=0)) (.ret (fW (.lit aA) 5) (rD p q a b (sl0 44))) (.stp (.code (.region rO.1 rO.2.1 true)::rO.2.2) (rD p q a b (Kw 9)))):=by kernel_rfl
theorem aZm (d:Int):aK Z (aD tP) (rO.2.1.extract 0 10) (rD p q a b (Kw d))=some (dO d p q a b,[0<aV (Hu d p q a b) (Ht d p q a b)]):=by kernel_rfl
theorem aWP:sS rO.2.1 10=true/\10<rO.2.1.size/\(List.range rO.2.1.size).drop 10=[10,11,12]:=⟨by kernel_rfl,Nat.lt_of_lt_of_eq (by decide:10<13) (by kernel_rfl),by kernel_rfl⟩
theorem frO:noFr rO.2.2=true:=by kernel_rfl
theorem bA0 (d:Kind):zO (dA d) p q a b=some (.ret (fW (.ptr 14 0) 0) (zS (dA d) p q a b))/\gH (zS (dA d) p q a b) 14 1 [wL d p q a b,wK d p q a b] (.lit aA) (.lit aA)/\clean (zS (dA d) p q a b)=true:=by
 cases d<;>exact⟨by kernel_rfl,⟨by kernel_rfl,by kernel_rfl⟩,by kernel_rfl⟩
end
theorem gH.at {n w:World}{q φ:LI}{s:AS}{b:Nat}{v:Int}{k:LN}{E i:AC}{p g:Value}(h:gH s b v k E i)(D:RepW Z n q φ s w)(u:∀x,relC Z φ s.nums w E x->x=p)(z:∀x,relC Z φ s.nums w i x->x=g):
  ∃m,∃r:LB,φ b=some (m,0)/\PartB w m v r aI p g/\aU true w k r:=by
 obtain⟨m,d,k1,F,H,I⟩:=zA D h.look rfl rfl;have o:=h.num
 match d,H with
 |y::d,⟨j,f⟩=>
 have j:y=.int .i64 v:=j;subst j;have f:All2 (relC Z φ s.nums w) (((qR s b).drop 1).take 4++[.lit aI,E,i]) d:=f;generalize (((qR s b).drop 1).take 4)=a at f o;have C:=f.len;simp only[List.length_append,List.length_cons,List.length_nil]at C
 have A:All2 (relC Z φ s.nums w) a (d.take a.length):=by
  have:=f.take a.length;rw[List.take_append_of_le_length (by omega),List.take_of_length_le (by omega)]at this;exact this
 have B:All2 (relC Z φ s.nums w) [.lit aI,E,i] (d.drop a.length):=by
  have:=f.drop a.length;rw[List.drop_append_of_le_length (by omega),List.drop_of_length_le (by omega)]at this;exact this
 refine⟨m,d.take a.length,k1,?_,Il a k _ o A⟩
 match hd:d.drop a.length,B with
 | [a0,a1,l],⟨b0,b1,b2,_⟩=>
 have c0:a0=aI:=b0.1;have c1:=u a1 b1;have c2:=z l b2;subst c0 c1 c2
 have e:d=d.take a.length++[aI,a1,l]:=by rw[<-hd];exact(List.take_append_drop _ _).symm
 unfold PartB;rw[F];generalize d.take a.length=t at e;subst e;rfl
def Bh:Wt->Wt
 |.fr p q=>.fr (-p) q
 |t=>.neg t
def Mu (op:Rf.Op):Wt->Option Wt
 |.fr p q=>if p<0 then none else if p=0 then some (.fr (if op=.exp then 1 else 0) 1)else some (.fn op (.fr p q))
 |t=>some (.fn op t)
def yJ (d:Kind):Wt->Wt->Option Wt
 |.fr p q,.fr a b=>if d=.div/\a=0 then none else some (.fr (wL d p q a b) (wK d p q a b))
 |t,.fr a b=>if d=.div/\a=0 then none else some (.two d t (.fr a b))
 |t,u=>some (.two d t u)
section
variable {w:World}{ν:LV}{ys:LB}
theorem Xv {B:bQ}{h:List AT}{ty:TypeId}(d:B.own=false/\B.ro=true/\B.tip=false)(f:w.heap[k]?=some (.cells (cs++ys).toArray B.ty (0,0)))(hc:All2 (relC Z (ph1 1 k) ν w) B.cs cs):RepW Z w (ph1 1 k) (ph1 1 k) ⟨h,[(1,B)],3,ν,[]⟩ w:=by
 refine sN rfl ?_ ?_ ?_
 ·intro b i e;have:=nC e;simp only[mem_singleton,Prod.mk.injEq]at this;obtain⟨rfl,rfl⟩:=this;exact⟨d.1,d.2.1,d.2.2,k,0,rfl,[],cs,ys,(by simpa using f),rfl,hc⟩
 ·intro b g;have:3<=b:=g;unfold ph1;rw[if_neg (by omega)]
 ·intro b j o a;unfold ph1 at a;split at a
  ·cases a;exact gE f
  ·cases a
theorem Xw {e:Nat}{B B2:bQ}{n:List AT}{cs2 ys2:LB}(g:B.own=false/\B.ro=true/\B.tip=false)(d:B2.own=false/\B2.ro=true/\B2.tip=false)(j:w.heap[k]?=some (.cells (cs++ys).toArray B.ty (0,0)))(hc:All2 (relC Z (phQ k e) ν w) B.cs cs)(f:w.heap[e]?=some (.cells (cs2++ys2).toArray B2.ty (0,0)))(i:All2 (relC Z (phQ k e) ν w) B2.cs cs2):RepW Z w (phQ k e) (phQ k e) ⟨n,[(1,B),(2,B2)],3,ν,[]⟩ w:=by
 refine sN rfl ?_ ?_ ?_
 ·intro b p h;have:=nC h;simp only[mem_cons,not_mem_nil,or_false,Prod.mk.injEq]at this
  rcases this with⟨rfl,rfl⟩|⟨rfl,rfl⟩
  ·exact⟨g.1,g.2.1,g.2.2,k,0,rfl,[],cs,ys,(by simpa using j),rfl,hc⟩
  ·exact⟨d.1,d.2.1,d.2.2,e,0,rfl,[],cs2,ys2,(by simpa using f),rfl,i⟩
 ·intro b l;have:3<=b:=l
  match b,this with
  |b+3,_=>rfl
 ·intro b q o a
  match b,a with
  |0,a=>cases a
  |1,a=>cases a;exact gE j
  |2,a=>cases a;exact gE f
  |b+3,a=>cases a
variable {φ:LI}
theorem Mp {p:Int}{b:LB}{i:Nat}(h:aU true w [p,q] b)(d:Bits 1 p)(e:Bits 1 q)(f:ν[i]?=some (p,1))(g:ν[i+1]?=some (q,1)):All2 (relC Z φ ν w) (.int .i64 1::bJ true i 2) (.int .i64 1::b):=by
 refine⟨rfl,sL (n:=1) [p,q] b i _ h ?_ ?_⟩
 ·intro z a;simp at a
  rcases a with rfl|rfl
  ·exact d
  ·exact e
 ·intro j z a
  match j,a with
  |0,a=>cases a;exact f
  |1,a=>cases a;exact g
  |j+2,a=>simp at a
theorem Nv {t:Wt}{x:Value}(a:t.Ok)(l:aJ w t x):∃k,x=ptrB k/\((∃p q,t=.fr p q/\∃b i f g,PartB w k 1 b i f g/\aU true w [p,q] b/\Bits 1 p/\Bits 1 q/\0<q)\/((∀p q,t≠.fr p q)/\∃d∈qI,∃s:LB,w.heap[k]?=some (.cells (.int .i64 d::s).toArray 131 (0,0)))):=by
 by_cases h:∃p q,t=.fr p q
 ·obtain⟨p,q,rfl⟩:=h;obtain⟨k,b,i,f,g,rfl,o,r,_⟩:=l;exact⟨k,rfl,Or.inl ⟨p,q,rfl,b,i,f,g,o,r,uR a.2.1,uR a.2.2,a.1⟩⟩
 ·have j:∀p q,t≠.fr p q:=fun p q e=>h ⟨p,q,e⟩
  obtain⟨k,rfl,n⟩:=aOb j a l;exact⟨k,rfl,Or.inr ⟨j,n⟩⟩
theorem Xu {m:Nat}{p:Int}{i:LB}(a:PartB n m 1 i aI aA aA)(b:aU true n [p,q] i):aJ n (.fr p q) (ptrB m):=⟨m,i,aI,aA,aA,rfl,a,b,rfl,rfl,rfl⟩
theorem aP1 {t:Wt}{x:Value}(n:t.Ok)(y:aJ w t x):Calls prog 49 #[x] w fun e a=>∃B,e=.returned B/\Chg w a []/\aJ a (Bh t) B:=by
 obtain⟨k,rfl,⟨p,q,rfl,P,O,I,J,E,F,C,D,_⟩|⟨j,h,g,R,d⟩⟩:=Nv n y
 ·refine uD (φ:=ph1 1 k) (s:=Sf p q) (vs:=[tH]) (args:=[ptrB k]) (bF func49 rfl rfl) (cZ qO) uG (by kernel_rfl) ⟨⟨k,0,rfl,rfl⟩,trivial⟩ (Xv (ty:=131) ⟨rfl,rfl,rfl⟩ (cs:=.int .i64 1::P) (ys:=[O,I,J]) E (Mp F C D rfl rfl)) (aXj p q) (fun r s=>r=.val (.one (.ptr 4 0))/\gH s 4 1 [-p,q] (.lit aA) (.lit aA)/\clean s=true) ⟨rfl,aXi p q,aXh p q⟩ ?_;rintro r s φ x a⟨rfl,j,hc⟩ hrel b;obtain⟨m,i,k1,o,u⟩:=j.at b cL cL;have hv:x=ptrB m:=cN (ν:=s.nums) (w:=a) k1 x hrel;exact⟨x,rfl,Chg.eF (RepF.below b hc),by rw[hv];exact Xu o u⟩
 ·obtain⟨L,M,N⟩:=aXk g;refine uD (φ:=ph1 1 k) (s:=Sg h) (vs:=[tH]) (args:=[ptrB k]) (bF func49 rfl rfl) (cZ qO) uG (by kernel_rfl) ⟨⟨k,0,rfl,rfl⟩,trivial⟩ (Xv (ty:=131) ⟨rfl,rfl,rfl⟩ (cs:=[.int .i64 h]) (ys:=R) d ⟨rfl,trivial⟩) L (fun r s=>r=.val (.one (.ptr 3 0))/\gH s 3 5 [0,0] (.ptr 1 0) (.lit aA)/\clean s=true) ⟨rfl,M,N⟩ ?_;rintro r s φ x a⟨rfl,l,hc⟩ hrel b;obtain⟨m,i,k1,o,u⟩:=l.at b (cN (b.base 1 (k,0) rfl)) cL;have hv:x=ptrB m:=cN (ν:=s.nums) (w:=a) k1 x hrel;have f:Chg w a []:=Chg.eF (RepF.below b hc)
  have H:Bh t=.neg t:=by
   cases t with
   |fr p q=>exact absurd rfl (j p q)
   |_=>rfl
  refine⟨x,rfl,f,?_⟩;rw[hv,H];exact⟨m,i,[0,0],aI,ptrB k,aA,rfl,o,u,rfl,fun z A=>jX z (by simp at A;simp[A]),rfl,rfl,aJ.aS f.on t _ y⟩
def dQ (w:World)(x:Option Wt)(e:Ending)(a:World):Prop:=Chg w a []/\match x with
 |none=>e=.returned (.tuple #[aA,.int .i64 5])
 |some t=>∃v,e=.returned (.tuple #[v,.int .i64 0])/\aJ a t v
variable {x:Option Wt}
theorem dQ.no {w b:World}{e:Ending}(d:x=none)(hc:Chg w b [])(a:e=.returned (.tuple #[aA,.int .i64 5])):dQ w x e b:=by subst d;exact⟨hc,a⟩
theorem dQ.yes {w b:World}{t:Wt}{e:Ending}{v:Value}(f:x=some t)(hc:Chg w b [])(a:e=.returned (.tuple #[v,.int .i64 0]))(d:aJ b t v):dQ w x e b:=by subst f;exact⟨hc,v,a,d⟩
theorem zW {w:World}{c:AC}{e:Int}{v:Value}(h:relT Z φ ν w (fW c e) v)(hc:∀x,relC Z φ ν w c x->x=g):v=.tuple #[g,.int .i64 e]:=by
 obtain⟨j,rfl,i⟩:=h
 match j,i with
 | [a,b],⟨f,d,_⟩=>
  have d:b=.int .i64 e:=d;rw[hc a f,d]
theorem aJt (l:Rf.fn op){t:Wt}{x:Value}(A:t.Ok)(B:aJ w t x):Calls prog 50 #[.int .i64 (aH op),x] w (dQ w (Mu op t)):=by
 have y:=Ls l;have O:aH op=11↔op=.exp:=Mr l;obtain⟨k,rfl,⟨p,q,rfl,Y,X,R,S,L,M,H,I,_⟩|⟨P,u,j,zs,i⟩⟩:=Nv A B
 ·obtain⟨C,D,E,T,U,W⟩:=aW2 p q y;refine uD (φ:=ph1 1 k) (s:=Cy (aH op) p q) (vs:=[yC (aH op),tH]) (args:=[.int .i64 (aH op),ptrB k]) (bF func50 rfl rfl) (cZ qO) uG (by kernel_rfl) ⟨rfl,⟨k,0,rfl,rfl⟩,trivial⟩ (Xv (ty:=131) ⟨rfl,rfl,rfl⟩ (cs:=.int .i64 1::Y) (ys:=[X,R,S]) L (Mp M H I rfl rfl)) C (fun r s=>clean s=true/\((p<0/\r=fW (.lit aA) 5)\/(p=0/\r=fW (.ptr 4 0) 0/\gH s 4 1 [if aH op=11 then 1 else 0,1] (.lit aA) (.lit aA))\/(0<p/\r=fW (.ptr 3 0) 0/\gH s 3 (aH op) [0,0] (.ptr 1 0) (.lit aA)))) ?_ ?_
  ·rcases Int.lt_trichotomy p 0 with h|h|h
   ·refine⟨fun _=>⟨D,Or.inl ⟨h,rfl⟩⟩,fun e=>?_⟩;rw[iV h]at e;cases e
   ·have J:Nm.cmp p 0=0:=iU h;rw[J];exact⟨fun e=>(by cases e),fun _=>⟨fun _=>⟨T,Or.inr (Or.inl ⟨h,rfl,E⟩)⟩,fun e=>by cases e⟩⟩
   ·rw[gX h];exact⟨fun e=>(by cases e),fun _=>⟨fun e=>(by cases e),fun _=>⟨W,Or.inr (Or.inr ⟨h,rfl,U⟩)⟩⟩⟩
  ·rintro r s φ x F⟨hc,h⟩ hrel b;have a:Chg w F []:=Chg.eF (RepF.below b hc)
   rcases h with⟨h,rfl⟩|⟨h,rfl,g⟩|⟨h,rfl,g⟩
   ·exact .no (show(if p<0 then _ else _)=_ from if_pos h) a (by rw[zW hrel cL])
   ·obtain⟨m,f,k1,o,d⟩:=g.at b cL cL
    have:(if aH op=11 then(1:Int)else 0)=if op=.exp then 1 else 0:=by simp only[O]
    rw[this]at d;exact .yes (show(if p<0 then _ else if p=0 then _ else _)=_ by rw[if_neg (by omega),if_pos h]) a (by rw[zW hrel (cN k1)]) (Xu o d)
   ·obtain⟨m,f,k1,o,d⟩:=g.at b (cN (b.base 1 (k,0) rfl)) cL;exact .yes (t:=.fn op (.fr p q)) (v:=ptrB m) (show(if p<0 then _ else if p=0 then _ else some (Wt.fn op (.fr p q)))=_ by rw[if_neg (by omega),if_neg (by omega)]) a (by rw[zW hrel (cN k1)]) ⟨m,f,[0,0],aI,ptrB k,aA,rfl,o,d,rfl,fun z n=>jX z (by simp at n;simp[n]),rfl,rfl,aJ.aS a.on (.fr p q) _ B⟩
 ·obtain⟨C,D,E⟩:=aW3 (aH op) j;refine uD (φ:=ph1 1 k) (s:=Rs (aH op) u) (vs:=[yC (aH op),tH]) (args:=[.int .i64 (aH op),ptrB k]) (bF func50 rfl rfl) (cZ qO) uG (by kernel_rfl) ⟨rfl,⟨k,0,rfl,rfl⟩,trivial⟩ (Xv (ty:=131) ⟨rfl,rfl,rfl⟩ (cs:=[.int .i64 u]) (ys:=zs) i ⟨rfl,trivial⟩) C (fun r s=>r=fW (.ptr 3 0) 0/\gH s 3 (aH op) [0,0] (.ptr 1 0) (.lit aA)/\clean s=true) ⟨rfl,D,E⟩ ?_;rintro r s φ x F⟨rfl,g,hc⟩ hrel b;have a:Chg w F []:=Chg.eF (RepF.below b hc);obtain⟨m,f,k1,o,d⟩:=g.at b (cN (b.base 1 (k,0) rfl)) cL
  have N:Mu op t=some (.fn op t):=by
   cases t with
   |fr p q=>exact absurd rfl (P p q)
   |_=>rfl
  exact .yes (v:=ptrB m) N a (by rw[zW hrel (cN k1)]) ⟨m,f,[0,0],aI,ptrB k,aA,rfl,o,d,rfl,fun z n=>jX z (by simp at n;simp[n]),rfl,rfl,aJ.aS a.on t _ B⟩
end
variable {b:Int}
theorem Zr {t:Int}(a:b≠0):0<aV t b:=by
 unfold aV;have:0<Nat.gcd t.natAbs b.natAbs:=Nat.gcd_pos_of_pos_right _ (by omega);omega
theorem aPW {t:Int}(a:b≠0):0<aL t b:=by
 have e:=Zr (t:=t) a
 have d2:aV t b ∣ b:=by
  unfold aV;exact Int.ofNat_dvd_left.2 (Nat.gcd_dvd_right _ _)
 unfold aL
 rcases Int.lt_or_lt_of_ne a with h|h
 ·rw[iV h];show 0 < -b/aV t b;have d:-b=aV t b*(-b/aV t b):=(Int.mul_ediv_cancel' (Int.dvd_neg.2 d2)).symm
  rcases Int.lt_or_le 0 (-b/aV t b)with h1|h1
  ·exact h1
  ·have:=Int.mul_nonpos_of_nonneg_of_nonpos (show(0:Int)<=aV t b by omega) h1;omega
 ·rw[gX h];show 0<b/aV t b;have d:b=aV t b*(b/aV t b):=(Int.mul_ediv_cancel' d2).symm
  rcases Int.lt_or_le 0 (b/aV t b)with h1|h1
  ·exact h1
  ·have:=Int.mul_nonpos_of_nonneg_of_nonpos (show(0:Int)<=aV t b by omega) h1;omega
variable {kk:Kind}
theorem aR1 {p a:Int}(f:0<q)(d:0<b)(g:¬(kk=.div/\a=0)):Ht (dA kk) p q a b≠0:=by
 cases kk with
 |add=>exact ne_of_gt (mul_pos f d)
 |sub=>exact ne_of_gt (mul_pos f d)
 |mul=>exact ne_of_gt (mul_pos f d)
 |div=>exact Int.mul_ne_zero (by omega) (fun e=>g ⟨rfl,e⟩)
theorem Qx (a:Int):decide (Nm.cmp a 0=0)=decide (a=0):=by
 rcases Int.lt_trichotomy a 0 with h|h|h
 ·rw[iV h];simp;omega
 ·rw[iU h];simp[h]
 ·rw[gX h];simp;omega
variable {R:NN}
theorem Tp {q:LI}{sp:Spec}{e:FF}{stp:List (K (List AT))->Bool}(l:SpecOk Z n q sp)(D:bU Z e){f:PH}{nx:Nat}{rb:PH}{ns:AS->Option (AS×List Prop)}(N:∀b x,q b=some x->f.contains b=true)(E:De q ns){O:List (K (List AT))}{s:AS}{Y:XT}
  (ht:(run Z sp e (aK Z sp) stp k O s).bind (eD (eX f [] nx rb) ns)=some Y) (G:AT->AS->Prop) (H:List (K (List AT))->AS->Prop) (F:Y.ok G H)
  (hG:∀r j h v i,G r j->(∃U T,relT Z U T i r v)->RepW Z n q h j i->R (.returned v) i)
  (hH:∀g j,H g j->noFr g=true/\∀(d:List (K Act)) (h:LI) (a:Act) (i:World),(∀z y X,SR Z z y X g d)->Rep Z n q h j a i->gC Z.P R d .normal a i):
  ∀(d:List (K Act)) (φ:LI) (a:Act) (w:World),SR Z φ s.nums w O d->Rep Z n q φ s a w->gC Z.P R d .normal a w:=by
 intro d φ a w L hr;obtain⟨tr,h1,h2⟩:=aT ht;refine sI l D (pN mixed l) _ _ ?_ ?_ k O s tr h1 (Lx h2 F) d φ a w L hr
 ·rintro g j⟨S,p,A,B,C⟩ u h a' i o I;obtain⟨hf,hk⟩:=hH g S C;obtain⟨W,J⟩:=E _ _ _ _ _ _ _ A B I;exact hk u W a' i (fun z y X=>SR.any hf o) J
 ·rintro r j h v i⟨S,p,A,B,C⟩ hv M;exact hG r S _ v i C ⟨_,_,hv⟩ (aJH A B N M)
section
variable {w:World}{u:Wt}{k1:Nat}
theorem aLg {t:Wt}{m:Nat}{i:LB}(b:PartB n m (dA kk) i aI (ptrB k1) (ptrB p))(d:aU true n [0,0] i)(e:aJ n t (ptrB k1))(f:aJ n u (ptrB p)):aJ n (.two kk t u) (ptrB m):=
 ⟨m,i,[0,0],aI,ptrB k1,ptrB p,rfl,b,d,rfl,fun z a=>jX z (by simp at a;simp[a]),rfl,e,f⟩
theorem aKM {N:AS}{v:Int}{X:Tr}(g:N.tmps=[yC v,tH,Eu].map .val++List.replicate (f51.ntmps-3) .fX)(f:RepW Z w (phQ k1 k) (phQ k1 k) N w)(h:zE f51 N=some X)(G:AT->AS->Prop)(b:X.ok G fun _ _=>False)(e:∀r s φ a d,G r s->relT Z φ s.nums d r a->RepW Z w (phQ k1 k) φ s d->R (.returned a) d):Calls prog 51 #[.int .i64 v,ptrB k1,ptrB k] w R:=
 uD (s:=N) (vs:=[yC v,tH,Eu]) (args:=[.int .i64 v,ptrB k1,ptrB k]) (bF func51 rfl rfl) (cZ qO) uG g ⟨rfl,⟨k1,0,rfl,rfl⟩,⟨k,0,rfl,rfl⟩,trivial⟩ f h G b e
theorem Vf {N:AS}{b:Kind}{t:Wt}(i:N.tmps=[yC (dA b),tH,Eu].map .val++List.replicate (f51.ntmps-3) .fX)(h:RepW Z w (phQ k1 k) (phQ k1 k) N w)(j:zE f51 N=some (.ret (fW (.ptr 3 0) 0) (lP f51 N []))/\gH (lP f51 N []) 3 (dA b) [0,0] (.ptr 1 0) (.ptr 2 0)/\clean (lP f51 N [])=true)(f:yJ b t u=some (.two b t u))(g:aJ w t (ptrB k1))(l:aJ w u (ptrB k)):Calls prog 51 #[.int .i64 (dA b),ptrB k1,ptrB k] w (dQ w (yJ b t u)):=by
 obtain⟨q,x,y⟩:=j;refine aKM i h q (fun r s=>r=fW (.ptr 3 0) 0/\gH s 3 (dA b) [0,0] (.ptr 1 0) (.ptr 2 0)/\clean s=true) ⟨rfl,x,y⟩ ?_;rintro r s φ v z⟨rfl,e,hc⟩ hrel d;have a:Chg w z []:=Chg.eF (RepF.below d hc);obtain⟨m,ys,n,o,p⟩:=e.at d (cN (d.base 1 (k1,0) rfl)) (cN (d.base 2 (k,0) rfl));exact .yes (v:=ptrB m) f a (by rw[zW hrel (cN n)]) (aLg o p (aJ.aS a.on t _ g) (aJ.aS a.on u _ l))
theorem Xd {a:Nat}:∀b x,phQ k a b=some x->[1,2].contains b=true:=by
 intro b x e
 match b,e with
 |0,e=>cases e
 |1,_=>rfl
 |2,_=>rfl
 |b+3,e=>cases e
theorem aIx (f:Kind){t:Wt}{x:Value}(al:t.Ok)(U:aJ w t x)(E:u.Ok)(J:aJ w u g):Calls prog 51 #[.int .i64 (dA f),x,g] w (dQ w (yJ f t u)):=by
 obtain⟨k1,rfl,⟨p,q,rfl,xs,tv,lv,rv,hB,hH,bp,bq,hq⟩|⟨hn,C,j,zs,D⟩⟩:=Nv al U
 ·obtain⟨k,rfl,⟨a,b,rfl,R,N,L,M,F,H,ba,W,hb⟩|⟨I,o,z,S,i⟩⟩:=Nv E J
  ·have d:∀tm,RepW Z w (phQ k1 k) (phQ k1 k) (rD p q a b tm) w:=fun tm=>Xw ⟨rfl,rfl,rfl⟩ ⟨rfl,rfl,rfl⟩ (cs:=.int .i64 1::xs) (ys:=[tv,lv,rv]) hB (Mp hH bp bq rfl rfl) (cs2:=.int .i64 1::R) (ys2:=[N,L,M]) F (Mp H ba W rfl rfl)
   have X:¬(f=.div/\a=0)->∀(B:List (K Act)) (az:LI) (a':Act) (O:World),(∀T ay w1,SR Z T ay w1 (.code (.region rO.1 rO.2.1 true)::rO.2.2) B)->Rep Z w (phQ k1 k) az (rD p q a b (Kw (dA f))) a' O->gC Z.P (dQ w (yJ f (.fr p q) (.fr a b))) B .normal a' O:=by
    intro Y B T a1 w1 aa am;have hW:yJ f (.fr p q) (.fr a b)=some (.fr (wL f p q a b) (wK f p q a b)):=if_neg Y;obtain⟨W,bj,bd⟩:=aWP
    match B,aa T [] w1 with
    |.code cc::ad,⟨ak,ab⟩=>
    subst ak;show(Code.region rO.1 rO.2.1 true).wp Z.P _ a1 w1;refine Lr mixed (cZ qO) bj W (aZm p q a b (dA f)) (bL (Zr (aR1 hq hb Y))) am ?_;intro bu a2 w2 ao;rw[bd];show gC Z.P _ (.ops rO.2.1 [10,11,12]::ad) .normal a2 w2;obtain⟨t1,t2,t3⟩:=bA0 p q a b f;refine sI (cZ qO) uG (pN mixed (cZ qO)) (fun r s=>r=fW (.ptr 14 0) 0/\gH s 14 1 [wL f p q a b,wK f p q a b] (.lit aA) (.lit aA)/\clean s=true) (fun _ _=>False) (fun _ _ h=>h.elim) ?_ _ _ _ _ t1 ⟨rfl,t2,t3⟩ _ _ a2 w2 ⟨rfl,rfl,SR.any frO ab⟩ ao;rintro r s φ x O⟨rfl,hI,hc⟩ hrel A;have n:Chg w O []:=Chg.eF (RepF.below A hc);obtain⟨m,ys,j1,j2,j3⟩:=hI.at A cL cL;exact .yes (v:=ptrB m) hW n (by rw[zW hrel (cN j1)]) (Xu j2 j3)
   refine nV (bF func51 rfl rfl) (φ:=phQ k1 k) (vs:=[yC (dA f),tH,Eu]) (args:=[.int .i64 (dA f),ptrB k1,ptrB k]) (s:=Sp (dA f) p q a b) (by kernel_rfl) ⟨rfl,⟨k1,0,rfl,rfl⟩,⟨k,0,rfl,rfl⟩,trivial⟩ (d _) ?_
   by_cases y:f=.div
   ·subst y;refine Tp (cZ qO) uG Xd (jD Xd) (aVY p q a b) (fun r s=>a=0/\r=fW (.lit aA) 5/\s.dirty=[]) (fun ks s=>a≠0/\ks=.code (.region rO.1 rO.2.1 true)::rO.2.2/\s=rD p q a b (Kw 9)) ?_ ?_ ?_
    ·rw[Qx];exact⟨fun e=>⟨by simpa using e,rfl,rfl⟩,fun e=>⟨by simpa using e,rfl,rfl⟩⟩
    ·rintro r s φ x O⟨h0,rfl,y⟩⟨bt,bs,hrel⟩ A;exact .no (show(if _ then none else _)=none from if_pos ⟨rfl,h0⟩) (qN A y) (by rw[zW hrel cL])
    ·rintro ks s⟨h0,rfl,rfl⟩;exact⟨by simpa[noFr]using frO,X fun e=>h0 e.2⟩
   ·refine cC (cZ qO) uG Xd (jD Xd) (aXp p q a b y) (fun _ _=>False) (fun ks s=>ks=.code (.region rO.1 rO.2.1 true)::rO.2.2/\s=rD p q a b (Kw (dA f))) ⟨rfl,rfl⟩ (fun _ _ _ _ _ h=>h.elim) ?_;rintro ks s⟨rfl,rfl⟩;exact⟨by simpa[noFr]using frO,X fun e=>y e.1⟩
  ·have d:RepW Z w (phQ k1 k) (phQ k1 k) (Bl (dA f) p q o) w:=Xw ⟨rfl,rfl,rfl⟩ ⟨rfl,rfl,rfl⟩ (cs:=.int .i64 1::xs) (ys:=[tv,lv,rv]) hB (Mp hH bp bq rfl rfl) (cs2:=[.int .i64 o]) (ys2:=S) i ⟨rfl,trivial⟩;refine Vf (by kernel_rfl) d (aXq p q f z) ?_ U J
   cases u with
   |fr p q=>exact absurd rfl (I p q)
   |_=>rfl
 ·obtain⟨k,rfl,⟨a,b,rfl,R,N,L,M,F,H,ba,W,hb⟩|⟨I,o,z,S,i⟩⟩:=Nv E J
  ·have d:RepW Z w (phQ k1 k) (phQ k1 k) (oP (dA f) C a b) w:=Xw ⟨rfl,rfl,rfl⟩ ⟨rfl,rfl,rfl⟩ (cs:=[.int .i64 C]) (ys:=zs) D ⟨rfl,trivial⟩ (cs2:=.int .i64 1::R) (ys2:=[N,L,M]) F (Mp H ba W rfl rfl)
   have l:yJ f t (.fr a b)=if f=.div/\a=0 then none else some (.two f t (.fr a b)):=by
    cases t with
    |fr p q=>exact absurd rfl (hn p q)
    |_=>rfl
   by_cases y:f=.div
   ·subst y;obtain⟨t1,t2,t3,t4⟩:=aVZ a b j;refine aKM (by kernel_rfl) d t1 (fun r s=>clean s=true/\((a=0/\r=fW (.lit aA) 5)\/(a≠0/\r=fW (.ptr 3 0) 0/\gH s 3 9 [0,0] (.ptr 1 0) (.ptr 2 0)))) ?_ ?_
    ·rw[Qx];refine⟨fun e=>⟨t2,Or.inl ⟨by simpa using e,rfl⟩⟩,fun e=>⟨t4,Or.inr ⟨by simpa using e,rfl,t3⟩⟩⟩
    ·rintro r s φ x O⟨hc,h⟩ hrel A;have n:Chg w O []:=Chg.eF (RepF.below A hc)
     rcases h with⟨h,rfl⟩|⟨h,rfl,hI⟩
     ·exact .no (by rw[l,if_pos ⟨rfl,h⟩]) n (by rw[zW hrel cL])
     ·obtain⟨m,ys,j1,j2,j3⟩:=hI.at A (cN (A.base 1 (k1,0) rfl)) (cN (A.base 2 (k,0) rfl));exact .yes (v:=ptrB m) (by rw[l,if_neg (fun e=>h e.2)]) n (by rw[zW hrel (cN j1)]) (aLg (kk:=.div) j2 j3 (aJ.aS n.on t _ U) (aJ.aS n.on _ _ J))
   ·exact Vf (by kernel_rfl) d (aXr a b y j) (by rw[l,if_neg (fun e=>y e.1)]) U J
  ·have d:RepW Z w (phQ k1 k) (phQ k1 k) (rB (dA f) C o) w:=Xw ⟨rfl,rfl,rfl⟩ ⟨rfl,rfl,rfl⟩ (cs:=[.int .i64 C]) (ys:=zs) D ⟨rfl,trivial⟩ (cs2:=[.int .i64 o]) (ys2:=S) i ⟨rfl,trivial⟩
   have l:yJ f t u=some (.two f t u):=by
    cases u with
    |fr p q=>exact absurd rfl (I p q)
    |_=>cases t<;>rfl
   by_cases y:f=.div
   ·subst y;exact Vf (by kernel_rfl) d (aV0 j z) l U J
   ·exact Vf (by kernel_rfl) d (aXs y o j) l U J
end
end Ab
def yP (x:Rd.Wd):Value:=.agg #[.int .i64 x.kind,.string x.text,.int .i64 x.pos]
variable {p:Nat}{d:List Rd.Wd}
theorem Rdr.cells {w:World}{o g:Nat}{st:Rd.St}(h:Rdr w o g p d st)(n:Nat)(l:n<d.length):
  w.cell? ⟨g,n*3,none⟩=some (.int .i64 (Rd.aB d n).kind)/\w.cell? ⟨g,n*3+1,none⟩=some (.string (Rd.aB d n).text)/\w.cell? ⟨g,n*3+2,none⟩=some (.int .i64 (Rd.aB d n).pos):=by
 obtain⟨f,j,k⟩:=h.row
 have e:∀i v,i<d.length*3->(Rd.eC d)[i]?=some v->w.cell? ⟨g,i,none⟩=some v:=by
  intro i v hi hv;refine bH j ?_;rw[<-k,List.getElem?_take_of_lt hi]at hv
  simpa using hv
 obtain⟨a,b,c⟩:=Rd.aO9 d n l;exact⟨e _ _ (by omega) a,e _ _ (by omega) b,e _ _ (by omega) c⟩
theorem aT4 (w:World)(f g b:Nat)(a:List Rd.Wd)(st:Rd.St)(h:Rdr w f g b a st)(l:st.next<a.length):
  Calls prog 66 #[.pointer (some ⟨f,0,none⟩)] w fun e n=>e=.returned (yP (Rd.aB a st.next))/\Below w.heap.size w n:=by
 have c0:=h.c0;have c1:=h.c1;obtain⟨o,p,q⟩:=h.cells st.next l;have k:=h.lt
 have d:g<w.heap.size:=by obtain⟨i,j,_⟩:=h.row;exact fQ j
 clear h
 go_enter func66,ntmps66
 go_wp2_with fail
 go_quiet (fail)
 go_wp2_with fail
 go_region
 all_goals go_wp2_with fail
 exact bodyPost_ret (v:=.agg #[.int .i64 (Rd.aB a st.next).kind,.string (Rd.aB a st.next).text,.int .i64 (Rd.aB a st.next).pos]) (by simp[results,results66,go_sem]) rfl
  ⟨rfl,(((below_drewN ((Below.refl _ _).alloc (le_refl _) _) _).setCell (le_refl _) _).setCell (le_refl _) _).setCell (le_refl _) _⟩
theorem aQ0 (w:World)(b g a:Nat)(d:List Rd.Wd)(st:Rd.St)(h:Rdr w b g a d st)(j:¬st.next<d.length):
  Calls prog 66 #[.pointer (some ⟨b,0,none⟩)] w fun e i=>e=.returned (.agg #[.int .i64 0,.string ⟨#[]⟩,.int .i64 0])/\Below w.heap.size w i:=by
 have c0:=h.c0;have c1:=h.c1;have f:=h.lt;clear h
 go_enter func66,ntmps66
 go_wp2_with fail
 go_quiet (fail)
 go_wp2_with fail
 exact bodyPost_ret (v:=.agg #[.int .i64 0,.string ⟨#[]⟩,.int .i64 0]) (by simp[results,results66,go_sem]) rfl
  ⟨rfl,(((below_drewN ((Below.refl _ _).alloc (le_refl _) _) _).setCell (le_refl _) _).setCell (le_refl _) _).setCell (le_refl _) _⟩
theorem Ii (w:World)(d g a:Nat)(b:List Rd.Wd)(st:Rd.St)(h:Rdr w d g a b st):
  Calls prog 66 #[.pointer (some ⟨d,0,none⟩)] w fun e i=>e=.returned (yP (Rd.aB b st.next))/\Below w.heap.size w i:=by
 by_cases f:st.next<b.length
 ·exact aT4 w d g a b st h f
 ·have e:Rd.aB b st.next=⟨0,⟨#[]⟩,0⟩:=by
   unfold Rd.aB List.getD;rw[List.getElem?_eq_none (by omega)];rfl
  rw[e];exact aQ0 w d g a b st h f
namespace Rd
abbrev Tr:=Go.Deep.BT (Int×Int×List Int)
def dD (k v:Int)(ts:LN):Tr:=.node 0 0 (k,v,ts) .nil .nil
def fD (k:Int)(x:Tr):Tr:=.node 0 0 (k,0,[]) x .nil
def jF (k:Int)(l r:Tr):Tr:=.node 0 0 (k,0,[]) l r
def tk (a:List Wd)(st:St)(c:ByteArray):Bool:=(!((aB a st.next).kind==0))&&isT (aB a st.next).text c.data.toList
def St.ok (st:St):Prop:=st.next<1000/\st.around<1000/\st.deepest<1000/\st.nodes<1000
def St.okB (st:St):Bool:=decide (st.next<1000/\st.around<1000/\st.deepest<1000/\st.nodes<1000)
def St.leaf (st:St):St:={st with nodes:=st.nodes+1,deepest:=bif decide (st.deepest<st.around)then st.around else st.deepest}
def St.node (st:St):St:={st with nodes:=st.nodes+1}
def St.aM (st:St):St:={st with next:=st.next+1}
def St.lI (st:St):St:={st with around:=st.around+1}
def St.out (st:St):St:={st with around:=st.around-1}
def St.fV (st:St):Bool:=st.okB&&decide (1<=st.around)
theorem St.yZ {st:St}(h:st.okB=true):st.ok:=by simpa[St.okB,St.ok]using h
abbrev pV:=Option (Option Tr×St)
def term (a:List Wd)(st:St):Int×St:=
 bif (aB a st.next).kind==1 then
  bif valTo (aB a st.next).text (aB a st.next).text.size==0 then(0,st)else(valTo (aB a st.next).text (aB a st.next).text.size,st.aM)
 else(0,st)
def terms (a:List Wd):Nat->Nat->List Int->St->Option (Option (List Int)×St)
 |0,_,_,_=>none
 |f+1,c,ts,st=>
  bif st.okB&&(term a st).2.okB then
   bif (term a st).1==0 then some (none,(term a st).2)
   else bif tk a (term a st).2 ⟨#[93]⟩then some (some (ts++[(term a st).1]),(term a st).2.aM)
   else bif c==8 then some (none,(term a st).2)
   else bif tk a (term a st).2 ⟨#[44]⟩then terms a f (c+1) (ts++[(term a st).1]) (term a st).2.aM
   else some (none,(term a st).2)
  else none
def lO:Option (Option (List Int)×St)->pV
 |none=>none
 |some (none,st)=>some (none,st)
 |some (some ts,st)=>bif st.okB then some (some (dD 4 0 ts),st.leaf)else none
def continued (a:List Wd)(st:St):pV:=
 bif decide (st.next<900)&&st.okB then
  bif tk a st ⟨#[91]⟩then
   bif (aB a st.aM.next).kind==1 then
    bif tk a st.aM.aM ⟨#[59]⟩then lO (terms a 8 1 [valTo (aB a st.aM.next).text (aB a st.aM.next).text.size] st.aM.aM.aM)
    else some (none,st.aM.aM)
   else some (none,st.aM)
  else some (none,st)
 else none
def eB (k:Int):Option Tr->St->pV
 |none,st=>some (none,st)
 |some x,st=>bif st.okB then some (some (fD k x),st.node)else none
def operOf (k:Int)(l:Tr):Option Tr->St->pV
 |none,st=>some (none,st)
 |some r,st=>bif st.okB then some (some (jF k l r),st.node)else none
def pV.next (a:pV)(f:Option Tr->St->pV):pV:=
 match a with
 |none=>none
 |some (x,st)=>f x st
def nameOf (d:List Wd)(k:Int)(st:St)(b:St->pV):pV:=
 bif k==0 then some (none,st)
 else bif k==2||k==3 then(bif st.aM.okB then some (some (dD k 0 []),st.aM.leaf)else none)
 else bif k==4 then continued d st.aM
 else(b st.aM).next fun x a=>eB k x a
def iE (a:List Wd)(x:Option Tr)(st:St):pV:=
 bif st.fV then
  match x with
  |none=>some (none,st.out)
  |some t=>bif tk a st.out ⟨#[41]⟩then some (some t,st.out.aM)else some (none,st.out)
 else none
def parse (a:List Wd):Nat->Nat->Option Tr->St->pV
 |0,_,_,_=>none
 |f+1,0,_,st=>(parse a f 2 none st).next fun l g=>parse a f 1 l g
 |_+1,1,none,st=>some (none,st)
 |f+1,1,some l,st=>
  bif st.okB then
   bif tk a st ⟨#[43]⟩then(parse a f 2 none st.aM).next fun r b=>(operOf 6 l r b).next fun e d=>parse a f 1 e d
   else bif tk a st ⟨#[45]⟩then(parse a f 2 none st.aM).next fun r b=>(operOf 7 l r b).next fun e d=>parse a f 1 e d
   else some (some l,st)
  else none
 |f+1,2,_,st=>(parse a f 4 none st).next fun l g=>parse a f 3 l g
 |_+1,3,none,st=>some (none,st)
 |f+1,3,some l,st=>
  bif st.okB then
   bif tk a st ⟨#[42]⟩then(parse a f 4 none st.aM).next fun r b=>(operOf 8 l r b).next fun e d=>parse a f 3 e d
   else bif tk a st ⟨#[47]⟩then(parse a f 4 none st.aM).next fun r b=>(operOf 9 l r b).next fun e d=>parse a f 3 e d
   else some (some l,st)
  else none
 |f+1,4,_,st=>
  bif st.okB then
   bif tk a st ⟨#[45]⟩then(parse a f 4 none st.aM.lI).next fun x b=>bif b.fV then eB 5 x b.out else none
   else parse a f 5 none st
  else none
 |f+1,5,_,st=>
  bif st.okB then
   bif (aB a st.next).kind==1 then
    (bif st.aM.okB then some (some (dD 1 (valTo (aB a st.next).text (aB a st.next).text.size) []),st.aM.leaf)else none)
   else bif (aB a st.next).kind==2 then nameOf a (named (aB a st.next).text) st (fun h=>parse a f 6 none h)
   else parse a f 6 none st
  else none
 |f+1,_,_,st=>
  bif st.okB then
   bif tk a st ⟨#[40]⟩then(parse a f 0 none st.aM.lI).next fun x b=>iE a x b
   else some (none,st)
  else none
def read (f:Nat)(s:ByteArray):Option (Option Tr×Int×Int):=
 bif decide (120<s.size)then some (none,1,0)
 else
  match parse (split s (s.size+1) 0) f 0 none ⟨0,0,0,0⟩with
  |none=>none
  |some (none,st)=>some (none,2,(aB (split s (s.size+1) 0) st.next).pos)
  |some (some t,st)=>
   bif (aB (split s (s.size+1) 0) st.next).kind==0 then
    bif decide (12<st.deepest)||decide (40<st.nodes)then some (none,3,0)else some (some t,0,0)
   else some (none,2,(aB (split s (s.size+1) 0) st.next).pos)
end Rd
theorem aLc (w:World)(i g b:Nat)(a:List Rd.Wd)(st:Rd.St)(c:ByteArray)(h:Rdr w i g b a st)(q:st.next<1000):
  Calls prog 94 #[.pointer (some ⟨i,0,none⟩),.string c] w fun e k=>e=.returned (.bool (Rd.tk a st c))/\Rdr k i g b a (bif Rd.tk a st c then {st with next:=st.next+1} else st)/\bE i w k:=by
 have f:=Ii w i g b a st h;unfold yP at f
 have n:Hid (Rd.tk a st c=((!((Rd.aB a st.next).kind==0))&&((Rd.aB a st.next).text.toList==c.toList))):=by
  show _=_;rw[Rd.aRp,ByteArray.toList_eq];rfl
 generalize Rd.aB a st.next=x at*;have l:Hid (Calls prog 66 #[.pointer (some ⟨i,0,none⟩)] w fun e k=>e=.returned (.agg #[.int .i64 x.kind,.string x.text,.int .i64 x.pos])/\Below w.heap.size w k):=f;clear f;cases o:(x.kind==0)
 all_goals cases p:(x.text.toList==c.toList)
 all_goals
  go_enter func94,ntmps94
  go_wp2_with fail
  refine(l.out).mono ?_;rintro e s⟨rfl,j⟩;have d:=h.below j;have d1:=d.c1;have f1:=d.fz 1;have r:=d.lt
  go_wp2_with fail
  go_ret
  rw[n.out,o,p]
 ·exact⟨rfl,d.alloc _,(bE.eF j).alloc _⟩
 ·exact⟨rfl,(d.yL (st.next+1) (by simp)).alloc _,((bE.eF j).setCell 1 _).alloc _⟩
 ·exact⟨rfl,d.alloc _,(bE.eF j).alloc _⟩
 ·exact⟨rfl,d.alloc _,(bE.eF j).alloc _⟩
theorem Vd (w:World)(b g a:Nat)(f:List Rd.Wd)(st:Rd.St)(v:Value)(h:Rdr w b g a f st)(i:st.ok):
  Calls prog 156 #[.pointer (some ⟨b,0,none⟩),v] w fun e d=>e=.returned v/\Rdr d b g a f st.leaf/\bE b w d:=by
 obtain⟨b1,b2,j,b4⟩:=i;have d2:=h.c2;have d3:=h.c3;have k:=h.c4;have f3:=h.fz 3;have l:=h.fz 4;have n:=h.lt
 by_cases t:(st.deepest:Int)<st.around
 ·go_enter func156,ntmps156
  go_wp2_with fail
  go_quiet (fail)
  go_wp2_with fail
  go_ret
  have e:st.leaf={ {st with nodes:=st.nodes+1} with deepest:=st.around}:=by simp[Rd.St.leaf,show st.deepest<st.around by omega]
  rw[e];exact⟨rfl,((h.Fb (st.nodes+1) (by simp)).drewN _).tQ st.around rfl,(((bE.refl _ _).setCell 4 _).drewN _).setCell 3 _⟩
 ·go_enter func156,ntmps156
  go_wp2_with fail
  go_quiet (fail)
  go_wp2_with fail
  go_ret
  have e:st.leaf={st with nodes:=st.nodes+1}:=by simp[Rd.St.leaf,show¬st.deepest<st.around by omega]
  rw[e];exact⟨rfl,(h.Fb (st.nodes+1) (by simp)).drewN _,((bE.refl _ _).setCell 4 _).drewN _⟩
theorem aI2 (w:World)(r:Value)(a:Int):
  Calls prog 138 #[r,.int .i64 a,.pointer none] w fun e b=>e=.returned (.pointer none)/\w=b:=by
 go_enter func138,ntmps138
 go_wp2_with fail
 go_ret
 exact⟨rfl,rfl⟩
theorem kO (w:World)(o:Obj):(w.alloc o).heap[w.heap.size]?=some o:=by
 show(w.heap.push o)[w.heap.size]?=some o;simp
theorem Ie (w:World)(a:Addr)(u:Value):(w.setCell a u).heap.size=w.heap.size:=by simp[World.setCell]
theorem aGB (w:World)(d g b:Nat)(j:List Rd.Wd)(st:Rd.St)(i:Int)(a:Addr)(h:Rdr w d g b j st)(k:st.ok):
  Calls prog 138 #[.pointer (some ⟨d,0,none⟩),.int .i64 i,.pointer (some a)] w fun e f=>e=.returned (.pointer (some ⟨w.heap.size,0,none⟩))/\Rdr f d g b j st.node/\bE d w f/\
   f.heap[w.heap.size]?=some (.cells #[.int .i64 i,.int .i64 0,.slice none 0 0,.pointer (some a),.pointer none] 91 (0,0)):=by
 obtain⟨b1,b2,l,b4⟩:=k;have n:=h.c4;have o:=h.fz 4;have p:=h.lt
 go_enter func138,ntmps138
 go_wp2_with fail
 go_ret
 refine⟨rfl,(h.Fb (st.nodes+1) (by simp)).alloc _,((bE.refl _ _).setCell 4 _).alloc _,?_⟩;rw[<-Ie w ⟨d,4,none⟩ (.int .i64 (st.nodes+1))];exact kO _ _
theorem Tw (w:World)(r l:Value)(a:Int):
  Calls prog 95 #[r,.int .i64 a,l,.pointer none] w fun e b=>e=.returned (.pointer none)/\w=b:=by
 go_enter func95,ntmps95
 go_wp2_with fail
 go_ret
 exact⟨rfl,rfl⟩
theorem Tu (w:World)(f g d:Nat)(k:List Rd.Wd)(st:Rd.St)(j:Int)(a b:Addr)(h:Rdr w f g d k st)(l:st.ok):
  Calls prog 95 #[.pointer (some ⟨f,0,none⟩),.int .i64 j,.pointer (some a),.pointer (some b)] w fun e i=>e=.returned (.pointer (some ⟨w.heap.size,0,none⟩))/\Rdr i f g d k st.node/\bE f w i/\
   i.heap[w.heap.size]?=some (.cells #[.int .i64 j,.int .i64 0,.slice none 0 0,.pointer (some a),.pointer (some b)] 91 (0,0)):=by
 obtain⟨b1,b2,n,b4⟩:=l;have o:=h.c4;have p:=h.fz 4;have q:=h.lt
 go_enter func95,ntmps95
 go_wp2_with fail
 go_ret
 refine⟨rfl,(h.Fb (st.nodes+1) (by simp)).alloc _,((bE.refl _ _).setCell 4 _).alloc _,?_⟩;rw[<-Ie w ⟨f,4,none⟩ (.int .i64 (st.nodes+1))];exact kO _ _
open Go.Deep (BT)
def dH (e:Nat)(w:World)(ts:LN)(d:Value):Prop:=
 (ts=[]/\d=.slice none 0 0)\/∃tb a b,d=.slice (some ⟨tb,0,none⟩) ts.length a/\tb≠e/\w.heap[tb]?=some (.cells b 3 (0,0))/\ts.length<=a/\b.toList.take ts.length=ts.map (Value.int .i64)
def fZ (d:Nat)(w:World):Rd.Tr->Value->Prop
 |.nil,v=>v=.pointer none
 |.node _ _ a l r,v=>∃b g e f,v=.pointer (some ⟨b,0,none⟩)/\b≠d/\w.heap[b]?=some (.cells #[.int .i64 a.1,.int .i64 a.2.1,g,e,f] 91 (0,0))/\dH d w a.2.2 g/\fZ d w l e/\fZ d w r f
def xA (a:Nat)(w:World):Option Rd.Tr->Value->Prop
 |none,v=>v=.pointer none
 |some t,v=>(∃b,v=.pointer (some ⟨b,0,none⟩))/\fZ a w t v
variable {ts:LN}{x:Value}
theorem dH.aS {e:Nat}{w b:World}(h:dH e w ts x)(k:bE e w b):dH e b ts x:=by
 rcases h with h|⟨tb,a,d,i,f,g,j⟩
 ·exact Or.inl h
 ·exact Or.inr ⟨tb,a,d,i,f,by rw[k.block tb (fQ g) f];exact g,j⟩
theorem fZ.aS {f:Nat}{w k:World}(j:bE f w k):∀{t:Rd.Tr} {v:Value},fZ f w t v->fZ f k t v:=by
 intro t
 induction t with
 |nil=>intro v h;exact h
 |node _ _ a l r d e=>
  intro v h;obtain⟨b,x,s,u,n,g,i,o,p,q⟩:=h;exact⟨b,x,s,u,n,g,by rw[j.block b (fQ i) g];exact i,o.aS j,d p,e q⟩
variable {w:Nat}
theorem Co {b:Nat}{n:World}{k z:Int}{g e:Value}{l r:Rd.Tr}(a:b≠w)(h:n.heap[b]?=some (.cells #[.int .i64 k,.int .i64 z,x,g,e] 91 (0,0)))
  (i:dH w n ts x) (d:fZ w n l g) (f:fZ w n r e):xA w n (some (.node 0 0 (k,z,ts) l r)) (.pointer (some ⟨b,0,none⟩)):=
 ⟨⟨b,rfl⟩,b,x,g,e,rfl,a,h,i,d,f⟩
def kV (a:List Rd.Wd):Prop:=∀n,(Rd.aB a n).kind=1->(Rd.aB a n).text.size<=9
theorem aQD (w:World)(i g b:Nat)(a:List Rd.Wd)(st:Rd.St)(h:Rdr w i g b a st)(z:st.next<1000)(n:kV a):
  Calls prog 182 #[.pointer (some ⟨i,0,none⟩)] w fun e o=>e=.returned (.int .i64 (Rd.term a st).1)/\Rdr o i g b a (Rd.term a st).2/\bE i w o:=by
 have d:=Ii w i g b a st h;unfold yP at d;have l:=n st.next;have s:Hid (Rd.term a st=bif (Rd.aB a st.next).kind==1 then bif Rd.valTo (Rd.aB a st.next).text (Rd.aB a st.next).text.size==0 then(0,st)else(Rd.valTo (Rd.aB a st.next).text (Rd.aB a st.next).text.size,st.aM)else(0,st)):=rfl;clear n;generalize Rd.aB a st.next=x at*;have j:Hid (Calls prog 66 #[.pointer (some ⟨i,0,none⟩)] w fun e o=>e=.returned (.agg #[.int .i64 x.kind,.string x.text,.int .i64 x.pos])/\Below w.heap.size w o):=d;have q:Hid (x.kind=1->x.text.size<=9):=l;clear d l;cases p:(x.kind==1)
 ·have v:(x.kind != 1)=true:=by simp[bne,p]
  go_enter func182,ntmps182
  go_wp2_with fail
  refine(j.out).mono ?_;rintro e y⟨rfl,f⟩
  go_wp2_with fail
  go_ret
  rw[s.out,p];exact⟨rfl,(h.below f).alloc _,(bE.eF f).alloc _⟩
 ·have r:x.text.size<=9:=q.out (by simpa using p);cases u:(Rd.valTo x.text x.text.size==0)
  all_goals
   go_enter func182,ntmps182
   go_wp2_with fail
   refine(j.out).mono ?_;rintro e y⟨rfl,f⟩;have k:=h.below f;have d1:=k.c1;have f1:=k.fz 1;have A:=k.lt
   go_wp2_with (go_at_call 155;refine(Zv _ _ _ _ r).mono ?_;rintro e o⟨rfl,rfl⟩)
   go_ret
   rw[s.out,p,u]
  ·exact⟨rfl,((k.yL (st.next+1) (by simp)).alloc _).alloc _,(((bE.eF f).setCell 1 _).alloc _).alloc _⟩
  ·exact⟨zB (by simpa using u),(k.alloc _).alloc _,((bE.eF f).alloc _).alloc _⟩
theorem xR (w:World)(b g a:Nat)(d:List Rd.Wd)(st:Rd.St)(c:ByteArray)(h:Rdr w b g a d st)(i:st.next<1000)(t:Rd.tk d st c=true):
  Calls prog 94 #[.pointer (some ⟨b,0,none⟩),.string c] w fun e f=>e=.returned (.bool true)/\Rdr f b g a d st.aM/\bE b w f:=by
 have:=aLc w b g a d st c h i;rw[t]at this;exact this
theorem uN (w:World)(b g a:Nat)(d:List Rd.Wd)(st:Rd.St)(c:ByteArray)(h:Rdr w b g a d st)(i:st.next<1000)(t:Rd.tk d st c=false):
  Calls prog 94 #[.pointer (some ⟨b,0,none⟩),.string c] w fun e f=>e=.returned (.bool false)/\Rdr f b g a d st/\bE b w f:=by
 have:=aLc w b g a d st c h i;rw[t]at this;exact this
def eP (b g a:Nat)(h:List Rd.Wd)(w:World)(res:Option Rd.Tr)(d:Rd.St)(e:Ending)(f:World):Prop:=
 ∃v,e=.returned v/\xA b f res v/\Rdr f b g a h d/\bE b w f
variable {b:World}
theorem eP.nil {k:Nat}{n:World}{a:Rd.St}(h:Rdr b w k p d a)(e:bE w n b):eP w k p d n none a (.returned (.pointer none)) b:=
 ⟨_,rfl,rfl,h,e⟩
variable {wr:World}{e:Nat}{i:LB}
theorem uA {k size n:Nat}(a:wr.ownsRow k e size x n i)(p:bE w wr b)(q:w<k):b.ownsRow k e size x n i:=by
 obtain⟨l,h⟩:=a;refine⟨l,?_⟩
 rcases h with h|⟨g,d,f,hv,o,j,r⟩
 ·exact Or.inl h
 ·exact Or.inr ⟨g,d,f,hv,o,by rw[p.block g (fQ j) (by omega)];exact j,r⟩
theorem Vc {n J:World}{B size a:Nat}(j:wr.ownsRow B e size x a i)(s:bE w n wr)(v:n.heap.size<=B)(o:Obj)(d:(wr.alloc o).grownBy J x.ownBlock):bE w n J:=by
 have b:=s.alloc o;refine⟨d.os.trans b.os,d.tape.trans b.tape,d.output.trans b.output,le_trans b.size d.size,fun k f u=>?_⟩;rw[d.block k (lt_of_lt_of_le f b.size) ?_]
 ·exact b.block k f u
 ·intro e
  rcases j.2 with⟨h,_⟩|⟨g,p,q,h,r,_⟩
  ·rw[h]at e;cases e
  ·rw[h]at e;simp only[Value.ownBlock,Option.some.injEq]at e;omega
theorem Wq {g:Nat}{v:List Rd.Wd}{st:Rd.St}{o size n:Nat}(h:Rdr wr w g p v st)(f:wr.ownsRow o e size x n i)(s:w<o)(r:g<o)(a:Obj)(z:(wr.alloc a).grownBy b x.ownBlock):Rdr b w g p v st:=by
 have q:=h.alloc a
 have j:∀k,k<o->k<(wr.alloc a).heap.size->b.heap[k]?=(wr.alloc a).heap[k]?:=by
  intro k D C;refine z.block k C ?_;intro e
  rcases f.2 with⟨h,_⟩|⟨g,p,d,h,A,_⟩
  ·rw[h]at e;cases e
  ·rw[h]at e;simp only[Value.ownBlock,Option.some.injEq]at e;omega
 obtain⟨d,u,y⟩:=q.row;exact⟨by rw[j w s q.lt];exact q.rd,⟨d,by rw[j g r (fQ u)];exact u,y⟩,q.ne⟩
theorem aOR {B n:Nat}{a:World}(b:a.ownsRow B 3 1 x n (ts.map (Value.int .i64)))(o:w<B)(l:n=ts.length)(p:0<n):dH w a ts x:=by
 rcases b.2 with⟨_,h⟩|⟨g,d,e,h,k,f,i,_,_,j⟩
 ·omega
 ·subst l;exact Or.inr ⟨g,d,e,h,by omega,f,i,by simpa using j⟩
theorem wF:(prog.info? 3).map (fun i=>(i.zero,i.size,i.bytes))=some (some (.int .i64 0),1,8):=by kernel_rfl
theorem aPw (w:World)(b g a:Nat)(d:List Rd.Wd)(st:Rd.St)(h:Rdr w b g a d st)(j:st.next<1000)(k:Rd.tk d st ⟨#[91]⟩=false):
  Calls prog 169 #[.pointer (some ⟨b,0,none⟩)] w (eP b g a d w none st):=by
 go_enter func169,ntmps169
 go_wp2_with fail
 refine(uN _ b g a d st _ h j k).mono ?_;rintro e l⟨rfl,i,f⟩
 go_wp2_with fail
 go_ret
 exact eP.nil i f
theorem aPx (w:World)(i g a:Nat)(b:List Rd.Wd)(st:Rd.St)(h:Rdr w i g a b st)(l:st.next<900)(k:Rd.tk b st ⟨#[91]⟩=true)(n:((Rd.aB b st.aM.next).kind != 1)=true):
  Calls prog 169 #[.pointer (some ⟨i,0,none⟩)] w (eP i g a b w none st.aM):=by
 go_enter func169,ntmps169
 go_wp2_with fail
 refine(xR _ i g a b st _ h (by omega) k).mono ?_;rintro e o⟨rfl,d,j⟩
 go_wp2_with fail
 refine(Ii _ i g a b _ d).mono ?_;unfold yP;rintro e p⟨rfl,f⟩
 go_wp2_with fail
 go_ret
 exact eP.nil ((d.below f).alloc _) ((j.trans (bE.eF f)).alloc _)
theorem aPy (w:World)(f g a:Nat)(d:List Rd.Wd)(st:Rd.St)(h:Rdr w f g a d st)(q:st.next<900)(o:Rd.tk d st ⟨#[91]⟩=true)(s:((Rd.aB d st.aM.next).kind != 1)=false)(p:Rd.tk d st.aM.aM ⟨#[59]⟩=false):
  Calls prog 169 #[.pointer (some ⟨f,0,none⟩)] w (eP f g a d w none st.aM.aM):=by
 have b1:st.aM.next<901:=by show st.next+1<901;omega
 go_enter func169,ntmps169
 go_wp2_with fail
 refine(xR _ f g a d st _ h (by omega) o).mono ?_;rintro e u⟨rfl,i,k⟩
 go_wp2_with fail
 refine(Ii _ f g a d _ i).mono ?_;unfold yP;rintro e v⟨rfl,j⟩;have b:=i.below j;have d1:=b.c1;have f1:=b.fz 1;have r:=b.lt
 go_wp2_with fail
 refine(uN _ f g a d st.aM.aM _ ((b.yL (st.aM.next+1) (by simp)).alloc _) (by show st.aM.next+1<1000;omega) p).mono ?_;rintro e x⟨rfl,n,l⟩
 go_wp2_with fail
 go_ret
 exact eP.nil n ((((k.trans (bE.eF j)).setCell 1 _).alloc _).trans l)
theorem aLu (w:World)(o a:Obj):((w.alloc o).alloc a).heap[w.heap.size+1]?=some a:=by
 have:=kO (w.alloc o) a
 simpa using this
theorem aJW {e:List Rd.Wd}{c:Nat}{b a:Rd.St}{v:Int}{R:Option (Option (List Int)×Rd.St)}{x:Option Rd.Tr×Rd.St}(h8:c<=8)(h:Rd.terms e (9-c) c ts b=R)(i:Rd.lO R=some x)(k:Rd.term e b=(v,a)):
  b.ok/\a.ok/\R=bif v==0 then some (none,a)else bif Rd.tk e a ⟨#[93]⟩then some (some (ts++[v]),a.aM)else bif c==8 then some (none,a)else bif Rd.tk e a ⟨#[44]⟩then Rd.terms e (9-(c+1)) (c+1) (ts++[v]) a.aM else some (none,a):=by
 obtain⟨f,j⟩:∃f,9-c=f+1:=⟨8-c,by omega⟩
 have g:9-(c+1)=f:=by omega
 rw[j,Rd.terms,k]at h;rw[g]
 cases d:(b.okB&&a.okB)with
 |false=>
  simp only[d,cond_false]at h;rw[<-h]at i;cases i
 |true=>
  simp only[d,cond_true]at h;simp only[Bool.and_eq_true]at d;exact⟨Rd.St.yZ d.1,Rd.St.yZ d.2,h.symm⟩
def Ec (b g a:Nat)(d:List Rd.Wd)(w:World)(R:Option (Option (List Int)×Rd.St))(l i:Value)(wr:World):Prop:=
 ∃(c:Nat) (ts:LN) (st:Rd.St),i=.int .i64 c/\1<=c/\c<=8/\ts.length=c/\wr.ownsRow w.heap.size 3 1 l c (ts.map (Value.int .i64))/\Rdr wr b g a d st/\bE b w wr/\Rd.terms d (9-c) c ts st=R
theorem Oo {b:Nat}{n a:World}{o:Obj}(e:bE w (n.alloc o) a)(d:b=n.heap.size)(f:b≠w):a.heap[b]?=some o:=by
 subst d;rw[e.block n.heap.size (by simp) f];exact kO _ _
theorem aPz (w:World)(y g p:Nat)(o:List Rd.Wd)(st:Rd.St)(h:Rdr w y g p o st)(hn:st.next<900)(ai:kV o)(t1:Rd.tk o st ⟨#[91]⟩=true)(t2:((Rd.aB o st.aM.next).kind != 1)=false)(t3:Rd.tk o st.aM.aM ⟨#[59]⟩=true)
  (res:Option Rd.Tr) (Y:Rd.St) (hp:Rd.lO (Rd.terms o 8 1 [Rd.valTo (Rd.aB o st.aM.next).text (Rd.aB o st.aM.next).text.size] st.aM.aM.aM)=some (res,Y)):
  Calls prog 169 #[.pointer (some ⟨y,0,none⟩)] w (eP y g p o w res Y):=by
 have b1:st.aM.next<901:=by show st.next+1<901;omega
 have k:=h.lt
 have hg:g<w.heap.size:=by obtain⟨bc,h1,_⟩:=h.row;exact fQ h1
 have bf:(Rd.aB o st.aM.next).text.size<=9:=ai _ (by simpa[bne]using t2);obtain⟨i,hi,hz,A,X⟩:=info_parts wF;have am:Hid (kV o):=ai;clear ai;have HP:Hid (Rd.lO (Rd.terms o 8 1 [Rd.valTo (Rd.aB o st.aM.next).text (Rd.aB o st.aM.next).text.size] st.aM.aM.aM)=some (res,Y)):=hp;clear hp
 have WX:Hid (∀W,Rdr W y g p o st.aM->Calls prog 66 #[.pointer (some ⟨y,0,none⟩)] W fun e w'=>e=.returned (.agg #[.int .i64 (Rd.aB o st.aM.next).kind,.string (Rd.aB o st.aM.next).text,.int .i64 (Rd.aB o st.aM.next).pos])/\Below W.heap.size W w'):=fun W hW=>Ii W y g p o st.aM hW
 generalize Rd.aB o st.aM.next=x at*;generalize av:Rd.terms o 8 1 [Rd.valTo x.text x.text.size] st.aM.aM.aM=R at*;have ak:Hid (Rd.terms o 8 1 [Rd.valTo x.text x.text.size] st.aM.aM.aM=R):=av;clear av
 go_enter func169,ntmps169
 go_wp2_with fail
 refine(xR _ y g p o st _ h (by omega) t1).mono ?_;rintro e w1⟨rfl,af,aq⟩
 go_wp2_with fail
 refine(WX.out _ af).mono ?_;rintro e w2⟨rfl,ag⟩;have L:=af.below ag;have d1:=L.c1;have f1:=L.fz 1;have l1:=L.lt
 go_wp2_with fail
 refine(xR _ y g p o st.aM.aM _ ((L.yL (st.aM.next+1) (by simp)).alloc _) (by show st.aM.next+1<1000;omega) t3).mono ?_;rintro e w3⟨rfl,ax,ad⟩;have hx:=Oo (b:=w2.heap.size) ad (Ie _ _ _).symm (by omega);have x0:w3.cell? ⟨w2.heap.size,0,none⟩=some (.int .i64 x.kind):=bH hx rfl;have x1:w3.cell? ⟨w2.heap.size,1,none⟩=some (.string x.text):=bH hx rfl;have x2:w3.cell? ⟨w2.heap.size,2,none⟩=some (.int .i64 x.pos):=bH hx rfl;have ae:bE y w w3:=(((aq.trans (bE.eF ag)).setCell 1 _).alloc _).trans ad;clear hx ad L d1 f1 l1 ag af aq WX
 go_wp2_with (go_at_call 155;refine(Zv _ _ _ _ bf).mono ?_;rintro e w'⟨rfl,rfl⟩)
 have bk:=ae.size
 go_loopw [4,5] (fun l i wr=>Ec y g p o w R l i wr) (fun _ i _=>9-(intOf i).toNat)
 case atStart=>
  refine⟨1,[Rd.valTo x.text x.text.size],st.aM.aM.aM,rfl,le_refl _,by omega,rfl,?_,(ax.alloc _).alloc _,(ae.alloc _).alloc _,ak.out⟩;refine⟨rfl,Or.inr ⟨w3.heap.size+1,1,#[.int .i64 (Rd.valTo x.text x.text.size)],rfl,by omega,?_,le_refl _,by decide,rfl,rfl⟩⟩;exact aLu _ _ _
 case round=>
  obtain⟨c,ts,a1,rfl,c1,c8,a0,f,hR,U,au⟩:=hrel;generalize hT:Rd.term o a1=T;obtain⟨I,j⟩:=T;obtain⟨o1,o2,ay⟩:=aJW c8 au HP.out hT
  have TM:Hid (Calls prog 182 #[.pointer (some ⟨y,0,none⟩)] wr fun e w'=>e=.returned (.int .i64 I)/\Rdr w' y g p o j/\bE y wr w'):=by
   have:=aQD wr y g p o a1 hR o1.1 am.out;rw[hT]at this;exact this
  have J:Hid (R=bif I==0 then some (none,j)else bif Rd.tk o j ⟨#[93]⟩then some (some (ts++[I]),j.aM)else bif c==8 then some (none,j)else bif Rd.tk o j ⟨#[44]⟩then Rd.terms o (9-(c+1)) (c+1) (ts++[I]) j.aM else some (none,j)):=ay;have al:Hid (ts.length=c):=a0;have b2:j.next<1000:=o2.1;have bu:=U.size;clear au a0 ay hT o1 am ak x0 x1 x2 ax ae h;cases u1:(I==0)
  ·cases u2:Rd.tk o j ⟨#[93]⟩
   ·cases u3:((c:Int)==8)
    ·have S:(c==8)=false:=by simp at u3;simp;omega
     cases u4:Rd.tk o j ⟨#[44]⟩
     ·go_wp2_with fail
      refine(TM.out).mono ?_;rintro e w5⟨rfl,s,d⟩;have O:=d.size
      go_wp2_with (at_builtin;refine wpList_append_own _ rfl _ _ 87 rfl w.heap.size 3 i (.int .i64 0) 1 8 underlying87 hi hz A X rfl (by decide) _ _ _ rfl ((uA f d k).alloc _) ⟨w5.heap.size,0,none⟩ 1 1 [.int .i64 I] rfl rfl (cell_one_new _ _ _) (fun u P=>by simp at P;subst P;rfl) (by unfold maxLen;omega) (by omega) (by simp;omega) ?_;intro v' w6 v a q)
      have H:=Wq s (uA f d k) k hg _ a;have F:=Vc (uA f d k) (U.trans d) (le_refl _) _ a;clear q a s d f hR U;refine(uN _ y g p o j _ H b2 u2).mono ?_;rintro e w7⟨rfl,E,z⟩
      go_wp2_with fail
      refine(uN _ y g p o j _ E b2 u4).mono ?_;rintro e w8⟨rfl,M,D⟩
      go_wp2_with fail
      go_ret
      have e:=HP.out;rw[J.out,u1,u2,S,u4]at e;simp only[cond_true,cond_false,Rd.lO,Option.some.injEq,Prod.mk.injEq]at e;obtain⟨rfl,rfl⟩:=e;exact eP.nil M ((F.trans z).trans D)
     ·go_wp2_with fail
      refine(TM.out).mono ?_;rintro e w5⟨rfl,s,d⟩;have O:=d.size
      go_wp2_with (at_builtin;refine wpList_append_own _ rfl _ _ 87 rfl w.heap.size 3 i (.int .i64 0) 1 8 underlying87 hi hz A X rfl (by decide) _ _ _ rfl ((uA f d k).alloc _) ⟨w5.heap.size,0,none⟩ 1 1 [.int .i64 I] rfl rfl (cell_one_new _ _ _) (fun u P=>by simp at P;subst P;rfl) (by unfold maxLen;omega) (by omega) (by simp;omega) ?_;intro v' w6 v a q)
      have H:=Wq s (uA f d k) k hg _ a;have F:=Vc (uA f d k) (U.trans d) (le_refl _) _ a;clear q a s d f hR U;refine(uN _ y g p o j _ H b2 u2).mono ?_;rintro e w7⟨rfl,E,z⟩
      go_wp2_with fail
      refine(xR _ y g p o j _ E b2 u4).mono ?_;rintro e w8⟨rfl,M,D⟩
      go_wp2_with fail
      go_roundw
      case rel=>
       refine⟨c+1,ts++[I],j.aM,by go_num,by omega,by have:=S;simp at this;omega,by simp[al.out],?_,M,(F.trans z).trans D,?_⟩
       ·have:=uA (uA v z k) D k
        simpa using this
       ·have e:=J.out;rw[u1,u2,S,u4]at e;exact e.symm
      case measure=>simp[intOf];omega
    ·have S:(c==8)=true:=by simp at u3;simp;omega
     go_wp2_with fail
     refine(TM.out).mono ?_;rintro e w5⟨rfl,s,d⟩;have O:=d.size
     go_wp2_with (at_builtin;refine wpList_append_own _ rfl _ _ 87 rfl w.heap.size 3 i (.int .i64 0) 1 8 underlying87 hi hz A X rfl (by decide) _ _ _ rfl ((uA f d k).alloc _) ⟨w5.heap.size,0,none⟩ 1 1 [.int .i64 I] rfl rfl (cell_one_new _ _ _) (fun u P=>by simp at P;subst P;rfl) (by unfold maxLen;omega) (by omega) (by simp;omega) ?_;intro v' w6 v a q)
     have H:=Wq s (uA f d k) k hg _ a;have F:=Vc (uA f d k) (U.trans d) (le_refl _) _ a;clear q a s d f hR U;refine(uN _ y g p o j _ H b2 u2).mono ?_;rintro e w7⟨rfl,E,z⟩
     go_wp2_with fail
     go_ret
     have e:=HP.out;rw[J.out,u1,u2,S]at e;simp only[cond_true,cond_false,Rd.lO,Option.some.injEq,Prod.mk.injEq]at e;obtain⟨rfl,rfl⟩:=e;exact eP.nil E (F.trans z)
   ·go_wp2_with fail
    refine(TM.out).mono ?_;rintro e w5⟨rfl,s,d⟩;have O:=d.size
    go_wp2_with (at_builtin;refine wpList_append_own _ rfl _ _ 87 rfl w.heap.size 3 i (.int .i64 0) 1 8 underlying87 hi hz A X rfl (by decide) _ _ _ rfl ((uA f d k).alloc _) ⟨w5.heap.size,0,none⟩ 1 1 [.int .i64 I] rfl rfl (cell_one_new _ _ _) (fun u P=>by simp at P;subst P;rfl) (by unfold maxLen;omega) (by omega) (by simp;omega) ?_;intro v' w6 v a q)
    have H:=Wq s (uA f d k) k hg _ a;have F:=Vc (uA f d k) (U.trans d) (le_refl _) _ a;clear q a s d f hR U;refine(xR _ y g p o j _ H b2 u2).mono ?_;rintro e w7⟨rfl,E,z⟩;have N:=uA v z k
    obtain⟨g6,C,ah⟩:∃g6 C,v'=.slice (some ⟨g6,0,none⟩) (c+1) C:=by
     rcases N.2 with⟨_,hh⟩|⟨g6,C,bc,hv,_⟩
     ·omega
     ·exact⟨g6,C,hv⟩
    have HV:Hid (v'=.slice (some ⟨g6,0,none⟩) (c+1) C):=ah;rw[ah];clear ah;have e:=HP.out;rw[J.out,u1,u2]at e;simp only[cond_true,cond_false,Rd.lO]at e
    have o3:j.aM.okB=true:=by
     cases ho:j.aM.okB with
     |true=>rfl
     |false=>rw[ho]at e;cases e
    have HE:Hid ((bif j.aM.okB then some (some (Rd.dD 4 0 (ts++[I])),j.aM.leaf)else none)=some (res,Y)):=e;have HO:Hid (j.aM.okB=true):=o3;clear e o3
    go_wp2_with fail
    refine(Vd _ y g p o j.aM _ (E.alloc _) (Rd.St.yZ HO.out)).mono ?_;rintro e w8⟨rfl,M,D⟩
    go_wp2_with fail
    go_ret
    have e:=HE.out;rw[HO.out]at e;simp only[cond_true,Option.some.injEq,Prod.mk.injEq]at e;obtain⟨rfl,rfl⟩:=e
    have az:w7.heap.size≠y:=by have:=E.lt;omega
    refine⟨_,rfl,?_,M,((F.trans z).alloc _).trans D⟩;refine Co (ts:=ts++[I]) (l:=.nil) (r:=.nil) az (Oo D rfl az) ?_ rfl rfl;rw[<-HV.out];refine aOR (B:=w.heap.size) (n:=c+1) ?_ k (by simp[al.out]) (by omega);have:=uA (N.alloc _) D k
    simpa using this
  ·go_wp2_with fail
   refine(TM.out).mono ?_;rintro e w5⟨rfl,s,d⟩
   go_wp2_with fail
   go_ret
   have e:=HP.out;rw[J.out,u1]at e;simp only[cond_true,Rd.lO,Option.some.injEq,Prod.mk.injEq]at e;obtain⟨rfl,rfl⟩:=e;exact eP.nil s (U.trans d)
theorem aGY (w:World)(f g b:Nat)(d:List Rd.Wd)(st:Rd.St)(h:Rdr w f g b d st)(o:kV d)(res:Option Rd.Tr)(i:Rd.St)(a:Rd.continued d st=some (res,i)):
  Calls prog 169 #[.pointer (some ⟨f,0,none⟩)] w (eP f g b d w res i):=by
 unfold Rd.continued at a
 cases k:(decide (st.next<900)&&st.okB)with
 |false=>rw[k]at a;cases a
 |true=>
  rw[k]at a;simp only[Bool.and_eq_true,decide_eq_true_eq]at k;have n:=k.1
  cases e:Rd.tk d st ⟨#[91]⟩with
  |false=>
   rw[e]at a;simp only[cond_true,cond_false,Option.some.injEq,Prod.mk.injEq]at a;obtain⟨rfl,rfl⟩:=a;exact aPw w f g b d st h (by omega) e
  |true=>
   cases j:((Rd.aB d st.aM.next).kind==1)with
   |false=>
    rw[e,j]at a;simp only[cond_true,cond_false,Option.some.injEq,Prod.mk.injEq]at a;obtain⟨rfl,rfl⟩:=a;exact aPx w f g b d st h n e (by simp[bne,j])
   |true=>
    cases l:Rd.tk d st.aM.aM ⟨#[59]⟩with
    |false=>
     rw[e,j,l]at a;simp only[cond_true,cond_false,Option.some.injEq,Prod.mk.injEq]at a;obtain⟨rfl,rfl⟩:=a;exact aPy w f g b d st h n e (by simp[bne,j]) l
    |true=>
     rw[e,j,l]at a;exact aPz w f g b d st h n o e (by simp[bne,j]) l res i a
def jP (d g a:Nat)(h:List Rd.Wd)(fn:FuncId)(e f:Nat):Prop:=
 ∀(w:World) (st:Rd.St) (res:Option Rd.Tr) (b:Rd.St),Rdr w d g a h st->Rd.parse h f e none st=some (res,b)->Calls prog fn #[.pointer (some ⟨d,0,none⟩)] w (eP d g a h w res b)
variable {F:Option Rd.Tr->Rd.St->Rd.pV}{y:Option Rd.Tr×Rd.St}
theorem qA {a:Rd.pV}(h:Rd.pV.next a F=some y):∃l st,a=some (l,st)/\F l st=some y:=by
 cases a with
 |none=>cases h
 |some x=>exact⟨x.1,x.2,rfl,h⟩
theorem aC {p:Prop}(h:p):Hid p:=h
theorem Ip {k:Int}{l r:Rd.Tr}{st:Rd.St}(h:Rd.pV.next (Rd.operOf k l (some r) st) F=some y):st.ok/\F (some (Rd.jF k l r)) st.node=some y:=by
 simp only[Rd.operOf]at h
 cases a:st.okB with
 |false=>rw[a]at h;cases h
 |true=>
  rw[a]at h;exact⟨Rd.St.yZ a,h⟩
theorem aQz (v g j:Nat)(u:List Rd.Wd)(f:Nat)(IH:Hid (∀k,k<f->jP v g j u 93 2 k)):jP v g j u 65 0 f:=by
 intro w st res ad L d
 obtain⟨f0,rfl⟩:∃f0,f=f0+1:=by
  cases f with
  |zero=>cases d
  |succ f0=>exact⟨f0,rfl⟩
 obtain⟨l0,N,q,s⟩:=qA d;have p:Hid (Rd.parse u f0 2 none st=some (l0,N)):=q;have i:Hid (Rd.parse u f0 1 l0 N=some (res,ad)):=s;clear d q s
 go_enter func65,ntmps65
 go_wp2_with fail
 refine(IH.out f0 (by omega) _ st l0 N L p.out).mono ?_;rintro e w1⟨v1,rfl,X,aa,Y⟩;clear L p
 go_wp2_with fail
 go_loopg [3] f0 (fun k l wr=>∃lt a,k<=f0/\xA v wr lt l/\Rdr wr v g j u a/\bE v w wr/\Rd.parse u k 1 lt a=some (res,ad))
 case atStart=>exact⟨l0,N,le_refl _,X,aa,Y,i.out⟩
 case round=>
  obtain⟨lt,a,hk,hE,L,U,d⟩:=hrel;clear i X aa Y
  obtain⟨k,S⟩:∃k,gk=k+1:=by
   cases gk with
   |zero=>cases d
   |succ k=>exact⟨k,rfl⟩
  rw[S]at d;have J:Hid (gk=k+1):=S
  have ab:k<f0+1:=by omega
  clear S
  cases lt with
  |none=>
   simp only[Rd.parse,Option.some.injEq,Prod.mk.injEq]at d;obtain⟨rfl,rfl⟩:=d;rw[show _=Value.pointer none from hE];clear hE
   go_wp2_with fail
   go_ret
   exact eP.nil L U
  |some t=>
   obtain⟨⟨b,hb⟩,C⟩:=hE;rw[hb];rw[hb]at C;clear hb;rw[Rd.parse]at d
   cases ho:a.okB with
   |false=>rw[ho]at d;cases d
   |true=>
    rw[ho]at d;simp only[cond_true]at d;have ok:=Rd.St.yZ ho;have b2:a.next<1000:=ok.1;clear ho ok;cases W:Rd.tk u a ⟨#[43]⟩
    ·cases u2:Rd.tk u a ⟨#[45]⟩
     ·rw[W,u2]at d;simp only[cond_false,Option.some.injEq,Prod.mk.injEq]at d;obtain⟨rfl,rfl⟩:=d
      go_wp2_with fail
      refine(uN _ v g j u a _ L b2 W).mono ?_;rintro e w2⟨rfl,M,D⟩
      go_wp2_with fail
      refine(uN _ v g j u a _ M b2 u2).mono ?_;rintro e w3⟨rfl,A,n⟩
      go_wp2_with fail
      go_ret
      exact⟨_,rfl,⟨⟨b,rfl⟩,fZ.aS (D.trans n) C⟩,A,(U.trans D).trans n⟩
     ·rw[W,u2]at d;simp only[cond_true,cond_false]at d;obtain⟨r,h,q,s⟩:=qA d;have p:Hid (Rd.parse u k 2 none a.aM=some (r,h)):=q;have i:=aC s;clear d q s
      go_wp2_with fail
      refine(uN _ v g j u a _ L b2 W).mono ?_;rintro e w2⟨rfl,M,D⟩
      go_wp2_with fail
      refine(xR _ v g j u a _ M b2 u2).mono ?_;rintro e w3⟨rfl,A,n⟩
      go_wp2_with fail
      refine(IH.out k ab _ a.aM r h A p.out).mono ?_;rintro e w4⟨v4,rfl,x,o,y⟩;have P:fZ v w4 t (.pointer (some ⟨b,0,none⟩)):=fZ.aS ((D.trans n).trans y) C;have F:bE v w w4:=((U.trans D).trans n).trans y;clear U D n y L M A C p
      cases r with
      |none=>
       rw[show v4=Value.pointer none from x];clear x
       go_wp2_with fail
       refine(Tw _ _ _ _).mono ?_;rintro e w5⟨rfl,rfl⟩
       go_wp2_with fail
       go_roundg k
       case measure=>have:=J.out;omega
       case rel=>exact⟨none,h,by omega,rfl,o,F,i.out⟩
      |some r=>
       obtain⟨⟨b4,B⟩,E⟩:=x;rw[B];rw[B]at E;clear B;obtain⟨T,I⟩:=Ip i.out;clear i;have O:=aC I;have al:=o.lt;clear I
       go_wp2_with fail
       refine(Tu _ v g j u h _ _ _ o T).mono ?_;rintro e w5⟨rfl,R,z,H⟩;clear o
       go_wp2_with fail
       go_roundg k
       case measure=>have:=J.out;omega
       case rel=>exact⟨some (Rd.jF 7 t r),h.node,by omega,Co (by omega) H (Or.inl ⟨rfl,rfl⟩) (fZ.aS z P) (fZ.aS z E),R,F.trans z,O.out⟩
    ·rw[W]at d;simp only[cond_true,cond_false]at d;obtain⟨r,h,q,s⟩:=qA d;have p:Hid (Rd.parse u k 2 none a.aM=some (r,h)):=q;have i:=aC s;clear d q s
     go_wp2_with fail
     refine(xR _ v g j u a _ L b2 W).mono ?_;rintro e w3⟨rfl,A,n⟩
     go_wp2_with fail
     refine(IH.out k ab _ a.aM r h A p.out).mono ?_;rintro e w4⟨v4,rfl,x,o,y⟩;have P:fZ v w4 t (.pointer (some ⟨b,0,none⟩)):=fZ.aS (n.trans y) C;have F:bE v w w4:=(U.trans n).trans y;clear U n y L A C p
     cases r with
     |none=>
      rw[show v4=Value.pointer none from x];clear x
      go_wp2_with fail
      refine(Tw _ _ _ _).mono ?_;rintro e w5⟨rfl,rfl⟩
      go_wp2_with fail
      go_roundg k
      case measure=>have:=J.out;omega
      case rel=>exact⟨none,h,by omega,rfl,o,F,i.out⟩
     |some r=>
      obtain⟨⟨b4,B⟩,E⟩:=x;rw[B];rw[B]at E;clear B;obtain⟨T,I⟩:=Ip i.out;clear i;have O:=aC I;have al:=o.lt;clear I
      go_wp2_with fail
      refine(Tu _ v g j u h _ _ _ o T).mono ?_;rintro e w5⟨rfl,R,z,H⟩;clear o
      go_wp2_with fail
      go_roundg k
      case measure=>have:=J.out;omega
      case rel=>exact⟨some (Rd.jF 6 t r),h.node,by omega,Co (by omega) H (Or.inl ⟨rfl,rfl⟩) (fZ.aS z P) (fZ.aS z E),R,F.trans z,O.out⟩
end Go.Proofs.YthhffdeihoofiaaGreatDoor
