import Derived.Test.YtnlddnbfoehboaaGreatDoorCPl17
import Derived.Test.YtnlddnbfoehboaaGreatDoorCPl00
import Derived.Test.YtnlddnbfoehboaaGreatDoorCPl13
import Derived.Test.YtnlddnbfoehboaaGreatDoorCPl14
set_option linter.all false
set_option maxRecDepth 100000
set_option maxHeartbeats 2000000
namespace Go.Proofs.YtnlddnbfoehboaaGreatDoor
open Option renaming some->Y,none->X
open Bool renaming true->I,false->J
open List renaming replicate->j8,getElem?_eq_getElem->j9,getElem?_append_left->o9,range->p5,append_nil->p6,mem_singleton->p8,length_eq_zero_iff->q8,mem_cons->q9,not_mem_nil->r5,map_append->r7
open Nat renaming le_refl->r8,le_trans->r9,lt_of_lt_of_le->s7,lt_of_lt_of_eq->s8,zero_le->u5
open Or renaming inr->u6
open Option.some renaming injEq->u7,inj->u9
open Go.Value renaming int->x8
open Go.Builtin renaming append_->y8
open Go.Proofs.Tryz
open Go.RowKit
namespace Ab
open Rf (Nd Inv cC Wt)
noncomputable def sCf (tv:Value)(k:Int):AS:=⟨.val (.one (.ptr 0 0))::.val (.one (.sint .i64 k))::j8 34 .fB,[(0,ext [.int .i64 4,.lit tv] 276)],1,[],[]⟩
def stC (a:List (K (List AT))):Bool:=qX (aI 269) a
noncomputable def cfT (tv:Value)(k:Int):Option Tr:=run Z (aE tN) bC (aL Z (aE tN)) stC 400 [.code (aG f256),.top f256] (sCf tv k)
def atS:Option Tr->AS
 |some (.stop a s)=>s
 |_=>⟨[],[],0,[],[]⟩
noncomputable def cfS (tv:Value)(k:Int):AS:=atS (cfT tv k)
def Dj (s:AS)(t:Int):AS:=⟨putT s.tmps (Y 25) (dU t),s.boxes,s.next,s.nums,s.dirty⟩
section
variable (tv:Value) (k t:Int)
theorem bBh:cfT tv k=Y (.stop (eV (pD 25) f256) (cfS tv k)):=E0
theorem bBe:dK Z (cfS tv k) (eV (pD 25) f256)=Y (269,[.one (.lit tv),.one (.sint .i64 k)],Y 25,gH (pD 25) f256):=E0
theorem bBf:noFr (eV (pD 25) f256)=I:=E0
theorem bBg:((run Z (aE tN) bC (aL Z (aE tN)) (λ_=>J) 400 (gH (pD 25) f256) (Dj (cfS tv k) t)).bind outcome).bind (lK I)=Y ([t.natAbs<1000000000000000000],.one (.ns [t,1,1,0]),1):=E0
end
theorem aXI (tv:Value)(k:Int):clean (cfS tv k)=I:=E0
variable {v:World}{p:Nat}
theorem aWf {w g len k:Nat}{t:Int}{xs:PH}{tv:Value}(q:tv=.slice (Y ⟨g,0,X⟩) len p)(i:v.heap[w]?=Y (.cells (.int .i64 4::tv::xs).toArray 276 (0,0)))(h2:2<=len)(j:len<=1000000)(hk:k<=1000000)(ht:t.natAbs<1000000000000000000)(hc:∀x,Chg v x []->x.cell? ⟨g,tD len k,X⟩=Y (.int .i64 t)):
  Calls prog 256 #[aC w,.int .i64 k] v λe x=>∃y:PH,e=.returned (.agg y.toArray)/\aP I x [t,1,1,0] y/\Below v.heap.size v x:=by
 have ot:One tv:=by rw[q];rfl
 have l:RepW Z v (ph1 0 w) (ph1 0 w) (sCf tv k) v:=by
  refine qW rfl ?_ ?_ ?_
  .intro b B hB;have:=qU hB;simp[sCf]at this;obtain⟨rfl,rfl⟩:=this;exact⟨rfl,rfl,rfl,w,0,rfl,[],[.int .i64 4,tv],xs,i,rfl,rfl,⟨rfl,ot⟩,trivial⟩
  .intro b hb;have:1<=b:=hb;unfold ph1;rw[if_neg O]
  .intro b k' o A;unfold ph1 at A;grind
 refine vA (aZ func256 rfl rfl) (φ:=ph1 0 w) (vs:=[.one (.ptr 0 0),.one (.sint .i64 k)]) (args:=[aC w,.int .i64 k]) E0 ⟨⟨w,0,rfl,rfl⟩,rfl,trivial⟩ l ?_;intro r au a0 S m F;refine Bj (dX lT) aTR (uH mixed (dX lT)) (λ_ _=>False) (λT s=>T=eV (pD 25) f256/\dK Z s (eV (pD 25) f256)=Y (269,[.one (.lit tv),.one (.sint .i64 k)],Y 25,gH (pD 25) f256)/\clean s=I/\((run Z (aE tN) bC (aL Z (aE tN)) (λ_=>J) 400 (gH (pD 25) f256) (Dj s t)).bind outcome).bind (lK I)=Y ([t.natAbs<1000000000000000000],.one (.ns [t,1,1,0]),1)) ?_ (λ_ _ _ _ _ h=>h.elim) _ _ _ _ (bBh tv k) ⟨rfl,bBe tv k,aXI tv k,bBg tv k t⟩ r _ a0 S m F;rintro T s⟨rfl,C,f,D⟩ ak φ a U M d
 refine uX C (aZ func269 rfl rfl).en bBf M d λus R=>?_
 match us,R with
 | [u1,u2],⟨N,P,_⟩=>
 rw[N.1,P,q];refine(aMl U g p len k t h2 j hk (hc U (Chg.cQ (RepF.below d.wd f)))).mono ?_;rintro e W⟨rfl,rfl⟩;refine⟨_,rfl,λu ag n=>?_⟩
 have L:Rep Z v (ph1 0 w) φ (Dj s t) (a.put (Y 25) (.int .i64 t)) W:=⟨⟨d.wd.box,d.wd.own,d.wd.inj,d.wd.tip,d.wd.fresh,d.wd.lt,d.wd.low,d.wd.on,d.wd.base,d.wd.rF⟩,by rw[sF];exact d.defers,sG (dst:=Y 25) d.tmps (rfl)⟩
 obtain⟨o,q1,q2⟩:=aK D;obtain⟨tr,q3,q4⟩:=aK q1;refine Bj (dX lT) aTR (uH mixed (dX lT)) _ _ (λ_ _ h=>h.elim) ?_ _ _ _ _ q3 (yM q4 (Fq q2 (nZ ht) (r8 _))) u _ _ W (n _ _ _) L;rintro r0 st av c w3⟨f,r',h7,z⟩ hrel hw;obtain⟨y,e1,e2⟩:=z w3 c (Bh h7 hrel);exact⟨y,by rw[e1],((sD _ [t,1,1,0] _ y (rfl) e2).1),RepF.below hw f⟩
variable {cs:PH}
theorem aWi {w:Nat}{x:LB}{tv:Value}(j:Aw v x tv)(e:2<=x.length)(h:∀a∈x,RB 40 a)(b:v.heap[w]?=Y (.cells (.int .i64 4::tv::cs).toArray 276 (0,0))):jC v { Rf.fresh I [] []with op:=.cf,terms:=x} w:=by
 obtain⟨g,i,rest,e1,e0,e2⟩:=j
 refine aJG _ b (u6 (u6 ⟨rfl,e,h⟩)) λk l=>?_
 have m:=Nat.mod_lt (k-1) (show 0<x.length-1 by omega)
 have c:tD x.length k<x.length:=by
  unfold tD
  split<;>omega
 refine⟨x[tD x.length k],1,1,0,?_,λW f=>?_⟩
 .show(x[if k=0 then 0 else 1+(k-1)%(x.length-1)]?).map _=_
  have:x[if k=0 then 0 else 1+(k-1)%(x.length-1)]?=Y x[tD x.length k]:=(j9 c)
  rw[this];rfl
 .have d:=h _ (List.getElem_mem c)
  refine aWf e1 (aEF f b) e e0 O (Nat.lt_trans d E3) λn hc=>?_
  rw[Oj (Ko (f.trans hc.on) e2 E3)];grind
variable {g:Nd}
theorem Xi {ns r:List Nd}(h:Rf.more ns g=Y r):r=ns++[g]:=by
 unfold Rf.more at h;grind
structure jI (w:World) (b0:Nat) (own:Nat->Option Own) (at1:NN) (ns:List Nd) (w':World) (ns':List Nd) (own':Nat->Option Own) (at2:NN):Prop where
 zA:Chg w w' []
 own:∀k,k<w.heap.size->own' k=own k
 nod:yG w' b0 own' at2 ns'
 at':∀a,a<ns.length->at2 a=at1 a
section
variable {w w2 w3:World} {b0:Nat} {own own2:Nat->Option Own} {at1 at2:NN} {ns ns2:List Nd} {c:Nat}
theorem jI.one (g:jI w b0 own at1 ns w2 ns2 own2 at2)(z:Inv ns2 c)(C:ns.length<=ns2.length)(A:b0<=w.heap.size){y:LB}{m:Bool}{l:Int}{lp rp u:Value}{e:Ending}(q:NewNd w2 y m l lp rp u e w3){n:Nd}
  (D:∀f d,(∀a,a<ns2.length->d a=at2 a)->f (d ns2.length)=Y (.nd ns2.length)->b0<=d ns2.length->NodeAt w3 (d ns2.length) y m l 0 0 0 0 lp rp eD u aO->fG w3 b0 f d (ns2++[n]) ns2.length n):
  ∃f d,e=.returned (aC (d ns2.length))/\jI w b0 own at1 ns w3 (ns2++[n]) f d:=by
 obtain⟨b,B,h,t,r⟩:=q;have o:Ga ns2.length [b] at2 ns2.length=b:=aWa (j:=0) rfl
 obtain ⟨k1,k2,F⟩:=aUV (blks:=[b]) (new:=[n]) g.nod z h (λx v=>by simp at v;rw [v];exact t) (by
  intro j L i
  match j,i with
  |0,i=>
   cases i;refine D _ _ (λa p=>aSP p) ?_ ?_ ?_
   .rw[o];exact aU1 (j:=0) E4 rfl
   .rw[o];exact r9 A (r9 g.zA.on.size t)
   .simp_all
  |j+1,i=>simp at i)
 exact⟨_,_,by rw[o];exact B,g.zA.trans h,λk s=>by rw[k1 k (s7 s g.zA.on.size),g.own k s],k2,λa p=>by rw[F a O,g.at' a p]⟩
theorem jI.refl (h:yG w b0 own at1 ns)(b:Inv ns c)(a:Chg w w2 []):jI w b0 own at1 ns w2 ns own at1:=⟨a,λ_ _=>rfl,h.still b a,λ_ _=>rfl⟩
theorem jI.on (g:jI w b0 own at1 ns w2 ns2 own2 at2)(b:Inv ns2 c)(a:Chg w2 w3 []):jI w b0 own at1 ns w3 ns2 own2 at2:=⟨g.zA.trans a,g.own,g.nod.still b a,g.at'⟩
theorem jI.trans {b:Nat->Option Own}{d:NN}{e:List Nd}(g:jI w b0 own at1 ns w2 ns2 own2 at2)(j:ns.length<=ns2.length)(f:jI w2 b0 own2 at2 ns2 w3 e b d):jI w b0 own at1 ns w3 e b d:=⟨g.zA.trans f.zA,λk h=>by rw[f.own k (s7 h g.zA.on.size),g.own k h],f.nod,λa i=>by rw[f.at' a O,g.at' a i]⟩
theorem Ro (h:yG w b0 own at1 ns){d:Nat}(hd:ns[d]?=Y g):(∃f:PH,w.heap[at1 d]?=Y (.cells (.bool (!g.pos)::f).toArray 234 (0,0)))/\g.had[0]?=Y Rf.one:=by
 have a:=h d g hd;obtain⟨j,l,p1,m,p2,o,k,p,mt,gv,i,e,_⟩:=a.ex;obtain⟨q,b,_⟩:=e.nd.ex;exact⟨⟨_,b⟩,a.hc.fst⟩
end
def Pv (t:Wt)(w:World)(b0:Nat)(own:Nat->Option Own)(at1:NN)(ns:List Nd)(e:Ending)(f:World):Prop:=∃a d b at2,Rf.of t ns=Y (a,d)/\e=.returned (aC (at2 d))/\jI w b0 own at1 ns f a b at2
def mH (t:Wt):Prop:=∀(w:World) (b0:Nat) (own:Nat->Option Own) (at1:NN) (ns:List Nd) (c:Nat) (v:Value),yG w b0 own at1 ns->b0<=w.heap.size->c<=3000->Inv ns c->t.Ok->aM w t v->Calls prog 132 #[v] w (Pv t w b0 own at1 ns)
theorem aJY {w:World}{b:LB}{a:PH}(h:aP I w b a)(d:b.length=2)(e:∀z∈b,Bits 1 z):a.length=4/\∀x∈a,One x:=by
 have:=qA b a 0 (φ:=λ_=>X) (b.map λz=>(z,1)) h e λj z f=>by rw[Nat.zero_add,List.getElem?_map,f];rfl
 rw[d]at this;exact⟨this.len.symm,Ql this⟩
variable {n:Int}
theorem Ge (h:RB 6100 n):Bits 1 n:=Yh E3 h
theorem aUM (p q:Int):mH (.fr p q):=by
 rintro w b0 own at1 ns c v B C hc h b⟨k,R,N,L,M,rfl,y,A,o1,o2,o3⟩;obtain⟨D,d,g,_⟩:=Rf.wV (.fr p q) ns b hc h;obtain⟨F,o,r⟩:=bI g;cases r;have s:=Xi o;subst s
 refine (aWP y A (by
  intro z j;simp at j
  rcases j with rfl|rfl
  .exact Ge b.2.1
  .exact Ge b.2.2) o1 o2 o3).mono ?_
 intro e P i
 obtain ⟨a,f,l,m⟩:=(jI.refl B h (Chg.refl w)).one h O C (n:=Rf.fresh (decide (0<=p)) [(p,q)] []) i (by
  intro a f _ t u x;refine Ry ?_ t u
  have:(!decide (0<=p))=decide (p<0):=by
   grind
  rw[this]
  exact x)
 exact⟨_,_,a,f,g,l,m⟩
theorem aRG (op:Rf.Op)(t:LB):mH (.fE op t):=by
 rintro w b0 own at1 ns c v M N hc p f⟨k,xs,zs,tv,lv,rv,rfl,F,L,z2,zb,o1,o2,o3,q⟩;obtain⟨S,d,l,_⟩:=Rf.wV (.fE op t) ns f hc p;obtain⟨T,y,z⟩:=bI l;cases z;have A:=Xi y;subst A;obtain⟨x4,W⟩:=aJY L z2 zb
 have s:qJ op=2\/qJ op=3\/qJ op=4:=by
  rcases f with rfl|rfl|⟨rfl,_⟩
  .decide
  .decide
  .decide
 refine(aWN s F x4 W o1 o2 o3).mono ?_;rintro e U⟨cb,cs,j,a,hold,_⟩
 have r:Chg w U []:=by obtain⟨m,_,h,_⟩:=j;exact h
 obtain ⟨b,i,u,x⟩:=(jI.refl M p (Chg.refl w)).one p O N (n:={ Rf.fresh I [] [] with op:=op,terms:=t}) j (by
  intro b i _ B C D;refine aT7 D ?_ B C
  rcases f with rfl|rfl|⟨rfl,P,R⟩
  .exact aWk o1 a hold
  .exact aXJ o1 a hold
  .refine aWi ?_ P R a;obtain⟨g,o,rest,e1,e0,e2⟩:=q rfl
   exact⟨g,o,rest,e1,e0,Ko r.on e2 E3⟩)
 exact⟨_,_,b,i,l,u,x⟩
variable {t:Wt}{z:Value}
theorem Ze {w:World}(h:aM w t z):One z:=by
 obtain⟨k,rfl⟩:=aM.ptr t z h;rfl
theorem aRH (S:mH t):mH (.neg t):=by
 rintro w b0 own at1 ns c v B C hc i f⟨k,xs,zs,tv,F,rv,rfl,N,P,z2,zb,o1,o3,D⟩;obtain⟨T,d,o,_⟩:=Rf.wV (.neg t) ns f hc i;obtain⟨⟨U,q⟩,z,L⟩:=aK o;obtain⟨ns2,M,s⟩:=bI L;cases s;have u:=Xi M;subst u;obtain⟨p,r,e1,y,b,_,_⟩:=Rf.wV t ns f hc i;rw[z]at e1;cases e1;obtain⟨x4,x1⟩:=aJY P z2 zb
 refine aWO N x4 x1 o1 (Ze D) o3 λW c1=>?_
 refine(S W b0 own at1 ns c F (B.still i c1) (r9 C c1.on.size) hc i f (aM.keep c1.on t F D)).mono ?_;rintro e w2⟨p,r,own2,at2,e2,rfl,g⟩;rw[z]at e2;cases e2;have m:=j9 b;obtain⟨j,l⟩:=Ro g.nod m;refine⟨at2 q,rfl,⟨_,j⟩,λe3 w3 x=>?_⟩
 obtain ⟨a,h,k1,k2⟩:=((jI.refl B i c1).trans O g).one y.inv y.le.len C (n:=Rf.fresh J [(-1,0),(0,1)] [q]) x (by
  intro a h R s u A;rw[<-R q b]at A
  exact aXx A rfl (by rw[o9 b];exact m) l aT3 s u)
 exact⟨_,_,a,h,o,k1,k2⟩
theorem aRI (j:Rf.Kind){a b:Wt}(ah:mH a)(ai:mH b):mH (.two j a b):=by
 rintro w b0 own at1 ns c v hN hb hc x h⟨k,xs,zs,tv,lv,rv,rfl,hB,hH,z2,zb,o1,hl,hr⟩;obtain⟨a4,d,A,_⟩:=Rf.wV (.two j a b) ns h hc x;obtain⟨⟨B,p⟩,h1,h2⟩:=aK A;obtain⟨⟨ns2,P⟩,h3,h4⟩:=aK h2;obtain⟨nx,h5,u⟩:=aK h4;obtain⟨ny,h7,h8⟩:=aK u;obtain⟨a5,h9,U⟩:=bI h8;cases U;have W:=Xi h9;subst W;obtain⟨C,N,e1,L,y,_,_⟩:=Rf.wV a ns h.1 hc x;rw[h1]at e1;cases e1;obtain⟨D,R,e2,n,z,_,_⟩:=Rf.wV b B h.2 hc L.inv;have t:=h3;rw[t]at e2;cases e2;obtain⟨x4,x1⟩:=aJY hH z2 zb
 refine aWM j hB x4 x1 o1 (Ze hl) (Ze hr) λw1 c1=>?_
 refine(ah w1 b0 own at1 ns c lv (hN.still x c1) (r9 hb c1.on.size) hc x h.1 (aM.keep c1.on a lv hl)).mono ?_;rintro e w2⟨C,N,own2,at2,e2,rfl,g⟩;rw[h1]at e2;cases e2;refine⟨at2 p,rfl,g.zA,λw3 c3=>?_⟩;have F:=((jI.refl hN x c1).trans O g).on L.inv c3;refine(ai w3 b0 own2 at2 B c rv F.nod (r9 hb F.zA.on.size) hc L.inv h.2 (aM.keep F.zA.on b rv hr)).mono ?_;rintro e w4⟨D,R,aq,M,e4,rfl,S⟩;rw[t]at e4;cases e4;refine⟨M P,rfl,S.zA,λw5 c5=>?_⟩;have T:=(F.trans L.le.len S).on n.inv c5;have i:=s7 y n.le.len;have r:=h5;have s:=h7;obtain⟨f,ae⟩:=Ro T.nod r;obtain⟨o,af⟩:=Ro T.nod s;have q:=S.at' p y;rw[q]at f;refine⟨_,_,f,o,λe6 w6 ag=>?_⟩
 obtain ⟨l,m,k1,k2⟩:=T.one n.inv O hb ag (by
  intro l m ha h4 h5 u
  have a1:m p=at2 p:=by rw[ha p i,q]
  rw[<-a1,<-ha P z]at u
  have hp:Db j (!nx.pos) (!ny.pos)=!(Rf.two j nx.pos ny.pos p P).pos:=by
   cases j<;>cases nx.pos<;>cases ny.pos<;>rfl
  rw[hp]at u
  refine aWd u (by cases j<;>rfl) (by rw[o9 i];exact r) ae (by rw[o9 z];exact s) af (aWh j) h4 h5)
 exact⟨_,_,l,m,A,k1,k2⟩
theorem Yz:∀t:Wt,mH t
 |.fr p q=>aUM p q
 |.fE op e=>aRG op e
 |.neg t=>aRH (Yz t)
 |.two d a b=>aRI d (Yz a) (Yz b)
variable {b0:Nat}{s:Rf.St}
theorem Net.side {F:World}{M g0:Nat}{own:Nat->Option Own}{at1:NN}(h:Net v b0 own at1 M s)(hc:Chg v F [g0])(a:∀(k:Nat) (cs:Array Value) (ty:TypeId),v.heap[k]?=Y (.cells cs ty (0,0))->(ty=234\/ty=224\/ty=338\/(ty=105/\∃o,own k=Y o))->k≠g0):Net F b0 own at1 M s:=by
 have ne:∀{k:Nat} {cs:Array Value} {ty:TypeId},v.heap[k]?=Y (.cells cs ty (0,0))->(ty=234\/ty=224\/ty=338\/(ty=105/\∃o,own k=Y o))->k ∉ [g0]:=λd A T=>a _ _ _ d A (by simpa using T)
 have b:∀{k:Nat} {L:LB} {hs:Bool} {c mt B D pl:Int} {lp rp gv e C:Value},NodeAt v k L hs c mt B D pl lp rp gv e C->NodeAt F k L hs c mt B D pl lp rp gv e C:=by
  intro k L hs c mt B D pl lp rp gv e C y;obtain⟨xs,j,_⟩:=y.ex;exact y.keep hc.on (hc.low _ y.lt (ne j (Or.inl rfl)))
 refine⟨λi n hi=>?_,hc.at h.fuel (ne h.fuel (u6 (Or.inl rfl))),h.Pk⟩;have d:=h.nd i n hi;obtain⟨U,q0,p1,q1,p2,q2,W,q3,mt,gv,e,p,l,u,x⟩:=d.ex;refine⟨⟨U,q0,p1,q1,p2,q2,W,q3,mt,gv,e,⟨b p.nd,?_,?_,p.qN⟩,l,u,x⟩,d.hc,d.own,d.lo⟩
 .rcases p.Gq with h|⟨g,q,rest,j,m,t,R,N,S⟩
  .exact Or.inl h
  .exact u6 ⟨g,q,rest,j,hc.at m (ne m (u6 (u6 (u6 ⟨rfl,_,N⟩)))),t,R,N,S⟩
 .intro A;obtain⟨j,P,m,t⟩:=p.fE A;exact⟨j,P,m,t.keep hc.on⟩
theorem Net.aside {c:World}{a:Nat}{own:Nat->Option Own}{at1:NN}(h:Net v b0 own at1 a s)(hc:Chg v c [p]){d:TypeId}(b:∃cs:Array Value,v.heap[p]?=Y (.cells cs d (0,0)))(g:d≠234/\d≠224/\d≠338/\d≠105):Net c b0 own at1 a s:=by
 obtain⟨e,b⟩:=b
 refine h.side hc λk cs ty i l j=>?_
 grind
noncomputable def nwK:List (K (List AT)):=[.code (aG f92),.top f92]
noncomputable def nxK:List (K (List AT)):=[.code (aG f94),.top f94]
def Ut (v:Value)(n:Int)(a:List AT):AS:=⟨a,[],0,[],[]⟩
def Du (k:Value)(r:Int)(f:Value)(a:List AT):AS:=⟨a,[(0,Pu [.lit k,.sint .i64 r,.lit f] 226)],1,[],[]⟩
noncomputable def rX:Nat×Array Oper×List (K (List AT)):=Gi (aI 133) f94
def stX (a:List (K (List AT))):Bool:=qX (aI 132) a||Bl (aI 133) a
noncomputable def nwA (n:Int)(hs:Bool):Option Tr:=run Z (aE tN) bT (aL Z (aE tN)) (λ_=>J) 100 (gH (pD 7) f92) (sG3 hs (slot [(1,dU n),(7,.val (.one (.ptr 1 0)))] 0 17))
noncomputable def nwS (n:Int)(hs:Bool):AS:=(((nwA n hs).bind (eY [])).map (·.2)).getD ⟨[],[],0,[],[]⟩
section
variable (v k f:Value) (n r z:Int) (hs:Bool)
theorem bBS:(run Z (aE tN) bT (aL Z (aE tN)) stX 100 nwK (Ut v n (litT v::dU n::j8 15 .fB))).bind (fU (iA [] [] 0 []) (iA [] [1,6] 0 []))=Y (.stp (eV (pD 7) f92) (Ut v n (slot [(1,dU n),(6,litT v)] 0 17))):=E0
theorem bBP:dK Z (Ut v n (slot [(1,dU n),(6,litT v)] 0 17)) (eV (pD 7) f92)=Y (132,[.one (.lit v)],Y 7,gH (pD 7) f92):=E0
theorem Uc:noFr (eV (pD 7) f92)=I:=E0
theorem bBR:nwA n hs=Y (.ret (.val (.one (.ptr 3 0))) (nwS n hs)):=E0
theorem bBO:look (nwS n hs).boxes 3=Y ⟨[.ptr 1 0,.int .i64 0,.ptr 2 0],226,I,J,J⟩:=E0
theorem bBN:look (nwS n hs).boxes 2=Y ⟨[.sint .i64 n],224,I,J,J⟩:=E0
theorem bBQ:clean (nwS n hs)=I:=E0
theorem bBX:(run Z (aE tN) bT (aL Z (aE tN)) stX 100 nxK (Du k r f (P0::j8 24 .fB))).bind (fU (iA [0] [] 1 []) (iA [0] [0] 1 []))=Y (.stp (.code (.region rX.1 rX.2.1 I)::rX.2.2) (Du k r f (slot [(0,P0)] 0 25))):=E0
noncomputable def nxD:AS:=((aL Z (aE tN) (rX.2.1.extract 0 8) (Du k r f (slot [(0,P0)] 0 25))).getD (⟨[],[],0,[],[]⟩,[])).1
theorem bBU:aL Z (aE tN) (rX.2.1.extract 0 8) (Du k r f (slot [(0,P0)] 0 25))=Y (nxD k f r,[]):=E0
theorem aWW:yZ rX.2.1 8=I/\8<rX.2.1.size/\(p5 rX.2.1.size).drop 8=[8,9]:=⟨E0,s8 (by decide:8<10) E0,E0⟩
theorem bBT:dK Z (nxD k f r) (.ops rX.2.1 [8,9]::rX.2.2)=Y (133,[.agg [.lit k,.sint .i64 r],.one (.lit f)],Y 12,.ops rX.2.1 [9]::rX.2.2):=E0
theorem bBV:noFr rX.2.2=I:=E0
theorem aXW:(nxD k f r).dirty=[]:=E0
theorem aXX:putT (kF [0] [0] 0 (nxD k f r).tmps) (Y 12) (dU z)=slot [(0,P0),(12,dU z)] 0 25:=E0
theorem bBW:(run Z (aE tN) bT (aL Z (aE tN)) (λ_=>J) 100 (.ops rX.2.1 [9]::rX.2.2) (Du k r f (slot [(0,P0),(12,dU z)] 0 25))).bind (fU (iA [0] [] 1 []) (iA [0] [] 1 []))=Y (.br (z != 0) (.ret (dU z) ⟨sl0 25,[(0,Pu [.lit k,.sint .i64 (Wr (r+1)),.lit f] 226)],1,[],[0]⟩) (.ret (dU z) ⟨sl0 25,[(0,Pu [.lit k,.sint .i64 r,.lit f] 226)],1,[],[]⟩)):=E0
end
structure NbAt (w:World) (b0 nb fb:Nat) (own:Nat->Option Own) (at1:NN) (s:Rf.St) (top r:Nat):Prop where
 Aj:Net w b0 own at1 fb s
 blk:w.heap[nb]?=Y (.cells #[aC (at1 top),.int .i64 r,aC fb] 226 (0,0))
 ow:own nb=X
 bs:b0<=w.heap.size
 Pn:b0<=nb
 nw:∀k,k<b0->own k=X
theorem aWT {c:Nat}(q:t.Ok)(W:aM v t z)(hc:c<=3000):Calls prog 92 #[z,.int .i64 c] v λe w'=>∃ns d own at1 F C,Rf.of t []=Y (ns,d)/\e=.returned (aC F)/\Chg v w' []/\NbAt w' v.heap.size F C own at1 ⟨ns,c⟩ d 0:=by
 refine vA (aZ func92 rfl rfl) (φ:=λ_=>X) (vs:=[.one (.lit z),.one (.sint .i64 c)]) (args:=[z,.int .i64 c]) (s:=Ut z c (litT z::dU c::j8 15 .fB)) E0 ⟨⟨rfl,Ze W⟩,rfl,trivial⟩ It ?_
 have p:∀b x,(λ_:Nat=>(X:Option (Nat×Nat))) b=Y x->([]:NU).contains b=I:=λb x e=>by cases e
 refine dH (dX lT) uM p (lS p) (bBS z c) (λ_ _=>False) (λks s=>ks=eV (pD 7) f92/\s=Ut z c (slot [(1,dU c),(6,litT z)] 0 17)) ⟨rfl,rfl⟩ (λ_ _ _ _ _ h=>h.elim) ?_;rintro ks s⟨rfl,rfl⟩;refine⟨Uc,λaj T a1 w1 u l=>?_⟩;have c1:=Chg.cQ (RepF.below l.wd rfl)
 refine uX (bBP z c) (aZ func132 rfl rfl).en Uc (u T [] w1) l λus S=>?_
 match us,S with
 | [u1],⟨R,_⟩=>
 rw[R.1];have⟨ns',d,hof,gr,hd,_⟩:=Rf.wV t [] q hc (Rf.Rx c);refine(Yz t w1 v.heap.size (λ_=>X) (λ_=>0) [] c z (λi n h=>by simp at h) c1.on.size hc (Rf.Rx c) q (aM.keep c1.on t z W)).mono ?_;rintro e B⟨am,d1,f,at2,e2,rfl,g⟩;rw[hof]at e2;cases e2;have⟨⟨ys,hblk⟩,hhad⟩:=Ro g.nod (j9 hd);refine⟨aC (at2 d),rfl,λA ah y=>?_⟩;generalize (!ns'[d].pos)=b at hblk;have P:Rep Z B (ph1 1 (at2 d)) (ph1 1 (at2 d)) (sG3 b (slot [(1,dU c),(7,.val (.one (.ptr 1 0)))] 0 17)) (a1.put (Y 7) (aC (at2 d))) B:=qV (kb:=[]) (kt:=[1]) (r:=.val (.one (.ptr 1 0))) l (aRz hblk rfl) E0 (λb hb=>by simp at hb) ⟨at2 d,0,rfl,rfl⟩;refine Bj (dX lT) uM (uH mixed (dX lT)) (λr s=>r=.val (.one (.ptr 3 0))/\look s.boxes 3=Y ⟨[.ptr 1 0,.int .i64 0,.ptr 2 0],226,I,J,J⟩/\look s.boxes 2=Y ⟨[.sint .i64 c],224,I,J,J⟩/\clean s=I) (λ_ _=>False) (λ_ _ h=>h.elim) ?_ _ _ _ _ (bBR c b) ⟨rfl,bBO c b,bBN c b,bBQ c b⟩ A _ _ B (y _ _ _) P;rintro r s φ x w3⟨rfl,l3,l2,M⟩ hrel D;have c3:=Chg.cQ (RepF.below D M);have⟨F,y3,j1,j2,j3,j4⟩:=Kr D l3 rfl rfl;have⟨C,y2,i1,i2,i3,i4⟩:=Kr D l2 rfl rfl;have hv:=oZ (ν:=s.nums) (w:=w3) j1 x hrel
 have e3:y3=[aC (at2 d),.int .i64 0,aC C]:=by
  match y3,j3 with
  | [a,b,c],⟨o,h2,L,_⟩=>
   have o:=oZ (ν:=s.nums) (D.base 1 (at2 d,0) rfl) a o;have L:=oZ (ν:=s.nums) i1 c L;rw[o,h2,L]
 have e2:y2=[.int .i64 c]:=by
  match y2,i3 with
  | [a],⟨o,_⟩=>
   rw[o]
 rw[e3]at j2;rw[e2]at i2;have m:=r9 c1.on.size g.zA.on.size;have U:=g.nod.more (own':=λk=>if k<B.heap.size then f k else X) (new:=[]) gr.inv c3 (λk N=>if_pos N) (λ_ _=>rfl) (λj mm hj=>by simp at hj);rw[p6]at U;refine⟨ns',d,_,at2,F,C,hof,by rw[hv],(c1.trans g.zA).trans c3,⟨⟨U,i2,r9 m i4⟩,j2,?_,r9 m c3.on.size,r9 m j4,λk N=>?_⟩⟩
 .grind
 .show(if k<B.heap.size then f k else X)=X;rw[if_pos O,g.own k (s7 N c1.on.size)]
structure Px (w:World) (b0 nb fb:Nat) (own:Nat->Option Own) (at1:NN) (s:Rf.St) (top r:Nat) (x:Rf.St×Option Int) (w':World):Prop where
 on:On Z.bt w w'
 low:∀k,k<b0->w'.heap[k]?=w.heap[k]?
 kept:∀k,k<w.heap.size->own k=X->k≠fb->k≠nb->w'.heap[k]?=w.heap[k]?
 some:x.2.isSome=I->∃own',NbAt w' b0 nb fb own' at1 x.1 top (r+1)/\∀k,k<w.heap.size->own k=X->own' k=X
variable {r:Nat}
theorem aP5 {w:Nat}{k c:Value}(ok:One k)(of:One c)(h:v.heap[w]?=Y (.cells #[k,.int .i64 r,c] 226 (0,0)))(j:List AT):RepW Z v (ph1 0 w) (ph1 0 w) (Du k r c j) v:=by
 refine aPY rfl ?_ ?_ ?_ ?_
 .intro b B g;have:=qU g;simp only[Du,p8]at this;obtain⟨rfl,rfl⟩:=this;exact⟨rfl,rfl,w,0,rfl,[],[k,.int .i64 r,c],[],h,rfl,⟨rfl,ok⟩,rfl,⟨rfl,of⟩,trivial⟩
 .intro b m B l k1 o s d e n p;have e1:=qU d;have e2:=qU e;simp only[Du,p8,Prod.mk.injEq]at e1 e2;omega
 .intro b i;have:1<=b:=i;unfold ph1;rw[if_neg O]
 .intro b q o a;unfold ph1 at a;grind
variable {k:Nat}
theorem aUS {own:Nat->Option Own}{at1:NN}{top c f:Nat}{x:Rf.St×Option Int}(h:NbAt v b0 k p own at1 s top r)(am:s.clock=(c:Int))(hc:c<=3000)(hI:Inv s.nodes c)(hn:s.nodes[top]?=Y g)(hr:r<=g.out.length)(bq:r<=1000000)(hf:c+top+2<=f)(hx:Rf.sym f s top r=Y x)(bu:x.2.isSome=I->∃c,Inv x.1.nodes c):
  Calls prog 94 #[aC k] v λe w'=>e=.returned (.int .i64 (eX x.2))/\Px v b0 k p own at1 s top r x w':=by
 have hne:k≠p:=by
  rintro rfl;have:=h.blk;rw[h.Aj.fuel]at this
  simp_all
 refine vA (aZ func94 rfl rfl) (φ:=ph1 0 k) (vs:=[.one (.ptr 0 0)]) (args:=[aC k]) (s:=Du (aC (at1 top)) r (aC p) (P0::j8 24 .fB)) E0 ⟨⟨k,0,rfl,rfl⟩,trivial⟩ (aP5 rfl rfl h.blk _) ?_;refine dH (dX lT) uM mM (lS mM) (bBX (aC (at1 top)) (aC p) r) (λ_ _=>False) (λks s=>ks=.code (.region rX.1 rX.2.1 I)::rX.2.2/\s=Du (aC (at1 top)) r (aC p) (slot [(0,P0)] 0 25)) ⟨rfl,rfl⟩ (λ_ _ _ _ _ h=>h.elim) ?_;rintro ks s0⟨rfl,rfl⟩;have F:=bBV;refine⟨by simpa[noFr]using F,λa3 aj a1 w1 ab U=>?_⟩;have⟨bb,bj,bd⟩:=aWW
 match a3,ab aj [] w1 with
 |.code cc::af,⟨al,ad⟩=>
 subst al;show(Code.region rX.1 rX.2.1 I).wp Z.P _ a1 w1;refine Wm mixed (dX lT) bj bb (bBU (aC (at1 top)) (aC p) r) fX U ?_;intro a7 a2 w2 z;rw[bd];have c2:=vB z.wd (aXW _ _ _);show gJ Z.P _ (.ops rX.2.1 [8,9]::af) .normal a2 w2
 refine uX (bBT (aC (at1 top)) (aC p) r) (aZ func133 rfl rfl).en (by simpa[noFr]using F) (φ1:=a7) (ν1:=[]) (w1:=w2) ⟨rfl,rfl,SR.any F ad⟩ z λus az=>?_
 match us,az with
 | [u1,u2],⟨⟨xs,ax,a0⟩,ay,_⟩=>
 have e1:xs=[aC (at1 top),.int .i64 r]:=by
  match xs,a0 with
  | [a,b],⟨y,R,_⟩=>
   have y:=y.1;have R:=R;rw[y,R]
 rw[ax,ay.1,e1]
 have a4:=λw3 c3=>
  aQo f w3 b0 p own at1 s c top r g x ((h.Aj.still hI c2).still hI c3) (r9 h.bs (r9 c2.on.size c3.on.size)) am hc hI hn hr hf hx
 refine aE3 λw3 c3=>(a4 w3 c3).mono ?_
 rintro e C⟨rfl,ai,N,au⟩;have l:=c2.trans c3
 have m:C.heap[k]?=Y (.cells #[aC (at1 top),.int .i64 r,aC p] 226 (0,0)):=by
  rw[N.low k (bL (l.at h.blk E4)) h.ow hne];exact l.at h.blk E4
 have B:=l.on.trans N.on
 have u:∀j,j<v.heap.size->own j=X->j≠p->C.heap[j]?=v.heap[j]?:=by
  intro j y S L;rw[N.low j (s7 y l.on.size) S L,l.low j y E4]
 have ah:∀j,j<b0->C.heap[j]?=v.heap[j]?:=by
  intro j q;have y:=s7 q h.bs
  have L:j≠p:=by have:=h.Aj.Pk;omega
  exact u j y (h.nw j q) L
 refine⟨eX x.2,rfl,_,rfl,λag bn ae=>?_⟩
 have av:Rep Z C (ph1 0 k) (ph1 0 k) (Du (aC (at1 top)) r (aC p) (slot [(0,P0),(12,dU (eX x.2))] 0 25)) (a2.put (Y 12) (.int .i64 (eX x.2))) C:=qV z (aP5 rfl rfl m _) (aXX _ _ _ _).symm (λb t=>by
  have:b=0:=by simpa using t
  subst this
  exact(z.wd.base 0 (k,0) rfl).symm) rfl
 refine dH (dX lT) uM mM (lS mM) (bBW (aC (at1 top)) (aC p) r (eX x.2)) (λrr st=>rr=dU (eX x.2)/\(x.2.isSome=I->st.dirty=[0]/\look st.boxes 0=Y (Pu [.lit (aC (at1 top)),.sint .i64 (Wr ((r:Int)+1)),.lit (aC p)] 226))/\(x.2.isSome=J->st.dirty=[])) (λ_ _=>False) ?_ ?_ (λ_ _ h=>h.elim) ag _ _ _ (ae _ _ _) av
 .cases bt:x.2 with
  |none=>exact⟨λe=>(by simp[eX]at e),λ_=>⟨rfl,λe=>(by cases e),λ_=>rfl⟩⟩
  |some d=>exact⟨λ_=>⟨rfl,λ_=>⟨rfl,rfl⟩,λe=>(by cases e)⟩,λe=>absurd (by simpa[eX]using e) (aJD d)⟩
 .rintro rr st b2 d w5⟨rfl,hy,ar⟩ _ hv i;rw[(hv _ _ (Or.inl rfl))]
  have hd:st.dirty=[0]\/st.dirty=[]:=by
   cases W:x.2.isSome with
   |true=>exact Or.inl (hy W).1
   |false=>exact u6 (ar W)
  have D:∀j,j<C.heap.size->j≠k->w5.heap[j]?=C.heap[j]?:=by
   intro j ap ao
   refine i.low j ap λb t o e=>?_
   rcases hd with hd|hd
   .rw[hd]at t;simp at t;subst t;rw[i.base 0 (k,0) rfl]at e;cases e;exact ao rfl
   .rw[hd]at t;cases t
  refine⟨rfl,B.trans i.on,λj q=>?_,λj q S hf hn=>?_,λW=>?_⟩
  .rw[<-ah j q];exact D j (s7 q (r9 h.bs B.size)) (by have:=h.Pn;omega)
  .rw[<-u j q S hf];exact D j (s7 q B.size) hn
  .have⟨hd,l0⟩:=hy W
   have c5:Chg C w5 [k]:=⟨i.on,λj q hm=>i.low j q λb t o e=>by
    rw[hd]at t;simp at t;subst t;rw[i.base 0 (k,0) rfl]at e;cases e
    exact hm E4⟩
   have⟨k',o,pre,zs,post,g1,g2,g3,g4⟩:=i.box 0 _ l0;rw[i.base 0 (k,0) rfl]at g1;cases g1;have T:=q8.1 g3;subst T
   have hz:zs=[aC (at1 top),.int .i64 ((r+1:Nat):Int),aC p]:=by
    match zs,g4 with
    | [a,b,c],⟨y,R,h3,_⟩=>
     have h4:Wr ((r:Int)+1)=((r+1:Nat):Int):=by
      rw[uI O O];omega
     rw[y.1,R,h3.1,h4]
   subst hz
   have aa:C.shape? k=Y (226,3):=by
    unfold World.shape?;rw[m];rfl
   have A:=i.on.shape aa;unfold World.shape? at A;rw[g2]at A;simp at A;have M:=q8.1 (by have:=A.2;simpa using this);subst M;refine⟨ai,⟨(au W).aside c5 ⟨_,m⟩ E3,?_,N.own k (bL (l.at h.blk E4)) h.ow,r9 h.bs (B.trans i.on).size,h.Pn,λj q=>N.own j (s7 q (r9 h.bs l.on.size)) (h.nw j q)⟩,λj q S=>N.own j (s7 q l.on.size) S⟩;rw[g2];rfl
def sHs (b:Bool):AS:=⟨P0::j8 18 .fB,[(0,ext [.ptr 1 0] 226),(1,ext [.bool b] 234)],2,[],[]⟩
def phH (x y:Nat):Nat->Option (Nat×Nat)
 |0=>Y (x,0)
 |1=>Y (y,0)
 |_=>X
theorem bBA (b:Bool):(run Z (aE tN) bT (aL Z (aE tN)) (λ_=>J) 100 [.code (aG f93),.top f93] (sHs b)).bind jM=Y (.val (.one (.bool b)),I):=E0
theorem aMH {own:Nat->Option Own}{at1:NN}{top:Nat}(h:NbAt v b0 k p own at1 s top r)(t:s.nodes[top]?=Y g):Calls prog 93 #[aC k] v λe j=>e=.returned (.bool (!g.pos))/\Chg v j []:=by
 obtain⟨⟨y,d⟩,_⟩:=Ro h.Aj.nd t;generalize (!g.pos)=b at d ⊢
 have i:RepW Z v (phH k (at1 top)) (phH k (at1 top)) (sHs b) v:=by
  refine qW rfl ?_ ?_ ?_
  .intro z B m;have:=qU m;simp[sHs]at this
   rcases this with⟨rfl,rfl⟩|⟨rfl,rfl⟩
   .exact⟨rfl,rfl,rfl,k,0,rfl,[],[aC (at1 top)],[.int .i64 r,aC p],h.blk,rfl,⟨at1 top,0,rfl,rfl⟩,trivial⟩
   .exact⟨rfl,rfl,rfl,at1 top,0,rfl,[],[.bool b],y,d,rfl,rfl,trivial⟩
  .intro b q;have:2<=b:=q
   match b,this with
   |b+2,_=>rfl
  .intro b A o c
   match b,c with
   |0,c=>cases c;exact bL h.blk
   |1,c=>cases c;exact bL d
   |b+2,c=>cases c
 obtain⟨x,l,f⟩:=aK (bBA b)
 match x,f with
 |.ret r s,f=>
  simp only[jM,u7,Prod.mk.injEq]at f;obtain⟨rfl,hc⟩:=f;refine pZ (vs:=[.one (.ptr 0 0)]) (args:=[aC k]) (aZ func93 rfl rfl) (dX lT) uM E0 ⟨⟨k,0,rfl,rfl⟩,trivial⟩ i l (λr s=>r=.val (.one (.bool b))/\clean s=I) ⟨rfl,hc⟩ ?_;rintro r s φ a j⟨rfl,hc⟩ hrel u;exact⟨by rw[hrel],Chg.cQ (RepF.below u hc)⟩
 |.br _ _ _,f=>cases f
 |.need _ _,f=>cases f
 |.stop _ _,f=>cases f
def fWo:List G->Option RG
 | [.i .i64 k,.ns [a,b],.ns [c,d]]=>Y (.one (.ns [bif k==6 then eZ (a*d+c*b) (b*d)else bif k==7 then eZ (a*d+-c*b) (b*d)else bif k==8 then eZ (a*c) (b*d)else eZ (a*d) (b*c),bif k==6 then eP (a*d+c*b) (b*d)else bif k==7 then eP (a*d+-c*b) (b*d)else bif k==8 then eP (a*c) (b*d)else eP (a*d) (b*c)]))
 |_=>X
def Tz:List G->List Prop
 | [.i .i64 k,.ns [a,b],.ns [c,d]]=>[0<aN (Np k a b c d) (Hv k a b c d)]
 |_=>[]
theorem aYh:bD Z 195 (eF I fWo Tz 41 [0,10,10]):=by
 refine iB aXp bO (aZ func195 rfl rfl) ?_;intro j out h;unfold fWo at h;split at h
 .rename_i k a b c d;cases h;refine⟨[(k==6)=I->0<aN (a*d+c*b) (b*d),(k==6)=J->(k==7)=I->0<aN (a*d+-c*b) (b*d),(k==6)=J->(k==7)=J->(k==8)=I->0<aN (a*c) (b*d),(k==6)=J->(k==7)=J->(k==8)=J->0<aN (a*d) (b*c)],41,E0,E3,λi _=>?_⟩;have g:=i.one;unfold Np Hv at g;refine iR (λe=>?_) (iR (λe1 e2=>?_) (iR (λe1 e2 f=>?_) (iR (λe1 e2 f=>?_) fX)))
  .grind
  .grind
  .grind
  .grind
 .cases h
noncomputable def tP:List (FuncId×TE):=(195,eF I fWo Tz 41 [0,10,10])::tS
theorem uO:cK Z tP:=⟨aYh,vE⟩
noncomputable def bP:AW:=λf=>bif f==74 then Y f74 else bif f==143 then Y f143 else X
theorem yW:bS Z bP:=by
 intro f a h
 exact Rt h (aZ func74 rfl rfl) λh=>Rt h (aZ func143 rfl rfl) λh=>by cases h
def Ms (i:Nat):bH:=ext (.int .i64 1::cF I i 2) 150
def Ul (kd:Int):bH:=ext [.int .i64 kd] 150
def Pt (c:Func)(a:List AV)(b:List (Nat×bH))(ns:LV):AS:=⟨a.map .val++j8 (c.ntmps-a.length) .fB,b,3,ns,[]⟩
noncomputable def Ez (a:Func)(s:AS):Option Tr:=run Z (aE tP) bP (aL Z (aE tP)) (λ_=>J) 400 [.code (aG a),.top a] s
noncomputable def lP (a:Func)(s:AS)(l:List Bool):AS:=(((Ez a s).bind (eY l)).map (·.2)).getD ⟨[],[],0,[],[]⟩
abbrev Ak:AV:=.one (.ptr 1 0)
abbrev Jp:AV:=.one (.ptr 2 0)
abbrev Jg (k:Int):AV:=.one (.int .i64 k)
noncomputable def Tt (p q:Int):AS:=Pt f146 [Ak] [(1,Ms 0)] [(p,1),(q,1)]
noncomputable def Tu (a:Int):AS:=Pt f146 [Ak] [(1,Ul a)] []
noncomputable def Cz (kd p q a:Int):AS:=Pt f148 [Jg kd,Ak,Jp] [(1,Ms 0),(2,Ul a)] [(p,1),(q,1)]
noncomputable def oD (kd a p q:Int):AS:=Pt f148 [Jg kd,Ak,Jp] [(1,Ul a),(2,Ms 0)] [(p,1),(q,1)]
noncomputable def rV (kd a b:Int):AS:=Pt f148 [Jg kd,Ak,Jp] [(1,Ul a),(2,Ul b)] []
structure jF (s:AS) (b:Nat) (kd:Int) (zs:LB) (lc rc:AC):Prop where
 look:look s.boxes b=Y ⟨.int .i64 kd::((Lf s b).drop 1).take 4++[.lit eD,lc,rc],150,I,J,J⟩
 num:numOf I s.nums (((Lf s b).drop 1).take 4)=Y zs
abbrev jH (c:AC)(e:Int):AT:=.tup [.one c,.one (.int .i64 e)]
section
variable (p q:Int)
theorem aXT:Ez f146 (Tt p q)=Y (.ret (.val (.one (.ptr 4 0))) (lP f146 (Tt p q) [])):=E0
theorem aXS:jF (lP f146 (Tt p q) []) 4 1 [-p,q] (.lit aO) (.lit aO):=⟨E0,E0⟩
theorem aXR:clean (lP f146 (Tt p q) [])=I:=E0
theorem aXU (h:n∈vY):Ez f146 (Tu n)=Y (.ret (.val (.one (.ptr 3 0))) (lP f146 (Tu n) []))/\jF (lP f146 (Tu n) []) 3 5 [0,0] (.ptr 1 0) (.lit aO)/\clean (lP f146 (Tu n) [])=I:=by
 simp only[vY,q9,r5,or_false]at h
 rcases h with rfl|rfl|rfl|rfl|rfl|rfl|rfl|rfl<;>exact⟨E0,⟨E0,E0⟩,E0⟩
end
noncomputable def Ui (kd p q a b:Int):AS:=Pt f148 [Jg kd,Ak,Jp] [(1,Ms 0),(2,Ms 2)] [(p,1),(q,1),(a,1),(b,1)]
def rW (p q a b:Int)(c:List AT):AS:=⟨c,[(1,Ms 0),(2,Ms 2)],3,[(p,1),(q,1),(a,1),(b,1)],[]⟩
noncomputable def rO:Nat×Array Oper×List (K (List AT)):=Gi (aI 143) f148
noncomputable def oK:List (K (List AT)):=[.code (aG f148),.top f148]
noncomputable def xFF (kd p q a b:Int):Option XT:=(run Z (aE tP) bP (aL Z (aE tP)) (Bl (aI 143)) 400 oK (Ui kd p q a b)).bind (fU (iA [1,2] [] 3 []) (iA [1,2] [0,1,2] 3 []))
abbrev Mp (kd:Int):List AT:=slot [(0,.val (Jg kd)),(1,.val Ak),(2,.val Jp)] 0 44
noncomputable def dO (kd p q a b:Int):AS:=((aL Z (aE tP) (rO.2.1.extract 0 10) (rW p q a b (Mp kd))).getD (⟨[],[],0,[],[]⟩,[])).1
noncomputable def zO (kd p q a b:Int):Option Tr:=run Z (aE tP) bP (aL Z (aE tP)) (λ_=>J) 100 (.ops rO.2.1 [10,11,12]::rO.2.2) (dO kd p q a b)
noncomputable def zS (kd p q a b:Int):AS:=(((zO kd p q a b).bind (eY [])).map (·.2)).getD ⟨[],[],0,[],[]⟩
section
variable (p q a b:Int)
theorem aXZ (c:Rf.Kind)(h:n∈vY):Ez f148 (Cz (cV c) p q n)=Y (.ret (jH (.ptr 3 0) 0) (lP f148 (Cz (cV c) p q n) []))/\jF (lP f148 (Cz (cV c) p q n) []) 3 (cV c) [0,0] (.ptr 1 0) (.ptr 2 0)/\clean (lP f148 (Cz (cV c) p q n) [])=I:=by
 simp only[vY,q9,r5,or_false]at h
 rcases h with rfl|rfl|rfl|rfl|rfl|rfl|rfl|rfl<;>cases c<;>exact⟨E0,⟨E0,E0⟩,E0⟩
theorem aX0 {c:Rf.Kind}(d:c≠.div)(h:n∈vY):Ez f148 (oD (cV c) n p q)=Y (.ret (jH (.ptr 3 0) 0) (lP f148 (oD (cV c) n p q) []))/\jF (lP f148 (oD (cV c) n p q) []) 3 (cV c) [0,0] (.ptr 1 0) (.ptr 2 0)/\clean (lP f148 (oD (cV c) n p q) [])=I:=by
 simp only[vY,q9,r5,or_false]at h
 cases c with
 |div=>exact absurd rfl d
 |add=>rcases h with rfl|rfl|rfl|rfl|rfl|rfl|rfl|rfl<;>exact⟨E0,⟨E0,E0⟩,E0⟩
 |sub=>rcases h with rfl|rfl|rfl|rfl|rfl|rfl|rfl|rfl<;>exact⟨E0,⟨E0,E0⟩,E0⟩
 |mul=>rcases h with rfl|rfl|rfl|rfl|rfl|rfl|rfl|rfl<;>exact⟨E0,⟨E0,E0⟩,E0⟩
theorem aWY (h:n∈vY):Ez f148 (oD 9 n p q)=Y (.br (decide (Nm.cmp p 0=0)) (.ret (jH (.lit aO) 5) (lP f148 (oD 9 n p q) [I])) (.ret (jH (.ptr 3 0) 0) (lP f148 (oD 9 n p q) [J])))/\clean (lP f148 (oD 9 n p q) [I])=I/\jF (lP f148 (oD 9 n p q) [J]) 3 9 [0,0] (.ptr 1 0) (.ptr 2 0)/\clean (lP f148 (oD 9 n p q) [J])=I:=by
 simp only[vY,q9,r5,or_false]at h
 rcases h with rfl|rfl|rfl|rfl|rfl|rfl|rfl|rfl<;>exact⟨E0,E0,⟨E0,E0⟩,E0⟩
theorem aX1 {d:Rf.Kind}(e:d≠.div)(c:Int)(h:n∈vY):Ez f148 (rV (cV d) n c)=Y (.ret (jH (.ptr 3 0) 0) (lP f148 (rV (cV d) n c) []))/\jF (lP f148 (rV (cV d) n c) []) 3 (cV d) [0,0] (.ptr 1 0) (.ptr 2 0)/\clean (lP f148 (rV (cV d) n c) [])=I:=by
 simp only[vY,q9,r5,or_false]at h
 cases d with
 |div=>exact absurd rfl e
 |add=>rcases h with rfl|rfl|rfl|rfl|rfl|rfl|rfl|rfl<;>exact⟨E0,⟨E0,E0⟩,E0⟩
 |sub=>rcases h with rfl|rfl|rfl|rfl|rfl|rfl|rfl|rfl<;>exact⟨E0,⟨E0,E0⟩,E0⟩
 |mul=>rcases h with rfl|rfl|rfl|rfl|rfl|rfl|rfl|rfl<;>exact⟨E0,⟨E0,E0⟩,E0⟩
theorem aWZ {b:Int}(h:n∈vY)(c:b∈vY):Ez f148 (rV 9 n b)=Y (.ret (jH (.ptr 3 0) 0) (lP f148 (rV 9 n b) []))/\jF (lP f148 (rV 9 n b) []) 3 9 [0,0] (.ptr 1 0) (.ptr 2 0)/\clean (lP f148 (rV 9 n b) [])=I:=by
 simp only[vY,q9,r5,or_false]at h c
 rcases h with rfl|rfl|rfl|rfl|rfl|rfl|rfl|rfl<;>rcases c with rfl|rfl|rfl|rfl|rfl|rfl|rfl|rfl<;>exact⟨E0,⟨E0,E0⟩,E0⟩
theorem aXY {c:Rf.Kind}(d:c≠.div):xFF (cV c) p q a b=Y (.stp (.code (.region rO.1 rO.2.1 I)::rO.2.2) (rW p q a b (Mp (cV c)))):=by
 cases c with
 |div=>exact absurd rfl d
 |add=>kernel_rfl
 |sub=>kernel_rfl
 |mul=>kernel_rfl
theorem aWX:xFF 9 p q a b=Y (.br (decide (Nm.cmp a 0=0)) (.ret (jH (.lit aO) 5) (rW p q a b (sl0 44))) (.stp (.code (.region rO.1 rO.2.1 I)::rO.2.2) (rW p q a b (Mp 9)))):=E0
theorem bBo (kd:Int):aL Z (aE tP) (rO.2.1.extract 0 10) (rW p q a b (Mp kd))=Y (dO kd p q a b,[0<aN (Np kd p q a b) (Hv kd p q a b)]):=E0
theorem aXG:yZ rO.2.1 10=I/\10<rO.2.1.size/\(p5 rO.2.1.size).drop 10=[10,11,12]:=⟨E0,s8 (by decide:10<13) E0,E0⟩
theorem frO:noFr rO.2.2=I:=E0
theorem bCI (c:Rf.Kind):zO (cV c) p q a b=Y (.ret (jH (.ptr 14 0) 0) (zS (cV c) p q a b))/\jF (zS (cV c) p q a b) 14 1 [qL c p q a b,qK c p q a b] (.lit aO) (.lit aO)/\clean (zS (cV c) p q a b)=I:=by
 cases c<;>exact⟨E0,⟨E0,E0⟩,E0⟩
end
theorem jF.at {v w:World}{q φ:LI}{s:AS}{b:Nat}{kd:Int}{j:LB}{g i:AC}{z c:Value}(h:jF s b kd j g i)(t:RepW Z v q φ s w)(e1:∀x,relC Z φ s.nums w g x->x=z)(e2:∀x,relC Z φ s.nums w i x->x=c):
  ∃m,∃n:PH,φ b=Y (m,0)/\PartB w m kd n eD z c/\aP I w j n:=by
 obtain⟨m,d,k1,k2,A,B⟩:=Kr t h.look rfl rfl;have l:=h.num
 match d,A with
 |y::d,⟨u,f⟩=>
 subst u;have f:aD (relC Z φ s.nums w) (((Lf s b).drop 1).take 4++[.lit eD,g,i]) d:=f;generalize (((Lf s b).drop 1).take 4)=a at f l
 have p:aD (relC Z φ s.nums w) a (d.take a.length):=by
  have:=f.take a.length;grind
 have r:aD (relC Z φ s.nums w) [.lit eD,g,i] (d.drop a.length):=by
  have:=f.drop a.length;grind
 refine⟨m,d.take a.length,k1,?_,Xk a j _ l p⟩
 match hd:d.drop a.length,r with
 | [a0,a1,k],⟨b0,b1,o,_⟩=>
 have c0:=b0.1;have c1:=e1 a1 b1;have c2:=e2 k o;subst c0 c1 c2
 have e:d=d.take a.length++[eD,a1,k]:=by rw[<-hd];exact(List.take_append_drop _ _).symm
 unfold PartB;grind
section
variable {w:World}{ν:LV}
theorem aXb {B:bH}{h:List AT}{e:PH}{ty:TypeId}(a:B.own=J/\B.ro=I/\B.tip=J)(g:w.heap[k]?=Y (.cells (cs++e).toArray B.ty (0,0)))(hc:aD (relC Z (ph1 1 k) ν w) B.cs cs):RepW Z w (ph1 1 k) (ph1 1 k) ⟨h,[(1,B)],3,ν,[]⟩ w:=by
 refine qW rfl ?_ ?_ ?_
 .intro b i c;have:=qU c;simp at this;obtain⟨rfl,rfl⟩:=this;exact⟨a.1,a.2.1,a.2.2,k,0,rfl,[],cs,e,(by simpa using g),rfl,hc⟩
 .intro b f;have:3<=b:=f;unfold ph1;rw[if_neg O]
 .intro b j o d;unfold ph1 at d;grind
theorem aR3 {k2:Nat}{B d:bH}{l:List AT}{ys cs2 ys2:PH}(f:B.own=J/\B.ro=I/\B.tip=J)(c:d.own=J/\d.ro=I/\d.tip=J)(i:w.heap[k]?=Y (.cells (cs++ys).toArray B.ty (0,0)))(hc:aD (relC Z (phQ k k2) ν w) B.cs cs)(e:w.heap[k2]?=Y (.cells (cs2++ys2).toArray d.ty (0,0)))(h:aD (relC Z (phQ k k2) ν w) d.cs cs2):RepW Z w (phQ k k2) (phQ k k2) ⟨l,[(1,B),(2,d)],3,ν,[]⟩ w:=by
 refine qW rfl ?_ ?_ ?_
 .intro b m g;have:=qU g;simp at this
  rcases this with⟨rfl,rfl⟩|⟨rfl,rfl⟩
  .exact⟨f.1,f.2.1,f.2.2,k,0,rfl,[],cs,ys,(by simpa using i),rfl,hc⟩
  .exact⟨c.1,c.2.1,c.2.2,k2,0,rfl,[],cs2,ys2,(by simpa using e),rfl,h⟩
 .intro b j;have:3<=b:=j
  match b,this with
  |b+3,_=>rfl
 .intro b n o a
  match b,a with
  |0,a=>cases a
  |1,a=>cases a;exact bL i
  |2,a=>cases a;exact bL e
  |b+3,a=>cases a
variable {a:PH}{φ:LI}
theorem Sm {p q:Int}{i:Nat}(b:aP I w [p,q] a)(c:Bits 1 p)(d:Bits 1 q)(e:ν[i]?=Y (p,1))(f:ν[i+1]?=Y (q,1)):aD (relC Z φ ν w) (.int .i64 1::cF I i 2) (.int .i64 1::a):=by
 refine⟨rfl,qA (n:=1) [p,q] a i _ b ?_ ?_⟩
 .grind
 .grind
theorem aU7 (h:∀p q,t≠.fr p q)(e:t.Ok)(f:aM w t z):∃k,z=aC k/\∃g∈vY,∃d:PH,w.heap[k]?=Y (.cells (.int .i64 g::d).toArray 150 (0,0)):=by
 cases t with
 |fr p q=>exact absurd rfl (h p q)
 |fE op o=>
  obtain⟨k,n,d,m,j,l,rfl,c,_⟩:=f;exact⟨k,rfl,qJ op,by rcases e with rfl|rfl|⟨rfl,_⟩<;>decide,_,c⟩
 |neg t=>
  obtain⟨k,n,d,m,j,l,rfl,c,_⟩:=f;exact⟨k,rfl,5,E3,_,c⟩
 |two i a b=>
  obtain⟨k,n,d,m,j,l,rfl,c,_⟩:=f;exact⟨k,rfl,cV i,by cases i<;>decide,_,c⟩
theorem We (a:t.Ok)(i:aM w t z):∃k,z=aC k/\((∃p q,t=.fr p q/\∃b g d f,PartB w k 1 b g d f/\aP I w [p,q] b/\Bits 1 p/\Bits 1 q/\0<q)\/((∀p q,t≠.fr p q)/\∃c∈vY,∃n:PH,w.heap[k]?=Y (.cells (.int .i64 c::n).toArray 150 (0,0)))):=by
 by_cases h:∃p q,t=.fr p q
 .obtain⟨p,q,rfl⟩:=h;obtain⟨k,b,g,d,f,rfl,j,l,_⟩:=i;exact⟨k,rfl,Or.inl ⟨p,q,rfl,b,g,d,f,j,l,Ge a.2.1,Ge a.2.2,a.1⟩⟩
 .have m:=λp q e=>h ⟨p,q,e⟩
  obtain⟨k,rfl,o⟩:=aU7 m a i;grind
theorem aVc {w:Nat}{p q:Int}(b:PartB v w 1 a eD aO aO)(c:aP I v [p,q] a):aM v (.fr p q) (aC w):=⟨w,a,eD,aO,aO,rfl,b,c,rfl,rfl,rfl⟩
theorem aRJ (l:t.Ok)(o:aM w t z):Calls prog 146 #[z] w λe c=>∃x,e=.returned x/\Chg w c []/\aM c (wA t) x:=by
 obtain⟨k,rfl,⟨p,q,rfl,T,S,P,R,C,D,A,B,_⟩|⟨i,h,g,U,d⟩⟩:=We l o
 .refine pZ (φ:=ph1 1 k) (s:=Tt p q) (vs:=[Ak]) (args:=[aC k]) (aZ func146 rfl rfl) (dX uO) yW E0 ⟨⟨k,0,rfl,rfl⟩,trivial⟩ (aXb (ty:=150) ⟨rfl,rfl,rfl⟩ C (Sm D A B rfl rfl)) (aXT p q) (λr s=>r=.val (.one (.ptr 4 0))/\jF s 4 1 [-p,q] (.lit aO) (.lit aO)/\clean s=I) ⟨rfl,aXS p q,aXR p q⟩ ?_;rintro r s φ z c⟨rfl,i,hc⟩ hrel b;obtain⟨m,y,k1,k2,n⟩:=i.at b pI pI;have hv:=oZ (ν:=s.nums) (w:=c) k1 z hrel;exact⟨z,rfl,Chg.cQ (RepF.below b hc),by rw[hv];exact aVc k2 n⟩
 .obtain⟨L,M,N⟩:=aXU g;refine pZ (φ:=ph1 1 k) (s:=Tu h) (vs:=[Ak]) (args:=[aC k]) (aZ func146 rfl rfl) (dX uO) yW E0 ⟨⟨k,0,rfl,rfl⟩,trivial⟩ (aXb (ty:=150) ⟨rfl,rfl,rfl⟩ (cs:=[.int .i64 h]) d ⟨rfl,trivial⟩) L (λr s=>r=.val (.one (.ptr 3 0))/\jF s 3 5 [0,0] (.ptr 1 0) (.lit aO)/\clean s=I) ⟨rfl,M,N⟩ ?_;rintro r s φ z c⟨rfl,j,hc⟩ hrel b;obtain⟨m,y,k1,k2,n⟩:=j.at b (oZ (b.base 1 (k,0) rfl)) pI;have hv:=oZ (ν:=s.nums) (w:=c) k1 z hrel;have f:=Chg.cQ (RepF.below b hc)
  have F:wA t=.neg t:=by
   cases t with
   |fr p q=>exact absurd rfl (i p q)
   |_=>rfl
  refine⟨z,rfl,f,?_⟩;rw[hv,F];exact⟨m,y,[0,0],eD,aC k,aO,rfl,k2,n,rfl,λa u=>oU a (by simp at u;simp[u]),rfl,rfl,aM.keep f.on t _ o⟩
def eH (w:World)(x:Option Wt)(e:Ending)(a:World):Prop:=Chg w a []/\match x with
 |none=>e=.returned (.tuple #[aO,.int .i64 5])
 |some t=>∃v,e=.returned (.tuple #[v,.int .i64 0])/\aM a t v
variable {x:Option Wt}
theorem eH.no {w s:World}{e:Ending}(b:x=X)(hc:Chg w s [])(a:e=.returned (.tuple #[aO,.int .i64 5])):eH w x e s:=by subst b;exact⟨hc,a⟩
theorem eH.yes {w s:World}{e:Ending}{v:Value}(c:x=Y t)(hc:Chg w s [])(a:e=.returned (.tuple #[v,.int .i64 0]))(b:aM s t v):eH w x e s:=by subst c;exact⟨hc,v,a,b⟩
theorem Ks {w:World}{c:AC}{e:Int}{v u:Value}(h:relT Z φ ν w (jH c e) v)(hc:∀x,relC Z φ ν w c x->x=u):v=.tuple #[u,.int .i64 e]:=by
 obtain⟨i,rfl,g⟩:=h
 match i,g with
 | [a,b],⟨d,f,_⟩=>
  rw[hc a d,f]
end
theorem Sv (a:Int):decide (Nm.cmp a 0=0)=decide (a=0):=by
 rcases Int.lt_trichotomy a 0 with h|h|h
 .rw[Nm.iQ h];simp;omega
 .rw[Nm.jQ h];simp[h]
 .rw[Nm.gW h];simp;omega
variable {R:EW}
theorem Vg {q:LI}{sp:Spec}{f:AW}{stp:List (K (List AT))->Bool}(l:SpecOk Z v q sp)(C:bS Z f){y:NU}{nx:Nat}{rb:NU}{ns:AS->Option (AS×List Prop)}(T:∀b x,q b=Y x->y.contains b=I)(D:Fh q ns){U:List (K (List AT))}{s:AS}{xt:XT}
  (ht:(run Z sp f (aL Z sp) stp k U s).bind (fU (iA y [] nx rb) ns)=Y xt) (G:AT->AS->Prop) (c:List (K (List AT))->AS->Prop) (F:xt.ok G c)
  (hG:∀r j h d i,G r j->(∃ad ab,relT Z ad ab i r d)->RepW Z v q h j i->R (.returned d) i)
  (hH:∀g j,c g j->noFr g=I/\∀(e:List (K Act)) (h:LI) (a:Act) (i:World),(∀u t w1,SR Z u t w1 g e)->Rep Z v q h j a i->gJ Z.P R e .normal a i):
  ∀(e:List (K Act)) (φ:LI) (a:Act) (w:World),SR Z φ s.nums w U e->Rep Z v q φ s a w->gJ Z.P R e .normal a w:=by
 intro e φ a w N hr;obtain⟨tr,h1,h2⟩:=aK ht;refine Bj l C (uH mixed l) _ _ ?_ ?_ k U s tr h1 (Rs h2 F) e φ a w N hr
 .rintro g j⟨W,p,z,A,B⟩ o h a' i m L;obtain⟨hf,hk⟩:=hH g W B;obtain⟨ae,M⟩:=D _ _ _ _ _ _ _ z A L;exact hk o ae a' i (λu t w1=>SR.any hf m) M
 .rintro r j h d i⟨W,p,z,A,B⟩ hv S;exact hG r W _ d i B ⟨_,_,hv⟩ (aPj z A T S)
section
variable {w:World}{u:Wt}{k1 k2:Nat}
theorem aL8 {kk:Rf.Kind}{w:Nat}{a:PH}(c:PartB v w (cV kk) a eD (aC k1) (aC k2))(d:aP I v [0,0] a)(e:aM v t (aC k1))(f:aM v u (aC k2)):aM v (.two kk t u) (aC w):=
 ⟨w,a,[0,0],eD,aC k1,aC k2,rfl,c,d,rfl,λz b=>oU z (by simp at b;simp[b]),rfl,e,f⟩
theorem aLv {f:AS}{kd:Int}{c:Tr}(g:f.tmps=[Jg kd,Ak,Jp].map .val++j8 (f148.ntmps-3) .fB)(e:RepW Z w (phQ k1 k2) (phQ k1 k2) f w)(h:Ez f148 f=Y c)(G:AT->AS->Prop)(a:c.ok G λ_ _=>False)(d:∀r s φ v b,G r s->relT Z φ s.nums b r v->RepW Z w (phQ k1 k2) φ s b->R (.returned v) b):Calls prog 148 #[.int .i64 kd,aC k1,aC k2] w R:=
 pZ (args:=[.int .i64 kd,aC k1,aC k2]) (aZ func148 rfl rfl) (dX uO) yW g ⟨rfl,⟨k1,0,rfl,rfl⟩,⟨k2,0,rfl,rfl⟩,trivial⟩ e h G a d
theorem Xo {f:AS}{b:Rf.Kind}(i:f.tmps=[Jg (cV b),Ak,Jp].map .val++j8 (f148.ntmps-3) .fB)(h:RepW Z w (phQ k1 k2) (phQ k1 k2) f w)(j:Ez f148 f=Y (.ret (jH (.ptr 3 0) 0) (lP f148 f []))/\jF (lP f148 f []) 3 (cV b) [0,0] (.ptr 1 0) (.ptr 2 0)/\clean (lP f148 f [])=I)(e:pC b t u=Y (.two b t u))(g:aM w t (aC k1))(k:aM w u (aC k2)):Calls prog 148 #[.int .i64 (cV b),aC k1,aC k2] w (eH w (pC b t u)):=by
 obtain⟨p,q,x⟩:=j;refine aLv i h p (λr s=>r=jH (.ptr 3 0) 0/\jF s 3 (cV b) [0,0] (.ptr 1 0) (.ptr 2 0)/\clean s=I) ⟨rfl,q,x⟩ ?_;rintro r s φ v y⟨rfl,d,hc⟩ hrel c;have a:=Chg.cQ (RepF.below c hc);obtain⟨m,ys,l,n,o⟩:=d.at c (oZ (c.base 1 (k1,0) rfl)) (oZ (c.base 2 (k2,0) rfl));exact .yes e a (by rw[Ks hrel (oZ l)]) (aL8 n o (aM.keep a.on t _ g) (aM.keep a.on u _ k))
theorem Zk:∀b x,phQ k k2 b=Y x->[1,2].contains b=I:=by
 intro b x e
 match b,e with
 |0,e=>cases e
 |1,_=>rfl
 |2,_=>rfl
 |b+3,e=>cases e
theorem aIN (f:Rf.Kind){c:Value}(ao:t.Ok)(S:aM w t z)(B:u.Ok)(L:aM w u c):Calls prog 148 #[.int .i64 (cV f),z,c] w (eH w (pC f t u)):=by
 obtain⟨k1,rfl,⟨p,q,rfl,xs,tv,lv,rv,hB,hH,bp,bq,hq⟩|⟨hn,y,i,zs,A⟩⟩:=We ao S
 .obtain⟨k2,rfl,⟨a,b,rfl,ah,ag,ae,af,C,D,ba,T,hb⟩|⟨F,l,n,N,g⟩⟩:=We B L
  .have d:∀tm,RepW Z w (phQ k1 k2) (phQ k1 k2) (rW p q a b tm) w:=λtm=>aR3 ⟨rfl,rfl,rfl⟩ ⟨rfl,rfl,rfl⟩ hB (Sm hH bp bq rfl rfl) C (Sm D ba T rfl rfl)
   have fin:¬(f=.div/\a=0)->∀(x:List (K Act)) (a3:LI) (a':Act) (M:World),(∀R a0 w1,SR Z R a0 w1 (.code (.region rO.1 rO.2.1 I)::rO.2.2) x)->Rep Z w (phQ k1 k2) a3 (rW p q a b (Mp (cV f))) a' M->gJ Z.P (eH w (pC f (.fr p q) (.fr a b))) x .normal a' M:=by
    intro U x R a1 w1 W ap;have hW:pC f (.fr p q) (.fr a b)=Y (.fr (qL f p q a b) (qK f p q a b)):=if_neg U;obtain⟨T,bj,bd⟩:=aXG
    match x,W R [] w1 with
    |.code cc::ab,⟨an,aa⟩=>
    subst an;show(Code.region rO.1 rO.2.1 I).wp Z.P _ a1 w1;refine Wm mixed (dX uO) bj T (bBo p q a b (cV f)) (nZ (Ka (Zx hq hb U))) ap ?_;intro b0 a2 w2 aq;rw[bd];show gJ Z.P _ (.ops rO.2.1 [10,11,12]::ab) .normal a2 w2;obtain⟨t1,t2,t3⟩:=bCI p q a b f;refine Bj (dX uO) yW (uH mixed (dX uO)) (λr s=>r=jH (.ptr 14 0) 0/\jF s 14 1 [qL f p q a b,qK f p q a b] (.lit aO) (.lit aO)/\clean s=I) (λ_ _=>False) (λ_ _ h=>h.elim) ?_ _ _ _ _ t1 ⟨rfl,t2,t3⟩ _ _ a2 w2 ⟨rfl,rfl,SR.any frO aa⟩ aq;rintro r s φ z M⟨rfl,hI,hc⟩ hrel o;have k:Chg w M []:=Chg.cQ (RepF.below o hc);obtain⟨m,ys,j1,j2,j3⟩:=hI.at o pI pI;exact .yes hW k (by rw[Ks hrel (oZ j1)]) (aVc j2 j3)
   refine vA (aZ func148 rfl rfl) (φ:=phQ k1 k2) (vs:=[Jg (cV f),Ak,Jp]) (args:=[.int .i64 (cV f),aC k1,aC k2]) (s:=Ui (cV f) p q a b) E0 ⟨rfl,⟨k1,0,rfl,rfl⟩,⟨k2,0,rfl,rfl⟩,trivial⟩ (d _) ?_
   by_cases hd:f=.div
   .subst hd;refine Vg (dX uO) yW Zk (lS Zk) (aWX p q a b) (λr s=>a=0/\r=jH (.lit aO) 5/\s.dirty=[]) (λks s=>a≠0/\ks=.code (.region rO.1 rO.2.1 I)::rO.2.2/\s=rW p q a b (Mp 9)) ?_ ?_ ?_
    .rw[Sv];exact⟨λe=>⟨by simpa using e,rfl,rfl⟩,λe=>⟨by simpa using e,rfl,rfl⟩⟩
    .rintro r s φ z M⟨h0,rfl,hd⟩⟨bz,bx,hrel⟩ o;exact .no (show(if _ then X else _)=X from if_pos ⟨rfl,h0⟩) (vB o hd) (by rw[Ks hrel pI])
    .rintro ks s⟨h0,rfl,rfl⟩;exact⟨by simpa[noFr]using frO,fin λe=>h0 e.2⟩
   .refine dH (dX uO) yW Zk (lS Zk) (aXY p q a b hd) (λ_ _=>False) (λks s=>ks=.code (.region rO.1 rO.2.1 I)::rO.2.2/\s=rW p q a b (Mp (cV f))) ⟨rfl,rfl⟩ (λ_ _ _ _ _ h=>h.elim) ?_;rintro ks s⟨rfl,rfl⟩;exact⟨by simpa[noFr]using frO,fin λe=>hd e.1⟩
  .have d:RepW Z w (phQ k1 k2) (phQ k1 k2) (Cz (cV f) p q l) w:=aR3 ⟨rfl,rfl,rfl⟩ ⟨rfl,rfl,rfl⟩ (cs:=.int .i64 1::xs) (ys:=[tv,lv,rv]) hB (Sm hH bp bq rfl rfl) (cs2:=[.int .i64 l]) (ys2:=N) g ⟨rfl,trivial⟩;refine Xo E0 d (aXZ p q f n) ?_ S L
   cases u with
   |fr p q=>exact absurd rfl (F p q)
   |_=>rfl
 .obtain⟨k2,rfl,⟨a,b,rfl,ah,ag,ae,af,C,D,ba,T,hb⟩|⟨F,l,n,N,g⟩⟩:=We B L
  .have d:RepW Z w (phQ k1 k2) (phQ k1 k2) (oD (cV f) y a b) w:=aR3 ⟨rfl,rfl,rfl⟩ ⟨rfl,rfl,rfl⟩ (cs:=[.int .i64 y]) (ys:=zs) A ⟨rfl,trivial⟩ (cs2:=.int .i64 1::ah) (ys2:=[ag,ae,af]) C (Sm D ba T rfl rfl)
   have j:pC f t (.fr a b)=if f=.div/\a=0 then X else Y (.two f t (.fr a b)):=by
    cases t with
    |fr p q=>exact absurd rfl (hn p q)
    |_=>rfl
   by_cases hd:f=.div
   .subst hd;obtain⟨t1,t2,t3,t4⟩:=aWY a b i;refine aLv E0 d t1 (λr s=>clean s=I/\((a=0/\r=jH (.lit aO) 5)\/(a≠0/\r=jH (.ptr 3 0) 0/\jF s 3 9 [0,0] (.ptr 1 0) (.ptr 2 0)))) ?_ ?_
    .rw[Sv];refine⟨λe=>⟨t2,Or.inl ⟨by simpa using e,rfl⟩⟩,λe=>⟨t4,u6 ⟨by simpa using e,rfl,t3⟩⟩⟩
    .rintro r s φ z M⟨hc,h⟩ hrel o;have k:Chg w M []:=Chg.cQ (RepF.below o hc)
     rcases h with⟨h,rfl⟩|⟨h,rfl,hI⟩
     .exact .no (by rw[j,if_pos ⟨rfl,h⟩]) k (by rw[Ks hrel pI])
     .obtain⟨m,ys,j1,j2,j3⟩:=hI.at o (oZ (o.base 1 (k1,0) rfl)) (oZ (o.base 2 (k2,0) rfl));exact .yes (v:=aC m) (by rw[j,if_neg (λe=>h e.2)]) k (by rw[Ks hrel (oZ j1)]) (aL8 (kk:=.div) j2 j3 (aM.keep k.on t _ S) (aM.keep k.on _ _ L))
   .exact Xo E0 d (aX0 a b hd i) (by rw[j,if_neg (λe=>hd e.1)]) S L
  .have d:RepW Z w (phQ k1 k2) (phQ k1 k2) (rV (cV f) y l) w:=aR3 ⟨rfl,rfl,rfl⟩ ⟨rfl,rfl,rfl⟩ (cs:=[.int .i64 y]) (ys:=zs) A ⟨rfl,trivial⟩ (cs2:=[.int .i64 l]) (ys2:=N) g ⟨rfl,trivial⟩
   have j:pC f t u=Y (.two f t u):=by
    cases u with
    |fr p q=>exact absurd rfl (F p q)
    |_=>cases t<;>rfl
   by_cases hd:f=.div
   .subst hd;exact Xo E0 d (aWZ i n) j S L
   .exact Xo E0 d (aX1 hd l i) j S L
end
end Ab
variable {v:World}{z:Value}
theorem Yo {w e size r:Nat}{a:PH}(h:v.ownsRow w e size z r a):∃b f cp,z=.slice b f cp:=by
 rcases h.2 with⟨rfl,_⟩|⟨g,c,d,rfl,_⟩
 .grind
 .grind
theorem aG1 {a:Addr}(h:v.cell? a=Y z):a.block<v.heap.size:=by
 unfold World.cell? at h;grind
theorem Wz {x:LB}{c:Nat}(h:c<x.length):x.take (c+1)=x.take c++[x[c]]:=(List.take_append_getElem h).symm
def Li (w:World)(a:LB)(l i:Value)(wr:World):Prop:=
 ∃c:Nat,c<=a.length/\i=.int .i64 c/\wr.ownsRow w.heap.size 3 1 l c ((a.take c).map (x8 .i64))/\Below w.heap.size w wr
theorem aG3 (w:World)(b:Nat)(kd x:Int)(f:LB)(y:Option Addr)(p:Nat)(U W:Value)(hn:f.length<=1000)(t:w.heap[b]?=Y (.cells #[.int .i64 kd,.int .i64 x,.slice y f.length p,U,W] 98 (0,0)))(hc:∀k,(h:k<f.length)->∃tb,y=Y ⟨tb,0,X⟩/\w.cell? ⟨tb,k,X⟩=Y (.int .i64 f[k])):
  Calls prog 145 #[.pointer (Y ⟨b,0,X⟩)] w λe L=>∃l,∃m,e=.returned (.pointer (Y ⟨m,0,X⟩))/\L.ownsRow w.heap.size 3 1 l f.length (f.map (x8 .i64))/\L.heap[m]?=Y (.cells #[.int .i64 kd,.bool J,.slice X 0 0,.bool J,.slice X 0 0,l,.pointer X,.pointer X] 150 (0,0))/\Below w.heap.size w L:=by
 obtain⟨i,hi,T,n,A⟩:=info_parts rM;have k0:w.cell? ⟨b,0,X⟩=Y (.int .i64 kd):=aB t rfl;have k2:w.cell? ⟨b,2,X⟩=Y (.slice y f.length p):=aB t rfl;have R:=cZ t;clear t
 go_in
 go_wp2_with fail
 go_loopw [3,4] (λl i wr=>Li w f l i wr) (λ_ i _=>f.length-(intOf i).toNat)
 case atStart=>
  refine⟨0,u5 _,rfl,⟨rfl,u6 ⟨w.heap.size,0,#[],rfl,r8 _,lE _ _,r8 _,E3,rfl,rfl⟩⟩,(Below.refl _ _).alloc O _⟩
 case round=>
  obtain⟨c,S,rfl,d,a⟩:=hrel;have z:=a.size;have d0:=(a.cell (aG1 k0)).trans k0;have d2:=(a.cell (aG1 k2)).trans k2
  by_cases r:c<f.length
  .obtain⟨tb,rfl,F⟩:=hc c r;have dt:=(a.cell (aG1 F)).trans F;have P:=hid (Wz r);obtain⟨o,s,q,rfl⟩:=Yo d
   have C:(c:Int)<f.length:=O
   clear F hc;generalize f[c]=x at*
   go_wp2_with (at_builtin;(refine wpList_append_own _ rfl _ _ 32 rfl w.heap.size 3 i (.int .i64 0) 1 8 underlying32 hi T n A rfl E3 _ _ _ rfl (d.alloc _) ⟨wr.heap.size,0,X⟩ 1 1 [.int .i64 x] rfl rfl (cell_one_new _ _ _) (λu M=>by simp at M;subst M;rfl) (by unfold maxLen;omega) O (by simp;omega) ?_;intro v' w6 j g D;have N:=hid (qT d a a.size _ g);have v:=hid j))
   go_roundw
   case rel=>
    refine⟨c+1,O,by go_num,?_,N.out⟩;rw[P.out,r7];exact v.out
   case measure=>simp[intOf];omega
  .have B:c=f.length:=O
   have C:¬(c:Int)<f.length:=O
   have v:=hid d;obtain⟨o,s,q,rfl⟩:=Yo d;clear d
   go_wp2_with fail
   go_ret
   refine⟨_,_,rfl,?_,lE _ _,a.alloc z _⟩;have:=(v.out).alloc (.cells #[.int .i64 kd,.bool J,.slice X 0 0,.bool J,.slice X 0 0,.slice o s q,.pointer X,.pointer X] 150 (0,0));rw[B,List.take_length]at this;exact this
namespace Ab
open Rf (Nd Inv cC Wt)
def sT (kd x:Int)(tv lv rv:Value)(a:List AT):AS:=⟨a,[(0,ext [.int .i64 kd,.sint .i64 x,.lit tv,.lit lv,.lit rv] 98)],1,[],[]⟩
def sU (a:List AT):AS:=⟨a,[],0,[],[]⟩
def stT (a:List (K (List AT))):Bool:=qX (λo=>aI 102 o||aI 145 o||aI 146 o||aI 148 o) a
abbrev Ud:List AT:=P0::j8 78 .fB
noncomputable def Dx (b:NU)(a:List (K (List AT)))(s:AS):Option XT:=(run Z (aE tP) bP (aL Z (aE tP)) stT 400 a s).bind (fU (iA [0] [] 1 []) (iA [0] b 1 []))
noncomputable def tK':List (K (List AT)):=[.code (aG f102),.top f102]
noncomputable def oP (a:List (K (List AT)))(s:AS):Option Tr:=run Z (aE tP) bP (aL Z (aE tP)) (λ_=>J) 50 a s
abbrev sH (v:Value)(e:Int):AT:=jH (.lit v) e
noncomputable def o1 (x:Int)(tv lv rv:Value):Option Tr:=run Z (aE tP) bP (aL Z (aE tP)) (λ_=>J) 400 tK' (sT 1 x tv lv rv Ud)
noncomputable def o1S (x:Int)(tv lv rv:Value):AS:=(((o1 x tv lv rv).bind (eY [])).map (·.2)).getD ⟨[],[],0,[],[]⟩
section
variable (x kd e:Int) (tv lv rv v v1 v2:Value)
theorem u_1:o1 x tv lv rv=Y (.need [x.natAbs<1000000000000000000] (.ret (jH (.ptr 2 0) 0) (o1S x tv lv rv))):=E0
theorem bCz:jF (o1S x tv lv rv) 2 1 [x,1] (.lit aO) (.lit aO):=⟨E0,E0⟩
theorem bCy:clean (o1S x tv lv rv)=I:=E0
theorem u_C {kd:Int}(h:kd=2\/kd=3\/kd=4):Dx [25] tK' (sT kd x tv lv rv Ud)=Y (.stp (eV (pD 26) f102) (sT kd x tv lv rv (slot [(25,P0)] 0 79))):=by
 rcases h with rfl|rfl|rfl<;>kernel_rfl
theorem u_L {kd:Int}(h:kd=5\/kd=6\/kd=7\/kd=8\/kd=9):Dx [0,31] tK' (sT kd x tv lv rv Ud)=Y (.stp (eV (pD 32) f102) (sT kd x tv lv rv (slot [(0,P0),(31,litT lv)] 0 79))):=by
 rcases h with rfl|rfl|rfl|rfl|rfl<;>kernel_rfl
theorem bCC:(oP (gH (pD 32) f102) (sU (slot [(32,sH aO 5)] 0 79))).bind jM=Y (sH aO 5,I):=E0
theorem u_M:Dx [44] (gH (pD 32) f102) (sT 5 x tv lv rv (slot [(0,P0),(32,sH v1 0)] 0 79))=Y (.stp (eV (pD 45) f102) (sT 5 x tv lv rv (slot [(44,litT v1)] 0 79))):=E0
theorem u_B (a:Rf.Kind):Dx [0,4,63] (gH (pD 32) f102) (sT (cV a) x tv lv rv (slot [(0,P0),(32,sH v1 0)] 0 79))=Y (.stp (eV (pD 64) f102) (sT (cV a) x tv lv rv (slot [(0,P0),(4,litT v1),(63,litT rv)] 0 79))):=by
 cases a<;>kernel_rfl
theorem bCB:(oP (gH (pD 64) f102) (sU (slot [(64,sH aO 5)] 0 79))).bind jM=Y (sH aO 5,I):=E0
theorem bCA (a:Rf.Kind):Dx [73,74,75] (gH (pD 64) f102) (sT (cV a) x tv lv rv (slot [(0,P0),(4,litT v1),(64,sH v2 0)] 0 79))=Y (.stp (eV (pD 76) f102) (sT (cV a) x tv lv rv (slot [(73,.val (.one (.int .i64 (cV a)))),(74,litT v1),(75,litT v2)] 0 79))):=by
 cases a<;>kernel_rfl
theorem y_C:(oP (gH (pD 26) f102) (sU (slot [(26,litT v)] 0 79))).bind jM=Y (sH v 0,I):=E0
theorem y_M:(oP (gH (pD 45) f102) (sU (slot [(45,litT v)] 0 79))).bind jM=Y (sH v 0,I):=E0
theorem y_B:(oP (gH (pD 76) f102) (sU (slot [(76,sH v e)] 0 79))).bind jM=Y (sH v e,I):=E0
theorem z_C:dK Z (sT kd x tv lv rv (slot [(25,P0)] 0 79)) (eV (pD 26) f102)=Y (145,[.one (.ptr 0 0)],Y 26,gH (pD 26) f102):=E0
theorem z_L:dK Z (sT kd x tv lv rv (slot [(0,P0),(31,litT lv)] 0 79)) (eV (pD 32) f102)=Y (102,[.one (.lit lv)],Y 32,gH (pD 32) f102):=E0
theorem z_M:dK Z (sT kd x tv lv rv (slot [(44,litT v1)] 0 79)) (eV (pD 45) f102)=Y (146,[.one (.lit v1)],Y 45,gH (pD 45) f102):=E0
theorem z_B:dK Z (sT kd x tv lv rv (slot [(0,P0),(4,litT v1),(63,litT rv)] 0 79)) (eV (pD 64) f102)=Y (102,[.one (.lit rv)],Y 64,gH (pD 64) f102):=E0
theorem bCJ:dK Z (sT kd x tv lv rv (slot [(73,.val (.one (.int .i64 kd))),(74,litT v1),(75,litT v2)] 0 79)) (eV (pD 76) f102)=Y (148,[.one (.int .i64 kd),.one (.lit v1),.one (.lit v2)],Y 76,gH (pD 76) f102):=E0
theorem Kx:noFr (eV (pD 26) f102)=I/\noFr (eV (pD 32) f102)=I/\noFr (eV (pD 45) f102)=I/\noFr (eV (pD 64) f102)=I/\noFr (eV (pD 76) f102)=I:=by
 refine⟨?_,?_,?_,?_,?_⟩<;>kernel_rfl
end
variable {w:World}
theorem Sh {k:Nat}{kd x:Int}{tv lv rv:Value}(h:w.heap[k]?=Y (.cells #[.int .i64 kd,.int .i64 x,tv,lv,rv] 98 (0,0)))(o1:One tv)(o2:One lv)(o3:One rv)(e:List AT):RepW Z w (ph1 0 k) (ph1 0 k) (sT kd x tv lv rv e) w:=by
 refine qW rfl ?_ ?_ ?_
 .intro b B c;have:=qU c;simp only[sT,p8]at this;obtain⟨rfl,rfl⟩:=this;exact⟨rfl,rfl,rfl,k,0,rfl,[],[.int .i64 kd,.int .i64 x,tv,lv,rv],[],h,rfl,rfl,rfl,⟨rfl,o1⟩,⟨rfl,o2⟩,⟨rfl,o3⟩,trivial⟩
 .intro b d;have:1<=b:=d;unfold ph1;rw[if_neg O]
 .intro b f o a;unfold ph1 at a;grind
variable {d:Nat}
theorem aVo {r:AT}{a:List AT}(h:a.length=79)(c:putT (j8 79 .top) (Y d) r=slot [(d,r)] 0 79):(sU (slot [(d,r)] 0 79)).tmps=putT (kF [] [] 0 a) (Y d) r:=by
 rw[aFS,h];exact c.symm
variable {φ:LI}{ν:LV}
theorem Sb {e:Int}(o:One z):relT Z φ ν w (sH z e) (.tuple #[z,.int .i64 e]):=⟨[z,.int .i64 e],rfl,⟨rfl,o⟩,rfl,trivial⟩
variable {R:EW}
theorem Ea {r:AT}{e:Int}{m:List (K (List AT))}(o:(oP m (sU (slot [(d,r)] 0 79))).bind jM=Y (sH z e,I))(hR:∀g,Chg v g []->R (.returned (.tuple #[z,.int .i64 e])) g){f:List (K Act)}{a:Act}(i:∀l k j,SR Z l k j m f)(n:Rep Z v (λ_=>X) (λ_=>X) (sU (slot [(d,r)] 0 79)) a v):gJ Z.P R f .normal a v:=by
 have⟨tr,h1,c⟩:=aK o
 match tr,c with
 |.ret r s,c=>
  simp only[jM,u7,Prod.mk.injEq]at c;obtain⟨rfl,hc⟩:=c;refine Bj (dX uO) yW (uH mixed (dX uO)) (λr s=>r=sH z e/\clean s=I) (λ_ _=>False) (λ_ _ h=>h.elim) ?_ _ _ _ _ h1 ⟨rfl,hc⟩ f _ a v (i _ _ _) n;rintro r s φ x g⟨rfl,hc⟩ hrel p;rw[Ks hrel pI];exact hR g (Chg.cQ (RepF.below p hc))
 |.br _ _ _,c=>cases c
 |.need _ _,c=>cases c
 |.stop _ _,c=>cases c
theorem Cq {q:LI}{s:AS}{a:Act}{u k:List (K (List AT))}{j:List (K Act)}{W:FuncId}{F:List AV}(h:dK Z s u=Y (W,F,Y d,k))(n:dV Z.P W)(o:noFr u=I)(p:∀B A z,SR Z B A z u j)(C:Rep Z v q φ s a w)(T:s.tmps.length=79)(hs:∀r,putT (j8 79 .top) (Y d) r=slot [(d,r)] 0 79)
  (c:∀l:PH,aD (dJ Z φ s.nums w) F l->Calls Z.P W l.toArray w λe y=>∃g x,∃r:AT,∃m:Int,e=.returned x/\relT Z (λ_=>X) [] y r x/\(oP k (sU (slot [(d,r)] 0 79))).bind jM=Y (sH g m,I)/\∀L,Chg y L []->R (.returned (.tuple #[g,.int .i64 m])) L):gJ Z.P R j .normal a w:=by
 refine uX h n o (p φ s.nums w) C λl t=>(c l t).mono ?_
 rintro e y⟨g,x,r,m,rfl,U,ht,M⟩;exact⟨x,rfl,λD S i=>(Ea ht M i (qV C It (aVo T (hs r)) (λb N=>by simp at N) U))⟩
theorem eH.on {w s L d:World}{x:Option Wt}{e:Ending}(c:Chg w s [])(h:eH s x e L)(a:Chg L d []):eH w x e d:=by
 cases x with
 |none=>exact⟨(c.trans h.1).trans a,h.2⟩
 |some t=>
  have⟨hc,v,he,hp⟩:=h;exact⟨(c.trans hc).trans a,v,he,aM.keep a.on t v hp⟩
theorem cI.one {rb:Nat}{ts:LB}{tv:Value}(h:cI rb w ts tv):One tv:=by
 rcases h with⟨_,rfl⟩|⟨tb,a,c,rfl,_⟩<;>rfl
theorem jE.one {rb:Nat}:∀{t:Rd.Tr} {v:Value},jE rb w t v->One v
 |.nil,_,h=>by rw[h];rfl
 |.node _ _ _ _ _,_,⟨b,tv,lv,rv,h,_⟩=>by rw[h];rfl
theorem eH.one {s:World}{x:Option Wt}{e:Ending}(h:eH w x e s):∃v a,e=.returned (.tuple #[v,.int .i64 a])/\One v/\((x=X/\v=aO/\a=5)\/(∃t,x=Y t/\a=0/\aM s t v)):=by
 cases x with
 |none=>exact⟨aO,5,h.2,rfl,Or.inl ⟨rfl,rfl,rfl⟩⟩
 |some t=>
  have⟨hc,v,he,hp⟩:=h;obtain⟨k,rfl⟩:=aM.ptr t v hp;exact⟨aC k,0,he,rfl,u6 ⟨t,rfl,rfl,hp⟩⟩
section
variable {w:World} {b rb:Nat} {kd x:Int} {tv lv rv:Value} {R:EW}
theorem aXa {a:World}{s:AS}{k:Nat}(c:RepW Z v (ph1 0 k) φ s a)(h:dJ Z φ ν a (.one (.ptr 0 0)) z):z=aC k:=Fs (c.base 0 (k,0) rfl) h
theorem bB0 (e:x.natAbs<1000000000000000000)(d:w.heap[b]?=Y (.cells #[.int .i64 1,.int .i64 x,tv,lv,rv] 98 (0,0)))(o1:One tv)(o2:One lv)(o3:One rv):Calls prog 102 #[aC b] w (eH w (Y (.fr x 1))):=by
 refine pZ (φ:=ph1 0 b) (vs:=[.one (.ptr 0 0)]) (args:=[aC b]) (aZ func102 rfl rfl) (dX uO) yW E0 ⟨⟨b,0,rfl,rfl⟩,trivial⟩ (Sh d o1 o2 o3 _) (u_1 x tv lv rv) (λr s=>r=jH (.ptr 2 0) 0/\jF s 2 1 [x,1] (.lit aO) (.lit aO)/\clean s=I) ⟨nZ e,rfl,bCz x tv lv rv,bCy x tv lv rv⟩ ?_;rintro r s φ v f⟨rfl,c,hc⟩ hrel a;have⟨m,ys,j1,j2,j3⟩:=c.at a pI pI;exact .yes rfl (Chg.cQ (RepF.below a hc)) (by rw[Ks hrel (oZ j1)]) (aVc j2 j3)
theorem bB1 (g:kd=2\/kd=3\/kd=4)(o:w.heap[b]?=Y (.cells #[.int .i64 kd,.int .i64 x,tv,lv,rv] 98 (0,0)))(o1:One tv)(o2:One lv)(o3:One rv)(a:∀f,Chg w f []->Calls prog 145 #[aC b] f λe l=>∃v,e=.returned v/\One v/\∀m,Chg l m []->R (.returned (.tuple #[v,.int .i64 0])) m):Calls prog 102 #[aC b] w R:=by
 refine vA (aZ func102 rfl rfl) (φ:=ph1 0 b) (vs:=[.one (.ptr 0 0)]) (args:=[aC b]) (s:=sT kd x tv lv rv Ud) E0 ⟨⟨b,0,rfl,rfl⟩,trivial⟩ (Sh o o1 o2 o3 _) ?_;refine dH (dX uO) yW mM (lS mM) (u_C x tv lv rv g) (λ_ _=>False) (λk s=>k=eV (pD 26) f102/\s=sT kd x tv lv rv (slot [(25,P0)] 0 79)) ⟨rfl,rfl⟩ (λ_ _ _ _ _ h=>h.elim) ?_;rintro k s⟨rfl,rfl⟩;refine⟨Kx.1,λq u a1 f d c=>?_⟩
 refine Cq (z_C x kd tv lv rv) (aZ func145 rfl rfl).en Kx.1 d c rfl (λr=>by kernel_rfl) λt j=>?_
 match t,j with
 | [y],⟨i,_⟩=>
 rw[aXa c.wd i];refine(a f (Chg.cQ (RepF.below c.wd rfl))).mono ?_;rintro e l⟨v,rfl,p,n⟩;exact⟨v,v,litT v,0,rfl,⟨rfl,p⟩,y_C v,n⟩
theorem Ue (u:kd=5\/kd=6\/kd=7\/kd=8\/kd=9)(o:w.heap[b]?=Y (.cells #[.int .i64 kd,.int .i64 x,tv,lv,rv] 98 (0,0)))(o1:One tv)(o2:One lv)(o3:One rv){L:Option Wt}(f:∀j,Chg w j []->Calls prog 102 #[lv] j (eH j L))
  (y:L=X->∀p,Chg w p []->R (.returned (.tuple #[aO,.int .i64 5])) p)
  (m:∀t v i g a,L=Y t->Chg w i []->aM i t v->One v->(∀N M D,SR Z N M D (gH (pD 32) f102) g)->Rep Z i (ph1 0 b) (ph1 0 b) (sT kd x tv lv rv (slot [(0,P0),(32,sH v 0)] 0 79)) a i->gJ Z.P R g .normal a i):Calls prog 102 #[aC b] w R:=by
 have F:=aZ func102 rfl rfl;refine vA F (φ:=ph1 0 b) (vs:=[.one (.ptr 0 0)]) (args:=[aC b]) (s:=sT kd x tv lv rv Ud) E0 ⟨⟨b,0,rfl,rfl⟩,trivial⟩ (Sh o o1 o2 o3 _) ?_;refine dH (dX uO) yW mM (lS mM) (u_L x tv lv rv u) (λ_ _=>False) (λU s=>U=eV (pD 32) f102/\s=sT kd x tv lv rv (slot [(0,P0),(31,litT lv)] 0 79)) ⟨rfl,rfl⟩ (λ_ _ _ _ _ h=>h.elim) ?_;rintro U s⟨rfl,rfl⟩;refine⟨Kx.2.1,λg S a1 j l c=>?_⟩;have c1:=Chg.cQ (RepF.below c.wd rfl)
 refine uX (z_L x kd tv lv rv) F.en Kx.2.1 (l S [] j) c λus B=>?_
 match us,B with
 | [u1],⟨A,_⟩=>
 rw[A.1];refine(f j c1).mono ?_;rintro e i T;have c2:=T.1;obtain⟨v,e',rfl,z,h⟩:=T.one;refine⟨_,rfl,λn aa d=>?_⟩
 rcases h with⟨C,rfl,rfl⟩|⟨t,C,rfl,hp⟩
 .exact Ea bCC (hR:=λp r=>y C p ((c1.trans c2).trans r)) d (qV c It (aVo rfl E0) (λb o=>by simp at o) (Sb z))
 .have k:=c1.trans c2;refine m t v i n _ C k hp z d ?_;refine qV (kb:=[0]) (kt:=[0]) c (Sh (k.at o E4) o1 o2 o3 _) E0 (λW q=>?_) (Sb z)
  have:W=0:=by simpa using q
  subst this;exact(c.wd.base 0 (b,0) rfl).symm
theorem bB2 (A:w.heap[b]?=Y (.cells #[.int .i64 5,.int .i64 x,tv,lv,rv] 98 (0,0)))(o1:One tv)(o2:One lv)(o3:One rv){q:Option Wt}(l:∀t,q=Y t->t.Ok)(c:∀p,Chg w p []->Calls prog 102 #[lv] p (eH p q)):Calls prog 102 #[aC b] w (eH w (q.map wA)):=by
 refine Ue (Or.inl rfl) A o1 o2 o3 c (λe L hc=>.no (by rw[e];rfl) hc rfl) ?_;intro t v T i a y j B P m C;refine dH (dX uO) yW mM (lS mM) (u_M x tv lv rv v) (λ_ _=>False) (λz s=>z=eV (pD 45) f102/\s=sT 5 x tv lv rv (slot [(44,litT v)] 0 79)) ⟨rfl,rfl⟩ (λ_ _ _ _ _ h=>h.elim) ?_ i _ _ _ (m _ _ _) C;rintro z s⟨rfl,rfl⟩;refine⟨Kx.2.2.1,λi M N L g f=>?_⟩;have c3:=Chg.cQ (RepF.below f.wd rfl)
 refine Cq (z_M x 5 tv lv rv v) (aZ func146 rfl rfl).en Kx.2.2.1 g f rfl (λr=>by kernel_rfl) λD o=>?_
 match D,o with
 | [S],⟨n,_⟩=>
 rw[n.1];refine(aRJ (l t y) (aM.keep c3.on t v B)).mono ?_;rintro e U⟨F,rfl,c4,d⟩;obtain⟨k,rfl⟩:=aM.ptr _ F d;exact⟨aC k,aC k,litT (aC k),0,rfl,⟨rfl,rfl⟩,y_M _,λW u=>.yes (by rw[y];rfl) (((j.trans c3).trans c4).trans u) rfl (aM.keep u.on _ _ d)⟩
theorem of_B (c:Rf.Kind)(M:w.heap[b]?=Y (.cells #[.int .i64 (cV c),.int .i64 x,tv,lv,rv] 98 (0,0)))(o1:One tv)(o2:One lv)(o3:One rv){xl xr:Option Wt}(aa:∀t,xl=Y t->t.Ok)(A:∀t,xr=Y t->t.Ok)(l:∀o,Chg w o []->Calls prog 102 #[lv] o (eH o xl))(g:∀o,Chg w o []->Calls prog 102 #[rv] o (eH o xr)):Calls prog 102 #[aC b] w (eH w (xl.bind λu=>xr.bind λv=>pC c u v)):=by
 have hk:cV c=6\/cV c=7\/cV c=8\/cV c=9:=by cases c<;>simp[cV]
 refine Ue O M o1 o2 o3 l (λe w3 hc=>.no (by rw[e];rfl) hc rfl) ?_;intro t v w2 n a hx N hp ho ae hr;refine dH (dX uO) yW mM (lS mM) (u_B x tv lv rv v c) (λ_ _=>False) (λL s=>L=eV (pD 64) f102/\s=sT (cV c) x tv lv rv (slot [(0,P0),(4,litT v),(63,litT rv)] 0 79)) ⟨rfl,rfl⟩ (λ_ _ _ _ _ h=>h.elim) ?_ n _ _ _ (ae _ _ _) hr;rintro L s⟨rfl,rfl⟩;have⟨_,_,_,f64,f76⟩:=Kx;refine⟨f64,λn am a3 w3 C d=>?_⟩;have c3:=Chg.cQ (RepF.below d.wd rfl);have k:=N.trans c3
 refine uX (z_B x (cV c) tv lv rv v) (aZ func102 rfl rfl).en f64 (C am [] w3) d λus m=>?_
 match us,m with
 | [u1],⟨f,_⟩=>
 have f:=f.1;rw[f];refine(g w3 k).mono ?_;rintro e w4 y;have c4:=y.1;obtain⟨p,S,rfl,z,h⟩:=y.one;refine⟨_,rfl,λF av j=>?_⟩
 rcases h with⟨i,rfl,rfl⟩|⟨t2,i,rfl,ab⟩
 .exact Ea bCB (hR:=λw5 U=>.no (by rw[hx,i];rfl) ((k.trans c4).trans U) rfl) j (qV d It (aVo rfl E0) (λb M=>by simp at M) (Sb z))
 .have q:=k.trans c4
  have ad:Rep Z w4 (ph1 0 b) (ph1 0 b) (sT (cV c) x tv lv rv (slot [(0,P0),(4,litT v),(64,sH p 0)] 0 79)) (a3.put (Y 64) (.tuple #[p,.int .i64 0])) w4:=by
   refine qV (kb:=[0]) (kt:=[0,4]) d (Sh (q.at M E4) o1 o2 o3 _) E0 (λb' T=>?_) (Sb z)
   have:b'=0:=by simpa using T
   subst this;exact(d.wd.base 0 (b,0) rfl).symm
  refine dH (dX uO) yW mM (lS mM) (bCA x tv lv rv v p c) (λ_ _=>False) (λL s=>L=eV (pD 76) f102/\s=sT (cV c) x tv lv rv (slot [(73,.val (.one (.int .i64 (cV c)))),(74,litT v),(75,litT p)] 0 79)) ⟨rfl,rfl⟩ (λ_ _ _ _ _ h=>h.elim) ?_ F _ _ _ (j _ _ _) ad;rintro L s⟨rfl,rfl⟩;refine⟨f76,λn a1 a5 w5 D B=>?_⟩;have P:=Chg.cQ (RepF.below B.wd rfl)
  refine Cq (bCJ x (cV c) tv lv rv v p) (aZ func148 rfl rfl).en f76 D B rfl (λr=>by kernel_rfl) λus m=>?_
  match us,m with
  | [u1,u2,u3],⟨f,af,ag,_⟩=>
  rw[f,af.1,ag.1];refine(aIN c (aa t hx) (aM.keep ((c3.trans c4).trans P).on t v hp) (A t2 i) (aM.keep P.on t2 p ab)).mono ?_;rintro e w6 y;obtain⟨v',S,rfl,W,h⟩:=y.one;refine⟨v',_,sH v' S,S,rfl,Sb W,y_B _ _,λw7 c7=>?_⟩;rw[hx,i];exact y.on (q.trans P) c7
end
end Ab
variable {rb:Nat}{w:World}
theorem aOe {x:LB}{tv:Value}(h:cI rb w x tv):∃e a,tv=.slice e x.length a/\∀k,(h:k<x.length)->∃tb,e=Y ⟨tb,0,X⟩/\w.cell? ⟨tb,k,X⟩=Y (.int .i64 x[k]):=by
 rcases h with⟨rfl,rfl⟩|⟨tb,a,c,rfl,_,f,i,g⟩
 .simp_all
 .refine⟨Y ⟨tb,0,X⟩,a,rfl,λk j=>⟨tb,rfl,?_⟩⟩
  have d:c.toList[k]?=Y (.int .i64 x[k]):=by
   have:(c.toList.take x.length)[k]?=(x.map (x8 .i64))[k]?:=by rw[g]
   grind
  exact aB f (by simpa using d)
namespace Ab
open Rf (Nd Inv cC Wt)
theorem Rj {s:World}(h:Chg w s []):Keep rb w s:=Keep.cQ (h.below O (λk a=>by simp at a))
theorem Oi {b:Nat}{kd x:Int}{a:LB}{tv lv rv:Value}(i:kd=2\/kd=3\/kd=4)(L:a.length<=9)(C:kd=4->2<=a.length)(p:w.heap[b]?=Y (.cells #[.int .i64 kd,.int .i64 x,tv,lv,rv] 98 (0,0)))(q:cI rb w a tv)(o2:One lv)(o3:One rv):Calls prog 102 #[aC b] w (eH w (Y (.fE (pN kd) a))):=by
 refine bB1 i p (cI.one q) o2 o3 λB c1=>?_
 obtain⟨r,f,rfl,hc⟩:=aOe (q.keep (Rj c1));refine(aG3 B b kd x a r f lv rv O (c1.at p E4) hc).mono ?_;rintro e o⟨l,m,rfl,d,y,j⟩
 have k:qJ (pN kd)=kd:=by rcases i with h|h|h<;>subst h<;>rfl
 have A:aM o (.fE (pN kd) a) (aC m):=by
  have⟨ao',ln',cp',hl⟩:=Yo d;refine⟨m,[.bool J,.slice X 0 0,.bool J,.slice X 0 0],[0,0],l,aO,aO,rfl,?_,⟨rfl,Kf I o,rfl,Kf I o,trivial⟩,rfl,λz k=>oU z (by simp at k;simp[k]),by rw[hl];rfl,rfl,rfl,λe=>?_⟩
  .rw[k];exact y
  .have D:kd=4:=by
    rcases i with h|h|h
    .subst h;cases e
    .subst h;cases e
    .exact h
   rcases d.2 with⟨_,h⟩|⟨g,f,c,h,v,s,F,_,_,u⟩
   .omega
   .refine⟨g,f,c.toList.drop a.length,h,O,?_⟩;rw[s]
    have n:c.toList.take a.length=a.map (x8 .i64):=by simpa using u
    have:a.map (λt=>x8 .i64 t)++c.toList.drop a.length=c.toList:=by
     rw[n.symm];simp
    rw[this]
 exact⟨aC m,rfl,rfl,λM c3=>.yes rfl ((c1.trans (Chg.cQ j)).trans c3) rfl (aM.keep c3.on _ _ A)⟩
theorem aX3:∀(t:Rd.Tr),Rd.Wf t->Fj t->32*Rd.iS t<=6100->∀(w:World) (v:Value),jE rb w t v->Calls prog 102 #[v] w (eH w (dG t)):=by
 intro t
 induction t with
 |nil=>intro h;exact h.elim
 |node n1 n2 a l r i o=>
  intro h n hc w v z;have⟨kd,x,ts⟩:=a;have⟨p9,pl,pr⟩:=n;have y:Rd.iS (.node n1 n2 (kd,x,ts) l r)=Rd.iS l+Rd.iS r+1:=rfl;obtain⟨b,tv,lv,rv,rfl,A,d,k,m,q⟩:=z;have o1:=cI.one k;have o2:=jE.one m;have o3:=jE.one q;rw[dG];simp only at h d k ⊢
  rcases h with⟨hk,p,_,rfl,rfl⟩|⟨hk,_,f,rfl,rfl⟩|⟨hk,f,s,u,_,rfl,rfl⟩|⟨hk,c,_,rfl⟩|⟨hk,c,g,_⟩
  .subst hk;have:0<=x:=p.1;have:x<1000000000:=p.2;exact bB0 O d o1 o2 o3
  .rw[if_neg O,if_pos O];exact Oi O (by rw[show ts=[]from f];exact u5 _) O d k o2 o3
  .rw[if_neg O,if_pos O];exact Oi O u (λ_=>s) d k o2 o3
  .rw[if_neg O,if_neg O]
   rcases hk with hk|hk
   .subst hk;exact bB2 d o1 o2 o3 (λt e=>(Iq l t c O e).1) (λj c1=>i c pl O j lv (jE.keep (Rj c1) m))
   .omega
  .rw[if_neg O,if_neg O,if_neg O,if_pos O]
   have B:kd=cV (Cp kd):=by rcases hk with hk|hk|hk|hk<;>subst hk<;>rfl
   rw[B]at d;exact of_B (Cp kd) d o1 o2 o3 (λt e=>(Iq l t c O e).1) (λt e=>(Iq r t g O e).1) (λj c1=>i c pl O j lv (jE.keep (Rj c1) m)) (λj c1=>o g pr O j rv (jE.keep (Rj c1) q))
end Ab
theorem aEU {P:Program}{ops:Array Oper}{rest:List Oper}{o:Oper}{a:Act}{Q:LL}(b:o.guard=X)(s x:Operand)(t:TypeId)
  (g:o.op=.call { callee:=.builtin .append,args:=#[s,x],argTypes:=#[t,t]}) (d e:Value) (j:a.eval s=d) (k:a.eval x=e) (c:Value) (w':World)
  (i:(y8 #[t,t] o.type #[d,e]).run P w=.ok c w') (h:wpList P ops Q rest (a.put o.dst c) w'):wpList P ops Q (o::rest) a w:=by
 refine wpList_plain b λ_ f=>?_
 unfold Oper.wp execOp;simp only[g,resolve,invoke,builtin,Sem.run_bind,Sem.run_pure,Result.andThen_ok,List.map_toArray,List.map_cons,List.map_nil,j,k,i];exact f _ _ h
namespace Ab
open Rf (Nd Inv cC Wt cD readK symsT)
theorem Net.apart {w':World}{b0 fb g0:Nat}{own:Nat->Option Own}{at1:NN}{s:Rf.St}(h:Net w b0 own at1 fb s)(hc:Chg w w' [g0])(d:g0<w.heap.size->∃cs:Array Value,w.heap[g0]?=Y (.cells cs 105 (0,0)))(c:own g0=X):Net w' b0 own at1 fb s:=by
 refine h.side hc λk cs ty a e b=>?_
 grind
def Run (t:Wt)(c0:Nat)(w:World)(b0 nb fb:Nat)(own:Nat->Option Own)(s:Rf.St)(top r:Nat):Prop:=
 ∃at1 c n,NbAt w b0 nb fb own at1 s top r/\s.clock=((c:Nat):Int)/\c<=c0/\Inv s.nodes c/\s.nodes[top]?=Y n/\r<=n.out.length/\top<t.size
section
variable {t:Wt} {c0:Nat} {w w':World} {b0 nb fb:Nat} {own:Nat->Option Own} {s:Rf.St} {top r:Nat}
theorem Run.still (h:Run t c0 w b0 nb fb own s top r)(hc:Chg w w' []):Run t c0 w' b0 nb fb own s top r:=by
 obtain⟨at1,c,n,a,d,e,b,f⟩:=h;exact⟨at1,c,n,⟨a.Aj.still b hc,hc.at a.blk E4,a.ow,r9 a.bs hc.on.size,a.Pn,a.nw⟩,d,e,b,f⟩
theorem Run.apart (h:Run t c0 w b0 nb fb own s top r){g0:Nat}(hc:Chg w w' [g0])(d:g0<w.heap.size->∃cs:Array Value,w.heap[g0]?=Y (.cells cs 105 (0,0)))(j:own g0=X):Run t c0 w' b0 nb fb own s top r:=by
 obtain⟨at1,c,n,a,e,f,i,g⟩:=h;refine⟨at1,c,n,⟨a.Aj.apart hc d j,hc.at a.blk ?_,a.ow,r9 a.bs hc.on.size,a.Pn,a.nw⟩,e,f,i,g⟩;intro b;simp at b;subst b;obtain⟨cs,h⟩:=d (bL a.blk);rw[a.blk]at h;grind
theorem Run.cut (h:Run t c0 w b0 nb fb own s top r):∃a,Run t c0 w b0 nb fb a s top r/\(∀k,k<w.heap.size->a k=own k)/\∀k,w.heap.size<=k->a k=X:=by
 obtain⟨at1,c,n,b,f,g,e,i⟩:=h;refine⟨λk=>if k<w.heap.size then own k else X,⟨at1,c,n,⟨⟨?_,b.Aj.fuel,b.Aj.Pk⟩,b.blk,?_,b.bs,b.Pn,λk d=>?_⟩,f,g,e,i⟩,λk d=>if_pos d,λk d=>if_neg O⟩
 .have:=yG.more (own':=λk=>if k<w.heap.size then own k else X) (new:=[]) b.Aj.nd e (Chg.refl w) (λk d=>if_pos d) (λ_ _=>rfl) (λj m l=>by simp at l);rw[p6]at this;exact this
 .show(if nb<w.heap.size then own nb else X)=X;split
  .exact b.ow
  .rfl
 .show(if k<w.heap.size then own k else X)=X;split
  .exact b.nw k d
  .rfl
theorem Run.low (h:Run t c0 w b0 nb fb own s top r):b0<=w.heap.size/\b0<=nb/\b0<=fb/\(∀k,k<b0->own k=X)/\nb<w.heap.size/\fb<w.heap.size:=by
 obtain⟨at1,c,n,a,_⟩:=h;exact⟨a.bs,a.Pn,a.Aj.Pk,a.nw,bL a.blk,bL a.Aj.fuel⟩
def Ia (t:Wt)(c0:Nat)(w:World)(b0 nb fb:Nat)(own:Nat->Option Own)(s:Rf.St)(top r:Nat)(e:Ending)(w':World):Prop:=
 On Z.bt w w'/\(∀k,k<w.heap.size->own k=X->k≠fb->k≠nb->w'.heap[k]?=w.heap[k]?)/\
  ((e=.returned (.int .i64 0)/\∃b,Rf.sym (cD t) s top r=Y (b,X))\/∃b z a,e=.returned (.int .i64 (code z))/\Rf.sym (cD t) s top r=Y (b,Y z)/\Run t c0 w' b0 nb fb a b top (r+1)/\∀k,k<w.heap.size->own k=X->a k=X)
theorem aLl (h3:c0<=3000)(h:Run t c0 w b0 nb fb own s top r)(P:r<=1000000):Calls prog 94 #[aC nb] w (Ia t c0 w b0 nb fb own s top r):=by
 obtain⟨at1,c,n,M,k,W,o,l,m,F⟩:=h
 have p:c+top+2<=cD t:=by unfold cD;omega
 obtain⟨x,i,u⟩:=Rf.total (cD t) s top r c k O o n l m p;refine(aUS M k O o l m P p i λR=>?_).mono ?_
 .obtain⟨v,hv⟩:=Option.isSome_iff_exists.1 R;obtain⟨j,_,_,L,_⟩:=u.ex v hv;grind
 .rintro e w'⟨rfl,g,q,a,b⟩;obtain⟨y,z⟩:=x;refine⟨g,a,?_⟩
  cases z with
  |none=>exact Or.inl ⟨rfl,y,i⟩
  |some z=>
   obtain⟨j,T,A,B,U,S,C,D⟩:=u.ex z rfl;obtain⟨d,f,N⟩:=b rfl;refine u6 ⟨y,z,d,rfl,i,⟨at1,j,S,f,A,O,B,C,D,F⟩,N⟩
theorem aRL {c:Nat}(f:t.Ok)(l:aM w t z)(hc:c<=3000):Calls prog 92 #[z,.int .i64 c] w λe w'=>∃ns d own nb fb n,Rf.of t []=Y (ns,d)/\ns[d]?=Y n/\e=.returned (aC nb)/\Chg w w' []/\Run t c w' w.heap.size nb fb own ⟨ns,c⟩ d 0:=by
 refine(aWT f l hc).mono ?_;rintro e w'⟨ns,d,own,at1,nb,fb,b,j,g,i⟩;obtain⟨m,o,a,h,hd,_,k⟩:=Rf.wV t [] f hc (Rf.Rx c);rw[b]at a;cases a;exact⟨ns,d,own,nb,fb,ns[d],b,j9 hd,j,g,at1,c,ns[d],i,rfl,r8 _,h.inv,j9 hd,u5 _,by simp at k;omega⟩
theorem aSd {g:Nd}(h:Run t c0 w b0 nb fb own s top r)(b:s.nodes[top]?=Y g):Calls prog 93 #[aC nb] w λe w'=>e=.returned (.bool (!g.pos))/\Chg w w' []:=by
 obtain⟨at1,c,d,a,_⟩:=h;exact aMH a b
end
end Ab
open Ab
open Rf (Wt cD readK symsT)
structure kY (w:World) (xb:Nat) (t:Rd.Tr):Prop where
 ex:∃rb rv,w.heap[xb]?=Y (.cells #[rv] 76 (0,0))/\jE rb w t rv
 wf:Rd.Wf t
 iS:Rd.iS t<=40
 pl:Fj t
theorem kY.keep {w s:World}{a:Nat}{t:Rd.Tr}(h:kY w a t)(hc:Chg w s []):kY s a t:=by
 obtain⟨f,i,b,e⟩:=h.ex;exact⟨⟨f,i,hc.at b E4,jE.keep (Rj hc) e⟩,h.wf,h.iS,h.pl⟩
theorem kY.ok {b:Nat}{t:Rd.Tr}(h:kY w b t){u:Wt}(a:dG t=Y u):u.Ok:=(Iq t u h.wf (by have:=h.iS;omega) a).1
theorem aKM (w:World)(a:Nat)(t:Rd.Tr)(k f:Int)(h:kY w a t)(k0:¬k<0)(k1:¬60<k)(f0:¬f<0)(f1:¬3000<f):Calls prog 64 #[.pointer (Y ⟨a,0,X⟩),.int .i64 k,.int .i64 f] w (eH w (dG t)):=by
 obtain⟨p,i,n,o⟩:=h.ex;have j:=hid (aX3 t h.wf h.pl (by have:=h.iS;omega) w i o);have c0:w.cell? ⟨a,0,X⟩=Y i:=aB n rfl
 go_in
 go_wp2_with fail
 refine(j.out).mono ?_;rintro e q b;obtain⟨v,m,rfl,_,_⟩:=b.one
 go_wp2_with fail
 exact bodyPost_ret (v:=.tuple #[v,.int .i64 m]) (by simp[results,results64]) rfl (hid b).out
def fY (z:Int):Value:=.int .i64 (code z)
def Ib (w:World)(a:Option (List Int))(e:Ending)(b:World):Prop:=Chg w b []/\match a with
 |none=>e=.returned (.tuple #[.slice X 0 0,.int .i64 6])
 |some zs=>∃l g,e=.returned (.tuple #[l,.int .i64 0])/\RowOf b 105 (zs.map fY) l g
def lenOf:Value->Nat
 |.slice _ n _=>n
 |_=>0
theorem Zm {e:TypeId}{zs:LB}{g:XW}(h:RowOf w e (zs.map fY) z g):∃a cp,z=.slice a zs.length cp:=by
 rcases h with⟨j,i,_⟩|⟨b,f,rest,_,i,_⟩
 .simp_all
 .grind
def oO (u:Wt)(c:Nat)(w:World)(B nb fb d k:Nat)(ans:Option (List Int))(l:Value)(wr:World):Prop:=
 ∃(zs:LB) (g:XW) (own:Nat->Option Own) (s:Rf.St) (r:Nat),RowOf wr 105 (zs.map fY) l g/\Run u c wr B nb fb own s d r/\zs.length<=k+1/\r<=zs.length/\(∀b,g=Y b->own b=X/\w.heap.size<=b)/\On Z.bt w wr/\(∀j,j<w.heap.size->wr.heap[j]?=w.heap[j]?)/\ans=(readK (cD u) (k+1-zs.length) s d r).map (zs++·)
section
variable {u:Wt} {c:Nat} {w wr:World} {B nb fb d k r:Nat} {ans:Option (List Int)} {l:Value} {zs:LB} {g:XW} {own:Nat->Option Own} {s:Rf.St}
theorem SymRel.end (f:RowOf wr 105 (zs.map fY) l g)(n:zs.length<=k+1)(m:k<zs.length)(h:On Z.bt w wr)(b:∀j,j<w.heap.size->wr.heap[j]?=w.heap[j]?)(a:ans=(readK (cD u) (k+1-zs.length) s d r).map (zs++·)):Ib w ans (.returned (.tuple #[l,.int .i64 0])) wr:=by
 have e:k+1-zs.length=0:=O
 rw[e,show readK (cD u) 0 s d r=Y []from rfl,Option.map_some,p6]at a;subst a;exact⟨⟨h,λj i _=>b j i⟩,l,g,rfl,f⟩
theorem aLY (P:Run u c wr B nb fb own s d r)(q:RowOf wr 105 (zs.map fY) l g)(hg:∀b,g=Y b->own b=X/\w.heap.size<=b)(p:On Z.bt w wr)(o:∀j,j<w.heap.size->wr.heap[j]?=w.heap[j]?)(hl:zs.length<=1000)(z:Int):
  ∃x n b h,(y8 #[102,102] 102 #[l,.slice (Y ⟨wr.heap.size,0,X⟩) 1 1]).run prog (wr.alloc (.cells #[fY z] 105))=.ok x n/\RowOf n 105 ((zs++[z]).map fY) x (Y b)/\Run u c n B nb fb h s d r/\h b=X/\w.heap.size<=b/\On Z.bt w n/\∀j,j<w.heap.size->n.heap[j]?=w.heap[j]?:=by
 obtain⟨i,zv,i1,i2,i3,i4⟩:=aLX;have c1:Chg wr (wr.alloc (.cells #[fY z] 105)) []:=Chg.alloc _ _;have a:=q.keep c1 (λ_ _=>by simp);obtain⟨m,A,T,U⟩:=(P.still c1).cut;generalize R:wr.alloc (.cells #[fY z] 105)=W at*
 have hx:W.heap[wr.heap.size]?=Y (.cells ([]++[fY z]++[]).toArray 105 (0,0)):=by rw[<-R];exact lE _ _
 obtain⟨x,n,b,a1,F,L,C,D⟩:=aNM (bt:=Z.bt) (t:=102) (t':=102) rfl rfl E0 i1 i2 i3 i4 E3 a hx rfl rfl (by simp;omega)
 have f:m b=X/\w.heap.size<=b:=by
  grind
 have c2:Chg W n [b]:=⟨C,λj v S=>D j v (by simpa using S)⟩
 have hq:b<W.heap.size->∃cs:Array Value,W.heap[b]?=Y (.cells cs 105 (0,0)):=by
  intro hb
  rcases L with e|e
  .rcases a with⟨_,_,N⟩|⟨b',M,rest,y,_,N,_⟩
   .grind
   .grind
  .omega
 refine⟨x,n,b,m,a1,by rw[r7];exact F,A.apart c2 hq f.1,f.1,f.2,(p.trans c1.on).trans C,λj v=>?_⟩;have y:=s7 v p.size;rw[D j (s7 y c1.on.size) (by have:=f.2;omega),c1.low j y E4,o j v]
theorem SymRel.next (hB:w.heap.size<=B)(hR:Run u c wr B nb fb own s d r)(p:RowOf wr 105 (zs.map fY) l g)(U:∀b,g=Y b->own b=X/\w.heap.size<=b)(F:On Z.bt w wr)(ae:∀j,j<w.heap.size->wr.heap[j]?=w.heap[j]?)(a:ans=(readK (cD u) (k+1-zs.length) s d r).map (zs++·)){m:Nat}(hm:k+1-zs.length=m+1)(hk:k<=60)(hr:r<=zs.length){e:Ending}{w5:World}(hN:Ia u c wr B nb fb own s d r e w5):
  (e=.returned (.int .i64 0)/\ans=X/\Chg w w5 [])\/∃z,e=.returned (.int .i64 (code z))/\∃N P,(y8 #[102,102] 102 #[l,.slice (Y ⟨w5.heap.size,0,X⟩) 1 1]).run prog (w5.alloc (.cells #[fY z] 105))=.ok N P/\oO u c w B nb fb d k ans N P/\k+1-lenOf N<k+1-zs.length:=by
 obtain⟨o,t,h⟩:=hN;obtain⟨au,av,ax,ay,az,a0⟩:=hR.low
 have q:∀j,j<w.heap.size->w5.heap[j]?=w.heap[j]?:=by
  grind
 rw[hm]at a
 rcases h with⟨T,s',W⟩|⟨s',z,af,T,W,R,L⟩
 .left;refine⟨T,?_,F.trans o,λj hj _=>q j hj⟩;rw[a];unfold readK;rw[W];rfl
 .right
  have D:∀b,g=Y b->(b<wr.heap.size/\b≠fb/\b≠nb):=by
   intro b i
   rcases p with⟨_,_,f⟩|⟨b',y,rest,A,_,f,_⟩
   .rw[f]at i;cases i
   .rw[A]at i;cases i;obtain⟨at1,c',n,C,_⟩:=hR;refine⟨bL f,?_,?_⟩
    .rintro rfl;rw[C.Aj.fuel]at f;exact absurd (Obj.cells.inj (u9 f)).2.1 E3
    .rintro rfl;rw[C.blk]at f;exact absurd (Obj.cells.inj (u9 f)).2.1 E3
  have v:RowOf w5 105 (zs.map fY) l g:=by
   rcases p with h|⟨b,y,rest,A,h2,f,h4⟩
   .exact Or.inl h
   .obtain⟨q1,q2,q3⟩:=D b A;exact u6 ⟨b,y,rest,A,h2,by rw[t b q1 (U b A).1 q2 q3];exact f,h4⟩
  obtain⟨N,P,b,M,a1,a2,a3,a4,a5,a6,a7⟩:=aLY R v (λb i=>⟨L b (D b i).1 (U b i).1,(U b i).2⟩) (F.trans o) q O z;refine⟨z,T,N,P,a1,⟨zs++[z],Y b,M,s',r+1,a2,a3,by simp;omega,by simp;omega,λb' S=>by cases S;exact⟨a4,a5⟩,a6,a7,?_⟩,?_⟩
  .rw[a]
   have e:k+1-(zs++[z]).length=m:=by simp;omega
   rw[e,readK,W];simp only
   cases readK (cD u) m s' d (r+1)with
   |none=>rfl
   |some x=>simp
  .obtain⟨ao,cp,hv⟩:=Zm a2;rw[hv];simp[lenOf];omega
end
end Go.Proofs.YtnlddnbfoehboaaGreatDoor
