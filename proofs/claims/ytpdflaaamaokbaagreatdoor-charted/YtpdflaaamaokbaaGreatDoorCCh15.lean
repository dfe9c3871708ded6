import Derived.Test.YtpdflaaamaokbaaGreatDoorCCh14
set_option linter.all false
set_option maxRecDepth 100000
set_option maxHeartbeats 2000000
namespace Go.Proofs.YtpdflaaamaokbaaGreatDoor
open List renaming mem_cons->j8,not_mem_nil->j9,replicate->k8,getElem?_eq_getElem->k9,getElem?_append_left->l4,append_assoc->l5,range->l7,mem_singleton->l8,length_eq_zero_iff->l9,length_append->n4
open Nat renaming le_refl->n5,le_trans->n6,lt_of_lt_of_le->n7,lt_of_lt_of_eq->n8
open Or renaming inr->n9
open Option.some renaming inj->o8,injEq->o9
open Prod.mk renaming injEq->p7
open Int renaming le_of_lt->p8,mul_pos->p9,one_mul->q7
open Pg (HC eN gV)
open Rf (V Ox pX We)
open Go.Proofs.Tryz
open Go.RowKit
namespace Ab
open Rf (Nd Inv aY Wt)
section
variable {w w':World} {b0:Nat} {own own':Nat->Option Own} {at1 at2:NN} {ns ns1:List Nd} {rho:NN} {c N:Nat}
theorem aOh (h:wR w b0 own at1 ns)(l:Inv ns rho c)(d:Chg w w' []){blks:NU}{new:List Nd}(e:∀m∈blks,w.heap.size<=m)(b:∀j i,new[j]?=some i->cH w' b0 (oP ns.length blks own) (kA ns.length blks at1) (ns++new) (ns.length+j) i):
  (∀k,k<w.heap.size->oP ns.length blks own k=own k)/\wR w' b0 (oP ns.length blks own) (kA ns.length blks at1) (ns++new)/\∀a,a<ns.length->kA ns.length blks at1 a=at1 a:=by
 have g:∀k,k<w.heap.size->oP ns.length blks own k=own k:=λk o=>aOx λn=>absurd (e k n) (by omega)
 have f:∀a,a<ns.length->kA ns.length blks at1 a=at1 a:=λa h=>vB h
 exact⟨g,h.more l d g f b,f⟩
theorem Ph {pos:Bool}{p q:Int}(a:NodeAt w (at2 N) [p,q,0,0,0,0,0,0] (!pos) 0 0 0 0 0 aB aB aI aB aB)(d:own' (at2 N)=some (.nd N))(b:b0<=at2 N):cH w b0 own' at2 ns1 N (Rf.fresh pos [(p,q)] []):=by
 refine⟨⟨p,q,0,0,0,0,0,0,0,0,aI,aB,aB,⟨a,Or.inl ⟨rfl,rfl⟩,λe=>(by cases e),λ_=>rfl,λ_=>rfl,λe=>(by cases e)⟩,[(p,q)],?_,?_⟩,HC.fresh _ _ _,d,b,λe=>by cases e⟩
 .show some ([(p,q)].map (Rf.fG Rf.one))=_;simp[Rf.Gi]
 .exact⟨⟨1,by decide,by simp[Pg.pad,Pg.sc]⟩,rfl⟩
variable {s:LN}
theorem Pr {a:Nat}{xa:Nd}{u v:V}{mN:Nd}(b:NodeAt w (at2 N) s (!mN.pos) (fL mN) 0 0 0 0 aB (aA (at2 a)) aI aB aB)(h8:s.length=8)(f3:mN.t=[u,v])(n:mN.args=[a])(o:mN.read=[0])(f:mN.out=[])(p:mN.told=Rf.one)(g:mN.dR=[Rf.one])(q:mN.nest=false)(f2:mN.aP=true->mN.t=[(1,0),(0,1)])(l:ns1[a]?=some xa)(k:xa.dR[0]?=some Rf.one)(d:eN [u,v] (cE s))(j:own' (at2 N)=some (.nd N))(i:b0<=at2 N):cH w b0 own' at2 ns1 N mN:=by
 obtain⟨B,F,C,H,D,I,E,J,rfl⟩:=eight h8;refine⟨⟨B,F,C,H,D,I,E,J,0,0,aI,aB,aB,⟨?_,Or.inl ⟨rfl,f⟩,λe=>?_,λ_=>rfl,λ_=>rfl,λe=>?_⟩,[u,v],Pg.Ys f3 (by rw[n];rfl) (by rw[o];rfl) l k p,d⟩,⟨by rw[g,f];rfl,by rw[g];rfl,by rw[g,f,p];rfl,λr L M h=>by rw[f]at h;simp at h⟩,j,i,λe=>⟨f2 e,q⟩⟩
 .have x:lArg mN=none:=by unfold lArg;rw[f3];rfl
  have y:rArg mN=some a:=by unfold rArg;rw[f3,n];rfl
  have z:hV mN=0:=by unfold hV;rw[f3];rfl
  have A:gC mN=0:=by unfold gC;rw[f3,o];rfl
  rw[x,y,z,A];exact b
 .rw[f3]at e;cases e
 .rw[q]at e;cases e
theorem aVt {a b:Nat}{d A:Nd}{f:Rf.Kind}{i pb:Bool}(j:NodeAt w (at2 N) s (!(Rf.two f i pb a b).pos) 0 0 0 0 0 (aA (at2 a)) (aA (at2 b)) aI aB aB)(h8:s.length=8)(q:ns1[a]?=some d)(p:d.dR[0]?=some Rf.one)(x:ns1[b]?=some A)(k:A.dR[0]?=some Rf.one)(g:eN f.cols (cE s))(o:own' (at2 N)=some (.nd N))(n:b0<=at2 N):cH w b0 own' at2 ns1 N (Rf.two f i pb a b):=by
 obtain⟨F,L,H,M,I,O,J,P,rfl⟩:=eight h8
 have l:∃u v y z,f.cols=[u,v,y,z]:=by cases f<;>exact⟨_,_,_,_,rfl⟩
 obtain⟨u,v,y,z,l⟩:=l;have f3:(Rf.two f i pb a b).t=[u,v,y,z]:=l;rw[l]at g;refine⟨⟨F,L,H,M,I,O,J,P,0,0,aI,aB,aB,⟨?_,Or.inl ⟨rfl,rfl⟩,λe=>?_,λ_=>rfl,λ_=>rfl,λe=>(by cases e)⟩,[u,v,y,z],Pg.Yt f3 rfl rfl q p x k rfl,g⟩,⟨rfl,rfl,rfl,λr R S h=>by simp[Rf.two,Rf.fresh]at h⟩,o,n,λe=>by cases e⟩
 .have B:lArg (Rf.two f i pb a b)=some a:=by unfold lArg;rw[f3];rfl
  have C:rArg (Rf.two f i pb a b)=some b:=by unfold rArg;rw[f3];rfl
  have D:hV (Rf.two f i pb a b)=0:=by unfold hV;rw[f3];rfl
  have E:gC (Rf.two f i pb a b)=0:=by unfold gC;rw[f3];rfl
  rw[B,C,D,E];exact j
 .rw[f3]at e;cases e
theorem aSG {d:Nat}{op:Rf.Op}{ts:LN}(a:NodeAt w (at2 N) [1,0,0,1,0,0,0,0] false 0 0 0 0 0 aB aB aI (aA d) aB)(b:fV w { Rf.fresh true [] []with op:=op,terms:=ts} d)(g:own' (at2 N)=some (.nd N))(f:b0<=at2 N):cH w b0 own' at2 ns1 N { Rf.fresh true [] []with op:=op,terms:=ts}:=by
 refine⟨⟨1,0,0,1,0,0,0,0,0,0,aI,aA d,aB,⟨a,Or.inl ⟨rfl,rfl⟩,λ_=>⟨rfl,d,rfl,b⟩,λe=>absurd rfl e,λ_=>rfl,λe=>(by cases e)⟩,[(1,0),(0,1)],Pg.aFN rfl rfl rfl,?_⟩,(HC.fresh true [] []).of rfl rfl rfl,g,f,λe=>by cases e⟩;exact .Ek (e:=1) (by decide) (gV _).symm (gV _).symm (gV _).symm (gV _).symm
end
theorem aVB (a:Rf.Kind):eN a.cols (cE (Sm a)):=by
 cases a<;>exact .El (e:=1) (by decide) (gV _).symm (gV _).symm (gV _).symm (gV _).symm
theorem aSF:eN [((-1,0):V),(0,1)] (cE [-1,0,0,1,0,0,0,0]):=.Ek (e:=1) (by decide) (gV _).symm (gV _).symm (gV _).symm (gV _).symm
theorem Ud {w b:World}(g:On Z.bt w b){d:Nat}{cs:Array Value}(a:w.heap[d]?=some (.cells cs 161 (0,0))):b.heap[d]?=some (.cells cs 161 (0,0)):=by
 rcases g.bS d _ a with e|⟨e,_⟩
 .exact e
 .have f:Md.contains 161=true:=e;exact absurd f (by decide)
abbrev RB:=Go.Proofs.YtpdflaaamaokbaaGreatDoor.Bits
theorem Mm {w:Nat}:RB w 0:=by
 show(0:Int).natAbs<2^w;simp[Nat.pow_pos]
variable {w:World}
theorem Vo {l:Nat}{nd:Nd}(cs:LB)(g:w.heap[l]?=some (.cells cs.toArray 161 (0,0)))(r:Rf.pT nd)(pb:RB 6100 nd.p)(qb:RB 6100 nd.q)(A:∀k:Nat,k<=3000->∃a b c d,Rf.constant nd k=some ⟨a,b,c,d⟩/\∀W,On Z.bt w W->Calls prog 167 #[aA l,.int .i64 k] W λe w'=>∃x:LB,e=.returned (.agg x.toArray)/\Hold true w' [a,b,c,d] x/\Below W.heap.size W w'):fV w nd l:=by
 refine⟨⟨_,g⟩,λk u=>?_⟩;obtain⟨a,b,c,d,s,y⟩:=A k u;obtain⟨m,i,f⟩:=Rf.Fx (n:=nd) r (k:=k) u pb qb;rw[s]at i;have o:m=⟨a,b,c,d⟩:=(o8 i).symm;rw[o]at f;refine⟨1,a,b,c,d,by decide,by rw[s];simp[Pg.wC],?_,y⟩
 have j:∀{z:Int},z.natAbs<2^18400->Bits 2 z:=λh=>wZ (N:=18400) (by decide) h
 intro z v;simp at v
 rcases v with rfl|rfl|rfl|rfl
 .exact j f.a
 .exact j f.b
 .exact j f.c
 .exact j f.d
theorem jW:∀z∈([0,0,0,0,0,0,0,0]:LN),Bits 1 z:=aW
variable {ts:LN}{x:Value}{cs:LB}
theorem aVF {b:Nat}(e:One x)(a:w.heap[b]?=some (.cells (.int .i64 2::x::cs).toArray 161 (0,0)))(hold:Hold true w [0,0,0,0,0,0,0,0] cs):fV w { Rf.fresh true [] []with op:=.pi,terms:=ts} b:=by
 refine Vo _ a (Or.inl rfl) Mm Mm λk f=>⟨_,_,_,_,aXP (by omega) rfl,λW d=>?_⟩
 exact Vp (Ud d a) e (nD d hold) rfl jW (aZB 0 0 0 0 0 0 0 0 k) (bJ ⟨by omega,by omega⟩)
theorem aJC {k:Nat}(g:k<=3000):(hP (k:Int)).natAbs<1000000000000000000:=by
 have b:=Rg (n:={ Rf.fresh true [] []with op:=.e}) (k:=k) (by omega) rfl;have d:Rf.constant { Rf.fresh true [] []with op:=.e} k=some ⟨Rf.hP k,1,1,0⟩:=rfl;rw[d]at b;have f:Rf.hP k=hP (k:Int):=congrArg Mt.a (o8 b);rw[<-f];unfold Rf.hP;split
 .decide
 .split<;>omega
theorem aXa {b:Nat}(g:One x)(a:w.heap[b]?=some (.cells (.int .i64 3::x::cs).toArray 161 (0,0)))(hold:Hold true w [0,0,0,0,0,0,0,0] cs):fV w { Rf.fresh true [] []with op:=.e,terms:=ts} b:=by
 refine Vo _ a (n9 (Or.inl rfl)) Mm Mm λk f=>⟨_,_,_,_,Rg (by omega) rfl,λW d=>?_⟩
 exact Vp (Ud d a) g (nD d hold) rfl jW (aZC 0 0 0 0 0 0 0 0 k) (bJ (aJC f))
variable {q:Int}
theorem aPR {n:Nat}{p:Int}(r:0<p)(s:0<q)(f:RB 6100 p)(e:RB 6100 q)(d:w.heap[n]?=some (.cells (.int .i64 10::aI::cs).toArray 161 (0,0)))(hold:Hold true w [0,0,0,0,eL p q*q,eM p q*p,eM p q*q,eL p q*q] cs):fV w (Rf.row .sqrt p q) n:=by
 obtain⟨a,b,g,_,_,B,l⟩:=Ox r s f e
 have C:eL p q=a:=by unfold eL;rw[g];rfl
 have D:eM p q=b:=by unfold eM;rw[g];rfl
 rw[C,D]at hold
 refine Vo _ d (n9 (n9 (n9 ⟨Or.inl rfl,r,s⟩))) f e λk I=>⟨a*q,b*p,b*q,a*q,?_,λW o=>?_⟩
 .show(Rf.near p q 20000 1).map _=_;rw[g];rfl
 .have j:∀{x y:Int} {u v:Nat},u+v<=10000000->RB u x->RB v y->Bits 1 (x*y):=by
   intro x y u v E F H;refine wZ (N:=u+v) (by omega) ?_;rw[Int.natAbs_mul,Nat.pow_add];exact Nat.mul_lt_mul'' F H
  refine Vp (Ud o d) rfl (nD o hold) rfl ?_ (Qr 0 0 0 0 (a*q) (b*p) (b*q) (a*q) k) gJ;intro z A
  have i:z=0\/z=a*q\/z=b*p\/z=b*q:=by
   simp only[j8,j9,or_false]at A
   rcases A with h|h|h|h|h|h|h|h<;>simp[h]
  rcases i with rfl|rfl|rfl|rfl
  .exact jW 0 (by simp)
  .exact j (by decide) B e
  .exact j (by decide) l f
  .exact j (by decide) l e
noncomputable def Ye (tv:Value)(k:Int):AS:=⟨.val (.one (.ptr 0 0))::.val (.one (.sint .i64 k))::k8 34 .gG,[(0,ext [.int .i64 4,.lit tv] 161)],1,[],[]⟩
def stC (a:List (K (List AT))):Bool:=nH (aG 183) a
noncomputable def cfT (tv:Value)(k:Int):Option Tr:=run Z (aE tN) bC (aL Z (aE tN)) stC 400 [.code (aF f167),.top f167] (Ye tv k)
def atS:Option Tr->AS
 |some (.stop a s)=>s
 |_=>⟨[],[],0,[],[]⟩
noncomputable def Xr (tv:Value)(k:Int):AS:=atS (cfT tv k)
def Bq (s:AS)(t:Int):AS:=⟨putT s.tmps (some 25) (dP t),s.boxes,s.next,s.nums,s.dirty⟩
section
variable (tv:Value) (k t:Int)
theorem aZx:cfT tv k=some (.stop (eH (pD 25) f167) (Xr tv k)):=by kernel_rfl
theorem aZu:cP Z (Xr tv k) (eH (pD 25) f167)=some (183,[.one (.lit tv),.one (.sint .i64 k)],some 25,eE (pD 25) f167):=by kernel_rfl
theorem aZv:noFr (eH (pD 25) f167)=true:=by kernel_rfl
theorem aZw:((run Z (aE tN) bC (aL Z (aE tN)) (λ_=>false) 400 (eE (pD 25) f167) (Bq (Xr tv k) t)).bind outcome).bind (jH true)=some ([t.natAbs<1000000000000000000],.one (.ns [t,1,1,0]),1):=by kernel_rfl
end
theorem aW8 (tv:Value)(k:Int):clean (Xr tv k)=true:=by kernel_rfl
theorem aVy {n:World}{w g p len k:Nat}{t:Int}{W:LB}{tv:Value}(A:tv=.slice (some ⟨g,0,none⟩) len p)(i:n.heap[w]?=some (.cells (.int .i64 4::tv::W).toArray 161 (0,0)))(h2:2<=len)(r:len<=1000000)(hk:k<=1000000)(ht:t.natAbs<1000000000000000000)(hc:∀E,Chg n E []->E.cell? ⟨g,oB len k,none⟩=some (.int .i64 t)):
  Calls prog 167 #[aA w,.int .i64 k] n λe E=>∃F:LB,e=.returned (.agg F.toArray)/\Hold true E [t,1,1,0] F/\Below n.heap.size n E:=by
 have ot:One tv:=by rw[A];rfl
 have u:RepW Z n (ph1 0 w) (ph1 0 w) (Ye tv k) n:=by
  refine rQ rfl ?_ ?_ ?_
  .intro b B hB;have:=nE hB;simp[Ye]at this;obtain⟨rfl,rfl⟩:=this;exact⟨rfl,rfl,rfl,w,0,rfl,[],[.int .i64 4,tv],W,i,rfl,rfl,⟨rfl,ot⟩,trivial⟩
  .intro b hb;have:1<=b:=hb;unfold ph1;rw[if_neg (by omega)]
  .intro b k' o f;unfold ph1 at f;split at f
   .cases f;exact gZ i
   .cases f
 refine pM (bD func167 rfl rfl) (φ:=ph1 0 w) (vs:=[.one (.ptr 0 0),.one (.sint .i64 k)]) (args:=[aA w,.int .i64 k]) (s:=Ye tv k) (by kernel_rfl) ⟨⟨w,0,rfl,rfl⟩,rfl,trivial⟩ u ?_;intro C av a0 P x L;refine vC (dL jO) aSw (rJ mixed (dL jO)) (λ_ _=>False) (λT s=>T=eH (pD 25) f167/\cP Z s (eH (pD 25) f167)=some (183,[.one (.lit tv),.one (.sint .i64 k)],some 25,eE (pD 25) f167)/\clean s=true/\((run Z (aE tN) bC (aL Z (aE tN)) (λ_=>false) 400 (eE (pD 25) f167) (Bq s t)).bind outcome).bind (jH true)=some ([t.natAbs<1000000000000000000],.one (.ns [t,1,1,0]),1)) ?_ (λ_ _ _ _ _ h=>h.elim) _ _ _ _ (aZx tv k) ⟨rfl,aZu tv k,aW8 tv k,aZw tv k t⟩ C _ a0 P x L;rintro T s⟨rfl,I,j,J⟩ aj φ a R N d;have b1:Below n.heap.size n R:=RepF.below d.wd j
 refine qI I (bD func183 rfl rfl).en aZv N d λus O=>?_
 match us,O with
 | [u1,u2],⟨l,q,_⟩=>
 have l:u1=tv:=l.1;have q:u2=.int .i64 k:=q;rw[l,q,A];refine(aLM R g p len k t h2 r hk (hc R (Chg.eC b1))).mono ?_;rintro e S⟨rfl,rfl⟩;refine⟨_,rfl,λD af y=>?_⟩
 have M:Rep Z n (ph1 0 w) φ (Bq s t) (a.put (some 25) (.int .i64 t)) S:=⟨⟨d.wd.box,d.wd.own,d.wd.inj,d.wd.tip,d.wd.fresh,d.wd.lt,d.wd.low,d.wd.on,d.wd.base,d.wd.qD⟩,by rw[rL];exact d.defers,rP (dst:=some 25) d.tmps (show relT Z φ s.nums S (dP t) (.int .i64 t)from rfl)⟩
 obtain⟨o,q1,q2⟩:=aS J;obtain⟨tr,q3,q4⟩:=aS q1;refine vC (dL jO) aSw (rJ mixed (dL jO)) _ _ (λ_ _ h=>h.elim) ?_ _ _ _ _ q3 (yK q4 (Dq q2 (bJ ht) (n5 _))) D _ _ S (y _ _ _) M;rintro r0 st ax v U⟨j,r',h7,H⟩ hrel hw;obtain⟨F,X,Y⟩:=H U v (Cr h7 hrel);refine⟨F,by rw[X],?_,RepF.below hw j⟩;exact(xF (k:=true) (w:=U) _ [t,1,1,0] _ F (show dT true ([t,1,1,0].map λz=>.num true z 1)=some ([t,1,1,0],_)from rfl) Y).1
theorem aVD {n:World}{w:Nat}{tv:Value}(v:zE n ts tv)(h:2<=ts.length)(j:∀a∈ts,RB 40 a)(b:n.heap[w]?=some (.cells (.int .i64 4::tv::cs).toArray 161 (0,0))):fV n { Rf.fresh true [] []with op:=.cf,terms:=ts} w:=by
 obtain⟨g,o,l,q,p,r⟩:=v
 refine Vo _ b (n9 (n9 (Or.inl ⟨rfl,h,j⟩))) Mm Mm λk y=>?_
 have z:=Nat.mod_lt (k-1) (show 0<ts.length-1 by omega)
 have d:oB ts.length k<ts.length:=by
  unfold oB
  split<;>omega
 have u:ts[oB ts.length k]?=some ts[oB ts.length k]:=k9 d;refine⟨ts[oB ts.length k],1,1,0,?_,λW i=>?_⟩
 .show(ts[if k=0 then 0 else 1+(k-1)%(ts.length-1)]?).map _=_;have:ts[if k=0 then 0 else 1+(k-1)%(ts.length-1)]?=some ts[oB ts.length k]:=u;rw[this];rfl
 .have f:=j _ (List.getElem_mem d);have e:(ts[oB ts.length k]).natAbs<2^40:=f
  refine aVy q (Ud i b) h p (by omega) (Nat.lt_trans e (by decide)) λx hc=>?_
  have s:=Fp (i.trans hc.on) r (by decide);show x.cell? _=_;rw[Ls s];simp[l4,d]
variable {ns:List Nd}
theorem Ga {r:List Nd}{d:Nd}(h:Rf.more ns d=some r):r=ns++[d]:=by
 unfold Rf.more at h;split at h
 .exact(o8 h).symm
 .cases h
structure hZ (w:World) (b0:Nat) (own:Nat->Option Own) (at1:NN) (ns:List Nd) (w':World) (ns':List Nd) (own':Nat->Option Own) (at2:NN):Prop where
 sP:Chg w w' []
 own:∀k,k<w.heap.size->own' k=own k
 Bi:wR w' b0 own' at2 ns'
 at':∀a,a<ns.length->at2 a=at1 a
section
variable {w w2 w3:World} {b0:Nat} {own own2:Nat->Option Own} {at1 at2:NN} {ns ns2:List Nd} {rho:NN} {c:Nat}{s:LN}{n:Nd}
theorem hZ.one (g:hZ w b0 own at1 ns w2 ns2 own2 at2)(A:Inv ns2 rho c)(D:ns.length<=ns2.length)(B:b0<=w.heap.size){i:Bool}{v:Int}{lp rp u:Value}{e:Ending}(q:NewNd w2 s i v lp rp u e w3)
  (E:∀d b,(∀a,a<ns2.length->b a=at2 a)->d (b ns2.length)=some (.nd ns2.length)->b0<=b ns2.length->NodeAt w3 (b ns2.length) s i v 0 0 0 0 lp rp aI u aB->cH w3 b0 d b (ns2++[n]) ns2.length n):
  ∃d b,e=.returned (aA (b ns2.length))/\hZ w b0 own at1 ns w3 (ns2++[n]) d b:=by
 obtain⟨m,C,h,y,f⟩:=q;have o:kA ns2.length [m] at2 ns2.length=m:=Ct (j:=0) rfl
 obtain ⟨k1,F,H⟩:=aOh (blks:=[m]) (new:=[n]) g.Bi A h (λx z=>by simp at z;rw [z];exact y) (by
  intro j I l
  match j,l with
  |0,l=>
   cases l;refine E _ _ (λa p=>vB p) ?_ ?_ ?_
   .rw[o];exact Pj (j:=0) (by simp) rfl
   .rw[o];exact n6 B (n6 g.sP.on.size y)
   .rw[o];exact f
  |j+1,l=>simp at l)
 exact⟨_,_,by rw[o];exact C,g.sP.trans h,λk r=>by rw[k1 k (n7 r g.sP.on.size),g.own k r],F,λa p=>by rw[H a (by omega),g.at' a p]⟩
theorem hZ.two (b:hZ w b0 own at1 ns w2 ns2 own2 at2)(P:Inv ns2 rho c)(R:ns.length<=ns2.length)(H:b0<=w.heap.size){h:Nat}{O:LN}{i:Bool}{v:Int}{y g u:Value}{e:Ending}(E:NewNd w2 O i v aB (aA h) aB e w3)(J:w2.heap.size<=h)(r:NodeAt w3 h s false 0 0 0 0 0 y g aI u aB)(F:e≠.returned (aA h)){n1:Nd}
  (D:∀f d,(∀a,a<ns2.length->d a=at2 a)->f (d ns2.length)=some (.nd ns2.length)->b0<=d ns2.length->NodeAt w3 (d ns2.length) s false 0 0 0 0 0 y g aI u aB->cH w3 b0 f d (ns2++[n1,n]) ns2.length n1)
  (S:∀f d,f (d (ns2.length+1))=some (.nd (ns2.length+1))->b0<=d (ns2.length+1)->NodeAt w3 (d (ns2.length+1)) O i v 0 0 0 0 aB (aA (d ns2.length)) aI aB aB->cH w3 b0 f d (ns2++[n1,n]) (ns2.length+1) n):
  ∃f d,e=.returned (aA (d (ns2.length+1)))/\hZ w b0 own at1 ns w3 (ns2++[n1,n]) f d:=by
 obtain⟨m,I,q,M,p⟩:=E
 have C:h≠m:=by
  rintro rfl;exact F I
 have z:kA ns2.length [h,m] at2 ns2.length=h:=Ct (j:=0) rfl;have A:kA ns2.length [h,m] at2 (ns2.length+1)=m:=Ct (j:=1) rfl
 have l:[h,m].Nodup:=by simp[C]
 obtain ⟨k1,T,U⟩:=aOh (blks:=[h,m]) (new:=[n1,n]) b.Bi P q (λx N=>by
  simp at N
  rcases N with rfl|rfl
  .exact J
  .exact M) (by
  intro j W o
  match j,o with
  |0,o=>
   cases o;refine D _ _ (λa B=>vB B) ?_ ?_ ?_
   .rw[z];exact Pj (j:=0) l rfl
   .rw[z];exact n6 H (n6 b.sP.on.size J)
   .rw[z];exact r
  |1,o=>
   cases o;refine S _ _ ?_ ?_ ?_
   .rw[A];exact Pj (j:=1) l rfl
   .rw[A];exact n6 H (n6 b.sP.on.size M)
   .rw[z,A];exact p
  |j+2,o=>simp at o)
 exact⟨_,_,by rw[A];exact I,b.sP.trans q,λk L=>by rw[k1 k (n7 L b.sP.on.size),b.own k L],T,λa B=>by rw[U a (by omega),b.at' a B]⟩
theorem hZ.refl (h:wR w b0 own at1 ns)(b:Inv ns rho c)(a:Chg w w2 []):hZ w b0 own at1 ns w2 ns own at1:=⟨a,λ_ _=>rfl,h.still b a,λ_ _=>rfl⟩
theorem hZ.on (g:hZ w b0 own at1 ns w2 ns2 own2 at2)(b:Inv ns2 rho c)(a:Chg w2 w3 []):hZ w b0 own at1 ns w3 ns2 own2 at2:=⟨g.sP.trans a,g.own,g.Bi.still b a,g.at'⟩
theorem hZ.trans {O:Nat->Option Own}{P:NN}{j:List Nd}(g:hZ w b0 own at1 ns w2 ns2 own2 at2)(f:ns.length<=ns2.length)(b:hZ w2 b0 own2 at2 ns2 w3 j O P):hZ w b0 own at1 ns w3 j O P:=⟨g.sP.trans b.sP,λk d=>by rw[b.own k (n7 d g.sP.on.size),g.own k d],b.Bi,λa e=>by rw[b.at' a (by omega),g.at' a e]⟩
theorem Lh (h:wR w b0 own at1 ns){d:Nat}(f:ns[d]?=some n):(∃g:LB,w.heap[at1 d]?=some (.cells (.bool (!n.pos)::g).toArray 120 (0,0)))/\n.dR[0]?=some Rf.one:=by
 have a:=h d n f;obtain⟨k,p,p1,q,l,r,p3,s,mt,o,gv,i,j,e,_⟩:=a.ex;obtain⟨u,b,_⟩:=e.nd.ex;exact⟨⟨_,b⟩,a.hc.fst⟩
end
def Fj (t:Wt)(w:World)(b0:Nat)(own:Nat->Option Own)(at1:NN)(ns:List Nd)(e:Ending)(f:World):Prop:=∃a d b at2,Rf.of t ns=some (a,d)/\e=.returned (aA (at2 d))/\hZ w b0 own at1 ns f a b at2
def jL (t:Wt):Prop:=∀(w:World) (b0:Nat) (own:Nat->Option Own) (at1:NN) (ns:List Nd) (rho:NN) (c:Nat) (v:Value),wR w b0 own at1 ns->b0<=w.heap.size->c<=3000->Inv ns rho c->t.Ok->aJ w t v->Calls prog 60 #[v] w (Fj t w b0 own at1 ns)
theorem Pe {s:LN}{a:LB}(h:Hold true w s a)(b:s.length=2)(d:∀z∈s,Bits 1 z):a.length=4/\∀x∈a,One x:=by
 have:=tV s a 0 (φ:=λ_=>none) (s.map λz=>(z,1)) h d λj z e=>by rw[Nat.zero_add,List.getElem?_map,e];rfl
 rw[b]at this;exact⟨this.len.symm,Kx this⟩
theorem xM {v:Int}(h:RB 6100 v):Bits 1 v:=wZ (N:=6100) (by decide) h
theorem aTg (p q:Int):jL (.fr p q):=by
 rintro w b0 own at1 ns rho c v H I hc i f⟨k,R,O,M,N,rfl,E,F,o1,o2,o3⟩;obtain⟨J,r,d,b,_⟩:=pX (.fr p q) ns rho f hc i;have h:=b;unfold Rf.of at b;obtain⟨L,x,y⟩:=bU b;cases y;have A:=Ga x;subst A
 refine (aV8 E F (by
  intro z o;simp at o
  rcases o with rfl|rfl
  .exact xM f.2.1
  .exact xM f.2.2) o1 o2 o3).mono ?_
 intro e P j
 obtain ⟨a,g,s,u⟩:=(hZ.refl H i (Chg.refl w)).one i (n5 _) I (n:=Rf.fresh (decide (0<=p)) [(p,q)] []) j (by
  intro a g _ B C D;refine Ph ?_ B C
  have:(!decide (0<=p))=decide (p<0):=by
   by_cases l:0<=p
   .simp[l]
   .simp[l];omega
  rw[this]
  exact D)
 exact⟨_,_,a,g,h,s,u⟩
theorem aQi (op:Rf.Op)(ts:LN):jL (.fH op ts):=by
 rintro w b0 own at1 ns rho c v O P hc r i⟨k,xs,zs,tv,lv,rv,rfl,M,N,X,Y,o1,o2,o3,s⟩;obtain⟨T,y,d,f,_⟩:=pX (.fH op ts) ns rho i hc r;have o:=f;unfold Rf.of at f;obtain⟨U,E,F⟩:=bU f;cases F;have H:=Ga E;subst H;obtain⟨x4,x1⟩:=Pe N X Y
 have x:aH op=2\/aH op=3\/aH op=4:=by
  rcases i with rfl|rfl|⟨rfl,_⟩
  .exact Or.inl rfl
  .exact n9 (Or.inl rfl)
  .exact n9 (n9 rfl)
 refine(aV6 x M x4 x1 o1 o2 o3).mono ?_;rintro e W⟨cb,cs,l,a,hold,_⟩
 have u:Chg w W []:=by obtain⟨m,_,h,_⟩:=l;exact h
 obtain ⟨b,j,C,D⟩:=(hZ.refl O r (Chg.refl w)).one r (n5 _) P (n:={ Rf.fresh true [] [] with op:=op,terms:=ts}) l (by
  intro b j _ I J L;refine aSG L ?_ I J
  rcases i with rfl|rfl|⟨rfl,R,S⟩
  .exact aVF o1 a hold
  .exact aXa o1 a hold
  .refine aVD ?_ R S a;obtain⟨g,q,p,A,z,B⟩:=s rfl
   exact⟨g,q,p,A,z,Fp u.on B (by decide)⟩)
 exact⟨_,_,b,j,o,C,D⟩
theorem Li {t:Wt}(h:aJ w t x):One x:=by
 obtain⟨k,rfl⟩:=aJ.ptr t x h;rfl
theorem aQj {t:Wt}(U:jL t):jL (.neg t):=by
 rintro w b0 own at1 ns rho c v F H hc j h⟨k,xs,zs,tv,J,rv,rfl,R,S,z2,zb,o1,o3,I⟩;obtain⟨X,L,d,f,_⟩:=pX (.neg t) ns rho h hc j;have q:=f;unfold Rf.of at f;obtain⟨⟨r,d1⟩,D,O⟩:=aS f;obtain⟨ns2,P,x⟩:=bU O;cases x;have y:=Ga P;subst y;obtain⟨s,M,u,A,C,b,_,_⟩:=pX t ns rho h hc j;rw[D]at A;cases A;obtain⟨x4,x1⟩:=Pe S z2 zb
 refine aV7 R x4 x1 o1 (Li I) o3 λY c1=>?_
 refine(U Y b0 own at1 ns rho c J (F.still j c1) (n6 H c1.on.size) hc j h (aJ.aT c1.on t J I)).mono ?_;rintro e w2⟨s,u,own2,at2,B,rfl,g⟩;rw[D]at B;cases B;have p:r[d1]?=some r[d1]:=k9 b;obtain⟨l,o⟩:=Lh g.Bi p;refine⟨at2 d1,rfl,⟨_,l⟩,λe3 w3 z=>?_⟩;have N:=(hZ.refl F j c1).trans (n5 _) g
 obtain ⟨a,i,k1,W⟩:=N.one C.inv C.le.len H (n:=Rf.fresh false [(-1,0),(0,1)] [d1]) z (by
  intro a i T x y E;rw[<-T d1 b]at E
  exact Pr E rfl rfl rfl rfl rfl rfl rfl rfl (λe=>by cases e) (by rw[l4 b];exact p) o aSF x y)
 exact⟨_,_,a,i,q,k1,W⟩
theorem aQk (j:Rf.Kind){a b:Wt}(ag:jL a)(ah:jL b):jL (.two j a b):=by
 rintro w b0 own at1 ns rho c v hN hb hc F h⟨k,xs,zs,tv,lv,rv,rfl,hB,hH,z2,zb,o1,hl,hr⟩;obtain⟨a9,au,d,s,_⟩:=pX (.two j a b) ns rho h hc F;have J:=s;unfold Rf.of at s;obtain⟨⟨u,d1⟩,h1,h2⟩:=aS s;obtain⟨⟨ns2,d2⟩,h3,Y⟩:=aS h2;obtain⟨N,h5,E⟩:=aS Y;obtain⟨O,h7,h8⟩:=aS E;obtain⟨ba,h9,W⟩:=bU h8;cases W;have X:=Ga h9;subst X;obtain⟨L,p,R,e1,C,H,_,_⟩:=pX a ns rho h.1 hc F;rw[h1]at e1;cases e1;obtain⟨M,av,S,z,i,I,_,_⟩:=pX b u p h.2 hc C.inv;have D:Rf.of b u=some (ns2,d2):=h3;rw[D]at z;cases z;obtain⟨x4,x1⟩:=Pe hH z2 zb
 refine aV5 j hB x4 x1 o1 (Li hl) (Li hr) λw1 c1=>?_
 refine(ag w1 b0 own at1 ns rho c lv (hN.still F c1) (n6 hb c1.on.size) hc F h.1 (aJ.aT c1.on a lv hl)).mono ?_;rintro e w2⟨L,R,own2,at2,z,rfl,g⟩;rw[h1]at z;cases z;refine⟨at2 d1,rfl,g.sP,λw3 c3=>?_⟩;have g0:=(hZ.refl hN F c1).trans (n5 _) g;have P:=g0.on C.inv c3;refine(ah w3 b0 own2 at2 u p c rv P.Bi (n6 hb P.sP.on.size) hc C.inv h.2 (aJ.aT P.sP.on b rv hr)).mono ?_;rintro e w4⟨M,S,ar,x,e4,rfl,T⟩;rw[D]at e4;cases e4;refine⟨x d2,rfl,T.sP,λw5 c5=>?_⟩;have U:=(P.trans C.le.len T).on i.inv c5;have l:d1<ns2.length:=n7 H i.le.len;have A:ns2[d1]?=some N:=h5;have B:ns2[d2]?=some O:=h7;obtain⟨f,ad⟩:=Lh U.Bi A;obtain⟨r,ae⟩:=Lh U.Bi B;have y:x d1=at2 d1:=T.at' d1 H;rw[y]at f;refine⟨_,_,f,r,λe6 w6 af=>?_⟩
 obtain ⟨o,q,k1,k2⟩:=U.one i.inv (n6 C.le.len i.le.len) hb (n:=Rf.two j N.pos O.pos d1 d2) af (by
  intro o q ha Y h5 E
  have a1:q d1=at2 d1:=by rw[ha d1 l,y]
  rw[<-a1,<-ha d2 I]at E
  have hp:Mk j (!N.pos) (!O.pos)=!(Rf.two j N.pos O.pos d1 d2).pos:=by
   cases j<;>cases N.pos<;>cases O.pos<;>rfl
  rw[hp]at E
  refine aVt E (by cases j<;>rfl) (by rw[l4 l];exact A) ad (by rw[l4 I];exact B) ae (aVB j) Y h5)
 exact⟨_,_,o,q,J,k1,k2⟩
theorem NewC.on {w w2 w3:World}{v:Int}{zs:LN}{e:Ending}(h:NewC w v zs e w2)(hc:Chg w2 w3 []):NewC w v zs e w3:=by
 obtain⟨a,cs,b,d,f⟩:=h;exact⟨a,cs,b.on hc,hc.at d (by simp),nD hc.on f⟩
theorem De.on {w w2 w3:World}{zs:LN}{e:Ending}(h:De w zs e w2)(hc:Chg w2 w3 []):De w zs e w3:=by
 obtain⟨a,d,cs,f,g,b,i,j,k⟩:=h;exact⟨a,d,cs,f.on hc,g,b.aT hc.on (hc.low a b.lt (by simp)),hc.at i (by simp),nD hc.on j,k⟩
variable {op:Rf.Op}{p:Int}
theorem aJu {b:Nat}(d:Rf.fn op)(h:op≠.sqrt)(e:0<p)(f:0<q)(i:RB 6100 p)(j:RB 6100 q)(a:w.heap[b]?=some (.cells (.int .i64 (aH op)::aI::cs).toArray 161 (0,0)))(hold:Hold true w [p,q,T2 p q,B2 p q,0,0,0,0] cs):fV w (Rf.row op p q) b:=by
 obtain⟨g,n,o,k,l,_⟩:=Gl (p:=p*p) (q:=q*q) (p8 (p9 e e)) (p9 f f);have:=aNf (w:=w) (cb:=b) d h (T:=p) (B:=q) (T2:=T2 p q) (B2:=B2 p q) (G:=1) (g2:=g) (cs:=cs) (by decide) e f n k l ⟨(by show RB 6100 (1*p);rw[q7];exact i),(by show RB 6100 (1*q);rw[q7];exact j)⟩ a hold;rw[q7,q7]at this;exact this
theorem aVV (a:0<p)(b:0<q):0<aK (p*p) (q*q):=by
 obtain⟨g,e,d,_⟩:=Gl (p:=p*p) (q:=q*q) (p8 (p9 a a)) (p9 b b);rw[d];exact e
theorem aTf:jL (.fn op (.fr p q)):=by
 rintro w b0 own at1 ns rho c v hN hb hc U P⟨k,xs,Y,tv,lv,rv,rfl,hB,hH,z2,zb,o1,o3,hl⟩;obtain⟨ab,ah,d,E,_⟩:=pX (.fn op (.fr p q)) ns rho P hc U;have y:=E;obtain⟨R,⟨H,I,J⟩,S⟩:=P;have F:0<p:=S p q rfl;obtain⟨x4,x1⟩:=Pe hH z2 zb
 refine aRJ (Ku R) hB x4 x1 o1 (Li hl) o3 λw1 c1=>?_
 obtain⟨W,ys,az,av,ay,rfl,l,o,p1,X,p3⟩:=aJ.aT c1.on (.fr p q) lv hl
 have r:∀z∈[p,q],Bits 1 z:=by
  intro z hz;simp at hz
  rcases hz with rfl|rfl
  .exact xM I
  .exact xM J
 have hg:=aVV F H;have g0:=hZ.refl hN U c1
 have A:Rf.outright ns op p q=some (ab,d):=by
  unfold Rf.of at E;exact E
 unfold Rf.outright at A;obtain⟨ax,h1,T⟩:=aS A;have h3:=Ga h1;subst h3
 have h:op≠.exp->∀Y,(∀w3 x cs,w3.heap[x]?=some (.cells (.int .i64 (aH op)::aI::cs).toArray 161 (0,0))->Hold true w3 Y cs->fV w3 (Rf.row op p q) x)->∀e w2,NewC w1 (aH op) Y e w2->∃v,e=.returned v/\One v/\∀w3,Chg w2 w3 []->Fj (.fn op (.fr p q)) w b0 own at1 ns (.returned v) w3:=by
  intro u Y L e w2 N;rw[if_neg u]at T;cases T
  obtain⟨m,s⟩:∃m,e=.returned (aA m):=by
   obtain⟨_,_,⟨m,s,_⟩,_⟩:=N;exact⟨m,s⟩
  refine⟨aA m,s,rfl,λw3 c3=>?_⟩;obtain⟨x,cs,j,f,hold⟩:=N.on c3;rw[s]at j
  obtain ⟨g,i,k1,W⟩:=g0.one U (n5 _) hb (n:=Rf.row op p q) j (by
   intro g i ha B C D
   exact Ue D (L w3 x cs f hold) B C)
  exact⟨_,_,g,i,y,k1,W⟩
 rcases R with rfl|rfl|rfl|rfl
 .obtain⟨a,b,hn,_⟩:=Ox F H I J;refine(aXg l o r p1 X p3 F H (by rw[hn];rfl)).mono (h (by decide) _ λw3 x cs f hold=>?_);exact aPR F H I J f hold
 .refine(aXh l o r p1 X p3 hg).mono ?_;intro e w2 O;rw[if_pos rfl]at T;obtain⟨ns2,B,C⟩:=bU T;cases C;have D:=Ga B
  obtain⟨m,s⟩:∃m,e=.returned (aA m):=by
   obtain⟨_,_,_,⟨m,s,_⟩,_⟩:=O;exact⟨m,s⟩
  refine⟨aA m,s,rfl,λw3 c3=>?_⟩;obtain⟨ai,x,cs,j,hf,M,f,hold,u⟩:=O.on c3;rw[s]at j u
  obtain ⟨g,i,k1,W⟩:=g0.two U (n5 _) hb (n1:=Rf.row .exp p q) (n:=Rf.raised ns.length) j hf M u (by
   intro g i ha B C D
   exact Ue D (aJu (n9 (Or.inl rfl)) (by decide) F H I J f hold) B C) (by
   intro g i B C D
   exact Pr (mN:=Rf.raised ns.length) (xa:=Rf.row .exp p q) D rfl rfl rfl rfl rfl rfl rfl rfl (λe=>by cases e) (by simp) rfl Uc B C)
  refine⟨_,_,g,i,y,k1,?_⟩;rw[D,l5];exact W
 .exact(aXi l o r p1 X p3 hg).mono (h (by decide) _ λw3 x cs f hold=>aJu (n9 (n9 (Or.inl rfl))) (by decide) F H I J f hold)
 .exact(aXj l o r p1 X p3 hg).mono (h (by decide) _ λw3 x cs f hold=>aJu (n9 (n9 (n9 rfl))) (by decide) F H I J f hold)
theorem aXJ {t:Wt}(h:∀p q,t≠.fr p q):Rf.of (.fn op t) ns=(Rf.of t ns).bind λx=>(x.1[x.2]?).bind λb=>
   (if b.pos then some x else(Rf.more x.1 (Rf.fresh true [(1,0),(0,1)] [x.2])).map λa=>(a,x.1.length)).bind λy=>
   (Rf.more y.1 { Rf.fresh true [(1,0),(0,1)] [y.2]with op:=op,aP:=true}).map λa=>(a,y.1.length):=by
 cases t with
 |fr p q=>exact absurd rfl (h p q)
 |fH _ _=>
  conv=>lhs;unfold Rf.of
 |neg _=>
  conv=>lhs;unfold Rf.of
 |two _ _ _=>
  conv=>lhs;unfold Rf.of
 |fn _ _=>
  conv=>lhs;unfold Rf.of
theorem aOC {t:Wt}(h:∀p q,t≠.fr p q)(e:t.Ok)(g:aJ w t x):∃k,x=aA k/\∃i∈qE,∃f:LB,w.heap[k]?=some (.cells (.int .i64 i::f).toArray 157 (0,0)):=by
 cases t with
 |fr p q=>exact absurd rfl (h p q)
 |fH op ts=>
  obtain⟨k,o,f,n,j,l,rfl,d,_⟩:=g;exact⟨k,rfl,aH op,by rcases e with rfl|rfl|⟨rfl,_⟩<;>decide,_,d⟩
 |neg t=>
  obtain⟨k,o,f,n,j,l,rfl,d,_⟩:=g;exact⟨k,rfl,5,by decide,_,d⟩
 |two r a b=>
  obtain⟨k,o,f,n,j,l,rfl,d,_⟩:=g;exact⟨k,rfl,cU r,by cases r<;>decide,_,d⟩
 |fn op t=>
  obtain⟨k,o,f,n,j,l,rfl,d,_⟩:=g;exact⟨k,rfl,aH op,by rcases e.1 with rfl|rfl|rfl|rfl<;>decide,_,d⟩
theorem Wg {t:Wt}(S:∀p q,t≠.fr p q)(ih:jL t):jL (.fn op t):=by
 rintro w b0 own at1 ns rho c v hN hb hc M T⟨k,xs,zs,tv,lv,rv,rfl,hB,hH,z2,zb,o1,o3,hl⟩;obtain⟨a7,av,d,H,_⟩:=pX (.fn op t) ns rho T hc M;have A:=H;rw[aXJ S]at H;obtain⟨af,i,_⟩:=T;obtain⟨x4,x1⟩:=Pe hH z2 zb;obtain⟨⟨j,d1⟩,h1,h2⟩:=aS H;obtain⟨J,h3,D⟩:=aS h2;obtain⟨⟨ns2,y⟩,u,o⟩:=aS D;obtain⟨a8,h7,h8⟩:=bU o;cases h8;have h9:=Ga h7;obtain⟨l,ax,X,e1,W,r,_,_⟩:=pX t ns rho i hc M;rw[h1]at e1;cases e1
 refine aRJ (Ku af) hB x4 x1 o1 (Li hl) o3 λw1 c1=>?_
 have P:=aJ.aT c1.on t lv hl;obtain⟨k2,rfl,a5,O,bc,F⟩:=aOC S i P
 refine aVU O F λw2 c2=>?_
 have B:=c1.trans c2;refine(ih w2 b0 own at1 ns rho c _ (hN.still M B) (n6 hb B.on.size) hc M i (aJ.aT c2.on t _ P)).mono ?_;rintro e w3⟨l,X,own2,at2,e2,rfl,g⟩;rw[h1]at e2;cases e2;have C:j[d1]?=some J:=h3;obtain⟨N,z⟩:=Lh g.Bi C;have g0:=(hZ.refl hN M B).trans (n5 _) g;refine⟨at2 d1,!J.pos,rfl,N,λe4 w4=>⟨λhp h=>?_,λhp x hx U h R=>?_⟩⟩
 .have I:J.pos=true:=by simpa using hp
  have E:(j,d1)=(ns2,y):=by simpa[I]using u
  cases E
  obtain⟨m,s⟩:∃m,e4=.returned (aA m):=by obtain⟨m,s,_⟩:=h;exact⟨m,s⟩
  refine⟨aA m,s,rfl,λw5 L=>?_⟩;have b:=h.on L;rw[s]at b
  obtain ⟨a,f,j1,j2⟩:=g0.one W.inv W.le.len hb (n:={ Rf.fresh true [(1,0),(0,1)] [d1] with op:=op,aP:=true}) b (by
   intro a f ha D u o;rw[<-ha d1 r]at o
   exact Pr (xa:=J) o rfl rfl rfl rfl rfl rfl rfl rfl (λ_=>rfl) (by rw[l4 r];exact C) z Ng D u)
  refine⟨_,_,a,f,A,j1,?_⟩;rw[h9];exact j2
 .have I:J.pos=false:=by simpa using hp
  have E:(Rf.more j (Rf.fresh true [(1,0),(0,1)] [d1])).map (λl=>(l,j.length))=some (ns2,y):=by simpa[I]using u
  obtain⟨au,Y,aa⟩:=bU E;cases aa;have ab:=Ga Y;subst ab
  obtain⟨m,s⟩:∃m,e4=.returned (aA m):=by obtain⟨m,s,_⟩:=h;exact⟨m,s⟩
  refine⟨aA m,s,rfl,λw5 L=>?_⟩;have b:=h.on L;rw[s]at b R
  obtain ⟨a,f,j1,j2⟩:=g0.two W.inv W.le.len hb (n1:=Rf.fresh true [(1,0),(0,1)] [d1]) (n:={ Rf.fresh true [(1,0),(0,1)] [j.length] with op:=op,aP:=true}) b hx (U.aT L.on (L.low x U.lt (by simp))) R (by
   intro a f ha D u o;rw[<-ha d1 r]at o
   exact Pr (xa:=J) o rfl rfl rfl rfl rfl rfl rfl rfl (λe=>by cases e) (by rw[l4 r];exact C) z Ng D u) (by
   intro a f D u o
   exact Pr (xa:=Rf.fresh true [(1,0),(0,1)] [d1]) o rfl rfl rfl rfl rfl rfl rfl rfl (λ_=>rfl) (by simp) rfl Ng D u)
  refine⟨_,_,a,f,A,?_,?_⟩
  .rw[j1];simp
  .rw[h9,l5];exact j2
theorem Ge:∀t:Wt,jL t
 |.fr p q=>aTg p q
 |.fH op ts=>aQi op ts
 |.neg t=>aQj (Ge t)
 |.two d a b=>aQk d (Ge a) (Ge b)
 |.fn op (.fr p q)=>aTf
 |.fn op (.fH o ts)=>Wg (λ_ _ e=>by cases e) (Ge (.fH o ts))
 |.fn op (.neg t)=>Wg (λ_ _ e=>by cases e) (Ge (.neg t))
 |.fn op (.two d a b)=>Wg (λ_ _ e=>by cases e) (Ge (.two d a b))
 |.fn op (.fn o t)=>Wg (λ_ _ e=>by cases e) (Ge (.fn o t))
variable {b:World}{b0 p:Nat}{s:Rf.St}
theorem Net.side {W:Nat}{own:Nat->Option Own}{at1:NN}(h:Net w b0 own at1 W s)(hc:Chg w b [p])(H:∀(k:Nat) (cs:Array Value) (ty:TypeId),w.heap[k]?=some (.cells cs ty (0,0))->(ty=120\/ty=109\/ty=223\/(ty=62/\∃o,own k=some o))->k≠p):Net b b0 own at1 W s:=by
 have ne:∀{k:Nat} {cs:Array Value} {ty:TypeId},w.heap[k]?=some (.cells cs ty (0,0))->(ty=120\/ty=109\/ty=223\/(ty=62/\∃o,own k=some o))->k ∉ [p]:=λq C hm=>H _ _ _ q C (by simpa using hm)
 have a:∀{k:Nat} {I:LN} {hs:Bool} {u mt S U E:Int} {lp rp gv A D:Value},NodeAt w k I hs u mt S U E lp rp gv A D->NodeAt b k I hs u mt S U E lp rp gv A D:=by
  intro k I hs u mt S U E lp rp gv A D O;obtain⟨xs,d,_⟩:=O.ex;exact O.aT hc.on (hc.low _ O.lt (ne d (Or.inl rfl)))
 refine⟨λi n hi=>?_,hc.at h.fuel (ne h.fuel (n9 (Or.inl rfl))),h.Rm⟩;have q:=h.nd i n hi;obtain⟨p0,q0,p1,q1,p2,q2,p3,q3,mt,E,gv,A,D,y,l,M,N⟩:=q.ex;refine⟨⟨p0,q0,p1,q1,p2,q2,p3,q3,mt,E,gv,A,D,⟨a y.nd,?_,?_,y.oL,?_⟩,l,M,N⟩,q.hc,q.own,q.lo,q.So⟩
 .rcases y.Aw with h|⟨g,J,F,d,j,B,h4,X,h6⟩
  .exact Or.inl h
  .exact n9 ⟨g,J,F,d,hc.at j (ne j (n9 (n9 (n9 ⟨rfl,_,X⟩)))),B,h4,X,h6⟩
 .intro C;obtain⟨d,cb,j,B⟩:=y.fH C;exact⟨d,cb,j,B.aT hc.on⟩
 .refine⟨y.nst.1,λP=>?_⟩;obtain⟨T,d,⟨cs,j⟩,B⟩:=y.nst.2 P;refine⟨T,d,⟨cs,hc.at j (ne j (n9 (n9 (Or.inl rfl))))⟩,λC ha=>?_⟩;obtain⟨xs,I,fst,L,k1,k2,k3,k4,k5,k6⟩:=B C ha;refine⟨xs,I,fst,L,hc.at k1 (ne k1 (n9 (n9 (Or.inl rfl)))),nD hc.on k2,k3,k4,k5,λR=>?_⟩;obtain⟨m1,x,m2,m3,m4,m5⟩:=k6 R;refine⟨m1,x,m2,m3,m4,λY=>⟨(m5 Y).1,λe=>?_⟩⟩;obtain⟨pb,r1,r2,r3,r4⟩:=(m5 Y).2 e;exact⟨pb,r1,r2,r3,a r4⟩
variable {n:World}
theorem Net.aside {i:Nat}{own:Nat->Option Own}{at1:NN}(a:Net n b0 own at1 i s)(hc:Chg n b [p]){h:TypeId}(g:∃cs:Array Value,n.heap[p]?=some (.cells cs h (0,0)))(d:h≠120/\h≠109/\h≠223/\h≠62):Net b b0 own at1 i s:=by
 obtain⟨l,g⟩:=g
 refine a.side hc λk cs ty j q o=>?_
 subst o;rw[g]at j;cases j
 rcases q with e|e|e|⟨e,_⟩
 .exact d.1 e
 .exact d.2.1 e
 .exact d.2.2.1 e
 .exact d.2.2.2 e
noncomputable def nwK:List (K (List AT)):=[.code (aF f44),.top f44]
noncomputable def nxK:List (K (List AT)):=[.code (aF f46),.top f46]
def Su (v:Value)(n:Int)(a:List AT):AS:=⟨a,[],0,[],[]⟩
def Bu (k:Value)(r:Int)(f:Value)(a:List AT):AS:=⟨a,[(0,Ff [.lit k,.sint .i64 r,.lit f] 111)],1,[],[]⟩
noncomputable def rX:Nat×Array Oper×List (K (List AT)):=xQ (aG 61) f46
def stX (a:List (K (List AT))):Bool:=nH (aG 60) a||sK (aG 61) a
noncomputable def nwA (n:Int)(hs:Bool):Option Tr:=run Z (aE tN) bT (aL Z (aE tN)) (λ_=>false) 100 (eE (pD 7) f44) (Yg hs (slot [(1,dP n),(7,.val (.one (.ptr 1 0)))] 0 17))
noncomputable def Yb (n:Int)(hs:Bool):AS:=(((nwA n hs).bind (dM [])).map (·.2)).getD ⟨[],[],0,[],[]⟩
section
variable (v k f:Value) (n r z:Int) (hs:Bool)
theorem bAj:(run Z (aE tN) bT (aL Z (aE tN)) stX 100 nwK (Su v n (litT v::dP n::k8 15 .gG))).bind (eF (fF [] [] 0 []) (fF [] [1,6] 0 []))=some (.stp (eH (pD 7) f44) (Su v n (slot [(1,dP n),(6,litT v)] 0 17))):=by kernel_rfl
theorem bAg:cP Z (Su v n (slot [(1,dP n),(6,litT v)] 0 17)) (eH (pD 7) f44)=some (60,[.one (.lit v)],some 7,eE (pD 7) f44):=by kernel_rfl
theorem Sk:noFr (eH (pD 7) f44)=true:=by kernel_rfl
theorem bAi:nwA n hs=some (.ret (.val (.one (.ptr 3 0))) (Yb n hs)):=by kernel_rfl
theorem bAf:look (Yb n hs).boxes 3=some ⟨[.ptr 1 0,.int .i64 0,.ptr 2 0],111,true,false,false⟩:=by kernel_rfl
theorem bAe:look (Yb n hs).boxes 2=some ⟨[.sint .i64 n],109,true,false,false⟩:=by kernel_rfl
theorem bAh:clean (Yb n hs)=true:=by kernel_rfl
theorem bAo:(run Z (aE tN) bT (aL Z (aE tN)) stX 100 nxK (Bu k r f (P0::k8 24 .gG))).bind (eF (fF [0] [] 1 []) (fF [0] [0] 1 []))=some (.stp (.code (.region rX.1 rX.2.1 true)::rX.2.2) (Bu k r f (slot [(0,P0)] 0 25))):=by kernel_rfl
noncomputable def Yc:AS:=((aL Z (aE tN) (rX.2.1.extract 0 8) (Bu k r f (slot [(0,P0)] 0 25))).getD (⟨[],[],0,[],[]⟩,[])).1
theorem bAl:aL Z (aE tN) (rX.2.1.extract 0 8) (Bu k r f (slot [(0,P0)] 0 25))=some (Yc k f r,[]):=by kernel_rfl
theorem aWc:sM rX.2.1 8=true/\8<rX.2.1.size/\(l7 rX.2.1.size).drop 8=[8,9]:=⟨by kernel_rfl,n8 (by decide:8<10) (by kernel_rfl),by kernel_rfl⟩
theorem bAk:cP Z (Yc k f r) (.ops rX.2.1 [8,9]::rX.2.2)=some (61,[.agg [.lit k,.sint .i64 r],.one (.lit f)],some 12,.ops rX.2.1 [9]::rX.2.2):=by kernel_rfl
theorem bAm:noFr rX.2.2=true:=by kernel_rfl
theorem aXD:(Yc k f r).dirty=[]:=by kernel_rfl
theorem aXE:putT (kP [0] [0] 0 (Yc k f r).tmps) (some 12) (dP z)=slot [(0,P0),(12,dP z)] 0 25:=by kernel_rfl
theorem bAn:(run Z (aE tN) bT (aL Z (aE tN)) (λ_=>false) 100 (.ops rX.2.1 [9]::rX.2.2) (Bu k r f (slot [(0,P0),(12,dP z)] 0 25))).bind (eF (fF [0] [] 1 []) (fF [0] [] 1 []))=some (.br (z != 0) (.ret (dP z) ⟨sl0 25,[(0,Ff [.lit k,.sint .i64 (Wr (r+1)),.lit f] 111)],1,[],[0]⟩) (.ret (dP z) ⟨sl0 25,[(0,Ff [.lit k,.sint .i64 r,.lit f] 111)],1,[],[]⟩)):=by kernel_rfl
end
structure NbAt (w:World) (b0 nb fb:Nat) (own:Nat->Option Own) (at1:NN) (s:Rf.St) (top r:Nat):Prop where
 yX:Net w b0 own at1 fb s
 bS:w.heap[nb]?=some (.cells #[aA (at1 top),.int .i64 r,aA fb] 111 (0,0))
 ow:own nb=none
 bs:b0<=w.heap.size
 Mi:b0<=nb
 nw:∀k,k<b0->own k=none
theorem aWa {t:Wt}{v:Value}{c:Nat}(E:t.Ok)(hp:aJ n t v)(hc:c<=3000):Calls prog 44 #[v,.int .i64 c] n λe w'=>∃ns d own at1 L B,Rf.of t []=some (ns,d)/\e=.returned (aA L)/\Chg n w' []/\NbAt w' n.heap.size L B own at1 ⟨ns,c⟩ d 0:=by
 have F:=bD func44 rfl rfl;refine pM F (φ:=λ_=>none) (vs:=[.one (.lit v),.one (.sint .i64 c)]) (args:=[v,.int .i64 c]) (s:=Su v c (litT v::dP c::k8 15 .gG)) (by kernel_rfl) ⟨⟨rfl,Li hp⟩,rfl,trivial⟩ Gh ?_
 have C:∀b x,(λ_:Nat=>(none:Option (Nat×Nat))) b=some x->([]:NU).contains b=true:=λb x e=>by cases e
 refine cC (dL jO) qJ C (jI C) (bAj v c) (λ_ _=>False) (λks s=>ks=eH (pD 7) f44/\s=Su v c (slot [(1,dP c),(6,litT v)] 0 17)) ⟨rfl,rfl⟩ (λ_ _ _ _ _ h=>h.elim) ?_;rintro ks s⟨rfl,rfl⟩;refine⟨Sk,λa2 ab a1 w1 H u=>?_⟩;have c1:Chg n w1 []:=Chg.eC (RepF.below u.wd rfl)
 refine qI (bAg v c) (bD func60 rfl rfl).en Sk (H ab [] w1) u λus X=>?_
 match us,X with
 | [u1],⟨z,_⟩=>
 have z:u1=v:=z.1;rw[z];obtain⟨l,aj,d,D,gr,hd,_⟩:=pX t [] (λ_=>0) E hc (We _ c);refine(Ge t w1 n.heap.size (λ_=>none) (λ_=>0) [] (λ_=>0) c v (λi f h=>by simp at h) c1.on.size hc (We _ c) E (aJ.aT c1.on t v hp)).mono ?_;rintro e A⟨a5,d1,p,at2,M,rfl,g⟩;rw[D]at M;cases M;have U:l[d]?=some l[d]:=k9 hd;obtain⟨⟨ys,o⟩,ae⟩:=Lh g.Bi U;refine⟨aA (at2 d),rfl,λJ aq I=>?_⟩;generalize (!l[d].pos)=b at o;have W:Rep Z A (ph1 1 (at2 d)) (ph1 1 (at2 d)) (Yg b (slot [(1,dP c),(7,.val (.one (.ptr 1 0)))] 0 17)) (a1.put (some 7) (aA (at2 d))) A:=pK (kb:=[]) (kt:=[1]) (r:=.val (.one (.ptr 1 0))) u (aHd o rfl) (by kernel_rfl) (λb hb=>by simp at hb) ⟨at2 d,0,rfl,rfl⟩;refine vC (dL jO) qJ (rJ mixed (dL jO)) (λr s=>r=.val (.one (.ptr 3 0))/\look s.boxes 3=some ⟨[.ptr 1 0,.int .i64 0,.ptr 2 0],111,true,false,false⟩/\look s.boxes 2=some ⟨[.sint .i64 c],109,true,false,false⟩/\clean s=true) (λ_ _=>False) (λ_ _ h=>h.elim) ?_ _ _ _ _ (bAi c b) ⟨rfl,bAf c b,bAe c b,bAh c b⟩ J _ _ A (I _ _ _) W;rintro r s φ x O⟨rfl,l3,l2,S⟩ hrel N;have c3:Chg A O []:=Chg.eC (RepF.below N S);obtain⟨L,y3,j1,j2,j3,j4⟩:=zN N l3 rfl rfl;obtain⟨B,y2,i1,i2,i3,i4⟩:=zN N l2 rfl rfl;have Y:φ 1=some (at2 d,0):=N.base 1 (at2 d,0) rfl;have hv:x=aA L:=cN (ν:=s.nums) (w:=O) j1 x hrel
 have e3:y3=[aA (at2 d),.int .i64 0,aA B]:=by
  match y3,j3 with
  | [a,b,c],⟨q,P,R,_⟩=>
   have q:a=aA (at2 d):=cN (ν:=s.nums) (w:=O) Y a q;have P:b=.int .i64 0:=P;have R:c=aA B:=cN (ν:=s.nums) (w:=O) i1 c R;rw[q,P,R]
 have M:y2=[.int .i64 c]:=by
  match y2,i3 with
  | [a],⟨q,_⟩=>
   have q:a=.int .i64 c:=q;rw[q]
 rw[e3]at j2;rw[M]at i2;have y:n.heap.size<=A.heap.size:=n6 c1.on.size g.sP.on.size;have hN:=g.Bi.more (own':=λk=>if k<A.heap.size then p k else none) (at2:=at2) (new:=[]) gr.inv c3 (λk T=>if_pos T) (λ_ _=>rfl) (λj mm hj=>by simp at hj);rw[List.append_nil]at hN;refine⟨l,d,_,at2,L,B,D,by rw[hv],(c1.trans g.sP).trans c3,⟨⟨hN,i2,n6 y i4⟩,j2,?_,n6 y c3.on.size,n6 y j4,λk T=>?_⟩⟩
 .exact if_neg (by omega)
 .show(if k<A.heap.size then p k else none)=none;rw[if_pos (by omega),g.own k (n7 T c1.on.size)]
structure Mo (w:World) (b0 nb fb:Nat) (own:Nat->Option Own) (at1:NN) (s:Rf.St) (top r:Nat) (x:Rf.St×Option Int) (w':World):Prop where
 on:On Z.bt w w'
 low:∀k,k<b0->w'.heap[k]?=w.heap[k]?
 kept:∀k,k<w.heap.size->own k=none->k≠fb->k≠nb->w'.heap[k]?=w.heap[k]?
 some:x.2.isSome=true->∃own' at2,NbAt w' b0 nb fb own' at2 x.1 top (r+1)/\∀k,k<w.heap.size->own k=none->own' k=none
variable {r:Nat}
theorem aOU {w:Nat}{k g:Value}(ok:One k)(of:One g)(h:n.heap[w]?=some (.cells #[k,.int .i64 r,g] 111 (0,0)))(q:List AT):RepW Z n (ph1 0 w) (ph1 0 w) (Bu k r g q) n:=by
 refine aOP rfl ?_ ?_ ?_ ?_
 .intro b B l;have:=nE l;simp only[Bu,l8,p7]at this;obtain⟨rfl,rfl⟩:=this;exact⟨rfl,rfl,w,0,rfl,[],[k,.int .i64 r,g],[],h,rfl,⟨rfl,ok⟩,rfl,⟨rfl,of⟩,trivial⟩
 .intro b u B s k1 o z i j v x;have d:=nE i;have e:=nE j;simp only[Bu,l8,p7]at d e;exact Or.inl (by rw[d.1,e.1])
 .intro b p;have:1<=b:=p;unfold ph1;rw[if_neg (by omega)]
 .intro b y o a;unfold ph1 at a;split at a
  .cases a;exact gZ h
  .cases a
variable {k:Nat}
theorem aTn {own:Nat->Option Own}{at1:NN}{top c f:Nat}{B:NN}{d:Nd}{x:Rf.St×Option Int}(h:NbAt n b0 k p own at1 s top r)(a0:s.clock=(c:Int))(hc:c<=3000)(hI:Inv s.nodes B c)(hn:s.nodes[top]?=some d)(hr:r<=d.out.length)(cg:r<=1000000)(hf:c+B top+2<=f)(hx:Rf.sym f s top r=some x)(cj:x.2.isSome=true->∃B c,Inv x.1.nodes B c):
  Calls prog 46 #[aA k] n λe w'=>e=.returned (.int .i64 (eK x.2))/\Mo n b0 k p own at1 s top r x w':=by
 have F:=bD func46 rfl rfl;have U:=(List.getElem?_eq_some_iff.1 hn).1
 have a6:k≠p:=by
  rintro rfl;have:=h.bS;rw[h.yX.fuel]at this;exact absurd (Obj.cells.inj (o8 this)).2.1 (by decide)
 refine pM F (φ:=ph1 0 k) (vs:=[.one (.ptr 0 0)]) (args:=[aA k]) (s:=Bu (aA (at1 top)) r (aA p) (P0::k8 24 .gG)) (by kernel_rfl) ⟨⟨k,0,rfl,rfl⟩,trivial⟩ (aOU rfl rfl h.bS _) ?_;refine cC (dL jO) qJ lH (jI lH) (bAo (aA (at1 top)) (aA p) r) (λ_ _=>False) (λks s=>ks=.code (.region rX.1 rX.2.1 true)::rX.2.2/\s=Bu (aA (at1 top)) r (aA p) (slot [(0,P0)] 0 25)) ⟨rfl,rfl⟩ (λ_ _ _ _ _ h=>h.elim) ?_;rintro ks s0⟨rfl,rfl⟩;have M:noFr rX.2.2=true:=bAm;refine⟨by simpa[noFr]using M,λbg am a1 w1 ae aa=>?_⟩;obtain⟨bb,bj,bd⟩:=aWc
 match bg,ae am [] w1 with
 |.code cc::ah,⟨az,af⟩=>
 subst az;show(Code.region rX.1 rX.2.1 true).wp Z.P _ a1 w1;refine La mixed (dL jO) bj bb (bAl (aA (at1 top)) (aA p) r) gJ aa ?_;intro bp a2 w2 D;rw[bd];have c2:Chg n w2 []:=rK D.wd (aXD _ _ _);show gD Z.P _ (.ops rX.2.1 [8,9]::ah) .normal a2 w2
 refine qI (bAk (aA (at1 top)) (aA p) r) (bD func61 rfl rfl).en (by simpa[noFr]using M) (φ1:=bp) (ν1:=[]) (w1:=w2) ⟨rfl,rfl,SR.any M af⟩ D λus bc=>?_
 match us,bc with
 | [u1,u2],⟨⟨xs,ba,bf⟩,S,_⟩=>
 have S:u2=aA p:=S.1
 have e1:xs=[aA (at1 top),.int .i64 r]:=by
  match xs,bf with
  | [a,b],⟨y,L,_⟩=>
   have y:a=aA (at1 top):=y.1;have L:b=.int .i64 r:=L;rw[y,L]
 rw[ba,S,e1];have av:=h.yX.still hI c2
 have bh:∀J,Chg w2 J []->Calls prog 90 #[aA (at1 top),.int .i64 r,aA p] J λe w'=>e=.returned (.int .i64 (eK x.2))/\kM J b0 own at1 p s.nodes.length x.2.isSome x.1 w':=λJ c3=>
  aPb f J b0 p own at1 s B c top r d x (av.still hI c3) (n6 h.bs (n6 c2.on.size c3.on.size)) a0 hc hI hn hr hf hx
 refine aFc (R:=λe w'=>∃v,e=.returned v/\∀u,noFr (.ops rX.2.1 [9]::rX.2.2)=true->(∀bo bn bk,SR Z bo bn bk (.ops rX.2.1 [9]::rX.2.2) u)->gD Z.P _ u .normal (a2.put (some 12) v) w') λJ c3=>(bh J c3).mono ?_
 rintro e C⟨rfl,aj,T,a8⟩;have i:=c2.trans c3
 have l:C.heap[k]?=some (.cells #[aA (at1 top),.int .i64 r,aA p] 111 (0,0)):=by
  rw[T.low k (gZ (i.at h.bS (by simp))) h.ow a6];exact i.at h.bS (by simp)
 have H:On Z.bt n C:=i.on.trans T.on
 have A:∀j,j<n.heap.size->own j=none->j≠p->C.heap[j]?=n.heap[j]?:=by
  intro j y X N;rw[T.low j (n7 y i.on.size) X N,i.low j y (by simp)]
 have ai:∀j,j<b0->C.heap[j]?=n.heap[j]?:=by
  intro j q;have y:j<n.heap.size:=n7 q h.bs
  have N:j≠p:=by have:=h.yX.Rm;omega
  exact A j y (h.nw j q) N
 refine⟨eK x.2,rfl,_,rfl,λu cd ag=>?_⟩
 have a9:Rep Z C (ph1 0 k) (ph1 0 k) (Bu (aA (at1 top)) r (aA p) (slot [(0,P0),(12,dP (eK x.2))] 0 25)) (a2.put (some 12) (.int .i64 (eK x.2))) C:=pK (kb:=[0]) (kt:=[0]) (r:=dP (eK x.2)) D (aOU rfl rfl l _) (aXE _ _ _ _).symm (λb z=>by
  have:b=0:=by simpa using z
  subst this
  exact(D.wd.base 0 (k,0) rfl).symm) rfl
 refine cC (dL jO) qJ lH (jI lH) (bAn (aA (at1 top)) (aA p) r (eK x.2)) (λrr st=>rr=dP (eK x.2)/\(x.2.isSome=true->st.dirty=[0]/\look st.boxes 0=some (Ff [.lit (aA (at1 top)),.sint .i64 (Wr ((r:Int)+1)),.lit (aA p)] 111))/\(x.2.isSome=false->st.dirty=[])) (λ_ _=>False) ?_ ?_ (λ_ _ h=>h.elim) u _ _ _ (ag _ _ _) a9
 .cases ci:x.2 with
  |none=>exact⟨λe=>(by simp[eK]at e),λ_=>⟨rfl,λe=>(by cases e),λ_=>rfl⟩⟩
  |some v=>exact⟨λ_=>⟨rfl,λ_=>⟨rfl,rfl⟩,λe=>(by cases e)⟩,λe=>absurd (by simpa[eK]using e) (aJq v)⟩
 .rintro rr st cq v w5⟨rfl,hy,a7⟩ _ hv g;have be:v=.int .i64 (eK x.2):=hv _ _ (Or.inl rfl);rw[be]
  have hd:st.dirty=[0]\/st.dirty=[]:=by
   cases hs:x.2.isSome with
   |true=>exact Or.inl (hy hs).1
   |false=>exact n9 (a7 hs)
  have I:∀j,j<C.heap.size->j≠k->w5.heap[j]?=C.heap[j]?:=by
   intro j a5 a4
   refine g.low j a5 λb z o e=>?_
   rcases hd with hd|hd
   .rw[hd]at z;simp only[l8]at z;subst z;rw[g.base 0 (k,0) rfl]at e;cases e;exact a4 rfl
   .rw[hd]at z;cases z
  refine⟨rfl,H.trans g.on,λj q=>?_,λj q X hf hn=>?_,λhs=>?_⟩
  .rw[<-ai j q];exact I j (n7 q (n6 h.bs H.size)) (by have:=h.Mi;omega)
  .rw[<-A j q X hf];exact I j (n7 q H.size) hn
  .obtain⟨hd,l0⟩:=hy hs;obtain⟨at2,ax,ay⟩:=a8 hs
   have c5:Chg C w5 [k]:=⟨g.on,λj q hm=>g.low j q λb z o e=>by
    rw[hd]at z;simp only[l8]at z;subst z;rw[g.base 0 (k,0) rfl]at e;cases e
    exact hm (by simp)⟩
   obtain⟨k',o,bi,zs,ak,g1,g2,g3,g4⟩:=g.box 0 _ l0;rw[g.base 0 (k,0) rfl]at g1;cases g1;have Y:bi=[]:=l9.1 g3;subst Y
   have hz:zs=[aA (at1 top),.int .i64 ((r+1:Nat):Int),aA p]:=by
    match zs,g4 with
    | [a,b,c],⟨y,L,h3,_⟩=>
     have y:a=aA (at1 top):=y.1;have L:b=.int .i64 (Wr ((r:Int)+1)):=L;have h3:c=aA p:=h3.1
     have h4:Wr ((r:Int)+1)=((r+1:Nat):Int):=by
      rw[mV (by omega) (by omega)];omega
     rw[y,L,h3,h4]
   subst hz
   have ad:C.shape? k=some (111,3):=by
    unfold World.shape?;rw[l];rfl
   have E:=g.on.shape ad;unfold World.shape? at E;rw[g2]at E;simp only[o9,p7,List.size_toArray,List.nil_append,n4]at E;have O:ak=[]:=l9.1 (by have:=E.2;simpa using this);subst O;have W:k<(J).heap.size:=gZ (i.at h.bS (by simp));refine⟨aj,at2,⟨ax.aside c5 ⟨_,l⟩ (by decide),?_,T.own k W h.ow,n6 h.bs (H.trans g.on).size,h.Mi,λj q=>T.own j (n7 q (n6 h.bs i.on.size)) (h.nw j q)⟩,λj q X=>T.own j (n7 q i.on.size) X⟩;rw[ay top U,g2];rfl
def Yh (b:Bool):AS:=⟨P0::k8 18 .gG,[(0,ext [.ptr 1 0] 111),(1,ext [.bool b] 120)],2,[],[]⟩
def phH (x y:Nat):Nat->Option (Nat×Nat)
 |0=>some (x,0)
 |1=>some (y,0)
 |_=>none
theorem aZ3 (b:Bool):(run Z (aE tN) bT (aL Z (aE tN)) (λ_=>false) 100 [.code (aF f45),.top f45] (Yh b)).bind iY=some (.val (.one (.bool b)),true):=by kernel_rfl
theorem aL4 {own:Nat->Option Own}{at1:NN}{top:Nat}{d:Nd}(h:NbAt n b0 k p own at1 s top r)(x:s.nodes[top]?=some d):Calls prog 45 #[aA k] n λe j=>e=.returned (.bool (!d.pos))/\Chg n j []:=by
 obtain⟨⟨A,f⟩,_⟩:=Lh (own:=own) (b0:=b0) (at1:=at1) (ns:=s.nodes) h.yX.nd x;generalize (!d.pos)=b at f ⊢
 have i:RepW Z n (phH k (at1 top)) (phH k (at1 top)) (Yh b) n:=by
  refine rQ rfl ?_ ?_ ?_
  .intro C B q;have:=nE q;simp[Yh]at this
   rcases this with⟨rfl,rfl⟩|⟨rfl,rfl⟩
   .exact⟨rfl,rfl,rfl,k,0,rfl,[],[aA (at1 top)],[.int .i64 r,aA p],h.bS,rfl,⟨at1 top,0,rfl,rfl⟩,trivial⟩
   .exact⟨rfl,rfl,rfl,at1 top,0,rfl,[],[.bool b],A,f,rfl,rfl,trivial⟩
  .intro b u;have:2<=b:=u
   match b,this with
   |b+2,_=>rfl
  .intro b D o a
   match b,a with
   |0,a=>cases a;exact gZ h.bS
   |1,a=>cases a;exact gZ f
   |b+2,a=>cases a
 obtain⟨z,l,g⟩:=aS (aZ3 b)
 match z,g with
 |.ret r s,g=>
  simp only[iY,o9,p7]at g;obtain⟨rfl,hc⟩:=g;refine sI (s:=Yh b) (vs:=[.one (.ptr 0 0)]) (args:=[aA k]) (bD func45 rfl rfl) (dL jO) qJ (by kernel_rfl) ⟨⟨k,0,rfl,rfl⟩,trivial⟩ i l (λr s=>r=.val (.one (.bool b))/\clean s=true) ⟨rfl,hc⟩ ?_;rintro r s φ v j⟨rfl,hc⟩ hrel y;have hv:v=.bool b:=hrel;exact⟨by rw[hv],Chg.eC (RepF.below y hc)⟩
 |.br _ _ _,g=>cases g
 |.need _ _,g=>cases g
 |.stop _ _,g=>cases g
def Hn (k a b c d:Int):Int:=bif k==6 then a*d+c*b else bif k==7 then a*d+-c*b else bif k==8 then a*c else a*d
def Hm (k a b c d:Int):Int:=bif k==6 then b*d else bif k==7 then b*d else bif k==8 then b*d else b*c
def fWo:List G->Option RG
 | [.i .i64 k,.ns [a,b],.ns [c,d]]=>some (.one (.ns [bif k==6 then lowT (a*d+c*b) (b*d)else bif k==7 then lowT (a*d+-c*b) (b*d)else bif k==8 then lowT (a*c) (b*d)else lowT (a*d) (b*c),bif k==6 then lowB (a*d+c*b) (b*d)else bif k==7 then lowB (a*d+-c*b) (b*d)else bif k==8 then lowB (a*c) (b*d)else lowB (a*d) (b*c)]))
 |_=>none
def Sh:List G->List Prop
 | [.i .i64 k,.ns [a,b],.ns [c,d]]=>[0<aK (Hn k a b c d) (Hm k a b c d)]
 |_=>[]
theorem aXV:bI Z 108 (eB true fWo Sh 41 [0,10,10]):=by
 refine iG (l:=tF) aWD dJ (bD func108 rfl rfl) ?_;intro o out h;unfold fWo at h;split at h
 .rename_i k a b c d;cases h;refine⟨[(k==6)=true->0<aK (a*d+c*b) (b*d),(k==6)=false->(k==7)=true->0<aK (a*d+-c*b) (b*d),(k==6)=false->(k==7)=false->(k==8)=true->0<aK (a*c) (b*d),(k==6)=false->(k==7)=false->(k==8)=false->0<aK (a*d) (b*c)],41,by kernel_rfl,by decide,λn _=>?_⟩;have f:0<aK (Hn k a b c d) (Hm k a b c d):=n.one;unfold Hn Hm at f;refine gB (λe=>?_) (gB (λg i=>?_) (gB (λg i j=>?_) (gB (λg i j=>?_) gJ)))
  .rw[e]at f;exact f
  .rw[g,i]at f;exact f
  .rw[g,i,j]at f;exact f
  .rw[g,i,j]at f;exact f
 .cases h
noncomputable def tP:List (FuncId×TE):=(108,eB true fWo Sh 41 [0,10,10])::tS
theorem qK:cV Z tP:=⟨aXV,nP⟩
noncomputable def bP:XW:=λf=>bif f==104 then some f104 else bif f==79 then some f79 else bif f==107 then some f107 else none
theorem tY:bQ Z bP:=by
 intro f fn h;unfold bP at h
 exact vA h (bD func104 rfl rfl) λh=>vA h (bD func79 rfl rfl) λh=>vA h (bD func107 rfl rfl) λh=>by cases h
def Hf (i:Nat):bL:=ext (.int .i64 1::bH true i 2) 157
def Ml (a:Int):bL:=ext [.int .i64 a] 157
def Hh (fn:Func)(a:List AV)(b:List (Nat×bL))(ns:LV):AS:=⟨a.map .val++k8 (fn.ntmps-a.length) .gG,b,3,ns,[]⟩
noncomputable def yU (fn:Func)(s:AS):Option Tr:=run Z (aE tP) bP (aL Z (aE tP)) (λ_=>false) 400 [.code (aF fn),.top fn] s
noncomputable def lP (fn:Func)(s:AS)(l:List Bool):AS:=(((yU fn s).bind (dM l)).map (·.2)).getD ⟨[],[],0,[],[]⟩
abbrev tB:AV:=.one (.ptr 1 0)
abbrev Et:AV:=.one (.ptr 2 0)
abbrev xU (k:Int):AV:=.one (.int .i64 k)
noncomputable def Sc (p q:Int):AS:=Hh f82 [tB] [(1,Hf 0)] [(p,1),(q,1)]
noncomputable def Sd (a:Int):AS:=Hh f82 [tB] [(1,Ml a)] []
noncomputable def Cy (a p q:Int):AS:=Hh f83 [xU a,tB] [(1,Hf 0)] [(p,1),(q,1)]
noncomputable def Rn (b a:Int):AS:=Hh f83 [xU b,tB] [(1,Ml a)] []
noncomputable def Bl (b p q a:Int):AS:=Hh f84 [xU b,tB,Et] [(1,Hf 0),(2,Ml a)] [(p,1),(q,1)]
noncomputable def oM (b a p q:Int):AS:=Hh f84 [xU b,tB,Et] [(1,Ml a),(2,Hf 0)] [(p,1),(q,1)]
noncomputable def qX (d a b:Int):AS:=Hh f84 [xU d,tB,Et] [(1,Ml a),(2,Ml b)] []
structure gI (s:AS) (b:Nat) (kd:Int) (zs:LN) (lc rc:AC):Prop where
 look:look s.boxes b=some ⟨.int .i64 kd::((zX s b).drop 1).take 4++[.lit aI,lc,rc],157,true,false,false⟩
 num:numOf s.nums (((zX s b).drop 1).take 4)=some zs
abbrev fX (c:AC)(e:Int):AT:=.tup [.one c,.one (.int .i64 e)]
section
variable (p q:Int)
theorem aXB:yU f82 (Sc p q)=some (.ret (.val (.one (.ptr 4 0))) (lP f82 (Sc p q) [])):=by kernel_rfl
theorem aXA:gI (lP f82 (Sc p q) []) 4 1 [-p,q] (.lit aB) (.lit aB):=⟨by kernel_rfl,by kernel_rfl⟩
theorem aXz:clean (lP f82 (Sc p q) [])=true:=by kernel_rfl
variable {v:Int}
theorem aXC (h:v∈qE):yU f82 (Sd v)=some (.ret (.val (.one (.ptr 3 0))) (lP f82 (Sd v) []))/\gI (lP f82 (Sd v) []) 3 5 [0,0] (.ptr 1 0) (.lit aB)/\clean (lP f82 (Sd v) [])=true:=by
 simp only[qE,j8,j9,or_false]at h
 rcases h with rfl|rfl|rfl|rfl|rfl|rfl|rfl|rfl|rfl|rfl|rfl|rfl<;>exact⟨by kernel_rfl,⟨by kernel_rfl,by kernel_rfl⟩,by kernel_rfl⟩
theorem aXk (h:v=10\/v=11\/v=12\/v=13):yU f83 (Cy v p q)=some (.br (decide (Nm.cmp p 0=-1)) (.ret (fX (.lit aB) 5) (lP f83 (Cy v p q) [true])) (.br (decide (Nm.cmp p 0=0)) (.ret (fX (.ptr 4 0) 0) (lP f83 (Cy v p q) [false,true])) (.ret (fX (.ptr 3 0) 0) (lP f83 (Cy v p q) [false,false]))))/\clean (lP f83 (Cy v p q) [true])=true/\gI (lP f83 (Cy v p q) [false,true]) 4 1 [if v=11 then 1 else 0,1] (.lit aB) (.lit aB)/\clean (lP f83 (Cy v p q) [false,true])=true/\gI (lP f83 (Cy v p q) [false,false]) 3 v [0,0] (.ptr 1 0) (.lit aB)/\clean (lP f83 (Cy v p q) [false,false])=true:=by
 rcases h with rfl|rfl|rfl|rfl<;>exact⟨by kernel_rfl,by kernel_rfl,⟨by kernel_rfl,by kernel_rfl⟩,by kernel_rfl,⟨by kernel_rfl,by kernel_rfl⟩,by kernel_rfl⟩
theorem aXl (a:Int)(h:v∈qE):yU f83 (Rn a v)=some (.ret (fX (.ptr 3 0) 0) (lP f83 (Rn a v) []))/\gI (lP f83 (Rn a v) []) 3 a [0,0] (.ptr 1 0) (.lit aB)/\clean (lP f83 (Rn a v) [])=true:=by
 simp only[qE,j8,j9,or_false]at h
 rcases h with rfl|rfl|rfl|rfl|rfl|rfl|rfl|rfl|rfl|rfl|rfl|rfl<;>exact⟨by kernel_rfl,⟨by kernel_rfl,by kernel_rfl⟩,by kernel_rfl⟩
end
noncomputable def Sl (d p q a b:Int):AS:=Hh f84 [xU d,tB,Et] [(1,Hf 0),(2,Hf 2)] [(p,1),(q,1),(a,1),(b,1)]
def qY (p q a b:Int)(d:List AT):AS:=⟨d,[(1,Hf 0),(2,Hf 2)],3,[(p,1),(q,1),(a,1),(b,1)],[]⟩
noncomputable def rO:Nat×Array Oper×List (K (List AT)):=xQ (aG 79) f84
noncomputable def oK:List (K (List AT)):=[.code (aF f84),.top f84]
noncomputable def xFF (d p q a b:Int):Option XT:=(run Z (aE tP) bP (aL Z (aE tP)) (sK (aG 79)) 400 oK (Sl d p q a b)).bind (eF (fF [1,2] [] 3 []) (fF [1,2] [0,1,2] 3 []))
abbrev Jz (d:Int):List AT:=slot [(0,.val (xU d)),(1,.val tB),(2,.val Et)] 0 44
noncomputable def dO (d p q a b:Int):AS:=((aL Z (aE tP) (rO.2.1.extract 0 10) (qY p q a b (Jz d))).getD (⟨[],[],0,[],[]⟩,[])).1
noncomputable def zO (d p q a b:Int):Option Tr:=run Z (aE tP) bP (aL Z (aE tP)) (λ_=>false) 100 (.ops rO.2.1 [10,11,12]::rO.2.2) (dO d p q a b)
noncomputable def zS (d p q a b:Int):AS:=(((zO d p q a b).bind (dM [])).map (·.2)).getD ⟨[],[],0,[],[]⟩
def wA (d:Rf.Kind)(p q a b:Int):Int:=lowT (Hn (cU d) p q a b) (Hm (cU d) p q a b)
def vZ (d:Rf.Kind)(p q a b:Int):Int:=lowB (Hn (cU d) p q a b) (Hm (cU d) p q a b)
section
variable (p q a b:Int)
variable {v:Int}
theorem aXG (d:Rf.Kind)(h:v∈qE):yU f84 (Bl (cU d) p q v)=some (.ret (fX (.ptr 3 0) 0) (lP f84 (Bl (cU d) p q v) []))/\gI (lP f84 (Bl (cU d) p q v) []) 3 (cU d) [0,0] (.ptr 1 0) (.ptr 2 0)/\clean (lP f84 (Bl (cU d) p q v) [])=true:=by
 simp only[qE,j8,j9,or_false]at h
 rcases h with rfl|rfl|rfl|rfl|rfl|rfl|rfl|rfl|rfl|rfl|rfl|rfl<;>cases d<;>exact⟨by kernel_rfl,⟨by kernel_rfl,by kernel_rfl⟩,by kernel_rfl⟩
theorem aXH {d:Rf.Kind}(e:d≠.div)(h:v∈qE):yU f84 (oM (cU d) v p q)=some (.ret (fX (.ptr 3 0) 0) (lP f84 (oM (cU d) v p q) []))/\gI (lP f84 (oM (cU d) v p q) []) 3 (cU d) [0,0] (.ptr 1 0) (.ptr 2 0)/\clean (lP f84 (oM (cU d) v p q) [])=true:=by
 simp only[qE,j8,j9,or_false]at h
 cases d with
 |div=>exact absurd rfl e
 |add=>rcases h with rfl|rfl|rfl|rfl|rfl|rfl|rfl|rfl|rfl|rfl|rfl|rfl<;>exact⟨by kernel_rfl,⟨by kernel_rfl,by kernel_rfl⟩,by kernel_rfl⟩
 |sub=>rcases h with rfl|rfl|rfl|rfl|rfl|rfl|rfl|rfl|rfl|rfl|rfl|rfl<;>exact⟨by kernel_rfl,⟨by kernel_rfl,by kernel_rfl⟩,by kernel_rfl⟩
 |mul=>rcases h with rfl|rfl|rfl|rfl|rfl|rfl|rfl|rfl|rfl|rfl|rfl|rfl<;>exact⟨by kernel_rfl,⟨by kernel_rfl,by kernel_rfl⟩,by kernel_rfl⟩
theorem aWe (h:v∈qE):yU f84 (oM 9 v p q)=some (.br (decide (Nm.cmp p 0=0)) (.ret (fX (.lit aB) 5) (lP f84 (oM 9 v p q) [true])) (.ret (fX (.ptr 3 0) 0) (lP f84 (oM 9 v p q) [false])))/\clean (lP f84 (oM 9 v p q) [true])=true/\gI (lP f84 (oM 9 v p q) [false]) 3 9 [0,0] (.ptr 1 0) (.ptr 2 0)/\clean (lP f84 (oM 9 v p q) [false])=true:=by
 simp only[qE,j8,j9,or_false]at h
 rcases h with rfl|rfl|rfl|rfl|rfl|rfl|rfl|rfl|rfl|rfl|rfl|rfl<;>exact⟨by kernel_rfl,by kernel_rfl,⟨by kernel_rfl,by kernel_rfl⟩,by kernel_rfl⟩
theorem aXI {e:Rf.Kind}(f:e≠.div)(d:Int)(h:v∈qE):yU f84 (qX (cU e) v d)=some (.ret (fX (.ptr 3 0) 0) (lP f84 (qX (cU e) v d) []))/\gI (lP f84 (qX (cU e) v d) []) 3 (cU e) [0,0] (.ptr 1 0) (.ptr 2 0)/\clean (lP f84 (qX (cU e) v d) [])=true:=by
 simp only[qE,j8,j9,or_false]at h
 cases e with
 |div=>exact absurd rfl f
 |add=>rcases h with rfl|rfl|rfl|rfl|rfl|rfl|rfl|rfl|rfl|rfl|rfl|rfl<;>exact⟨by kernel_rfl,⟨by kernel_rfl,by kernel_rfl⟩,by kernel_rfl⟩
 |sub=>rcases h with rfl|rfl|rfl|rfl|rfl|rfl|rfl|rfl|rfl|rfl|rfl|rfl<;>exact⟨by kernel_rfl,⟨by kernel_rfl,by kernel_rfl⟩,by kernel_rfl⟩
 |mul=>rcases h with rfl|rfl|rfl|rfl|rfl|rfl|rfl|rfl|rfl|rfl|rfl|rfl<;>exact⟨by kernel_rfl,⟨by kernel_rfl,by kernel_rfl⟩,by kernel_rfl⟩
theorem aWf {z:Int}(h:v∈qE)(d:z∈qE):yU f84 (qX 9 v z)=some (.ret (fX (.ptr 3 0) 0) (lP f84 (qX 9 v z) []))/\gI (lP f84 (qX 9 v z) []) 3 9 [0,0] (.ptr 1 0) (.ptr 2 0)/\clean (lP f84 (qX 9 v z) [])=true:=by
 simp only[qE,j8,j9,or_false]at h d
 rcases h with rfl|rfl|rfl|rfl|rfl|rfl|rfl|rfl|rfl|rfl|rfl|rfl<;>rcases d with rfl|rfl|rfl|rfl|rfl|rfl|rfl|rfl|rfl|rfl|rfl|rfl<;>exact⟨by kernel_rfl,⟨by kernel_rfl,by kernel_rfl⟩,by kernel_rfl⟩
theorem aXF {d:Rf.Kind}(e:d≠.div):xFF (cU d) p q a b=some (.stp (.code (.region rO.1 rO.2.1 true)::rO.2.2) (qY p q a b (Jz (cU d)))):=by
 cases d with
 |div=>exact absurd rfl e
 |add=>kernel_rfl
 |sub=>kernel_rfl
 |mul=>kernel_rfl
theorem aWd:xFF 9 p q a b=some (.br (decide (Nm.cmp a 0=0)) (.ret (fX (.lit aB) 5) (qY p q a b (sl0 44))) (.stp (.code (.region rO.1 rO.2.1 true)::rO.2.2) (qY p q a b (Jz 9)))):=by kernel_rfl
theorem aZE (d:Int):aL Z (aE tP) (rO.2.1.extract 0 10) (qY p q a b (Jz d))=some (dO d p q a b,[0<aK (Hn d p q a b) (Hm d p q a b)]):=by kernel_rfl
theorem aW6:sM rO.2.1 10=true/\10<rO.2.1.size/\(l7 rO.2.1.size).drop 10=[10,11,12]:=⟨by kernel_rfl,n8 (by decide:10<13) (by kernel_rfl),by kernel_rfl⟩
theorem frO:noFr rO.2.2=true:=by kernel_rfl
theorem bA9 (d:Rf.Kind):zO (cU d) p q a b=some (.ret (fX (.ptr 14 0) 0) (zS (cU d) p q a b))/\gI (zS (cU d) p q a b) 14 1 [wA d p q a b,vZ d p q a b] (.lit aB) (.lit aB)/\clean (zS (cU d) p q a b)=true:=by
 cases d<;>exact⟨by kernel_rfl,⟨by kernel_rfl,by kernel_rfl⟩,by kernel_rfl⟩
end
theorem gI.at {n w:World}{q φ:LI}{s:AS}{b:Nat}{v:Int}{k:LN}{E i:AC}{p g:Value}(h:gI s b v k E i)(D:RepW Z n q φ s w)(u:∀x,relC Z φ s.nums w E x->x=p)(z:∀x,relC Z φ s.nums w i x->x=g):
  ∃m,∃r:LB,φ b=some (m,0)/\PartB w m v r aI p g/\Hold true w k r:=by
 obtain⟨m,d,k1,F,H,I⟩:=zN D h.look rfl rfl;have o:=h.num
 match d,H with
 |y::d,⟨j,f⟩=>
 have j:y=.int .i64 v:=j;subst j;have f:All2 (relC Z φ s.nums w) (((zX s b).drop 1).take 4++[.lit aI,E,i]) d:=f;generalize (((zX s b).drop 1).take 4)=a at f o;have C:=f.len;simp only[n4,List.length_cons,List.length_nil]at C
 have A:All2 (relC Z φ s.nums w) a (d.take a.length):=by
  have:=f.take a.length;rw[List.take_append_of_le_length (by omega),List.take_of_length_le (by omega)]at this;exact this
 have B:All2 (relC Z φ s.nums w) [.lit aI,E,i] (d.drop a.length):=by
  have:=f.drop a.length;rw[List.drop_append_of_le_length (by omega),List.drop_of_length_le (by omega)]at this;exact this
 refine⟨m,d.take a.length,k1,?_,Ot a k _ o A⟩
 match hd:d.drop a.length,B with
 | [a0,a1,l],⟨b0,b1,b2,_⟩=>
 have c0:a0=aI:=b0.1;have c1:=u a1 b1;have c2:=z l b2;subst c0 c1 c2
 have e:d=d.take a.length++[aI,a1,l]:=by rw[<-hd];exact(List.take_append_drop _ _).symm
 unfold PartB;rw[F];generalize d.take a.length=t at e;subst e;rfl
def Bh:Wt->Wt
 |.fr p q=>.fr (-p) q
 |t=>.neg t
def Me (op:Rf.Op):Wt->Option Wt
 |.fr p q=>if p<0 then none else if p=0 then some (.fr (if op=.exp then 1 else 0) 1)else some (.fn op (.fr p q))
 |t=>some (.fn op t)
def yA (d:Rf.Kind):Wt->Wt->Option Wt
 |.fr p q,.fr a b=>if d=.div/\a=0 then none else some (.fr (wA d p q a b) (vZ d p q a b))
 |t,.fr a b=>if d=.div/\a=0 then none else some (.two d t (.fr a b))
 |t,u=>some (.two d t u)
section
variable {w:World}{ν:LV}{ys:LB}
theorem Xm {B:bL}{h:List AT}{ty:TypeId}(d:B.own=false/\B.ro=true/\B.tip=false)(f:w.heap[k]?=some (.cells (cs++ys).toArray B.ty (0,0)))(hc:All2 (relC Z (ph1 1 k) ν w) B.cs cs):RepW Z w (ph1 1 k) (ph1 1 k) ⟨h,[(1,B)],3,ν,[]⟩ w:=by
 refine rQ rfl ?_ ?_ ?_
 .intro b i e;have:=nE e;simp only[l8,p7]at this;obtain⟨rfl,rfl⟩:=this;exact⟨d.1,d.2.1,d.2.2,k,0,rfl,[],cs,ys,(by simpa using f),rfl,hc⟩
 .intro b g;have:3<=b:=g;unfold ph1;rw[if_neg (by omega)]
 .intro b j o a;unfold ph1 at a;split at a
  .cases a;exact gZ f
  .cases a
theorem Xn {e:Nat}{B B2:bL}{n:List AT}{cs2 ys2:LB}(g:B.own=false/\B.ro=true/\B.tip=false)(d:B2.own=false/\B2.ro=true/\B2.tip=false)(j:w.heap[k]?=some (.cells (cs++ys).toArray B.ty (0,0)))(hc:All2 (relC Z (phQ k e) ν w) B.cs cs)(f:w.heap[e]?=some (.cells (cs2++ys2).toArray B2.ty (0,0)))(i:All2 (relC Z (phQ k e) ν w) B2.cs cs2):RepW Z w (phQ k e) (phQ k e) ⟨n,[(1,B),(2,B2)],3,ν,[]⟩ w:=by
 refine rQ rfl ?_ ?_ ?_
 .intro b p h;have:=nE h;simp only[j8,j9,or_false,p7]at this
  rcases this with⟨rfl,rfl⟩|⟨rfl,rfl⟩
  .exact⟨g.1,g.2.1,g.2.2,k,0,rfl,[],cs,ys,(by simpa using j),rfl,hc⟩
  .exact⟨d.1,d.2.1,d.2.2,e,0,rfl,[],cs2,ys2,(by simpa using f),rfl,i⟩
 .intro b l;have:3<=b:=l
  match b,this with
  |b+3,_=>rfl
 .intro b q o a
  match b,a with
  |0,a=>cases a
  |1,a=>cases a;exact gZ j
  |2,a=>cases a;exact gZ f
  |b+3,a=>cases a
variable {a:LB}{φ:LI}
theorem Ma {p:Int}{i:Nat}(h:Hold true w [p,q] a)(d:Bits 1 p)(e:Bits 1 q)(f:ν[i]?=some (p,1))(g:ν[i+1]?=some (q,1)):All2 (relC Z φ ν w) (.int .i64 1::bH true i 2) (.int .i64 1::a):=by
 refine⟨rfl,tV (n:=1) [p,q] a i _ h ?_ ?_⟩
 .intro z b;simp at b
  rcases b with rfl|rfl
  .exact d
  .exact e
 .intro j z b
  match j,b with
  |0,b=>cases b;exact f
  |1,b=>cases b;exact g
  |j+2,b=>simp at b
theorem Nl {t:Wt}(a:t.Ok)(l:aJ w t x):∃k,x=aA k/\((∃p q,t=.fr p q/\∃b i f g,PartB w k 1 b i f g/\Hold true w [p,q] b/\Bits 1 p/\Bits 1 q/\0<q)\/((∀p q,t≠.fr p q)/\∃d∈qE,∃s:LB,w.heap[k]?=some (.cells (.int .i64 d::s).toArray 157 (0,0)))):=by
 by_cases h:∃p q,t=.fr p q
 .obtain⟨p,q,rfl⟩:=h;obtain⟨k,b,i,f,g,rfl,o,r,_⟩:=l;exact⟨k,rfl,Or.inl ⟨p,q,rfl,b,i,f,g,o,r,xM a.2.1,xM a.2.2,a.1⟩⟩
 .have j:∀p q,t≠.fr p q:=λp q e=>h ⟨p,q,e⟩
  obtain⟨k,rfl,n⟩:=aOC j a l;exact⟨k,rfl,n9 ⟨j,n⟩⟩
theorem Xq {m:Nat}{p:Int}(b:PartB n m 1 a aI aB aB)(d:Hold true n [p,q] a):aJ n (.fr p q) (aA m):=⟨m,a,aI,aB,aB,rfl,b,d,rfl,rfl,rfl⟩
theorem aQl {t:Wt}(n:t.Ok)(y:aJ w t x):Calls prog 82 #[x] w λe a=>∃B,e=.returned B/\Chg w a []/\aJ a (Bh t) B:=by
 obtain⟨k,rfl,⟨p,q,rfl,P,O,I,J,E,F,C,D,_⟩|⟨j,h,g,R,d⟩⟩:=Nl n y
 .refine sI (φ:=ph1 1 k) (s:=Sc p q) (vs:=[tB]) (args:=[aA k]) (bD func82 rfl rfl) (dL qK) tY (by kernel_rfl) ⟨⟨k,0,rfl,rfl⟩,trivial⟩ (Xm (ty:=157) ⟨rfl,rfl,rfl⟩ (cs:=.int .i64 1::P) (ys:=[O,I,J]) E (Ma F C D rfl rfl)) (aXB p q) (λr s=>r=.val (.one (.ptr 4 0))/\gI s 4 1 [-p,q] (.lit aB) (.lit aB)/\clean s=true) ⟨rfl,aXA p q,aXz p q⟩ ?_;rintro r s φ x a⟨rfl,j,hc⟩ hrel b;obtain⟨m,i,k1,o,u⟩:=j.at b cJ cJ;have hv:x=aA m:=cN (ν:=s.nums) (w:=a) k1 x hrel;exact⟨x,rfl,Chg.eC (RepF.below b hc),by rw[hv];exact Xq o u⟩
 .obtain⟨L,M,N⟩:=aXC g;refine sI (φ:=ph1 1 k) (s:=Sd h) (vs:=[tB]) (args:=[aA k]) (bD func82 rfl rfl) (dL qK) tY (by kernel_rfl) ⟨⟨k,0,rfl,rfl⟩,trivial⟩ (Xm (ty:=157) ⟨rfl,rfl,rfl⟩ (cs:=[.int .i64 h]) (ys:=R) d ⟨rfl,trivial⟩) L (λr s=>r=.val (.one (.ptr 3 0))/\gI s 3 5 [0,0] (.ptr 1 0) (.lit aB)/\clean s=true) ⟨rfl,M,N⟩ ?_;rintro r s φ x a⟨rfl,l,hc⟩ hrel b;obtain⟨m,i,k1,o,u⟩:=l.at b (cN (b.base 1 (k,0) rfl)) cJ;have hv:x=aA m:=cN (ν:=s.nums) (w:=a) k1 x hrel;have f:Chg w a []:=Chg.eC (RepF.below b hc)
  have H:Bh t=.neg t:=by
   cases t with
   |fr p q=>exact absurd rfl (j p q)
   |_=>rfl
  refine⟨x,rfl,f,?_⟩;rw[hv,H];exact⟨m,i,[0,0],aI,aA k,aB,rfl,o,u,rfl,λz A=>jW z (by simp at A;simp[A]),rfl,rfl,aJ.aT f.on t _ y⟩
def dK (w:World)(x:Option Wt)(e:Ending)(a:World):Prop:=Chg w a []/\match x with
 |none=>e=.returned (.tuple #[aB,.int .i64 5])
 |some t=>∃v,e=.returned (.tuple #[v,.int .i64 0])/\aJ a t v
variable {x:Option Wt}
theorem dK.no {w:World}{e:Ending}(d:x=none)(hc:Chg w b [])(a:e=.returned (.tuple #[aB,.int .i64 5])):dK w x e b:=by subst d;exact⟨hc,a⟩
theorem dK.yes {w:World}{t:Wt}{e:Ending}{v:Value}(f:x=some t)(hc:Chg w b [])(a:e=.returned (.tuple #[v,.int .i64 0]))(d:aJ b t v):dK w x e b:=by subst f;exact⟨hc,v,a,d⟩
theorem zP {w:World}{c:AC}{e:Int}{v g:Value}(h:relT Z φ ν w (fX c e) v)(hc:∀x,relC Z φ ν w c x->x=g):v=.tuple #[g,.int .i64 e]:=by
 obtain⟨j,rfl,i⟩:=h
 match j,i with
 | [a,b],⟨f,d,_⟩=>
  have d:b=.int .i64 e:=d;rw[hc a f,d]
theorem aJE (l:Rf.fn op){t:Wt}{x:Value}(A:t.Ok)(B:aJ w t x):Calls prog 83 #[.int .i64 (aH op),x] w (dK w (Me op t)):=by
 have y:=Ku l;have O:aH op=11↔op=.exp:=Lz l;obtain⟨k,rfl,⟨p,q,rfl,Y,X,R,S,L,M,H,I,_⟩|⟨P,u,j,zs,i⟩⟩:=Nl A B
 .obtain⟨C,D,E,T,U,W⟩:=aXk p q y;refine sI (φ:=ph1 1 k) (s:=Cy (aH op) p q) (vs:=[xU (aH op),tB]) (args:=[.int .i64 (aH op),aA k]) (bD func83 rfl rfl) (dL qK) tY (by kernel_rfl) ⟨rfl,⟨k,0,rfl,rfl⟩,trivial⟩ (Xm (ty:=157) ⟨rfl,rfl,rfl⟩ (cs:=.int .i64 1::Y) (ys:=[X,R,S]) L (Ma M H I rfl rfl)) C (λr s=>clean s=true/\((p<0/\r=fX (.lit aB) 5)\/(p=0/\r=fX (.ptr 4 0) 0/\gI s 4 1 [if aH op=11 then 1 else 0,1] (.lit aB) (.lit aB))\/(0<p/\r=fX (.ptr 3 0) 0/\gI s 3 (aH op) [0,0] (.ptr 1 0) (.lit aB)))) ?_ ?_
  .rcases Int.lt_trichotomy p 0 with h|h|h
   .refine⟨λ_=>⟨D,Or.inl ⟨h,rfl⟩⟩,λe=>?_⟩;rw[Nm.jC h]at e;cases e
   .have J:Nm.cmp p 0=0:=Nm.jB h;rw[J];exact⟨λe=>(by cases e),λ_=>⟨λ_=>⟨T,n9 (Or.inl ⟨h,rfl,E⟩)⟩,λe=>by cases e⟩⟩
   .rw[Nm.hO h];exact⟨λe=>(by cases e),λ_=>⟨λe=>(by cases e),λ_=>⟨W,n9 (n9 ⟨h,rfl,U⟩)⟩⟩⟩
  .rintro r s φ x F⟨hc,h⟩ hrel b;have a:Chg w F []:=Chg.eC (RepF.below b hc)
   rcases h with⟨h,rfl⟩|⟨h,rfl,g⟩|⟨h,rfl,g⟩
   .exact .no (show(if p<0 then _ else _)=_ from if_pos h) a (by rw[zP hrel cJ])
   .obtain⟨m,f,k1,o,d⟩:=g.at b cJ cJ
    have:(if aH op=11 then(1:Int)else 0)=if op=.exp then 1 else 0:=by simp only[O]
    rw[this]at d;exact .yes (show(if p<0 then _ else if p=0 then _ else _)=_ by rw[if_neg (by omega),if_pos h]) a (by rw[zP hrel (cN k1)]) (Xq o d)
   .obtain⟨m,f,k1,o,d⟩:=g.at b (cN (b.base 1 (k,0) rfl)) cJ;exact .yes (t:=.fn op (.fr p q)) (v:=aA m) (show(if p<0 then _ else if p=0 then _ else some (Wt.fn op (.fr p q)))=_ by rw[if_neg (by omega),if_neg (by omega)]) a (by rw[zP hrel (cN k1)]) ⟨m,f,[0,0],aI,aA k,aB,rfl,o,d,rfl,λz n=>jW z (by simp at n;simp[n]),rfl,rfl,aJ.aT a.on (.fr p q) _ B⟩
 .obtain⟨C,D,E⟩:=aXl (aH op) j;refine sI (φ:=ph1 1 k) (s:=Rn (aH op) u) (vs:=[xU (aH op),tB]) (args:=[.int .i64 (aH op),aA k]) (bD func83 rfl rfl) (dL qK) tY (by kernel_rfl) ⟨rfl,⟨k,0,rfl,rfl⟩,trivial⟩ (Xm (ty:=157) ⟨rfl,rfl,rfl⟩ (cs:=[.int .i64 u]) (ys:=zs) i ⟨rfl,trivial⟩) C (λr s=>r=fX (.ptr 3 0) 0/\gI s 3 (aH op) [0,0] (.ptr 1 0) (.lit aB)/\clean s=true) ⟨rfl,D,E⟩ ?_;rintro r s φ x F⟨rfl,g,hc⟩ hrel b;have a:Chg w F []:=Chg.eC (RepF.below b hc);obtain⟨m,f,k1,o,d⟩:=g.at b (cN (b.base 1 (k,0) rfl)) cJ
  have N:Me op t=some (.fn op t):=by
   cases t with
   |fr p q=>exact absurd rfl (P p q)
   |_=>rfl
  exact .yes (v:=aA m) N a (by rw[zP hrel (cN k1)]) ⟨m,f,[0,0],aI,aA k,aB,rfl,o,d,rfl,λz n=>jW z (by simp at n;simp[n]),rfl,rfl,aJ.aT a.on t _ B⟩
end
end Ab
end Go.Proofs.YtpdflaaamaokbaaGreatDoor
