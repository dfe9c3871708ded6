import Derived.Test.YtpdflaaamaokbaaGreatDoorCCh15
import Derived.Test.YtpdflaaamaokbaaGreatDoorCCh03
import Derived.Test.YtpdflaaamaokbaaGreatDoorCCh02
import Derived.BigQuiet
import Derived.Deep.Trees
import Derived.Deep.LoopGhost
set_option linter.all false
set_option maxRecDepth 100000
set_option maxHeartbeats 2000000
namespace Go.Proofs.YtpdflaaamaokbaaGreatDoor
open Option.some renaming injEq->j8,inj->j9
open Prod.mk renaming injEq->k8
open Nat renaming le_refl->k9
open Go.Value renaming int->l4,ownBlock->l5,pointer->l7
open Int renaming mul_ediv_cancel'->l8,lt_or_le->l9,mul_nonpos_of_nonneg_of_nonpos->n4,ne_of_gt->n5,mul_pos->n6
open Bool renaming and_eq_true->n7,or_self->n8,or_true->n9,true_or->o8
open List renaming replicate->o9,getD->p7
open Or renaming inr->p8
open Rd (dY cF cK aQ)
open Go.Proofs.Tryz
open Go.RowKit
namespace Ab
open Rf (Nd Inv aY Wt)
variable {b:Int}
theorem Zg {t:Int}(a:b≠0):0<aK t b:=by
 unfold aK;have:0<Nat.gcd t.natAbs b.natAbs:=Nat.gcd_pos_of_pos_right _ (by omega);omega
theorem aQg {t:Int}(a:b≠0):0<lowB t b:=by
 have e:=Zg (t:=t) a
 have d2:aK t b ∣ b:=by
  unfold aK;exact Int.ofNat_dvd_left.2 (Nat.gcd_dvd_right _ _)
 unfold lowB
 rcases Int.lt_or_lt_of_ne a with h|h
 .rw[Nm.jC h];show 0 < -b/aK t b;have d:-b=aK t b*(-b/aK t b):=(l8 (Int.dvd_neg.2 d2)).symm
  rcases l9 0 (-b/aK t b)with h1|h1
  .exact h1
  .have:=n4 (show(0:Int)<=aK t b by omega) h1;omega
 .rw[Nm.hO h];show 0<b/aK t b;have d:b=aK t b*(b/aK t b):=(l8 d2).symm
  rcases l9 0 (b/aK t b)with h1|h1
  .exact h1
  .have:=n4 (show(0:Int)<=aK t b by omega) h1;omega
variable {kk:Rf.Kind}
theorem aSh {p q a:Int}(f:0<q)(d:0<b)(g:¬(kk=.div/\a=0)):Hm (cU kk) p q a b≠0:=by
 cases kk with
 |add=>exact n5 (n6 f d)
 |sub=>exact n5 (n6 f d)
 |mul=>exact n5 (n6 f d)
 |div=>exact Int.mul_ne_zero (by omega) (λe=>g ⟨rfl,e⟩)
theorem Qp (a:Int):decide (Nm.cmp a 0=0)=decide (a=0):=by
 rcases Int.lt_trichotomy a 0 with h|h|h
 .rw[Nm.jC h];simp;omega
 .rw[Nm.jB h];simp[h]
 .rw[Nm.hO h];simp;omega
variable {R:EW}{k:Nat}
theorem Tk {n:World}{q:LI}{sp:Spec}{e:XW}{stp:List (K (List AT))->Bool}(l:SpecOk Z n q sp)(D:bQ Z e){f:NU}{nx:Nat}{rb:NU}{ns:AS->Option (AS×List Prop)}(N:∀b x,q b=some x->f.contains b=true)(E:Df q ns){O:List (K (List AT))}{s:AS}{Y:XT}
  (ht:(run Z sp e (aL Z sp) stp k O s).bind (eF (fF f [] nx rb) ns)=some Y) (G:AT->AS->Prop) (H:List (K (List AT))->AS->Prop) (F:Y.ok G H)
  (hG:∀r j h v i,G r j->(∃U T,relT Z U T i r v)->RepW Z n q h j i->R (.returned v) i)
  (hH:∀g j,H g j->noFr g=true/\∀(d:List (K Act)) (h:LI) (a:Act) (i:World),(∀z y X,SR Z z y X g d)->Rep Z n q h j a i->gD Z.P R d .normal a i):
  ∀(d:List (K Act)) (φ:LI) (a:Act) (w:World),SR Z φ s.nums w O d->Rep Z n q φ s a w->gD Z.P R d .normal a w:=by
 intro d φ a w L hr;obtain⟨tr,h1,h2⟩:=aS ht;refine vC l D (rJ mixed l) _ _ ?_ ?_ k O s tr h1 (Lj h2 F) d φ a w L hr
 .rintro g j⟨S,p,A,B,C⟩ u h a' i o I;obtain⟨hf,hk⟩:=hH g S C;obtain⟨W,J⟩:=E _ _ _ _ _ _ _ A B I;exact hk u W a' i (λz y X=>SR.any hf o) J
 .rintro r j h v i⟨S,p,A,B,C⟩ hv M;exact hG r S _ v i C ⟨_,_,hv⟩ (aJS A B N M)
section
variable {w:World}{u:Wt}{k1:Nat}
theorem aLu {n:World}{t:Wt}{m p:Nat}{a:LB}(d:PartB n m (cU kk) a aI (aA k1) (aA p))(e:Hold true n [0,0] a)(f:aJ n t (aA k1))(g:aJ n u (aA p)):aJ n (.two kk t u) (aA m):=
 ⟨m,a,[0,0],aI,aA k1,aA p,rfl,d,e,rfl,λz b=>jW z (by simp at b;simp[b]),rfl,f,g⟩
theorem aKY {N:AS}{v:Int}{X:Tr}(g:N.tmps=[xU v,tB,Et].map .val++o9 (f84.ntmps-3) .gG)(f:RepW Z w (phQ k1 k) (phQ k1 k) N w)(h:yU f84 N=some X)(G:AT->AS->Prop)(b:X.ok G λ_ _=>False)(e:∀r s φ a d,G r s->relT Z φ s.nums d r a->RepW Z w (phQ k1 k) φ s d->R (.returned a) d):Calls prog 84 #[.int .i64 v,aA k1,aA k] w R:=
 sI (s:=N) (vs:=[xU v,tB,Et]) (args:=[.int .i64 v,aA k1,aA k]) (bD func84 rfl rfl) (dL qK) tY g ⟨rfl,⟨k1,0,rfl,rfl⟩,⟨k,0,rfl,rfl⟩,trivial⟩ f h G b e
theorem Ve {N:AS}{b:Rf.Kind}{t:Wt}(i:N.tmps=[xU (cU b),tB,Et].map .val++o9 (f84.ntmps-3) .gG)(h:RepW Z w (phQ k1 k) (phQ k1 k) N w)(j:yU f84 N=some (.ret (fX (.ptr 3 0) 0) (lP f84 N []))/\gI (lP f84 N []) 3 (cU b) [0,0] (.ptr 1 0) (.ptr 2 0)/\clean (lP f84 N [])=true)(f:yA b t u=some (.two b t u))(g:aJ w t (aA k1))(l:aJ w u (aA k)):Calls prog 84 #[.int .i64 (cU b),aA k1,aA k] w (dK w (yA b t u)):=by
 obtain⟨q,x,y⟩:=j;refine aKY i h q (λr s=>r=fX (.ptr 3 0) 0/\gI s 3 (cU b) [0,0] (.ptr 1 0) (.ptr 2 0)/\clean s=true) ⟨rfl,x,y⟩ ?_;rintro r s φ v z⟨rfl,e,hc⟩ hrel d;have a:Chg w z []:=Chg.eC (RepF.below d hc);obtain⟨m,ys,n,o,p⟩:=e.at d (cN (d.base 1 (k1,0) rfl)) (cN (d.base 2 (k,0) rfl));exact .yes (v:=aA m) f a (by rw[zP hrel (cN n)]) (aLu o p (aJ.aT a.on t _ g) (aJ.aT a.on u _ l))
theorem Wn {a:Nat}:∀b x,phQ k a b=some x->[1,2].contains b=true:=by
 intro b x e
 match b,e with
 |0,e=>cases e
 |1,_=>rfl
 |2,_=>rfl
 |b+3,e=>cases e
theorem aIE (f:Rf.Kind){t:Wt}{x g:Value}(al:t.Ok)(U:aJ w t x)(E:u.Ok)(J:aJ w u g):Calls prog 84 #[.int .i64 (cU f),x,g] w (dK w (yA f t u)):=by
 obtain⟨k1,rfl,⟨p,q,rfl,xs,tv,lv,rv,hB,hH,bp,bq,hq⟩|⟨hn,C,j,zs,D⟩⟩:=Nl al U
 .obtain⟨k,rfl,⟨a,b,rfl,R,N,L,M,F,H,ba,W,hb⟩|⟨I,o,z,S,i⟩⟩:=Nl E J
  .have d:∀tm,RepW Z w (phQ k1 k) (phQ k1 k) (qY p q a b tm) w:=λtm=>Xn ⟨rfl,rfl,rfl⟩ ⟨rfl,rfl,rfl⟩ (cs:=.int .i64 1::xs) (ys:=[tv,lv,rv]) hB (Ma hH bp bq rfl rfl) (cs2:=.int .i64 1::R) (ys2:=[N,L,M]) F (Ma H ba W rfl rfl)
   have X:¬(f=.div/\a=0)->∀(B:List (K Act)) (az:LI) (a':Act) (O:World),(∀T ay w1,SR Z T ay w1 (.code (.region rO.1 rO.2.1 true)::rO.2.2) B)->Rep Z w (phQ k1 k) az (qY p q a b (Jz (cU f))) a' O->gD Z.P (dK w (yA f (.fr p q) (.fr a b))) B .normal a' O:=by
    intro Y B T a1 w1 aa am;have hW:yA f (.fr p q) (.fr a b)=some (.fr (wA f p q a b) (vZ f p q a b)):=if_neg Y;obtain⟨W,bj,bd⟩:=aW6
    match B,aa T [] w1 with
    |.code cc::ad,⟨ak,ab⟩=>
    subst ak;show(Code.region rO.1 rO.2.1 true).wp Z.P _ a1 w1;refine La mixed (dL qK) bj W (aZE p q a b (cU f)) (bJ (Zg (aSh hq hb Y))) am ?_;intro bu a2 w2 ao;rw[bd];show gD Z.P _ (.ops rO.2.1 [10,11,12]::ad) .normal a2 w2;obtain⟨t1,t2,t3⟩:=bA9 p q a b f;refine vC (dL qK) tY (rJ mixed (dL qK)) (λr s=>r=fX (.ptr 14 0) 0/\gI s 14 1 [wA f p q a b,vZ f p q a b] (.lit aB) (.lit aB)/\clean s=true) (λ_ _=>False) (λ_ _ h=>h.elim) ?_ _ _ _ _ t1 ⟨rfl,t2,t3⟩ _ _ a2 w2 ⟨rfl,rfl,SR.any frO ab⟩ ao;rintro r s φ x O⟨rfl,hI,hc⟩ hrel A;have n:Chg w O []:=Chg.eC (RepF.below A hc);obtain⟨m,ys,j1,j2,j3⟩:=hI.at A cJ cJ;exact .yes (v:=aA m) hW n (by rw[zP hrel (cN j1)]) (Xq j2 j3)
   refine pM (bD func84 rfl rfl) (φ:=phQ k1 k) (vs:=[xU (cU f),tB,Et]) (args:=[.int .i64 (cU f),aA k1,aA k]) (s:=Sl (cU f) p q a b) (by kernel_rfl) ⟨rfl,⟨k1,0,rfl,rfl⟩,⟨k,0,rfl,rfl⟩,trivial⟩ (d _) ?_
   by_cases y:f=.div
   .subst y;refine Tk (dL qK) tY Wn (jI Wn) (aWd p q a b) (λr s=>a=0/\r=fX (.lit aB) 5/\s.dirty=[]) (λks s=>a≠0/\ks=.code (.region rO.1 rO.2.1 true)::rO.2.2/\s=qY p q a b (Jz 9)) ?_ ?_ ?_
    .rw[Qp];exact⟨λe=>⟨by simpa using e,rfl,rfl⟩,λe=>⟨by simpa using e,rfl,rfl⟩⟩
    .rintro r s φ x O⟨h0,rfl,y⟩⟨bt,bs,hrel⟩ A;exact .no (show(if _ then none else _)=none from if_pos ⟨rfl,h0⟩) (rK A y) (by rw[zP hrel cJ])
    .rintro ks s⟨h0,rfl,rfl⟩;exact⟨by simpa[noFr]using frO,X λe=>h0 e.2⟩
   .refine cC (dL qK) tY Wn (jI Wn) (aXF p q a b y) (λ_ _=>False) (λks s=>ks=.code (.region rO.1 rO.2.1 true)::rO.2.2/\s=qY p q a b (Jz (cU f))) ⟨rfl,rfl⟩ (λ_ _ _ _ _ h=>h.elim) ?_;rintro ks s⟨rfl,rfl⟩;exact⟨by simpa[noFr]using frO,X λe=>y e.1⟩
  .have d:RepW Z w (phQ k1 k) (phQ k1 k) (Bl (cU f) p q o) w:=Xn ⟨rfl,rfl,rfl⟩ ⟨rfl,rfl,rfl⟩ (cs:=.int .i64 1::xs) (ys:=[tv,lv,rv]) hB (Ma hH bp bq rfl rfl) (cs2:=[.int .i64 o]) (ys2:=S) i ⟨rfl,trivial⟩;refine Ve (by kernel_rfl) d (aXG p q f z) ?_ U J
   cases u with
   |fr p q=>exact absurd rfl (I p q)
   |_=>rfl
 .obtain⟨k,rfl,⟨a,b,rfl,R,N,L,M,F,H,ba,W,hb⟩|⟨I,o,z,S,i⟩⟩:=Nl E J
  .have d:RepW Z w (phQ k1 k) (phQ k1 k) (oM (cU f) C a b) w:=Xn ⟨rfl,rfl,rfl⟩ ⟨rfl,rfl,rfl⟩ (cs:=[.int .i64 C]) (ys:=zs) D ⟨rfl,trivial⟩ (cs2:=.int .i64 1::R) (ys2:=[N,L,M]) F (Ma H ba W rfl rfl)
   have l:yA f t (.fr a b)=if f=.div/\a=0 then none else some (.two f t (.fr a b)):=by
    cases t with
    |fr p q=>exact absurd rfl (hn p q)
    |_=>rfl
   by_cases y:f=.div
   .subst y;obtain⟨t1,t2,t3,t4⟩:=aWe a b j;refine aKY (by kernel_rfl) d t1 (λr s=>clean s=true/\((a=0/\r=fX (.lit aB) 5)\/(a≠0/\r=fX (.ptr 3 0) 0/\gI s 3 9 [0,0] (.ptr 1 0) (.ptr 2 0)))) ?_ ?_
    .rw[Qp];refine⟨λe=>⟨t2,Or.inl ⟨by simpa using e,rfl⟩⟩,λe=>⟨t4,p8 ⟨by simpa using e,rfl,t3⟩⟩⟩
    .rintro r s φ x O⟨hc,h⟩ hrel A;have n:Chg w O []:=Chg.eC (RepF.below A hc)
     rcases h with⟨h,rfl⟩|⟨h,rfl,hI⟩
     .exact .no (by rw[l,if_pos ⟨rfl,h⟩]) n (by rw[zP hrel cJ])
     .obtain⟨m,ys,j1,j2,j3⟩:=hI.at A (cN (A.base 1 (k1,0) rfl)) (cN (A.base 2 (k,0) rfl));exact .yes (v:=aA m) (by rw[l,if_neg (λe=>h e.2)]) n (by rw[zP hrel (cN j1)]) (aLu (kk:=.div) j2 j3 (aJ.aT n.on t _ U) (aJ.aT n.on _ _ J))
   .exact Ve (by kernel_rfl) d (aXH a b y j) (by rw[l,if_neg (λe=>y e.1)]) U J
  .have d:RepW Z w (phQ k1 k) (phQ k1 k) (qX (cU f) C o) w:=Xn ⟨rfl,rfl,rfl⟩ ⟨rfl,rfl,rfl⟩ (cs:=[.int .i64 C]) (ys:=zs) D ⟨rfl,trivial⟩ (cs2:=[.int .i64 o]) (ys2:=S) i ⟨rfl,trivial⟩
   have l:yA f t u=some (.two f t u):=by
    cases u with
    |fr p q=>exact absurd rfl (I p q)
    |_=>cases t<;>rfl
   by_cases y:f=.div
   .subst y;exact Ve (by kernel_rfl) d (aWf j z) l U J
   .exact Ve (by kernel_rfl) d (aXI y o j) l U J
end
end Ab
def yF (x:Rd.Wd):Value:=.agg #[.int .i64 x.kind,.string x.text,.int .i64 x.pos]
variable {p:Nat}{d:List Rd.Wd}
theorem Rdr.cells {w:World}{o g:Nat}{st:Rd.St}(h:Rdr w o g p d st)(n:Nat)(l:n<d.length):
  w.cell? ⟨g,n*3,none⟩=some (.int .i64 (Rd.aD d n).kind)/\w.cell? ⟨g,n*3+1,none⟩=some (.string (Rd.aD d n).text)/\w.cell? ⟨g,n*3+2,none⟩=some (.int .i64 (Rd.aD d n).pos):=by
 obtain⟨f,j,k⟩:=h.row
 have e:∀i v,i<d.length*3->(dY d)[i]?=some v->w.cell? ⟨g,i,none⟩=some v:=by
  intro i v hi hv;refine aX j ?_;rw[<-k,List.getElem?_take_of_lt hi]at hv
  simpa using hv
 obtain⟨a,b,c⟩:=Rd.aPw d n l;exact⟨e _ _ (by omega) a,e _ _ (by omega) b,e _ _ (by omega) c⟩
theorem aUr (w:World)(f g b:Nat)(a:List Rd.Wd)(st:Rd.St)(h:Rdr w f g b a st)(l:st.next<a.length):
  Calls prog 73 #[.pointer (some ⟨f,0,none⟩)] w λe n=>e=.returned (yF (Rd.aD a st.next))/\Below w.heap.size w n:=by
 have c0:=h.c0;have c1:=h.c1;obtain⟨o,p,q⟩:=h.cells st.next l;have k:=h.lt
 have d:g<w.heap.size:=by obtain⟨i,j,_⟩:=h.row;exact fJ j
 clear h
 go_enter func73,ntmps73
 go_wp2_with fail
 go_quiet (fail)
 go_wp2_with fail
 go_region
 all_goals go_wp2_with fail
 exact bodyPost_ret (v:=.agg #[.int .i64 (Rd.aD a st.next).kind,.string (Rd.aD a st.next).text,.int .i64 (Rd.aD a st.next).pos]) (by simp[results,results73,go_sem]) rfl
  ⟨rfl,(((below_drewN ((Below.refl _ _).alloc (k9 _) _) _).setCell (k9 _) _).setCell (k9 _) _).setCell (k9 _) _⟩
theorem aRf (w:World)(b g a:Nat)(d:List Rd.Wd)(st:Rd.St)(h:Rdr w b g a d st)(j:¬st.next<d.length):
  Calls prog 73 #[.pointer (some ⟨b,0,none⟩)] w λe i=>e=.returned (.agg #[.int .i64 0,.string ⟨#[]⟩,.int .i64 0])/\Below w.heap.size w i:=by
 have c0:=h.c0;have c1:=h.c1;have f:=h.lt;clear h
 go_enter func73,ntmps73
 go_wp2_with fail
 go_quiet (fail)
 go_wp2_with fail
 exact bodyPost_ret (v:=.agg #[.int .i64 0,.string ⟨#[]⟩,.int .i64 0]) (by simp[results,results73,go_sem]) rfl
  ⟨rfl,(((below_drewN ((Below.refl _ _).alloc (k9 _) _) _).setCell (k9 _) _).setCell (k9 _) _).setCell (k9 _) _⟩
theorem Ia (w:World)(d g a:Nat)(b:List Rd.Wd)(st:Rd.St)(h:Rdr w d g a b st):
  Calls prog 73 #[.pointer (some ⟨d,0,none⟩)] w λe i=>e=.returned (yF (Rd.aD b st.next))/\Below w.heap.size w i:=by
 by_cases f:st.next<b.length
 .exact aUr w d g a b st h f
 .have e:Rd.aD b st.next=⟨0,⟨#[]⟩,0⟩:=by
   unfold Rd.aD p7;rw[List.getElem?_eq_none (by omega)];rfl
  rw[e];exact aRf w d g a b st h f
namespace Rd
abbrev Tr:=Go.Deep.BT (Int×Int×List Int)
def dM (k v:Int)(ts:LN):Tr:=.node 0 0 (k,v,ts) .nil .nil
def fB (k:Int)(x:Tr):Tr:=.node 0 0 (k,0,[]) x .nil
def jJ (k:Int)(l r:Tr):Tr:=.node 0 0 (k,0,[]) l r
def tk (a:List Wd)(st:St)(c:ByteArray):Bool:=(!((aD a st.next).kind==0))&&isT (aD a st.next).text c.data.toList
def St.ok (st:St):Prop:=st.next<1000/\st.around<1000/\st.deepest<1000/\st.nodes<1000
def St.okB (st:St):Bool:=decide (st.next<1000/\st.around<1000/\st.deepest<1000/\st.nodes<1000)
def St.leaf (st:St):St:={st with nodes:=st.nodes+1,deepest:=bif decide (st.deepest<st.around)then st.around else st.deepest}
def St.node (st:St):St:={st with nodes:=st.nodes+1}
def St.aN (st:St):St:={st with next:=st.next+1}
def St.lI (st:St):St:={st with around:=st.around+1}
def St.out (st:St):St:={st with around:=st.around-1}
def St.fW (st:St):Bool:=st.okB&&decide (1<=st.around)
theorem St.zQ {st:St}(h:st.okB=true):st.ok:=by simpa[St.okB,St.ok]using h
abbrev pS:=Option (Option Tr×St)
def term (a:List Wd)(st:St):Int×St:=
 bif (aD a st.next).kind==1 then
  bif valTo (aD a st.next).text (aD a st.next).text.size==0 then(0,st)else(valTo (aD a st.next).text (aD a st.next).text.size,st.aN)
 else(0,st)
def terms (a:List Wd):Nat->Nat->List Int->St->Option (Option (List Int)×St)
 |0,_,_,_=>none
 |f+1,c,ts,st=>
  bif st.okB&&(term a st).2.okB then
   bif (term a st).1==0 then some (none,(term a st).2)
   else bif tk a (term a st).2 ⟨#[93]⟩then some (some (ts++[(term a st).1]),(term a st).2.aN)
   else bif c==8 then some (none,(term a st).2)
   else bif tk a (term a st).2 ⟨#[44]⟩then terms a f (c+1) (ts++[(term a st).1]) (term a st).2.aN
   else some (none,(term a st).2)
  else none
def lN:Option (Option (List Int)×St)->pS
 |none=>none
 |some (none,st)=>some (none,st)
 |some (some ts,st)=>bif st.okB then some (some (dM 4 0 ts),st.leaf)else none
def continued (a:List Wd)(st:St):pS:=
 bif decide (st.next<900)&&st.okB then
  bif tk a st ⟨#[91]⟩then
   bif (aD a st.aN.next).kind==1 then
    bif tk a st.aN.aN ⟨#[59]⟩then lN (terms a 8 1 [valTo (aD a st.aN.next).text (aD a st.aN.next).text.size] st.aN.aN.aN)
    else some (none,st.aN.aN)
   else some (none,st.aN)
  else some (none,st)
 else none
def dX (k:Int):Option Tr->St->pS
 |none,st=>some (none,st)
 |some x,st=>bif st.okB then some (some (fB k x),st.node)else none
def operOf (k:Int)(l:Tr):Option Tr->St->pS
 |none,st=>some (none,st)
 |some r,st=>bif st.okB then some (some (jJ k l r),st.node)else none
def pS.next (a:pS)(f:Option Tr->St->pS):pS:=
 match a with
 |none=>none
 |some (x,st)=>f x st
def nameOf (d:List Wd)(k:Int)(st:St)(b:St->pS):pS:=
 bif k==0 then some (none,st)
 else bif k==2||k==3 then(bif st.aN.okB then some (some (dM k 0 []),st.aN.leaf)else none)
 else bif k==4 then continued d st.aN
 else(b st.aN).next λx a=>dX k x a
def iC (a:List Wd)(x:Option Tr)(st:St):pS:=
 bif st.fW then
  match x with
  |none=>some (none,st.out)
  |some t=>bif tk a st.out ⟨#[41]⟩then some (some t,st.out.aN)else some (none,st.out)
 else none
def parse (a:List Wd):Nat->Nat->Option Tr->St->pS
 |0,_,_,_=>none
 |f+1,0,_,st=>(parse a f 2 none st).next λl g=>parse a f 1 l g
 |_+1,1,none,st=>some (none,st)
 |f+1,1,some l,st=>
  bif st.okB then
   bif tk a st ⟨#[43]⟩then(parse a f 2 none st.aN).next λr b=>(operOf 6 l r b).next λe d=>parse a f 1 e d
   else bif tk a st ⟨#[45]⟩then(parse a f 2 none st.aN).next λr b=>(operOf 7 l r b).next λe d=>parse a f 1 e d
   else some (some l,st)
  else none
 |f+1,2,_,st=>(parse a f 4 none st).next λl g=>parse a f 3 l g
 |_+1,3,none,st=>some (none,st)
 |f+1,3,some l,st=>
  bif st.okB then
   bif tk a st ⟨#[42]⟩then(parse a f 4 none st.aN).next λr b=>(operOf 8 l r b).next λe d=>parse a f 3 e d
   else bif tk a st ⟨#[47]⟩then(parse a f 4 none st.aN).next λr b=>(operOf 9 l r b).next λe d=>parse a f 3 e d
   else some (some l,st)
  else none
 |f+1,4,_,st=>
  bif st.okB then
   bif tk a st ⟨#[45]⟩then(parse a f 4 none st.aN.lI).next λx b=>bif b.fW then dX 5 x b.out else none
   else parse a f 5 none st
  else none
 |f+1,5,_,st=>
  bif st.okB then
   bif (aD a st.next).kind==1 then
    (bif st.aN.okB then some (some (dM 1 (valTo (aD a st.next).text (aD a st.next).text.size) []),st.aN.leaf)else none)
   else bif (aD a st.next).kind==2 then nameOf a (named (aD a st.next).text) st (λh=>parse a f 6 none h)
   else parse a f 6 none st
  else none
 |f+1,_,_,st=>
  bif st.okB then
   bif tk a st ⟨#[40]⟩then(parse a f 0 none st.aN.lI).next λx b=>iC a x b
   else some (none,st)
  else none
def read (f:Nat)(s:ByteArray):Option (Option Tr×Int×Int):=
 bif decide (120<s.size)then some (none,1,0)
 else
  match parse (split s (s.size+1) 0) f 0 none ⟨0,0,0,0⟩with
  |none=>none
  |some (none,st)=>some (none,2,(aD (split s (s.size+1) 0) st.next).pos)
  |some (some t,st)=>
   bif (aD (split s (s.size+1) 0) st.next).kind==0 then
    bif decide (12<st.deepest)||decide (40<st.nodes)then some (none,3,0)else some (some t,0,0)
   else some (none,2,(aD (split s (s.size+1) 0) st.next).pos)
end Rd
theorem aLo (w:World)(i g b:Nat)(a:List Rd.Wd)(st:Rd.St)(c:ByteArray)(h:Rdr w i g b a st)(q:st.next<1000):
  Calls prog 102 #[.pointer (some ⟨i,0,none⟩),.string c] w λe k=>e=.returned (.bool (Rd.tk a st c))/\Rdr k i g b a (bif Rd.tk a st c then {st with next:=st.next+1} else st)/\aZ i w k:=by
 have f:=Ia w i g b a st h;unfold yF at f
 have n:Hid (Rd.tk a st c=((!((Rd.aD a st.next).kind==0))&&((Rd.aD a st.next).text.toList==c.toList))):=by
  show _=_;rw[Rd.aRB,ByteArray.toList_eq];rfl
 generalize Rd.aD a st.next=x at*;have l:Hid (Calls prog 73 #[.pointer (some ⟨i,0,none⟩)] w λe k=>e=.returned (.agg #[.int .i64 x.kind,.string x.text,.int .i64 x.pos])/\Below w.heap.size w k):=f;clear f;cases o:(x.kind==0)
 all_goals cases p:(x.text.toList==c.toList)
 all_goals
  go_enter func102,ntmps102
  go_wp2_with fail
  refine(l.out).mono ?_;rintro e s⟨rfl,j⟩;have d:=h.below j;have d1:=d.c1;have f1:=d.fz 1;have r:=d.lt
  go_wp2_with fail
  go_ret
  rw[n.out,o,p]
 .exact⟨rfl,d.alloc _,(aZ.eC j).alloc _⟩
 .exact⟨rfl,(d.yC (st.next+1) (by simp)).alloc _,((aZ.eC j).setCell 1 _).alloc _⟩
 .exact⟨rfl,d.alloc _,(aZ.eC j).alloc _⟩
 .exact⟨rfl,d.alloc _,(aZ.eC j).alloc _⟩
theorem Vc (w:World)(b g a:Nat)(f:List Rd.Wd)(st:Rd.St)(v:Value)(h:Rdr w b g a f st)(i:st.ok):
  Calls prog 160 #[.pointer (some ⟨b,0,none⟩),v] w λe d=>e=.returned v/\Rdr d b g a f st.leaf/\aZ b w d:=by
 obtain⟨b1,b2,j,b4⟩:=i;have d2:=h.c2;have d3:=h.c3;have k:=h.c4;have f3:=h.fz 3;have l:=h.fz 4;have n:=h.lt
 by_cases t:(st.deepest:Int)<st.around
 .go_enter func160,ntmps160
  go_wp2_with fail
  go_quiet (fail)
  go_wp2_with fail
  go_ret
  have e:st.leaf={ {st with nodes:=st.nodes+1} with deepest:=st.around}:=by simp[Rd.St.leaf,show st.deepest<st.around by omega]
  rw[e];exact⟨rfl,((h.Ez (st.nodes+1) (by simp)).drewN _).tH st.around rfl,(((aZ.refl _ _).setCell 4 _).drewN _).setCell 3 _⟩
 .go_enter func160,ntmps160
  go_wp2_with fail
  go_quiet (fail)
  go_wp2_with fail
  go_ret
  have e:st.leaf={st with nodes:=st.nodes+1}:=by simp[Rd.St.leaf,show¬st.deepest<st.around by omega]
  rw[e];exact⟨rfl,(h.Ez (st.nodes+1) (by simp)).drewN _,((aZ.refl _ _).setCell 4 _).drewN _⟩
theorem aI9 (w:World)(r:Value)(a:Int):
  Calls prog 143 #[r,.int .i64 a,.pointer none] w λe b=>e=.returned (.pointer none)/\w=b:=by
 go_enter func143,ntmps143
 go_wp2_with fail
 go_ret
 exact⟨rfl,rfl⟩
theorem jN (w:World)(o:Obj):(w.alloc o).heap[w.heap.size]?=some o:=by
 show(w.heap.push o)[w.heap.size]?=some o;simp
theorem Hx (w:World)(a:Addr)(u:Value):(w.setCell a u).heap.size=w.heap.size:=by simp[World.setCell]
theorem aGN (w:World)(d g b:Nat)(j:List Rd.Wd)(st:Rd.St)(i:Int)(a:Addr)(h:Rdr w d g b j st)(k:st.ok):
  Calls prog 143 #[.pointer (some ⟨d,0,none⟩),.int .i64 i,.pointer (some a)] w λe f=>e=.returned (.pointer (some ⟨w.heap.size,0,none⟩))/\Rdr f d g b j st.node/\aZ d w f/\
   f.heap[w.heap.size]?=some (.cells #[.int .i64 i,.int .i64 0,.slice none 0 0,.pointer (some a),.pointer none] 144 (0,0)):=by
 obtain⟨b1,b2,l,b4⟩:=k;have n:=h.c4;have o:=h.fz 4;have p:=h.lt
 go_enter func143,ntmps143
 go_wp2_with fail
 go_ret
 refine⟨rfl,(h.Ez (st.nodes+1) (by simp)).alloc _,((aZ.refl _ _).setCell 4 _).alloc _,?_⟩;rw[<-Hx w ⟨d,4,none⟩ (.int .i64 (st.nodes+1))];exact jN _ _
theorem aEd (w:World)(r l:Value)(a:Int):
  Calls prog 103 #[r,.int .i64 a,l,.pointer none] w λe b=>e=.returned (.pointer none)/\w=b:=by
 go_enter func103,ntmps103
 go_wp2_with fail
 go_ret
 exact⟨rfl,rfl⟩
theorem aDK (w:World)(f g d:Nat)(k:List Rd.Wd)(st:Rd.St)(j:Int)(a b:Addr)(h:Rdr w f g d k st)(l:st.ok):
  Calls prog 103 #[.pointer (some ⟨f,0,none⟩),.int .i64 j,.pointer (some a),.pointer (some b)] w λe i=>e=.returned (.pointer (some ⟨w.heap.size,0,none⟩))/\Rdr i f g d k st.node/\aZ f w i/\
   i.heap[w.heap.size]?=some (.cells #[.int .i64 j,.int .i64 0,.slice none 0 0,.pointer (some a),.pointer (some b)] 144 (0,0)):=by
 obtain⟨b1,b2,n,b4⟩:=l;have o:=h.c4;have p:=h.fz 4;have q:=h.lt
 go_enter func103,ntmps103
 go_wp2_with fail
 go_ret
 refine⟨rfl,(h.Ez (st.nodes+1) (by simp)).alloc _,((aZ.refl _ _).setCell 4 _).alloc _,?_⟩;rw[<-Hx w ⟨f,4,none⟩ (.int .i64 (st.nodes+1))];exact jN _ _
open Go.Deep (BT)
def dA (e:Nat)(w:World)(ts:LN)(d:Value):Prop:=
 (ts=[]/\d=.slice none 0 0)\/∃tb a b,d=.slice (some ⟨tb,0,none⟩) ts.length a/\tb≠e/\w.heap[tb]?=some (.cells b 3 (0,0))/\ts.length<=a/\b.toList.take ts.length=ts.map (l4 .i64)
def iK (d:Nat)(w:World):Rd.Tr->Value->Prop
 |.nil,v=>v=.pointer none
 |.node _ _ a l r,v=>∃b g e f,v=.pointer (some ⟨b,0,none⟩)/\b≠d/\w.heap[b]?=some (.cells #[.int .i64 a.1,.int .i64 a.2.1,g,e,f] 144 (0,0))/\dA d w a.2.2 g/\iK d w l e/\iK d w r f
def zA (a:Nat)(w:World):Option Rd.Tr->Value->Prop
 |none,v=>v=.pointer none
 |some t,v=>(∃b,v=.pointer (some ⟨b,0,none⟩))/\iK a w t v
variable {w:Nat}{n:World}{ts:LN}{x:Value}
theorem dA.aT {b:World}(h:dA w n ts x)(j:aZ w n b):dA w b ts x:=by
 rcases h with h|⟨tb,a,d,g,e,f,i⟩
 .exact Or.inl h
 .exact p8 ⟨tb,a,d,g,e,by rw[j.block tb (fJ f) e];exact f,i⟩
theorem iK.aT {w:Nat}{n j:World}(i:aZ w n j):∀{t:Rd.Tr} {v:Value},iK w n t v->iK w j t v:=by
 intro t
 induction t with
 |nil=>intro v h;exact h
 |node _ _ a l r d e=>
  intro v h;obtain⟨b,x,s,u,k,f,g,o,p,q⟩:=h;exact⟨b,x,s,u,k,f,by rw[i.block b (fJ g) f];exact g,o.aT i,d p,e q⟩
theorem Fy {b:Nat}{k z:Int}{g u:Value}{l r:Rd.Tr}(a:b≠w)(h:n.heap[b]?=some (.cells #[.int .i64 k,.int .i64 z,x,g,u] 144 (0,0)))
  (f:dA w n ts x) (d:iK w n l g) (e:iK w n r u):zA w n (some (.node 0 0 (k,z,ts) l r)) (.pointer (some ⟨b,0,none⟩)):=
 ⟨⟨b,rfl⟩,b,x,g,u,rfl,a,h,f,d,e⟩
def kU (a:List Rd.Wd):Prop:=∀n,(Rd.aD a n).kind=1->(Rd.aD a n).text.size<=9
theorem aQU (w:World)(i g b:Nat)(a:List Rd.Wd)(st:Rd.St)(h:Rdr w i g b a st)(z:st.next<1000)(n:kU a):
  Calls prog 191 #[.pointer (some ⟨i,0,none⟩)] w λe o=>e=.returned (.int .i64 (Rd.term a st).1)/\Rdr o i g b a (Rd.term a st).2/\aZ i w o:=by
 have d:=Ia w i g b a st h;unfold yF at d;have l:=n st.next;have s:Hid (Rd.term a st=bif (Rd.aD a st.next).kind==1 then bif Rd.valTo (Rd.aD a st.next).text (Rd.aD a st.next).text.size==0 then(0,st)else(Rd.valTo (Rd.aD a st.next).text (Rd.aD a st.next).text.size,st.aN)else(0,st)):=rfl;clear n;generalize Rd.aD a st.next=x at*;have j:Hid (Calls prog 73 #[.pointer (some ⟨i,0,none⟩)] w λe o=>e=.returned (.agg #[.int .i64 x.kind,.string x.text,.int .i64 x.pos])/\Below w.heap.size w o):=d;have q:Hid (x.kind=1->x.text.size<=9):=l;clear d l;cases p:(x.kind==1)
 .have v:(x.kind != 1)=true:=by simp[bne,p]
  go_enter func191,ntmps191
  go_wp2_with fail
  refine(j.out).mono ?_;rintro e y⟨rfl,f⟩
  go_wp2_with fail
  go_ret
  rw[s.out,p];exact⟨rfl,(h.below f).alloc _,(aZ.eC f).alloc _⟩
 .have r:x.text.size<=9:=q.out (by simpa using p);cases u:(Rd.valTo x.text x.text.size==0)
  all_goals
   go_enter func191,ntmps191
   go_wp2_with fail
   refine(j.out).mono ?_;rintro e y⟨rfl,f⟩;have k:=h.below f;have d1:=k.c1;have f1:=k.fz 1;have A:=k.lt
   go_wp2_with (go_at_call 159;refine(aGl _ _ _ _ r).mono ?_;rintro e o⟨rfl,rfl⟩)
   go_ret
   rw[s.out,p,u]
  .exact⟨rfl,((k.yC (st.next+1) (by simp)).alloc _).alloc _,(((aZ.eC f).setCell 1 _).alloc _).alloc _⟩
  .exact⟨yM (by simpa using u),(k.alloc _).alloc _,((aZ.eC f).alloc _).alloc _⟩
theorem zL (w:World)(b g a:Nat)(d:List Rd.Wd)(st:Rd.St)(c:ByteArray)(h:Rdr w b g a d st)(i:st.next<1000)(t:Rd.tk d st c=true):
  Calls prog 102 #[.pointer (some ⟨b,0,none⟩),.string c] w λe f=>e=.returned (.bool true)/\Rdr f b g a d st.aN/\aZ b w f:=by
 have:=aLo w b g a d st c h i;rw[t]at this;exact this
theorem yN (w:World)(b g a:Nat)(d:List Rd.Wd)(st:Rd.St)(c:ByteArray)(h:Rdr w b g a d st)(i:st.next<1000)(t:Rd.tk d st c=false):
  Calls prog 102 #[.pointer (some ⟨b,0,none⟩),.string c] w λe f=>e=.returned (.bool false)/\Rdr f b g a d st/\aZ b w f:=by
 have:=aLo w b g a d st c h i;rw[t]at this;exact this
def eQ (b g a:Nat)(h:List Rd.Wd)(w:World)(res:Option Rd.Tr)(d:Rd.St)(e:Ending)(f:World):Prop:=
 ∃v,e=.returned v/\zA b f res v/\Rdr f b g a h d/\aZ b w f
theorem eQ.nil {k:Nat}{b:World}{a:Rd.St}(h:Rdr b w k p d a)(e:aZ w n b):eQ w k p d n none a (.returned (.pointer none)) b:=
 ⟨_,rfl,rfl,h,e⟩
variable {wr:World}{e:Nat}{a:LB}
theorem tO {b:World}{k size n:Nat}(d:wr.ownsRow k e size x n a)(p:aZ w wr b)(q:w<k):b.ownsRow k e size x n a:=by
 obtain⟨l,i⟩:=d;refine⟨l,?_⟩
 rcases i with i|⟨g,f,h,hv,o,j,r⟩
 .exact Or.inl i
 .exact p8 ⟨g,f,h,hv,o,by rw[p.block g (fJ j) (by omega)];exact j,r⟩
theorem Vb {J:World}{B size b:Nat}(j:wr.ownsRow B e size x b a)(s:aZ w n wr)(v:n.heap.size<=B)(o:Obj)(f:(wr.alloc o).grownBy J x.ownBlock):aZ w n J:=by
 have d:=s.alloc o;refine⟨f.os.trans d.os,f.tape.trans d.tape,f.output.trans d.output,Nat.le_trans d.size f.size,λk i u=>?_⟩;rw[f.block k (Nat.lt_of_lt_of_le i d.size) ?_]
 .exact d.block k i u
 .intro e
  rcases j.2 with⟨h,_⟩|⟨g,p,q,h,r,_⟩
  .rw[h]at e;cases e
  .rw[h]at e;simp only[l5,j8]at e;omega
variable {st:Rd.St}
theorem Wm {g:Nat}{u:List Rd.Wd}{b:World}{W size n:Nat}(h:Rdr wr w g p u st)(f:wr.ownsRow W e size x n a)(r:w<W)(q:g<W)(o:Obj)(y:(wr.alloc o).grownBy b x.ownBlock):Rdr b w g p u st:=by
 have j:=h.alloc o
 have i:∀k,k<W->k<(wr.alloc o).heap.size->b.heap[k]?=(wr.alloc o).heap[k]?:=by
  intro k C A;refine y.block k A ?_;intro e
  rcases f.2 with⟨h,_⟩|⟨g,p,d,h,z,_⟩
  .rw[h]at e;cases e
  .rw[h]at e;simp only[l5,j8]at e;omega
 obtain⟨d,s,v⟩:=j.row;exact⟨by rw[i w r j.lt];exact j.rd,⟨d,by rw[i g q (fJ s)];exact s,v⟩,j.ne⟩
theorem aPe {B n:Nat}{a:World}(b:a.ownsRow B 3 1 x n (ts.map (l4 .i64)))(o:w<B)(l:n=ts.length)(p:0<n):dA w a ts x:=by
 rcases b.2 with⟨_,h⟩|⟨g,d,e,h,k,f,i,_,_,j⟩
 .omega
 .subst l;exact p8 ⟨g,d,e,h,by omega,f,i,by simpa using j⟩
theorem vU:(prog.info? 3).map (λi=>(i.zero,i.size,i.bytes))=some (some (.int .i64 0),1,8):=by kernel_rfl
theorem aPS (w:World)(b g a:Nat)(d:List Rd.Wd)(st:Rd.St)(h:Rdr w b g a d st)(j:st.next<1000)(k:Rd.tk d st ⟨#[91]⟩=false):
  Calls prog 179 #[.pointer (some ⟨b,0,none⟩)] w (eQ b g a d w none st):=by
 go_enter func179,ntmps179
 go_wp2_with fail
 refine(yN _ b g a d st _ h j k).mono ?_;rintro e l⟨rfl,i,f⟩
 go_wp2_with fail
 go_ret
 exact eQ.nil i f
theorem aPT (w:World)(i g a:Nat)(b:List Rd.Wd)(st:Rd.St)(h:Rdr w i g a b st)(l:st.next<900)(k:Rd.tk b st ⟨#[91]⟩=true)(n:((Rd.aD b st.aN.next).kind != 1)=true):
  Calls prog 179 #[.pointer (some ⟨i,0,none⟩)] w (eQ i g a b w none st.aN):=by
 go_enter func179,ntmps179
 go_wp2_with fail
 refine(zL _ i g a b st _ h (by omega) k).mono ?_;rintro e o⟨rfl,d,j⟩
 go_wp2_with fail
 refine(Ia _ i g a b _ d).mono ?_;unfold yF;rintro e p⟨rfl,f⟩
 go_wp2_with fail
 go_ret
 exact eQ.nil ((d.below f).alloc _) ((j.trans (aZ.eC f)).alloc _)
theorem aPU (w:World)(f g a:Nat)(d:List Rd.Wd)(st:Rd.St)(h:Rdr w f g a d st)(q:st.next<900)(o:Rd.tk d st ⟨#[91]⟩=true)(s:((Rd.aD d st.aN.next).kind != 1)=false)(p:Rd.tk d st.aN.aN ⟨#[59]⟩=false):
  Calls prog 179 #[.pointer (some ⟨f,0,none⟩)] w (eQ f g a d w none st.aN.aN):=by
 have b1:st.aN.next<901:=by show st.next+1<901;omega
 go_enter func179,ntmps179
 go_wp2_with fail
 refine(zL _ f g a d st _ h (by omega) o).mono ?_;rintro e u⟨rfl,i,k⟩
 go_wp2_with fail
 refine(Ia _ f g a d _ i).mono ?_;unfold yF;rintro e v⟨rfl,j⟩;have b:=i.below j;have d1:=b.c1;have f1:=b.fz 1;have r:=b.lt
 go_wp2_with fail
 refine(yN _ f g a d st.aN.aN _ ((b.yC (st.aN.next+1) (by simp)).alloc _) (by show st.aN.next+1<1000;omega) p).mono ?_;rintro e x⟨rfl,n,l⟩
 go_wp2_with fail
 go_ret
 exact eQ.nil n ((((k.trans (aZ.eC j)).setCell 1 _).alloc _).trans l)
theorem aLL (w:World)(o a:Obj):((w.alloc o).alloc a).heap[w.heap.size+1]?=some a:=by
 have:=jN (w.alloc o) a
 simpa using this
theorem aJ7 {e:List Rd.Wd}{c:Nat}{b a:Rd.St}{v:Int}{R:Option (Option (List Int)×Rd.St)}{x:Option Rd.Tr×Rd.St}(h8:c<=8)(h:Rd.terms e (9-c) c ts b=R)(i:Rd.lN R=some x)(k:Rd.term e b=(v,a)):
  b.ok/\a.ok/\R=bif v==0 then some (none,a)else bif Rd.tk e a ⟨#[93]⟩then some (some (ts++[v]),a.aN)else bif c==8 then some (none,a)else bif Rd.tk e a ⟨#[44]⟩then Rd.terms e (9-(c+1)) (c+1) (ts++[v]) a.aN else some (none,a):=by
 obtain⟨f,j⟩:∃f,9-c=f+1:=⟨8-c,by omega⟩
 have g:9-(c+1)=f:=by omega
 rw[j,Rd.terms,k]at h;rw[g]
 cases d:(b.okB&&a.okB)with
 |false=>
  simp only[d,cond_false]at h;rw[<-h]at i;cases i
 |true=>
  simp only[d,cond_true]at h;simp only[n7]at d;exact⟨Rd.St.zQ d.1,Rd.St.zQ d.2,h.symm⟩
def Ec (b g a:Nat)(d:List Rd.Wd)(w:World)(R:Option (Option (List Int)×Rd.St))(l i:Value)(wr:World):Prop:=
 ∃(c:Nat) (ts:LN) (st:Rd.St),i=.int .i64 c/\1<=c/\c<=8/\ts.length=c/\wr.ownsRow w.heap.size 3 1 l c (ts.map (l4 .i64))/\Rdr wr b g a d st/\aZ b w wr/\Rd.terms d (9-c) c ts st=R
theorem Nb {b:Nat}{a:World}{o:Obj}(e:aZ w (n.alloc o) a)(d:b=n.heap.size)(f:b≠w):a.heap[b]?=some o:=by
 subst d;rw[e.block n.heap.size (by simp) f];exact jN _ _
theorem aPV (w:World)(y g p:Nat)(o:List Rd.Wd)(st:Rd.St)(h:Rdr w y g p o st)(hn:st.next<900)(ai:kU o)(t1:Rd.tk o st ⟨#[91]⟩=true)(t2:((Rd.aD o st.aN.next).kind != 1)=false)(t3:Rd.tk o st.aN.aN ⟨#[59]⟩=true)
  (res:Option Rd.Tr) (Y:Rd.St) (hp:Rd.lN (Rd.terms o 8 1 [Rd.valTo (Rd.aD o st.aN.next).text (Rd.aD o st.aN.next).text.size] st.aN.aN.aN)=some (res,Y)):
  Calls prog 179 #[.pointer (some ⟨y,0,none⟩)] w (eQ y g p o w res Y):=by
 have b1:st.aN.next<901:=by show st.next+1<901;omega
 have k:=h.lt
 have hg:g<w.heap.size:=by obtain⟨bc,h1,_⟩:=h.row;exact fJ h1
 have bf:(Rd.aD o st.aN.next).text.size<=9:=ai _ (by simpa[bne]using t2);obtain⟨i,hi,hz,A,X⟩:=info_parts vU;have am:Hid (kU o):=ai;clear ai;have HP:Hid (Rd.lN (Rd.terms o 8 1 [Rd.valTo (Rd.aD o st.aN.next).text (Rd.aD o st.aN.next).text.size] st.aN.aN.aN)=some (res,Y)):=hp;clear hp
 have WX:Hid (∀W,Rdr W y g p o st.aN->Calls prog 73 #[.pointer (some ⟨y,0,none⟩)] W λe w'=>e=.returned (.agg #[.int .i64 (Rd.aD o st.aN.next).kind,.string (Rd.aD o st.aN.next).text,.int .i64 (Rd.aD o st.aN.next).pos])/\Below W.heap.size W w'):=λW hW=>Ia W y g p o st.aN hW
 generalize Rd.aD o st.aN.next=x at*;generalize av:Rd.terms o 8 1 [Rd.valTo x.text x.text.size] st.aN.aN.aN=R at*;have ak:Hid (Rd.terms o 8 1 [Rd.valTo x.text x.text.size] st.aN.aN.aN=R):=av;clear av
 go_enter func179,ntmps179
 go_wp2_with fail
 refine(zL _ y g p o st _ h (by omega) t1).mono ?_;rintro e w1⟨rfl,af,aq⟩
 go_wp2_with fail
 refine(WX.out _ af).mono ?_;rintro e w2⟨rfl,ag⟩;have L:=af.below ag;have d1:=L.c1;have f1:=L.fz 1;have l1:=L.lt
 go_wp2_with fail
 refine(zL _ y g p o st.aN.aN _ ((L.yC (st.aN.next+1) (by simp)).alloc _) (by show st.aN.next+1<1000;omega) t3).mono ?_;rintro e w3⟨rfl,ax,ad⟩;have hx:=Nb (b:=w2.heap.size) ad (Hx _ _ _).symm (by omega);have x0:w3.cell? ⟨w2.heap.size,0,none⟩=some (.int .i64 x.kind):=aX hx rfl;have x1:w3.cell? ⟨w2.heap.size,1,none⟩=some (.string x.text):=aX hx rfl;have x2:w3.cell? ⟨w2.heap.size,2,none⟩=some (.int .i64 x.pos):=aX hx rfl;have ae:aZ y w w3:=(((aq.trans (aZ.eC ag)).setCell 1 _).alloc _).trans ad;clear hx ad L d1 f1 l1 ag af aq WX
 go_wp2_with (go_at_call 159;refine(aGl _ _ _ _ bf).mono ?_;rintro e w'⟨rfl,rfl⟩)
 have bk:=ae.size
 go_loopw [4,5] (λl i wr=>Ec y g p o w R l i wr) (λ_ i _=>9-(intOf i).toNat)
 case atStart=>
  refine⟨1,[Rd.valTo x.text x.text.size],st.aN.aN.aN,rfl,k9 _,by omega,rfl,?_,(ax.alloc _).alloc _,(ae.alloc _).alloc _,ak.out⟩;refine⟨rfl,p8 ⟨w3.heap.size+1,1,#[.int .i64 (Rd.valTo x.text x.text.size)],rfl,by omega,?_,k9 _,by decide,rfl,rfl⟩⟩;exact aLL _ _ _
 case round=>
  obtain⟨c,ts,a1,rfl,c1,c8,a0,f,hR,U,au⟩:=hrel;generalize hT:Rd.term o a1=T;obtain⟨I,j⟩:=T;obtain⟨o1,o2,ay⟩:=aJ7 c8 au HP.out hT
  have TM:Hid (Calls prog 191 #[.pointer (some ⟨y,0,none⟩)] wr λe w'=>e=.returned (.int .i64 I)/\Rdr w' y g p o j/\aZ y wr w'):=by
   have:=aQU wr y g p o a1 hR o1.1 am.out;rw[hT]at this;exact this
  have J:Hid (R=bif I==0 then some (none,j)else bif Rd.tk o j ⟨#[93]⟩then some (some (ts++[I]),j.aN)else bif c==8 then some (none,j)else bif Rd.tk o j ⟨#[44]⟩then Rd.terms o (9-(c+1)) (c+1) (ts++[I]) j.aN else some (none,j)):=ay;have al:Hid (ts.length=c):=a0;have b2:j.next<1000:=o2.1;have bu:=U.size;clear au a0 ay hT o1 am ak x0 x1 x2 ax ae h;cases u1:(I==0)
  .cases u2:Rd.tk o j ⟨#[93]⟩
   .cases u3:((c:Int)==8)
    .have S:(c==8)=false:=by simp at u3;simp;omega
     cases u4:Rd.tk o j ⟨#[44]⟩
     .go_wp2_with fail
      refine(TM.out).mono ?_;rintro e w5⟨rfl,s,d⟩;have O:=d.size
      go_wp2_with (at_builtin;refine wpList_append_own _ rfl _ _ 100 rfl w.heap.size 3 i (.int .i64 0) 1 8 underlying100 hi hz A X rfl (by decide) _ _ _ rfl ((tO f d k).alloc _) ⟨w5.heap.size,0,none⟩ 1 1 [.int .i64 I] rfl rfl (cell_one_new _ _ _) (λu P=>by simp at P;subst P;rfl) (by unfold maxLen;omega) (by omega) (by simp;omega) ?_;intro v' w6 v a q)
      have H:=Wm s (tO f d k) k hg _ a;have F:=Vb (tO f d k) (U.trans d) (k9 _) _ a;clear q a s d f hR U;refine(yN _ y g p o j _ H b2 u2).mono ?_;rintro e w7⟨rfl,E,z⟩
      go_wp2_with fail
      refine(yN _ y g p o j _ E b2 u4).mono ?_;rintro e w8⟨rfl,M,D⟩
      go_wp2_with fail
      go_ret
      have e:=HP.out;rw[J.out,u1,u2,S,u4]at e;simp only[cond_true,cond_false,Rd.lN,j8,k8]at e;obtain⟨rfl,rfl⟩:=e;exact eQ.nil M ((F.trans z).trans D)
     .go_wp2_with fail
      refine(TM.out).mono ?_;rintro e w5⟨rfl,s,d⟩;have O:=d.size
      go_wp2_with (at_builtin;refine wpList_append_own _ rfl _ _ 100 rfl w.heap.size 3 i (.int .i64 0) 1 8 underlying100 hi hz A X rfl (by decide) _ _ _ rfl ((tO f d k).alloc _) ⟨w5.heap.size,0,none⟩ 1 1 [.int .i64 I] rfl rfl (cell_one_new _ _ _) (λu P=>by simp at P;subst P;rfl) (by unfold maxLen;omega) (by omega) (by simp;omega) ?_;intro v' w6 v a q)
      have H:=Wm s (tO f d k) k hg _ a;have F:=Vb (tO f d k) (U.trans d) (k9 _) _ a;clear q a s d f hR U;refine(yN _ y g p o j _ H b2 u2).mono ?_;rintro e w7⟨rfl,E,z⟩
      go_wp2_with fail
      refine(zL _ y g p o j _ E b2 u4).mono ?_;rintro e w8⟨rfl,M,D⟩
      go_wp2_with fail
      go_roundw
      case rel=>
       refine⟨c+1,ts++[I],j.aN,by go_num,by omega,by have:=S;simp at this;omega,by simp[al.out],?_,M,(F.trans z).trans D,?_⟩
       .have:=tO (tO v z k) D k
        simpa using this
       .have e:=J.out;rw[u1,u2,S,u4]at e;exact e.symm
      case measure=>simp[intOf];omega
    .have S:(c==8)=true:=by simp at u3;simp;omega
     go_wp2_with fail
     refine(TM.out).mono ?_;rintro e w5⟨rfl,s,d⟩;have O:=d.size
     go_wp2_with (at_builtin;refine wpList_append_own _ rfl _ _ 100 rfl w.heap.size 3 i (.int .i64 0) 1 8 underlying100 hi hz A X rfl (by decide) _ _ _ rfl ((tO f d k).alloc _) ⟨w5.heap.size,0,none⟩ 1 1 [.int .i64 I] rfl rfl (cell_one_new _ _ _) (λu P=>by simp at P;subst P;rfl) (by unfold maxLen;omega) (by omega) (by simp;omega) ?_;intro v' w6 v a q)
     have H:=Wm s (tO f d k) k hg _ a;have F:=Vb (tO f d k) (U.trans d) (k9 _) _ a;clear q a s d f hR U;refine(yN _ y g p o j _ H b2 u2).mono ?_;rintro e w7⟨rfl,E,z⟩
     go_wp2_with fail
     go_ret
     have e:=HP.out;rw[J.out,u1,u2,S]at e;simp only[cond_true,cond_false,Rd.lN,j8,k8]at e;obtain⟨rfl,rfl⟩:=e;exact eQ.nil E (F.trans z)
   .go_wp2_with fail
    refine(TM.out).mono ?_;rintro e w5⟨rfl,s,d⟩;have O:=d.size
    go_wp2_with (at_builtin;refine wpList_append_own _ rfl _ _ 100 rfl w.heap.size 3 i (.int .i64 0) 1 8 underlying100 hi hz A X rfl (by decide) _ _ _ rfl ((tO f d k).alloc _) ⟨w5.heap.size,0,none⟩ 1 1 [.int .i64 I] rfl rfl (cell_one_new _ _ _) (λu P=>by simp at P;subst P;rfl) (by unfold maxLen;omega) (by omega) (by simp;omega) ?_;intro v' w6 v a q)
    have H:=Wm s (tO f d k) k hg _ a;have F:=Vb (tO f d k) (U.trans d) (k9 _) _ a;clear q a s d f hR U;refine(zL _ y g p o j _ H b2 u2).mono ?_;rintro e w7⟨rfl,E,z⟩;have N:=tO v z k
    obtain⟨g6,C,ah⟩:∃g6 C,v'=.slice (some ⟨g6,0,none⟩) (c+1) C:=by
     rcases N.2 with⟨_,hh⟩|⟨g6,C,bc,hv,_⟩
     .omega
     .exact⟨g6,C,hv⟩
    have HV:Hid (v'=.slice (some ⟨g6,0,none⟩) (c+1) C):=ah;rw[ah];clear ah;have e:=HP.out;rw[J.out,u1,u2]at e;simp only[cond_true,cond_false,Rd.lN]at e
    have o3:j.aN.okB=true:=by
     cases ho:j.aN.okB with
     |true=>rfl
     |false=>rw[ho]at e;cases e
    have HE:Hid ((bif j.aN.okB then some (some (Rd.dM 4 0 (ts++[I])),j.aN.leaf)else none)=some (res,Y)):=e;have HO:Hid (j.aN.okB=true):=o3;clear e o3
    go_wp2_with fail
    refine(Vc _ y g p o j.aN _ (E.alloc _) (Rd.St.zQ HO.out)).mono ?_;rintro e w8⟨rfl,M,D⟩
    go_wp2_with fail
    go_ret
    have e:=HE.out;rw[HO.out]at e;simp only[cond_true,j8,k8]at e;obtain⟨rfl,rfl⟩:=e
    have az:w7.heap.size≠y:=by have:=E.lt;omega
    refine⟨_,rfl,?_,M,((F.trans z).alloc _).trans D⟩;refine Fy (ts:=ts++[I]) (l:=.nil) (r:=.nil) az (Nb D rfl az) ?_ rfl rfl;rw[<-HV.out];refine aPe (B:=w.heap.size) (n:=c+1) ?_ k (by simp[al.out]) (by omega);have:=tO (N.alloc _) D k
    simpa using this
  .go_wp2_with fail
   refine(TM.out).mono ?_;rintro e w5⟨rfl,s,d⟩
   go_wp2_with fail
   go_ret
   have e:=HP.out;rw[J.out,u1]at e;simp only[cond_true,Rd.lN,j8,k8]at e;obtain⟨rfl,rfl⟩:=e;exact eQ.nil s (U.trans d)
theorem aG8 (w:World)(f g b:Nat)(d:List Rd.Wd)(st:Rd.St)(h:Rdr w f g b d st)(o:kU d)(res:Option Rd.Tr)(i:Rd.St)(a:Rd.continued d st=some (res,i)):
  Calls prog 179 #[.pointer (some ⟨f,0,none⟩)] w (eQ f g b d w res i):=by
 unfold Rd.continued at a
 cases k:(decide (st.next<900)&&st.okB)with
 |false=>rw[k]at a;cases a
 |true=>
  rw[k]at a;simp only[n7,decide_eq_true_eq]at k;have n:=k.1
  cases e:Rd.tk d st ⟨#[91]⟩with
  |false=>
   rw[e]at a;simp only[cond_true,cond_false,j8,k8]at a;obtain⟨rfl,rfl⟩:=a;exact aPS w f g b d st h (by omega) e
  |true=>
   cases j:((Rd.aD d st.aN.next).kind==1)with
   |false=>
    rw[e,j]at a;simp only[cond_true,cond_false,j8,k8]at a;obtain⟨rfl,rfl⟩:=a;exact aPT w f g b d st h n e (by simp[bne,j])
   |true=>
    cases l:Rd.tk d st.aN.aN ⟨#[59]⟩with
    |false=>
     rw[e,j,l]at a;simp only[cond_true,cond_false,j8,k8]at a;obtain⟨rfl,rfl⟩:=a;exact aPU w f g b d st h n e (by simp[bne,j]) l
    |true=>
     rw[e,j,l]at a;exact aPV w f g b d st h n o e (by simp[bne,j]) l res i a
def kS (d g a:Nat)(h:List Rd.Wd)(fn:FuncId)(e f:Nat):Prop:=
 ∀(w:World) (st:Rd.St) (res:Option Rd.Tr) (b:Rd.St),Rdr w d g a h st->Rd.parse h f e none st=some (res,b)->Calls prog fn #[.pointer (some ⟨d,0,none⟩)] w (eQ d g a h w res b)
variable {F:Option Rd.Tr->Rd.St->Rd.pS}{y:Option Rd.Tr×Rd.St}
theorem sC {a:Rd.pS}(h:Rd.pS.next a F=some y):∃l st,a=some (l,st)/\F l st=some y:=by
 cases a with
 |none=>cases h
 |some x=>exact⟨x.1,x.2,rfl,h⟩
theorem aC {p:Prop}(h:p):Hid p:=h
theorem Oe {k:Int}{l r:Rd.Tr}(h:Rd.pS.next (Rd.operOf k l (some r) st) F=some y):st.ok/\F (some (Rd.jJ k l r)) st.node=some y:=by
 simp only[Rd.operOf]at h
 cases a:st.okB with
 |false=>rw[a]at h;cases h
 |true=>
  rw[a]at h;exact⟨Rd.St.zQ a,h⟩
theorem aO0 (z g o:Nat)(u:List Rd.Wd)(f:Nat){fn fc:FuncId}{m n q:Nat}(h:(fn=72/\fc=101/\m=0/\n=2/\q=1)\/(fn=101/\fc=123/\m=2/\n=4/\q=3))(IH:Hid (∀k,k<f->kS z g o u fc n k)):kS z g o u fn m f:=by
 rcases h with⟨rfl,rfl,rfl,rfl,R⟩|⟨rfl,rfl,rfl,rfl,R⟩
 all_goals
  intro w st res ah O d
  obtain⟨f0,rfl⟩:∃f0,f=f0+1:=by
   cases f with
   |zero=>cases d
   |succ f0=>exact⟨f0,rfl⟩
  obtain⟨l0,S,x,y⟩:=sC d;have v:Hid (Rd.parse u f0 _ none st=some (l0,S)):=x;have j:Hid (Rd.parse u f0 _ l0 S=some (res,ah)):=y;clear d x y
  first
  |go_enter func72,ntmps72
  |go_enter func101,ntmps101
  go_wp2_with fail
  refine(IH.out f0 (by omega) _ st l0 S O v.out).mono ?_;rintro e w1⟨v1,rfl,ad,af,ae⟩;clear O v
  go_wp2_with fail
  go_loopg [3] f0 (λk l wr=>∃lt a,k<=f0/\zA z wr lt l/\Rdr wr z g o u a/\aZ z w wr/\Rd.parse u k q lt a=some (res,ah))
  case atStart=>exact⟨l0,S,k9 _,ad,af,ae,by rw[R];exact j.out⟩
  case round=>
   obtain⟨lt,a,hk,hE,O,hK,d⟩:=hrel;rw[R]at d;clear j ad af ae
   obtain⟨k,X⟩:∃k,gk=k+1:=by
    cases gk with
    |zero=>cases d
    |succ k=>exact⟨k,rfl⟩
   rw[X]at d;have N:Hid (gk=k+1):=X
   have ag:k<f0+1:=by omega
   clear X
   cases lt with
   |none=>
    simp only[Rd.parse,j8,k8]at d;obtain⟨rfl,rfl⟩:=d;rw[show _=l7 none from hE];clear hE
    go_wp2_with fail
    go_ret
    exact eQ.nil O hK
   |some t=>
    obtain⟨⟨b,hb⟩,H⟩:=hE;rw[hb];rw[hb]at H;clear hb;rw[Rd.parse]at d
    cases ho:a.okB with
    |false=>rw[ho]at d;cases d
    |true=>
     rw[ho]at d;simp only[cond_true]at d;have ok:=Rd.St.zQ ho;have b2:a.next<1000:=ok.1;clear ho ok
     first
     |(have _:q=1:=R;cases u1:Rd.tk u a ⟨#[43]⟩)
     |cases u1:Rd.tk u a ⟨#[42]⟩
     .first
      |(have _:q=1:=R;cases u2:Rd.tk u a ⟨#[45]⟩)
      |cases u2:Rd.tk u a ⟨#[47]⟩
      .rw[u1,u2]at d;simp only[cond_false,j8,k8]at d;obtain⟨rfl,rfl⟩:=d
       go_wp2_with fail
       refine(yN _ z g o u a _ O b2 u1).mono ?_;rintro e w2⟨rfl,P,I⟩
       go_wp2_with fail
       refine(yN _ z g o u a _ P b2 u2).mono ?_;rintro e w3⟨rfl,D,p⟩
       go_wp2_with fail
       go_ret
       exact⟨_,rfl,⟨⟨b,rfl⟩,iK.aT (I.trans p) H⟩,D,(hK.trans I).trans p⟩
      .rw[u1,u2]at d;simp only[cond_true,cond_false]at d;obtain⟨r,i,x,y⟩:=sC d;have v:Hid (Rd.parse u k _ none a.aN=some (r,i)):=x;have j:=aC y;clear d x y
       go_wp2_with fail
       refine(yN _ z g o u a _ O b2 u1).mono ?_;rintro e w2⟨rfl,P,I⟩
       go_wp2_with fail
       refine(zL _ z g o u a _ P b2 u2).mono ?_;rintro e w3⟨rfl,D,p⟩
       go_wp2_with fail
       refine(IH.out k ag _ a.aN r i D v.out).mono ?_;rintro e w4⟨v4,rfl,A,s,B⟩;have U:iK z w4 t (.pointer (some ⟨b,0,none⟩)):=iK.aT ((I.trans p).trans B) H;have L:aZ z w w4:=((hK.trans I).trans p).trans B;clear hK I p B O P D H v
       cases r with
       |none=>
        rw[show v4=l7 none from A];clear A
        go_wp2_with fail
        refine(aEd _ _ _ _).mono ?_;rintro e w5⟨rfl,rfl⟩
        go_wp2_with fail
        go_roundg k
        case measure=>have:=N.out;omega
        case rel=>exact⟨none,i,by omega,rfl,s,L,by rw[R];exact j.out⟩
       |some r=>
        obtain⟨⟨b4,E⟩,J⟩:=A;rw[E];rw[E]at J;clear E;obtain⟨Y,F⟩:=Oe j.out;rw[<-R]at F;clear j;have T:=aC F;have ar:=s.lt;clear F
        go_wp2_with fail
        refine(aDK _ z g o u i _ _ _ s Y).mono ?_;rintro e w5⟨rfl,W,C,M⟩;clear s
        go_wp2_with fail
        go_roundg k
        case measure=>have:=N.out;omega
        case rel=>exact⟨some (Rd.jJ _ t r),i.node,by omega,Fy (by omega) M (Or.inl ⟨rfl,rfl⟩) (iK.aT C U) (iK.aT C J),W,L.trans C,T.out⟩
     .rw[u1]at d;simp only[cond_true,cond_false]at d;obtain⟨r,i,x,y⟩:=sC d;have v:Hid (Rd.parse u k _ none a.aN=some (r,i)):=x;have j:=aC y;clear d x y
      go_wp2_with fail
      refine(zL _ z g o u a _ O b2 u1).mono ?_;rintro e w3⟨rfl,D,p⟩
      go_wp2_with fail
      refine(IH.out k ag _ a.aN r i D v.out).mono ?_;rintro e w4⟨v4,rfl,A,s,B⟩;have U:iK z w4 t (.pointer (some ⟨b,0,none⟩)):=iK.aT (p.trans B) H;have L:aZ z w w4:=(hK.trans p).trans B;clear hK p B O D H v
      cases r with
      |none=>
       rw[show v4=l7 none from A];clear A
       go_wp2_with fail
       refine(aEd _ _ _ _).mono ?_;rintro e w5⟨rfl,rfl⟩
       go_wp2_with fail
       go_roundg k
       case measure=>have:=N.out;omega
       case rel=>exact⟨none,i,by omega,rfl,s,L,by rw[R];exact j.out⟩
      |some r=>
       obtain⟨⟨b4,E⟩,J⟩:=A;rw[E];rw[E]at J;clear E;obtain⟨Y,F⟩:=Oe j.out;rw[<-R]at F;clear j;have T:=aC F;have ar:=s.lt;clear F
       go_wp2_with fail
       refine(aDK _ z g o u i _ _ _ s Y).mono ?_;rintro e w5⟨rfl,W,C,M⟩;clear s
       go_wp2_with fail
       go_roundg k
       case measure=>have:=N.out;omega
       case rel=>exact⟨some (Rd.jJ _ t r),i.node,by omega,Fy (by omega) M (Or.inl ⟨rfl,rfl⟩) (iK.aT C U) (iK.aT C J),W,L.trans C,T.out⟩
theorem aKZ (h:1<=st.around):(st.around:Int)-1=((st.around-1:Nat):Int):=by omega
theorem aF6 (h:st.fW=true):st.ok/\1<=st.around:=by
 simp only[Rd.St.fW,n7,decide_eq_true_eq]at h;exact⟨Rd.St.zQ h.1,h.2⟩
theorem aLv {k:Int}{x:Rd.Tr}(h:Rd.dX k (some x) st=some y):st.ok/\y=(some (Rd.fB k x),st.node):=by
 simp only[Rd.dX]at h
 cases a:st.okB with
 |false=>rw[a]at h;cases h
 |true=>
  rw[a]at h;exact⟨Rd.St.zQ a,(j9 h).symm⟩
theorem aJ1 (n g b:Nat)(v:List Rd.Wd)(f:Nat)(X:Hid (∀k,k<f->kS n g b v 123 4 k))(W:Hid (∀k,k<f->kS n g b v 142 5 k)):kS n g b v 123 4 f:=by
 intro w st res R M a
 obtain⟨f0,rfl⟩:∃f0,f=f0+1:=by
  cases f with
  |zero=>cases a
  |succ f0=>exact⟨f0,rfl⟩
 rw[Rd.parse]at a
 cases I:st.okB with
 |false=>rw[I]at a;cases a
 |true=>
  rw[I]at a;simp only[cond_true]at a;have ok:=Rd.St.zQ I;have b1:st.next<1000:=ok.1;have b2:st.aN.around<1000:=ok.2.1;clear I ok;cases J:Rd.tk v st ⟨#[45]⟩
  .rw[J]at a;simp only[cond_false]at a;have U:=aC a;clear a
   go_enter func123,ntmps123
   go_wp2_with fail
   refine(yN _ n g b v st _ M b1 J).mono ?_;rintro e w1⟨rfl,d,o⟩
   go_wp2_with fail
   refine(W.out f0 (by omega) _ st res R d U.out).mono ?_;rintro e H⟨T,rfl,l,h,p⟩
   go_wp2_with fail
   go_ret
   exact⟨_,rfl,l,h,o.trans p⟩
  .rw[J]at a;simp only[cond_true]at a;obtain⟨x,j,D,i⟩:=sC a
   cases q:j.fW with
   |false=>rw[q]at i;cases i
   |true=>
    rw[q]at i;simp only[cond_true]at i;obtain⟨E,F⟩:=aF6 q;have b3:j.around<1000:=E.2.1;have y:=aC D;have s:=aC i;clear a D i q E
    go_enter func123,ntmps123
    go_wp2_with fail
    refine(zL _ n g b v st _ M b1 J).mono ?_;rintro e w1⟨rfl,d,o⟩;have d2:=d.c2;have f2:=d.fz 2
    go_wp2_with fail
    refine(X.out f0 (by omega) _ st.aN.lI x j (d.Ey (st.aN.around+1) (by simp)) y.out).mono ?_;rintro e H⟨T,rfl,l,h,p⟩;have A:aZ n w H:=(o.setCell 2 _).trans p;clear d2 f2 o p d M y;have d2:=h.c2;have f2:=h.fz 2;have C:=h.Ey (j.around-1) (aKZ F);have Y:=h.lt
    cases x with
    |none=>
     rw[show T=l7 none from l];clear l;have e:=s.out;simp only[Rd.dX,j8,k8]at e;obtain⟨rfl,rfl⟩:=e
     go_wp2_with fail
     refine(aI9 _ _ _).mono ?_;rintro e w5⟨rfl,rfl⟩
     go_wp2_with fail
     go_ret
     exact eQ.nil C (A.setCell 2 _)
    |some x=>
     obtain⟨⟨b4,u⟩,z⟩:=l;rw[u];rw[u]at z;clear u;obtain⟨P,S⟩:=aLv s.out;simp only[k8]at S;obtain⟨rfl,rfl⟩:=S;have L:aZ n H (H.setCell ⟨n,2,none⟩ (.int .i64 ((j.around:Int)-1))):=(aZ.refl _ _).setCell 2 _;clear s
     go_wp2_with fail
     refine(aGN _ n g b v j.out _ _ C P).mono ?_;rintro e w5⟨rfl,N,B,r⟩;rw[Hx]at r
     have O:H.heap.size≠n:=by omega
     go_wp2_with fail
     go_ret
     refine⟨_,rfl,Fy O r (Or.inl ⟨rfl,rfl⟩) (iK.aT (L.trans B) z) rfl,N,(A.setCell 2 _).trans B⟩
theorem aGY (p g d:Nat)(q:List Rd.Wd)(f:Nat)(O:Hid (∀k,k<f->kS p g d q 72 0 k)):kS p g d q 163 6 f:=by
 intro w st res R M i
 obtain⟨f0,rfl⟩:∃f0,f=f0+1:=by
  cases f with
  |zero=>cases i
  |succ f0=>exact⟨f0,rfl⟩
 rw[Rd.parse]at i
 .cases H:st.okB with
  |false=>rw[H]at i;cases i
  |true=>
   rw[H]at i;simp only[cond_true]at i;have ok:=Rd.St.zQ H;have b1:st.next<1000:=ok.1;have b2:st.aN.around<1000:=ok.2.1;clear H ok;cases I:Rd.tk q st ⟨#[40]⟩
   .rw[I]at i;simp only[cond_false,j8,k8]at i;obtain⟨rfl,rfl⟩:=i
    go_enter func163,ntmps163
    go_wp2_with fail
    refine(yN _ p g d q st _ M b1 I).mono ?_;rintro e T⟨rfl,h,j⟩
    go_wp2_with fail
    go_ret
    exact eQ.nil h j
   .rw[I]at i;simp only[cond_true]at i;obtain⟨x,a,E,b⟩:=sC i;unfold Rd.iC at b
    cases o:a.fW with
    |false=>rw[o]at b;cases b
    |true=>
     rw[o]at b;simp only[cond_true]at b;obtain⟨A,F⟩:=aF6 o;have W:a.around<1000:=A.2.1;have b4:a.out.next<1000:=A.1;have B:=aC E;have r:=aC b;clear i E b o A
     go_enter func163,ntmps163
     go_wp2_with fail
     refine(zL _ p g d q st _ M b1 I).mono ?_;rintro e T⟨rfl,h,j⟩;have d2:=h.c2;have f2:=h.fz 2
     go_wp2_with fail
     refine(O.out f0 (by omega) _ st.aN.lI x a (h.Ey (st.aN.around+1) (by simp)) B.out).mono ?_;rintro e N⟨S,rfl,s,n,D⟩;have u:aZ p w N:=(j.setCell 2 _).trans D;clear d2 f2 j D h M B;have d2:=n.c2;have f2:=n.fz 2;have v:=n.Ey (a.around-1) (aKZ F);have P:=n.lt
     cases x with
     |none=>
      rw[show S=l7 none from s];clear s;have e:=r.out;simp only[j8,k8]at e;obtain⟨rfl,rfl⟩:=e
      go_wp2_with fail
      go_ret
      exact eQ.nil v (u.setCell 2 _)
     |some x=>
      obtain⟨⟨b5,z⟩,C⟩:=s;rw[z];rw[z]at C;clear z;have L:aZ p N (N.setCell ⟨p,2,none⟩ (.int .i64 ((a.around:Int)-1))):=(aZ.refl _ _).setCell 2 _;have e:=r.out;clear r;cases J:Rd.tk q a.out ⟨#[41]⟩
      .simp only[J,cond_false,j8,k8]at e;obtain⟨rfl,rfl⟩:=e
       go_wp2_with fail
       refine(yN _ p g d q a.out _ v b4 J).mono ?_;rintro e U⟨rfl,y,l⟩
       go_wp2_with fail
       go_ret
       exact eQ.nil y ((u.setCell 2 _).trans l)
      .simp only[J,cond_true,j8,k8]at e;obtain⟨rfl,rfl⟩:=e
       go_wp2_with fail
       refine(zL _ p g d q a.out _ v b4 J).mono ?_;rintro e U⟨rfl,y,l⟩
       go_wp2_with fail
       go_ret
       exact⟨_,rfl,⟨⟨b5,rfl⟩,iK.aT (L.trans l) C⟩,y,(u.setCell 2 _).trans l⟩
 all_goals omega
theorem Ph {t:Rd.Tr}{a:Rd.St}(h:(bif st.okB then some (some t,a)else none)=some y):st.ok/\y=(some t,a):=by
 cases b:st.okB with
 |false=>rw[b]at h;cases h
 |true=>
  rw[b]at h;exact⟨Rd.St.zQ b,(j9 h).symm⟩
theorem aOa (p g j:Nat)(q:List Rd.Wd)(f:Nat)(E:kU q)(W:Hid (kS p g j q 163 6 f))(w:World)(k:Int)(st:Rd.St)(res:Option Rd.Tr)(z:Rd.St)(r:Rdr w p g j q st)(b1:st.next<1000)
  (d:Rd.nameOf q k st (λs=>Rd.parse q f 6 none s)=some (res,z)):Calls prog 162 #[.pointer (some ⟨p,0,none⟩),.int .i64 k] w (eQ p g j q w res z):=by
 unfold Rd.nameOf at d;have L:=aC E;clear E;cases H:(k==0)
 .have d1:=r.c1;have f1:=r.fz 1;have l:=r.yC (st.next+1) (m:=(st.next:Int)+1) (by simp);have o:aZ p w (w.setCell ⟨p,1,none⟩ (.int .i64 ((st.next:Int)+1))):=(aZ.refl _ _).setCell 1 _;have X:=l.lt;cases I:(k==2)
  .cases O:(k==3)
   .cases S:(k==4)
    .rw[H,I,O,S]at d;simp only[cond_false,n8]at d;obtain⟨x,F,C,D⟩:=sC d;have J:=aC C;have v:=aC D;clear d C D
     go_enter func162,ntmps162
     go_wp2_with fail
     refine(W.out _ st.aN x F l J.out).mono ?_;rintro e P⟨T,rfl,n,h,a⟩;have R:=h.lt;clear r l d1 f1
     cases x with
     |none=>
      rw[show T=l7 none from n];clear n;have e:=v.out;simp only[Rd.dX,j8,k8]at e;obtain⟨rfl,rfl⟩:=e
      go_wp2_with fail
      refine(aI9 _ _ _).mono ?_;rintro e Y⟨rfl,rfl⟩
      go_wp2_with fail
      go_ret
      exact eQ.nil h (o.trans a)
     |some x=>
      obtain⟨⟨b4,y⟩,A⟩:=n;rw[y];rw[y]at A;clear y;obtain⟨N,u⟩:=aLv v.out;simp only[k8]at u;obtain⟨rfl,rfl⟩:=u;clear v
      go_wp2_with fail
      refine(aGN _ p g j q F _ _ h N).mono ?_;rintro e Y⟨rfl,M,B,i⟩
      go_wp2_with fail
      go_ret
      exact⟨_,rfl,Fy (by omega) i (Or.inl ⟨rfl,rfl⟩) (iK.aT B A) rfl,M,(o.trans a).trans B⟩
    .rw[H,I,O,S]at d;simp only[cond_true,cond_false,n8]at d;have U:=aC d;clear d
     go_enter func162,ntmps162
     go_wp2_with fail
     refine(aG8 _ p g j q st.aN l L.out res z U.out).mono ?_;rintro e P⟨T,rfl,n,h,a⟩
     go_wp2_with fail
     go_ret
     exact⟨_,rfl,n,h,o.trans a⟩
   .rw[H,I,O]at d;simp only[cond_true,cond_false,n9]at d;obtain⟨ok,u⟩:=Ph d;simp only[k8]at u;obtain⟨rfl,rfl⟩:=u;clear d
    go_enter func162,ntmps162
    go_wp2_with fail
    refine(Vc _ p g j q st.aN _ (l.alloc _) ok).mono ?_;rintro e P⟨rfl,h,a⟩;have i:=Nb (b:=w.heap.size) a (Hx _ _ _).symm (by have:=r.lt;omega)
    go_wp2_with fail
    go_ret
    exact⟨_,rfl,Fy (by have:=r.lt;omega) i (Or.inl ⟨rfl,rfl⟩) rfl rfl,h,(o.alloc _).trans a⟩
  .rw[H,I]at d;simp only[cond_true,cond_false,o8]at d;obtain⟨ok,u⟩:=Ph d;simp only[k8]at u;obtain⟨rfl,rfl⟩:=u;clear d
   go_enter func162,ntmps162
   go_wp2_with fail
   refine(Vc _ p g j q st.aN _ (l.alloc _) ok).mono ?_;rintro e P⟨rfl,h,a⟩;have i:=Nb (b:=w.heap.size) a (Hx _ _ _).symm (by have:=r.lt;omega)
   go_wp2_with fail
   go_ret
   exact⟨_,rfl,Fy (by have:=r.lt;omega) i (Or.inl ⟨rfl,rfl⟩) rfl rfl,h,(o.alloc _).trans a⟩
 .rw[H]at d;simp only[cond_true,j8,k8]at d;obtain⟨rfl,rfl⟩:=d
  go_enter func162,ntmps162
  go_wp2_with fail
  go_ret
  exact eQ.nil r (aZ.refl _ _)
theorem aM0 (q g i:Nat)(n:List Rd.Wd)(f:Nat)(p:kU n)(H:Hid (∀k,k<f->kS q g i n 163 6 k)):kS q g i n 142 5 f:=by
 intro w st res v r a
 obtain⟨f0,rfl⟩:∃f0,f=f0+1:=by
  cases f with
  |zero=>cases a
  |succ f0=>exact⟨f0,rfl⟩
 rw[Rd.parse]at a
 cases y:st.okB with
 |false=>rw[y]at a;cases a
 |true=>
  rw[y]at a;simp only[cond_true]at a;have ok:=Rd.St.zQ y;have b1:st.next<1000:=ok.1;clear y ok;have u:=p st.next;have C:=aC p;clear p
  have D:Hid (∀W,Rdr W q g i n st->Calls prog 73 #[.pointer (some ⟨q,0,none⟩)] W λe E=>e=.returned (.agg #[.int .i64 (Rd.aD n st.next).kind,.string (Rd.aD n st.next).text,.int .i64 (Rd.aD n st.next).pos])/\Below W.heap.size W E):=λW N=>Ia W q g i n st N
  generalize Rd.aD n st.next=x at*;have B:=aC u;clear u;cases z:(x.kind==1)
  .cases J:(x.kind==2)
   .rw[z,J]at a;simp only[cond_false]at a;have A:=aC a;clear a
    go_enter func142,ntmps142
    go_wp2_with fail
    refine(D.out _ r).mono ?_;rintro e F⟨rfl,h⟩;have d:=r.below h
    go_wp2_with fail
    refine(H.out f0 (by omega) _ st res v (d.alloc _) A.out).mono ?_;rintro e L⟨P,rfl,o,l,j⟩
    go_wp2_with fail
    go_ret
    exact⟨_,rfl,o,l,((aZ.eC h).alloc _).trans j⟩
   .rw[z,J]at a;simp only[cond_true,cond_false]at a;have A:=aC a;clear a;have M:=aC (H.out f0 (by omega))
    go_enter func142,ntmps142
    go_wp2_with fail
    refine(D.out _ r).mono ?_;rintro e F⟨rfl,h⟩;have d:=r.below h
    go_wp2_with (go_at_call 161;refine(aOb _ _).mono ?_;rintro e E⟨rfl,rfl⟩)
    refine(aOa q g i n f0 C.out M _ _ st res v (d.alloc _) b1 A.out).mono ?_;rintro e L⟨P,rfl,o,l,j⟩
    go_wp2_with fail
    go_ret
    exact⟨_,rfl,o,l,((aZ.eC h).alloc _).trans j⟩
  .have O:x.text.size<=9:=B.out (by simpa using z);rw[z]at a;simp only[cond_true]at a;obtain⟨ok,I⟩:=Ph a;simp only[k8]at I;obtain⟨rfl,rfl⟩:=I;clear a
   go_enter func142,ntmps142
   go_wp2_with fail
   refine(D.out _ r).mono ?_;rintro e F⟨rfl,h⟩;have d:=r.below h;have d1:=d.c1;have f1:=d.fz 1;have R:=d.lt
   go_wp2_with (go_at_call 159;refine(aGl _ _ _ _ O).mono ?_;rintro e E⟨rfl,rfl⟩)
   refine(Vc _ q g i n st.aN _ ((((d.yC (st.next+1) (by simp)).alloc _).alloc _).alloc _) ok).mono ?_;rintro e L⟨rfl,l,j⟩;have s:=Nb (b:=F.heap.size+1+1) j (by simp[Hx]) (by omega)
   go_wp2_with fail
   go_ret
   exact⟨_,rfl,Fy (by omega) s (Or.inl ⟨rfl,rfl⟩) rfl rfl,l,(((((aZ.eC h).setCell 1 _).alloc _).alloc _).alloc _).trans j⟩
theorem Oa (e g a:Nat)(d:List Rd.Wd)(i:kU d):∀n f,f<=n->
  kS e g a d 72 0 f/\kS e g a d 101 2 f/\kS e g a d 123 4 f/\kS e g a d 142 5 f/\kS e g a d 163 6 f:=by
 intro n
 induction n with
 |zero=>
  intro f j
  obtain rfl:f=0:=by omega
  refine⟨?_,?_,?_,?_,?_⟩<;>(intro w st res o _ l;cases l)
 |succ n h=>
  intro f j
  have lt:∀k,k<f->k<=n:=λk b=>by omega
  exact ⟨aO0 e g a d f (Or.inl ⟨rfl,rfl,rfl,rfl,rfl⟩) (λk b=>(h k (lt k b)).2.1),aO0 e g a d f (p8 ⟨rfl,rfl,rfl,rfl,rfl⟩) (λk b=>(h k (lt k b)).2.2.1),
   aJ1 e g a d f (λk b=>(h k (lt k b)).2.2.1) (λk b=>(h k (lt k b)).2.2.2.1),
   aM0 e g a d f i (λk b=>(h k (lt k b)).2.2.2.2),aGY e g a d f (λk b=>(h k (lt k b)).1)⟩
theorem aJT (s:ByteArray)(a:Nat):∀f e,e<=a+9->cF s a f e<=a+9:=by
 intro f
 induction f with
 |zero=>intro e h;exact h
 |succ f b=>
  intro e h;unfold cF
  cases hc:decide (e<s.size/\e-a<9)&&cK (aQ s e)with
  |false=>exact h
  |true=>
   simp only[n7,decide_eq_true_eq]at hc;exact b (e+1) (by omega)
theorem aMt (s:ByteArray):∀f a,∀x∈Rd.split s f a,x.kind=1->x.text.size<=9:=by
 intro f
 induction f with
 |zero=>intro a x hx;simp[Rd.split]at hx
 |succ f i=>
  intro a x hx;rw[Rd.split]at hx
  cases b:decide (a<s.size)with
  |false=>
   rw[b]at hx;simp at hx;subst hx;intro h;simp at h
  |true=>
   rw[b]at hx;simp only[decide_eq_true_eq]at b
   cases g:(aQ s a != 32)with
   |false=>
    rw[g]at hx;exact i _ x hx
   |true=>
    rw[g]at hx;simp only[cond_true,List.mem_cons]at hx
    rcases hx with rfl|hx
    .intro e;simp only at e
     have d:cK (aQ s a)=true:=by
      cases d:cK (aQ s a)with
      |true=>rfl
      |false=>
       rw[Rd.kindOf,d]at e
       cases j:Rd.isLet (aQ s a)<;>simp[j]at e
     have k:Rd.wordEnd s a<=a+9:=by
      rw[Rd.wordEnd,d];exact aJT s a 9 (a+1) (by omega)
     show(s.extract a (Rd.wordEnd s a)).size<=9;rw[ByteArray.size_extract];omega
    .exact i _ x hx
theorem aHL (s:ByteArray)(f a:Nat):kU (Rd.split s f a):=by
 intro n b;unfold Rd.aD at*
 rcases Nat.lt_or_ge n (Rd.split s f a).length with h|h
 .rw[show(Rd.split s f a).getD n ⟨0,⟨#[]⟩,0⟩=(Rd.split s f a)[n] by simp[p7,h]]at*;exact aMt s f a _ (List.getElem_mem h) b
 .rw[show(Rd.split s f a).getD n ⟨0,⟨#[]⟩,0⟩=⟨0,⟨#[]⟩,0⟩ by simp[p7,h]]at b;simp at b
theorem aO4 (s:ByteArray):∀f a,s.size<f+a->a<=s.size->0<(Rd.split s f a).length:=by
 intro f
 induction f with
 |zero=>intro a h e;omega
 |succ f g=>
  intro a h e;rw[Rd.split]
  cases b:decide (a<s.size)with
  |false=>simp
  |true=>
   simp only[decide_eq_true_eq]at b
   cases j:(aQ s a != 32)with
   |true=>simp
   |false=>
    have i:=Rd.Hu s a;have d:=Rd.Kt s a b;exact g _ (by omega) d
theorem aHo (s:ByteArray)(w:World)(D:s.size<=120):
  Calls prog 71 #[.string s] w λe q=>∃l g a,e=.returned (.pointer (some ⟨l,0,none⟩))/\w.heap.size<=l/\Rdr q l g a (Rd.split s (s.size+1) 0) ⟨0,0,0,0⟩/\Below w.heap.size w q:=by
 have p:=aO4 s (s.size+1) 0 (by omega) (by omega);have y:=aC (aO1 s w D);generalize Rd.split s (s.size+1) 0=n at*
 go_enter func71,ntmps71
 go_wp2_with fail
 refine(y.out).mono ?_;rintro e r⟨v,rfl,d,o⟩
 obtain⟨g,a,b,hv,E,k,f⟩:∃g a b,v=.slice (some ⟨g,0,none⟩) n.length a/\w.heap.size<=g/\r.heap[g]?=some (.cells b 138 (0,0))/\b.toList.take (n.length*3)=dY n:=by
  rcases d.2 with⟨_,h⟩|⟨g,a,b,z,A,B,_,_,_,C⟩
  .omega
  .exact⟨g,a,b,z,A,B,C⟩
 rw[hv];have j:=o.size;have i:=fJ k;have u:=aC k;have x:=aC f;clear hv d k f
 go_wp2_with fail
 go_ret
 refine⟨r.heap.size,g,a,rfl,j,⟨jN _ _,⟨b,?_,x.out⟩,by omega⟩,o.alloc j _⟩;rw[Below.heap_alloc _ _ _ i];exact u.out
theorem Ni {d:Nat}{b J:World}(h:Below w n b)(a:aZ d b J)(f:w<=d)(g:w<=b.heap.size):Below w n J:=
 h.trans ⟨a.os,a.tape,a.output,a.size,λk e=>a.block k (by omega) (by omega)⟩
def zI (w:World)(x:Option Rd.Tr×Int×Int)(e:Ending)(b:World):Prop:=
 ∃a v,e=.returned (.tuple #[v,.int .i64 x.2.1,.int .i64 x.2.2])/\w.heap.size<=a/\zA a b x.1 v/\Below w.heap.size w b
theorem aI7 (f:Nat)(s:ByteArray)(w:World)(x:Option Rd.Tr×Int×Int)(Y:s.size<=maxLen)(q:Rd.read f s=some x):Calls prog 51 #[.string s] w (zI w x):=by
 unfold maxLen at Y;unfold Rd.read at q
 by_cases U:120<s.size
 .rw[decide_eq_true U]at q;simp only[cond_true,j8]at q;subst q
  go_enter func51,ntmps51
  go_wp2_with fail
  go_ret3
  exact⟨_,_,rfl,k9 _,rfl,Below.refl _ _⟩
 .rw[decide_eq_false U]at q;simp only[cond_false]at q;have I:=aHL s (s.size+1) 0;generalize T:Rd.parse (Rd.split s (s.size+1) 0) f 0 none ⟨0,0,0,0⟩=R at q;have F:=aC (aHo s w (by omega));generalize Rd.split s (s.size+1) 0=B at*;have D:=aC I;have C:=aC T;clear I T
  cases R with
  |none=>cases q
  |some y=>
   obtain⟨t,st⟩:=y
   have H:Hid (∀W u g l,Rdr W u g l B st->Calls prog 73 #[.pointer (some ⟨u,0,none⟩)] W λe w'=>e=.returned (.agg #[.int .i64 (Rd.aD B st.next).kind,.string (Rd.aD B st.next).text,.int .i64 (Rd.aD B st.next).pos])/\Below W.heap.size W w'):=λW u g l X=>Ia W u g l B st X
   cases t with
   |none=>
    simp only[j8]at q;generalize Rd.aD B st.next=x at*;subst q
    go_enter func51,ntmps51
    go_wp2_with fail
    refine(F.out).mono ?_;rintro e M⟨u,g,l,rfl,j,o,b⟩
    go_wp2_with fail
    refine((Oa u g l B D.out f f (k9 _)).1 _ _ _ st o C.out).mono ?_;rintro e N⟨J,rfl,r,p,n⟩;have d:=Ni b n j b.size;have k:=d.size;rw[show J=l7 none from r]
    go_wp2_with fail
    refine(H.out _ _ _ _ p).mono ?_;rintro e E⟨rfl,a⟩;have A:=a.size
    go_wp2_with fail
    go_quiet (fail)
    go_wp2_with fail
    go_ret3
    exact⟨u,_,rfl,j,rfl,below_drewN ((d.trans (a.mono k)).alloc (by omega) _) _⟩
   |some t=>
    simp only at q;generalize Rd.aD B st.next=x at*;cases L:(x.kind==0)
    .have S:(x.kind != 0)=true:=by simp[bne,L]
     rw[L]at q;simp only[cond_false,j8]at q;subst q
     go_enter func51,ntmps51
     go_wp2_with fail
     refine(F.out).mono ?_;rintro e M⟨u,g,l,rfl,j,o,b⟩
     go_wp2_with fail
     refine((Oa u g l B D.out f f (k9 _)).1 _ _ _ st o C.out).mono ?_;rintro e N⟨J,rfl,r,p,n⟩;have d:=Ni b n j b.size;have k:=d.size;obtain⟨⟨b5,i⟩,v⟩:=r;rw[i];rw[i]at v;clear i
     go_wp2_with fail
     refine(H.out _ _ _ _ p).mono ?_;rintro e E⟨rfl,a⟩;have A:=a.size;have z:Below w.heap.size w E:=d.trans (a.mono k);have h:=p.below a;have d3:=h.c3;have O:=h.c4;have P:=h.lt;clear b o n d
     go_wp2_with fail
     go_quiet (fail)
     go_wp2_with fail
     go_ret3
     exact⟨u,_,rfl,j,rfl,below_drewN (z.alloc (by omega) _) _⟩
    .have S:(x.kind != 0)=false:=by simp[bne,L]
     rw[L]at q;simp only[cond_true]at q
     by_cases u2:(12:Int)<st.deepest
     .rw[decide_eq_true (show 12<st.deepest by omega)]at q;simp only[o8,cond_true,j8]at q;subst q
      go_enter func51,ntmps51
      go_wp2_with fail
      refine(F.out).mono ?_;rintro e M⟨u,g,l,rfl,j,o,b⟩
      go_wp2_with fail
      refine((Oa u g l B D.out f f (k9 _)).1 _ _ _ st o C.out).mono ?_;rintro e N⟨J,rfl,r,p,n⟩;have d:=Ni b n j b.size;have k:=d.size;obtain⟨⟨b5,i⟩,v⟩:=r;rw[i];rw[i]at v;clear i
      go_wp2_with fail
      refine(H.out _ _ _ _ p).mono ?_;rintro e E⟨rfl,a⟩;have A:=a.size;have z:Below w.heap.size w E:=d.trans (a.mono k);have h:=p.below a;have d3:=h.c3;have O:=h.c4;have P:=h.lt;clear b o n d
      go_wp2_with fail
      go_ret3
      exact⟨u,_,rfl,j,rfl,z.alloc (by omega) _⟩
     .rw[decide_eq_false (show¬12<st.deepest by omega)]at q
      by_cases u3:(40:Int)<st.nodes
      .rw[decide_eq_true (show 40<st.nodes by omega)]at q;simp only[n9,cond_true,j8]at q;subst q
       go_enter func51,ntmps51
       go_wp2_with fail
       refine(F.out).mono ?_;rintro e M⟨u,g,l,rfl,j,o,b⟩
       go_wp2_with fail
       refine((Oa u g l B D.out f f (k9 _)).1 _ _ _ st o C.out).mono ?_;rintro e N⟨J,rfl,r,p,n⟩;have d:=Ni b n j b.size;have k:=d.size;obtain⟨⟨b5,i⟩,v⟩:=r;rw[i];rw[i]at v;clear i
       go_wp2_with fail
       refine(H.out _ _ _ _ p).mono ?_;rintro e E⟨rfl,a⟩;have A:=a.size;have z:Below w.heap.size w E:=d.trans (a.mono k);have h:=p.below a;have d3:=h.c3;have O:=h.c4;have P:=h.lt;clear b o n d
       go_wp2_with fail
       go_ret3
       exact⟨u,_,rfl,j,rfl,z.alloc (by omega) _⟩
      .rw[decide_eq_false (show¬40<st.nodes by omega)]at q;simp only[Bool.or_false,cond_false,j8]at q;subst q
       go_enter func51,ntmps51
       go_wp2_with fail
       refine(F.out).mono ?_;rintro e M⟨u,g,l,rfl,j,o,b⟩
       go_wp2_with fail
       refine((Oa u g l B D.out f f (k9 _)).1 _ _ _ st o C.out).mono ?_;rintro e N⟨J,rfl,r,p,n⟩;have d:=Ni b n j b.size;have k:=d.size;obtain⟨⟨b5,i⟩,v⟩:=r;rw[i];rw[i]at v;clear i
       go_wp2_with fail
       refine(H.out _ _ _ _ p).mono ?_;rintro e E⟨rfl,a⟩;have A:=a.size;have z:Below w.heap.size w E:=d.trans (a.mono k);have h:=p.below a;have d3:=h.c3;have O:=h.c4;have P:=h.lt;clear b o n d
       go_wp2_with fail
       go_ret3
       exact⟨u,_,rfl,j,⟨⟨b5,rfl⟩,iK.aT ((aZ.eC a).alloc _) v⟩,z.alloc (by omega) _⟩
def gW (B:Nat)(w:World)(x:Option Rd.Tr)(v:Value):Prop:=
 match x with
 |none=>v=.pointer none
 |some t=>∃b a d,v=.pointer (some ⟨a,0,none⟩)/\B<=b/\B<=a/\w.heap[a]?=some (.cells #[d] 98 (0,0))/\zA b w (some t) d
def zB (w:World)(x:Option Rd.Tr×Int×Int)(e:Ending)(a:World):Prop:=
 ∃v,e=.returned (.tuple #[v,.int .i64 x.2.1,.int .i64 x.2.2])/\gW w.heap.size a x.1 v/\Below w.heap.size w a
theorem aTO {s:ByteArray}{x:Option Rd.Tr×Int×Int}(h:Rd.read w s=some x):(x.1=none/\(x.2.1 != 0)=true)\/(∃t,x=(some t,0,0)):=by
 unfold Rd.read at h
 cases a:decide (120<s.size)with
 |true=>
  rw[a]at h;simp only[cond_true,j8]at h;subst h;exact Or.inl ⟨rfl,rfl⟩
 |false=>
  rw[a]at h;simp only[cond_false]at h;split at h
  .cases h
  .simp only[j8]at h;subst h;exact Or.inl ⟨rfl,rfl⟩
  .rename_i t st _;generalize ((Rd.aD (Rd.split s (s.size+1) 0) st.next).kind==0)=b at h;generalize (decide (12<st.deepest)||decide (40<st.nodes))=c at h;cases b
   .simp only[cond_false,j8]at h;subst h;exact Or.inl ⟨rfl,rfl⟩
   .cases c
    .simp only[cond_true,cond_false,j8]at h;exact p8 ⟨t,h.symm⟩
    .simp only[cond_true,j8]at h;subst h;exact Or.inl ⟨rfl,rfl⟩
theorem Mv (f:Nat)(s:ByteArray)(w:World)(x:Option Rd.Tr×Int×Int)(j:s.size<=maxLen)(i:Rd.read f s=some x):Calls prog 30 #[.string s] w (zB w x):=by
 have k:=aC (aI7 f s w x j i)
 rcases aTO i with⟨l,q⟩|⟨t,rfl⟩
 .obtain⟨t,r,u⟩:=x;simp only at l q;subst l;clear i j
  go_enter func30,ntmps30
  go_wp2_with fail
  refine(k.out).mono ?_;rintro e p⟨o,v,rfl,d,n,h⟩
  go_wp2_with fail
  go_ret3
  exact⟨_,rfl,rfl,h⟩
 .clear i j
  go_enter func30,ntmps30
  go_wp2_with fail
  refine(k.out).mono ?_;rintro e p⟨o,v,rfl,d,n,h⟩;obtain⟨⟨b,hv⟩,a⟩:=n;rw[hv];rw[hv]at a;clear hv;have g:=h.size
  go_wp2_with fail
  go_ret3
  exact⟨_,rfl,⟨o,p.heap.size,_,rfl,d,g,jN _ _,⟨b,rfl⟩,iK.aT ((aZ.refl _ _).alloc _) a⟩,h.alloc g _⟩
end Go.Proofs.YtpdflaaamaokbaaGreatDoor
