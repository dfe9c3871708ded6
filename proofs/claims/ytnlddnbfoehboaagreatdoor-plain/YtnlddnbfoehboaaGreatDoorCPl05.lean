import Derived.Test.YtnlddnbfoehboaaGreatDoorCPl04
set_option linter.all false
set_option maxRecDepth 100000
set_option maxHeartbeats 2000000
namespace Go.Proofs.YtnlddnbfoehboaaGreatDoor
open Option renaming some->Y,none->X
open Bool renaming true->I,false->J
open List renaming map_cons->j8,mem_map->j9,take_succ_eq_append_getElem->o9,getD_eq_getElem?_getD->p5,getElem?_eq_getElem->p6,take_length->p8,length_take->q8,drop_length->q9,replicate->r5,eq_nil_of_length_eq_zero->r7
open Nat renaming zero_add->r8,blt->r9,le_refl->s7,zero_le->s8
open Int renaming pow_succ->zq5,mul_comm->u6,emod_eq_of_lt->u7,ediv_eq_zero_of_lt->u9,mul_nonneg->x8,mul_le_mul->y8,add_comm->z8,add_assoc->A0,lt_trichotomy->A4
open Go.World renaming size_alloc->A5
open Or renaming inr->A6
open Nm (bZ Top iQ Kb gW jQ Yi zY vC sP wQ wR uZ Xc aFY aHo)
open Go.Proofs.Tryz
open Go.RowKit
namespace Ab
inductive G where
 |ns (zs:LB)
 |i (k:IntKind) (n:Int)
 |b (t:Bool)
inductive RG where
 |one (g:G)
 |tup (gs:List G)
def gT (k:Bool):VT->Option (G×Nat)
 |.agg a=>(dL k a).map λ(c,n)=>(.ns c,n)
 |.one (.int kd n)=>Y (.i kd n,0)
 |.one (.sint kd n)=>Y (.i kd n,0)
 |.one (.bool t)=>Y (.b t,0)
 |.one (.sbool t)=>Y (.b t,0)
 |_=>X
def kT (k:Bool)(a:Nat):G->VT
 |.ns c=>.agg (c.map λz=>.num k z a)
 |.i kd n=>.one (.sint kd n)
 |.b t=>.one (.sbool t)
def fP (k:Bool):List G->List Nat->List VT
 |g::r,n::ns=>kT k n g::fP k r ns
 |_,_=>[]
def xS (k:Bool)(n:Nat):RG->RV
 |.one g=>.val (kT k n g)
 |.tup a=>.tup (a.map (kT k n))
def GB (n:Nat):G->Prop
 |.ns a=>∀z∈a,Bits n z
 |_=>True
def pS:List G->List Nat->Prop
 | [],[]=>True
 |g::r,n::ns=>GB n g/\pS r ns
 |_,_=>False
def RGB (n:Nat):RG->Prop
 |.one g=>GB n g
 |.tup a=>∀g∈a,GB n g
theorem GB.mono {n m:Nat}{g:G}(h:GB n g)(a:n<=m):GB m g:=by
 cases g with
 |ns c=>exact λz b=>eJ (h z b) a
 |_=>trivial
variable {k:Bool}{v:World}
theorem Pb {t:VT}{g:G}{w:Nat}{z:Value}(h:gT k t=Y (g,w))(r:iH Z v t z):GB w g/\∀m,GB m g->iH Z v (kT k m g) z:=by
 unfold gT at h;split at h
 .rename_i i;obtain⟨⟨b,m⟩,c,d⟩:=bI h;cases d;obtain⟨a,e,r⟩:=r;obtain⟨k1,k2⟩:=sD i b w a c r;exact⟨k2,λm f=>⟨a,e,Ij b a k1 f⟩⟩
 .cases h;exact⟨trivial,λ_ _=>⟨rfl,r.2⟩⟩
 .cases h;exact⟨trivial,λ_ _=>⟨rfl,r.2⟩⟩
 .cases h;exact⟨trivial,λ_ _=>⟨rfl,r.2⟩⟩
 .cases h;exact⟨trivial,λ_ _=>⟨rfl,r.2⟩⟩
 .cases h
theorem Qm {k:Bool}{v:World}:∀(f:List VT) (d:List (G×Nat)) (b:NU) (c:PH),gB (gT k) f=Y d->mR (d.map (·.2)) b=I->aD (iH Z v) f c->aD (iH Z v) (fP k (d.map (·.1)) b) c/\pS (d.map (·.1)) (d.map (·.2))/\pS (d.map (·.1)) b
 | [],d,b,c,h,e,r=>by
  simp[gB]at h;subst h
  cases c with
  |cons=>exact r.elim
  |nil=>
   cases b with
   |nil=>exact⟨trivial,trivial,trivial⟩
   |cons=>cases e
 |t::f,d,b,c,h,e,r=>by
  obtain⟨x,o,p⟩:=aK h;obtain⟨g,q,rfl⟩:=bI p
  match b,c,e,r with
  |n::ns,a::c,e,⟨s,u⟩=>
   simp only[j8,mR,Bool.and_eq_true]at e;obtain⟨j,l,m⟩:=Qm f g ns c q e.2 u;obtain⟨k1,k2⟩:=Pb o s;have i:=k1.mono (Nat.le_of_ble_eq_true e.1);exact⟨⟨k2 n i,j⟩,⟨k1,l⟩,⟨i,m⟩⟩
def mrg (t:Bool):G->G->Option G
 |.ns x,.ns y=>(Hw t x y).map .ns
 |.i k n,.i a m=>if k=a then Y (.i k (bif t then n else m))else X
 |.b x,.b y=>Y (.b (bif t then x else y))
 |_,_=>X
def Mh (t:Bool):List G->List G->Option (List G)
 | [],[]=>Y []
 |a::x,b::y=>(mrg t a b).bind λc=>(Mh t x y).map (c::·)
 |_,_=>X
def Gz (t:Bool):RG->RG->Option RG
 |.one a,.one b=>(mrg t a b).map .one
 |.tup a,.tup b=>(Mh t a b).map .tup
 |_,_=>X
theorem aTa {t:Bool}{a b c:G}(h:mrg t a b=Y c):c=bif t then a else b:=by
 unfold mrg at h;split at h
 .obtain⟨z,d,rfl⟩:=bI h;have:=aKE d;grind
 .grind
 .grind
 .cases h
theorem aPb {t:Bool}:∀{a b c:List G},Mh t a b=Y c->c=bif t then a else b
 | [],[],c,h=>by cases h;cases t<;>rfl
 |a::x,b::y,c,h=>by
  obtain⟨z,d,e⟩:=aK h;obtain⟨r,f,rfl⟩:=bI e;have e1:=aTa d;have e2:=aPb f
  cases t<;>simp_all
 | [],_::_,_,h=>by cases h
 |_::_,[],_,h=>by cases h
theorem aPa {t:Bool}{a b c:RG}(h:Gz t a b=Y c):c=bif t then a else b:=by
 unfold Gz at h;split at h
 .obtain⟨z,d,rfl⟩:=bI h;have:=aTa d;grind
 .obtain⟨z,d,rfl⟩:=bI h;have:=aPb d;grind
 .cases h
def zM (k:Bool):Out->Option (List Prop×RG)
 |.ret (.val v)=>(gT k v).map λg=>([],.one g.1)
 |.ret (.tup e)=>(gB (gT k) e).map λd=>([],.tup (d.map (·.1)))
 |.br t x y=>(zM k x).bind λa=>(zM k y).bind λb=>(Gz t a.2 b.2).map λc=>(a.1.map (λp=>t=I->p)++b.1.map (λp=>t=J->p),c)
 |.need p o=>(zM k o).map λa=>(p++a.1,a.2)
theorem aHz {k:Bool}{w:Nat}{a:World}:∀{c:List VT} {b:List (G×Nat)} {d:PH},gB (gT k) c=Y b->(∀g∈b.map (·.1),GB w g)->aD (iH Z a) c d->aD (iH Z a) ((b.map (·.1)).map (kT k w)) d
 | [],b,[],h,_,_=>by simp[gB]at h;subst h;trivial
 |v::c,b,x::d,h,e,⟨m,o⟩=>by
  obtain⟨y,i,j⟩:=aK h;obtain⟨p,l,rfl⟩:=bI j;exact⟨(Pb i m).2 w (e _ E4),aHz l (λg f=>e g (by simp at f ⊢;exact A6 f)) o⟩
 | [],_,_::_,_,_,h=>h.elim
 |_::_,_,[],_,_,h=>h.elim
theorem Rq {k:Bool}{w:Nat}:∀{o:Out} {r:List Prop} {out:RG},zM k o=Y (r,out)->Holds r->RGB w out->o.ok λD=>∀d v,RRV Z d D v->RRV Z d (xS k w out) v
 |.ret (.val t),r,out,h,_,f=>by
  obtain⟨⟨g,m⟩,i,j⟩:=bI h;cases j;intro d v hv;exact(Pb i hv).2 w f
 |.ret (.tup M),r,out,h,_,f=>by
  obtain⟨L,i,j⟩:=bI h;cases j;rintro d v⟨F,e,hv⟩;exact⟨F,e,aHz i f hv⟩
 |.br t x y,r,out,h,s,f=>by
  obtain⟨⟨p1,a⟩,i,j⟩:=aK h;obtain⟨⟨p2,b⟩,z,A⟩:=aK j;obtain⟨c,B,C⟩:=bI A;cases C;have u:=aPa B;refine⟨λe=>?_,λe=>?_⟩
  .subst e;subst u;exact Rq i (λq l=>s (I=I->q) (List.mem_append_left _ (j9.2 ⟨q,l,rfl⟩)) rfl) f
  .subst e;subst u;exact Rq z (λq l=>s (J=J->q) (List.mem_append_right _ (j9.2 ⟨q,l,rfl⟩)) rfl) f
 |.need p o,r,out,h,s,f=>by
  obtain⟨⟨p1,a⟩,i,j⟩:=bI h;cases j;exact⟨λq l=>s q (by simp[l]),Rq i (λq l=>s q (by simp[l])) f⟩
def fI (k:Bool)(F:List G->Option RG)(nd:List G->List Prop)(c:List Nat->Nat)(b:NU):TE:=λd=>
 (gB (gT k) d).bind λa=>bif mR (a.map (·.2)) b then(F (a.map (·.1))).map λout=>(xS k (c (a.map (·.2))) out,nd (a.map (·.1)))else X
variable {W:FuncId}{F:List G->Option RG}{nd:List G->List Prop}{y:NU}
theorem Ex (i:dV Z.P W){m:List Nat->Nat}(g:∀a ns out,F a=Y out->Holds (nd a)->pS a ns->pS a y->RGB (m ns) out)
  (h:∀a out,F a=Y out->Holds (nd a)->pS a y->∀w (c:PH),aD (iH Z w) (fP k a y) c->Calls Z.P W c.toArray w λe o=>∃v,e=.returned v/\(∀n,RGB n out->RRV Z o (xS k n out) v)/\Below w.heap.size w o):bD Z W (fI k F nd m y):=by
 refine⟨i,λB r p j A w c l=>?_⟩;obtain⟨q,u,d⟩:=aK j
 cases b:mR (q.map (·.2)) y with
 |false=>rw[b]at d;cases d
 |true=>
  rw[b]at d;obtain⟨out,x,z⟩:=bI d;cases z;obtain⟨s,C,t⟩:=Qm B q y c u b l;refine(h _ out x A t w c s).mono ?_;grind
variable {bo:List Nat->Nat}
theorem mW {l:List (FuncId×TE)}(hl:cK Z l){d:AW}(M:bS Z d){D:Func}(u:Fn W D)(A:∀c ns out,F c=Y out->Holds (nd c)->pS c ns->pS c y->RGB (bo ns) out)
  (h:∀c out,F c=Y out->∃ps,((run Z (aE l) d (aL Z (aE l)) (λ_=>J) 2000 [.code (aG D),.top D] (start D (fP k c y))).bind outcome).bind (zM k)=Y (ps,out)/\(Holds (nd c)->pS c y->Holds ps)):bD Z W (fI k F nd bo y):=by
 refine Ex u.en A λc out hF S N w vs T=>?_
 obtain⟨ps,h1,h2⟩:=h c out hF;obtain⟨o,h3,h4⟩:=aK h1;obtain⟨tr,h5,h6⟩:=aK h3
 have hA:At (eB 0 (fP k c y)).2 0 (eB 0 (fP k c y)).2:=λi a hy=>by rw[r8];exact hy
 have U:∀n,RGB n out->Calls Z.P W vs.toArray w λe L=>∃v,e=.returned v/\RRV Z L (xS k n out) v/\Below w.heap.size w L:=by
  intro n B;refine kQ (ψ:=λ_=>X) (φ:=λ_=>X) (dX hl) M (uH mixed (dX hl)) u.at' u.body rfl (Fv _ 0 vs hA T) (Kq D _ w) 2000 h5 _ (λ_ _=>False) (λ_ _ h=>h.elim) (yM h6 (Rq h4 (h2 S N) B)) ?_;rintro r0 s φ v L⟨hc,r',h7,h8⟩ hr hw;exact⟨v,rfl,h8 L v (Bh h7 hr),RepF.below hw hc⟩
 obtain⟨n0,R⟩:=someB out;refine(U n0 R).mono ?_;rintro e L⟨v,rfl,hv,hb⟩;exact⟨v,rfl,λn B=>anyB hv B,hb⟩
where
 someB (out:RG):∃n,RGB n out:=by
  have one:∀j:LB,∃n,∀z∈j,Bits n z:=by
   intro j
   induction j with
   |nil=>exact⟨0,λz hz=>by cases hz⟩
   |cons z j C=>
    obtain⟨n,B⟩:=C;refine⟨max (Nat.log2 z.natAbs+1) n,λa hy=>?_⟩;simp at hy
    rcases hy with rfl|hy
    .exact eJ (aGV _) O
    .exact eJ (B a hy) O
  have g1:∀g:G,∃n,GB n g:=by
   intro g
   cases g with
   |ns j=>exact one j
   |_=>exact⟨0,trivial⟩
  cases out with
  |one g=>exact g1 g
  |tup c=>
   induction c with
   |nil=>exact⟨0,λg hg=>by cases hg⟩
   |cons g c C=>
    obtain⟨n,B⟩:=C;obtain⟨m,q⟩:=g1 g;refine⟨max m n,λa hy=>?_⟩;simp at hy
    rcases hy with rfl|hy
    .exact q.mono O
    .exact(B a hy).mono O
 oneB {k:Bool} {w:World} {g:G} {n m:Nat} {v:Value} (h:iH Z w (kT k n g) v) (q:GB m g):iH Z w (kT k m g) v:=by
  cases g with
  |ns j=>
   obtain⟨p,e,r⟩:=h
   have:dL k (j.map λz=>.num k z n)=Y (j,(dL k (j.map λz=>.num k z n)).elim 0 (·.2)):=by
    clear r q
    induction j with
    |nil=>rfl
    |cons z j C=>
     simp only[j8,dL,beq_self_eq_true];rw[C];rfl
   exact⟨p,e,Ij j p (sD _ _ _ p this r).1 q⟩
  |i kd n=>exact h
  |b t=>exact h
 anyB {k:Bool} {w:World} {out:RG} {n m:Nat} {v:Value} (h:RRV Z w (xS k n out) v) (q:RGB m out):RRV Z w (xS k m out) v:=by
  cases out with
  |one g=>exact oneB h q
  |tup c=>
   obtain⟨p,e,r⟩:=h;refine⟨p,e,?_⟩;clear e
   induction c generalizing p with
   |nil=>exact r
   |cons g c C=>
    match p,r with
    |x::p,⟨r1,r2⟩=>exact⟨oneB r1 (q g E4),C (λa hy=>q a (by simp[hy])) p r2⟩
def kP:Code->List (K (List AT))->Option (Code×List (K (List AT)))
 |.seq a b,c=>match kP a (.code b::c)with|some r=>Y r|none=>kP b c
 |.block id b,c=>kP b (.blk id::c)
 |.loop b,c=>Y (b,c)
 |.cond _ a b,c=>match kP a c with|some r=>Y r|none=>kP b c
 |_,_=>X
def Fa (c:Code)(a:Func):Code:=((kP c [.top a]).map (·.1)).getD .skip
def Jj (c:Code)(a:Func):List (K (List AT)):=((kP c [.top a]).map (·.2)).getD []
def Bm:List (K (List AT))->Bool
 |.code (.loop _)::_=>I
 |_=>J
def qY:List (K (List AT))->Bool
 |.lp _ _::_=>I
 |_=>J
def xP (a:NU):AC->Bool
 |.sg _=>J
 |.dg _ _=>J
 |.ptr b _=>a.contains b
 |.slc b _ _ _=>a.contains b
 |.dsl b _ _ _=>a.contains b
 |_=>I
def rn (ν:LV)(a:NU):Nat->List AC->Option (List AC×List (Int×Nat))
 |_,[]=>Y ([],[])
 |base,.sg i::.dg k j::r=>bif i==j then(ν[i]?).bind λb=>(rn ν a (base+1) r).map λp=>(.sg base::.dg k base::p.1,b::p.2)else X
 |base,c::r=>bif xP a c then(rn ν a base r).map λp=>(c::p.1,p.2)else X
def wk:AC->AC
 |.int k n=>.sint k n
 |.bool b=>.sbool b
 |c=>c
def rnT (ν:LV)(a:NU)(base:Nat):AT->Option (AT×List (Int×Nat))
 |.val (.one c)=>bif xP a c then Y (.val (.one c),[])else X
 |.val (.agg cs)=>(rn ν a base cs).map λp=>(.val (.agg p.1),p.2)
 |_=>X
def wkT:AT->AT
 |.val (.one c)=>.val (.one (wk c))
 |t=>t
def nmB (a:List (Nat×bH))(ν:LV)(c:NU):Nat->List Nat->Option (List (Nat×bH)×List (Int×Nat))
 |_,[]=>Y ([],[])
 |base,b::r=>(look a b).bind λB=>(rn ν c base B.cs).bind λp=>(nmB a ν c (base+p.2.length) r).map λq=>((b,{B with cs:=p.1})::q.1,p.2++q.2)
def Mk (ν:LV)(a b:NU):Nat->Nat->List AT->Option (List AT×List (Int×Nat))
 |_,_,[]=>Y ([],[])
 |base,i,t::r=>
  bif b.contains i then(rnT ν a base t).bind λp=>(Mk ν a b (base+p.2.length) (i+1) r).map λq=>(p.1::q.1,p.2++q.2)
  else bif b.contains (1000+i)then(rnT ν a base (wkT t)).bind λp=>(Mk ν a b (base+p.2.length) (i+1) r).map λq=>(p.1::q.1,p.2++q.2)
  else(Mk ν a b base (i+1) r).map λq=>(.top::q.1,q.2)
def norm (a c:NU)(nx:Nat)(s:AS):Option AS:=
 (nmB s.boxes s.nums a 0 a).bind λp=>(Mk s.nums a c p.2.length 0 s.tmps).bind λq=>
  bif a.all (λb=>r9 b nx)&&s.dirty.all (λd=>a.contains d||(match look s.boxes d with|some B=>B.own|none=>J))then Y ⟨q.1,p.1,nx,p.2++q.2,s.dirty.filter λd=>a.contains d⟩else X
def rst (a:NU)(φ:LI):LI:=λb=>bif a.contains b then φ b else X
section
variable {C:eQ} {φ:LI} {w:World}{ν F:LV}{x:Value}
theorem aKb {c:AC}(h:xP y c=I)(r:relC C φ ν w c x):relC C (rst y φ) F w c x:=by
 cases c<;>simp only[xP]at h<;>try exact r
 .have⟨k,o,h1,h2⟩:=r;exact⟨k,o,by unfold rst;rw[h];exact h1,h2⟩
 .have⟨k,o,cap,e,m,h1,h2⟩:=r;exact⟨k,o,cap,e,m,by unfold rst;rw[h];exact h1,h2⟩
 .have⟨k,cap,h1,h2⟩:=r;exact⟨k,cap,by unfold rst;rw[h];exact h1,h2⟩
 .cases h
 .cases h
theorem aR5 {ν F:LV}{y:NU}:∀(cs:List AC) (base:Nat) (b:List AC) (ns:LV) (g:PH),rn ν y base cs=Y (b,ns)->At F base ns->aD (relC C φ ν w) cs g->aD (relC C (rst y φ) F w) b g
 | [],_,b,ns,[],h,_,_=>by simp[rn]at h;rw[h.1];trivial
 | [],_,_,_,_::_,_,_,h=>h.elim
 |_::_,_,_,_,[],_,_,h=>h.elim
 | [c],base,b,ns,[x],h,l,⟨m,_⟩=>by
  have:rn ν y base [c]=bif xP y c then Y ([c],[])else X:=by cases c<;>simp[rn]
  rw[this]at h
  cases hc:xP y c with
  |false=>rw[hc]at h;cases h
  |true=>rw[hc]at h;cases h;exact⟨aKb hc m,trivial⟩
 | [c],_,_,_,_::_::_,_,_,h=>h.2.elim
 |_::_::_,_,_,_,[_],_,_,h=>h.2.elim
 |c::d::r,base,b,ns,x::a::g,h,l,⟨m,t,s⟩=>by
  by_cases hc:xP y c=I
  .have e:rn ν y base (c::d::r)=(rn ν y base (d::r)).map λp=>(c::p.1,p.2):=by
    cases c<;>first|(simp[xP]at hc;done)|(simp only[rn,hc,cond_true])
   rw[e]at h;have⟨p,h1,o⟩:=bI h;cases o;exact⟨aKb hc m,aR5 (d::r) base p.1 p.2 (a::g) h1 l ⟨t,s⟩⟩
  .cases c<;>try (simp only[rn]at h;simp[hc]at h)
   case sg i=>
    cases d<;>try (simp[rn,xP]at h;done)
    case dg k j=>
     simp only[rn]at h
     cases f:i==j with
     |false=>rw[f]at h;cases h
     |true=>
      rw[f]at h
      have:i=j:=by simpa using f
      subst this;have⟨⟨z,n⟩,h1,o⟩:=aK h;have⟨p,h3,u⟩:=bI o;cases u;have⟨z1,n1,e1,e2⟩:=m;have⟨z2,n2,f1,f2,f3⟩:=t;rw[h1]at e1 f1;cases e1;cases f1;have q:=l 0 (z,n) rfl;exact⟨⟨z,n,q,e2⟩,⟨z,n,q,f2,f3⟩,aR5 r (base+1) p.1 p.2 g h3 l.tail s⟩
theorem aXA {c:AC}(r:relC C φ ν w c x):relC C φ ν w (wk c) x:=by cases c<;>exact r
theorem aVO {t:AT}(r:relT C φ ν w t x):relT C φ ν w (wkT t) x:=by
 cases t with
 |val v=>cases v with
  |one c=>exact aXA r
  |agg cs=>exact r
 |_=>exact r
theorem aTn {t a:AT}{base:Nat}{ns:LV}(h:rnT ν y base t=Y (a,ns))(d:At F base ns)(r:relT C φ ν w t x):relT C (rst y φ) F w a x:=by
 unfold rnT at h;split at h
 .rename_i c
  cases hc:xP y c with
  |false=>rw[hc]at h;cases h
  |true=>rw[hc]at h;cases h;exact aKb hc r
 .have⟨p,h1,b⟩:=bI h;cases b;have⟨xs,e,hx⟩:=r;exact⟨xs,e,aR5 _ _ _ _ xs h1 d hx⟩
 .cases h
theorem Zs {ν F:LV}{y g:NU}:∀(m:List AT) (base i:Nat) (a:List AT) (ns:LV) (b:PH),Mk ν y g base i m=Y (a,ns)->At F base ns->aD (relT C φ ν w) m b->aD (relT C (rst y φ) F w) a b
 | [],_,_,a,ns,[],h,_,_=>by simp[Mk]at h;rw[h.1];trivial
 | [],_,_,_,_,_::_,_,_,h=>h.elim
 |_::_,_,_,_,_,[],_,_,h=>h.elim
 |t::r,base,i,a,ns,x::b,h,d,⟨l,f⟩=>by
  simp only[Mk]at h
  cases j:g.contains i with
  |false=>
   rw[j]at h
   cases k:g.contains (1000+i)with
   |false=>
    rw[k]at h;have⟨q,h1,c⟩:=bI h;cases c;exact⟨trivial,Zs r base (i+1) q.1 q.2 b h1 d f⟩
   |true=>
    rw[k]at h;have⟨p,h1,c⟩:=aK h;have⟨q,h3,e⟩:=bI c;cases e;exact⟨aTn h1 d.left (aVO l),Zs r (base+p.2.length) (i+1) q.1 q.2 b h3 d.right f⟩
  |true=>
   rw[j]at h;have⟨p,h1,c⟩:=aK h;have⟨q,h3,e⟩:=bI c;cases e;exact⟨aTn h1 d.left l,Zs r (base+p.2.length) (i+1) q.1 q.2 b h3 d.right f⟩
theorem aTc {j:List (Nat×bH)}{ν μ:LV}{y:NU}:∀(l:NU) (base:Nat) (d:List (Nat×bH)) (ns:LV),nmB j ν y base l=Y (d,ns)->At μ base ns->∀b f,look d b=Y f->b∈l/\∃B a i,look j b=Y B/\f={B with cs:=f.cs}/\rn ν y a B.cs=Y (f.cs,i)/\At μ a i
 | [],base,d,ns,h,_,b,f,e=>by simp[nmB]at h;rw[h.1]at e;simp[look]at e
 |c::l,base,d,ns,h,k,b,f,e=>by
  have⟨B,h1,h2⟩:=aK h;have⟨p,h3,h4⟩:=aK h2;have⟨q,h5,m⟩:=bI h4;cases m;simp only[look]at e
  cases g:(c==b)with
  |true=>
   rw[g]at e;simp at e
   have:c=b:=by simpa using g
   subst this e;exact⟨E4,B,base,p.2,h1,rfl,h3,k.left⟩
  |false=>
   rw[g]at e;have⟨g1,g2⟩:=aTc l (base+p.2.length) q.1 q.2 h5 k.right b f e;grind
end
theorem Se {ν:LV}{y:NU}:∀{cs:List AC} {base:Nat} {a:List AC} {ns:LV},rn ν y base cs=Y (a,ns)->a.length=cs.length
 | [],_,_,_,h=>by simp[rn]at h;rw[h.1]
 | [c],base,a,ns,h=>by
  have:rn ν y base [c]=bif xP y c then Y ([c],[])else X:=by cases c<;>simp[rn]
  grind
 |c::d::r,base,a,ns,h=>by
  by_cases hc:xP y c=I
  .have e:rn ν y base (c::d::r)=(rn ν y base (d::r)).map λp=>(c::p.1,p.2):=by
    cases c<;>first|(simp[xP]at hc;done)|(simp only[rn,hc,cond_true])
   rw[e]at h;have⟨p,h1,f⟩:=bI h;cases f;simp[Se h1]
  .cases c<;>try (simp only[rn]at h;simp[hc]at h)
   case sg i=>
    cases d<;>try (simp[rn,xP]at h;done)
    case dg k j=>
     simp only[rn]at h
     cases b:i==j with
     |false=>rw[b]at h;cases h
     |true=>
      rw[b]at h;have⟨zn,h1,f⟩:=aK h;have⟨p,h3,g⟩:=bI f;cases g;simp[Se h3]
variable {w:World}{ψ φ:LI}{kt:NU}{s:AS}
theorem aLo {C:eQ}{w0:World}{nx:Nat}{P:AS}(h:norm y kt nx s=Y P)(L:∀b x,ψ b=Y x->y.contains b=I)(l:RepW C w0 ψ φ s w):RepW C w0 ψ (rst y φ) P w:=by
 have⟨p,h1,h2⟩:=aK h;have⟨q,h3,v⟩:=aK h2
 cases hc:(y.all (λb=>r9 b nx)&&s.dirty.all (λd=>y.contains d||(match look s.boxes d with|some B=>B.own|none=>J)))with
 |false=>rw[hc]at v;cases v
 |true=>
  rw[hc]at v;cases v;simp only[Bool.and_eq_true,List.all_eq_true]at hc;have⟨c1,c2⟩:=hc
  have S:At (p.2++q.2) 0 p.2:=λi a hy=>by rw[r8];exact pV _ _ i a hy
  have f:∀b x,rst y φ b=Y x->y.contains b=I/\φ b=Y x:=by
   intro b x c;unfold rst at c;grind
  have g:=λb j c=>aTc (μ:=p.2++q.2) y 0 p.1 p.2 h1 S b j c
  refine⟨?_,?_,?_,?_,?_,?_,?_,l.on,?_,λb j k o c t N n=>?_⟩
  rotate_right
  .have⟨m,B,base,ns,g1,g2,g3,_⟩:=g b j c;have l1:=Se g3;rw[g2]at t N;have⟨e1,e2⟩:=l.rF b B k o g1 t N (f _ _ n).2;grind
  .intro b j c;have⟨m,B,base,ns,g1,g2,g3,g4⟩:=g b j c;have⟨k,o,pre,ys,post,k1,k2,k3,k4⟩:=l.box b B g1;refine⟨k,o,pre,ys,post,?_,?_,k3,aR5 _ _ _ _ ys g3 g4 k4⟩
   .unfold rst;rw[show y.contains b=I by simpa using m];exact k1
   .rw[g2];exact k2
  .intro b j k o c t n;have⟨m,B,base,ns,g1,g2,_⟩:=g b j c;rw[g2]at t;exact l.own b B k o g1 t (f _ _ n).2
  .intro b M B j k o o' c z n A;have⟨m,D,base,ns,g1,g2,g3,_⟩:=g b B c;have⟨m',D',base',ns',g1',g2',g3',_⟩:=g M j z
   rcases l.inj b M D D' k o o' g1 g1' (f _ _ n).2 (f _ _ A).2 with e|⟨e1,e2,T,U⟩
   .exact Or.inl e
   .refine A6 ⟨by rw[g2];exact e1,by rw[g2'];exact e2,by rw[g2,g2'];exact T,?_⟩;intro u
    have r:D.tip=I:=by rw[g2]at u;exact u
    have:=U r;rw[(Se g3),(Se g3')];exact this
  .intro b j c u;have⟨m,B,base,ns,g1,g2,_⟩:=g b j c
   have r:B.tip=I:=by rw[g2]at u;exact u
   have⟨e1,e2⟩:=l.tip b B g1 r;rw[g2];exact⟨e1,e2⟩
  .intro b c;unfold rst
   cases n:y.contains b with
   |false=>rfl
   |true=>
    have:=c1 b (by simpa using n)
    have W:b<nx:=by simpa[Nat.blt_eq]using this
    have c:nx<=b:=c;omega
  .intro b k o c;exact l.lt b k o (f _ _ c).2
  .intro k n hd;refine l.low k n ?_;intro b c o e;have hc2:=c2 b c;simp only[Bool.or_eq_true]at hc2
   rcases hc2 with hc2|hc2
   .refine hd b ?_ o ?_
    .exact List.mem_filter.2 ⟨c,hc2⟩
    .unfold rst;rw[hc2];exact e
   .cases F:look s.boxes b with
    |none=>rw[F]at hc2;cases hc2
    |some B=>
     rw[F]at hc2;have:=l.own b B k o F hc2 e;omega
  .intro b x c;unfold rst;rw[L b x c];exact l.base b x c
variable {l:NU}{a:Act}
theorem aPi {C:eQ}{w0:World}{nx:Nat}{j:AS}(h:norm y l nx s=Y j)(g:∀b x,ψ b=Y x->y.contains b=I)(f:Rep C w0 ψ φ s a w):Rep C w0 ψ (rst y φ) j a w:=by
 refine⟨aLo h g f.wd,f.defers,?_⟩;have⟨p,h1,h2⟩:=aK h;have⟨q,h3,e⟩:=aK h2
 cases hc:(y.all (λb=>r9 b nx)&&s.dirty.all (λd=>y.contains d||(match look s.boxes d with|some B=>B.own|none=>J)))with
 |false=>rw[hc]at e;cases e
 |true=>
  rw[hc]at e;cases e;exact Zs _ _ _ _ _ _ h3 (λi c k=>by rw[List.getElem?_append_right O];simpa using k) f.tmps
def noFr {F:Type}:List (K F)->Bool
 | []=>I
 |.fr _ _ _::_=>J
 |_::a=>noFr a
theorem SR.any {C:eQ}{φ o:LI}{ν F:LV}{w s:World}:∀{e:List (K (List AT))} {c:List (K Act)},noFr e=I->SR C φ ν w e c->SR C o F s e c
 | [],[],_,_=>trivial
 |.code _::_,.code _::_,h,⟨a,b⟩=>⟨a,SR.any (by simpa[noFr]using h) b⟩
 |.blk _::_,.blk _::_,h,⟨a,b⟩=>⟨a,SR.any (by simpa[noFr]using h) b⟩
 |.lp _ _::_,.lp _ _::_,h,⟨a,b,d⟩=>⟨a,b,SR.any (by simpa[noFr]using h) d⟩
 |.ops _ _::_,.ops _ _::_,h,⟨a,b,d⟩=>⟨a,b,SR.any (by simpa[noFr]using h) d⟩
 |.top _::_,.top _::_,h,⟨a,b⟩=>⟨a,SR.any (by simpa[noFr]using h) b⟩
 |.fr _ _ _::_,_,h,_=>by simp[noFr]at h
section
variable {C:eQ} {w0:World} {ψ:LI} {sp:Spec} {bodies:AW} {draw:Array Oper->AS->Option (AS×List Prop)} {R:EW}
end
def oM (ν:LV):List AC->List AC×List Prop
 |.bool J::.dg k i::r=>match ν[i]? with
  |some a=>(.sg i::.dg k i::(oM ν r).1,(0<=a.1)::(oM ν r).2)
  |none=>(.bool J::.dg k i::(oM ν r).1,(oM ν r).2)
 |c::r=>(c::(oM ν r).1,(oM ν r).2)
 | []=>([],[])
theorem Zn {R:eQ}{φ:LI}{ν:LV}{v:World}:∀(cs:List AC) (f:PH),Holds (oM ν cs).2->aD (relC R φ ν v) cs f->aD (relC R φ ν v) (oM ν cs).1 f
 | [],[],_,h=>h
 | [],_::_,_,h=>h.elim
 |_::_,[],_,h=>h.elim
 | [c],[x],a,⟨g,j⟩=>by
  have e:oM ν [c]=([c],[]):=by cases c<;>(try rfl);rename_i b;cases b<;>rfl
  rw[e];exact⟨g,trivial⟩
 | [c],_::_::_,_,h=>h.2.elim
 |_::_::_,[_],_,h=>h.2.elim
 |c::d::r,x::y::f,a,⟨g,j,l⟩=>by
  by_cases m:∃k i,c=.bool J/\d=.dg k i
  .obtain⟨k,i,rfl,rfl⟩:=m;simp only[oM]at a ⊢
   cases hi:ν[i]? with
   |none=>
    rw[hi]at a;exact⟨g,j,Zn r f a l⟩
   |some n=>
    rw[hi]at a;have p:0<=n.1:=a _ E4;refine⟨⟨n.1,n.2,hi,?_⟩,j,Zn r f (λq o=>a q (by simp[o])) l⟩;rw[g,decide_eq_false O]
  .have e:oM ν (c::d::r)=(c::(oM ν (d::r)).1,(oM ν (d::r)).2):=by
    cases c<;>try rfl
    rename_i b
    cases b<;>try rfl
    cases d<;>try rfl
    grind
   rw[e]at a ⊢;exact⟨g,Zn (d::r) (y::f) a ⟨j,l⟩⟩
theorem Yr {ν:LV}:∀(cs:List AC),(oM ν cs).1.length=cs.length
 | []=>rfl
 | [c]=>by
  have e:oM ν [c]=([c],[]):=by cases c<;>(try rfl);rename_i b;cases b<;>rfl
  rw[e]
 |c::d::r=>by
  by_cases a:∃k i,c=.bool J/\d=.dg k i
  .obtain⟨k,i,rfl,rfl⟩:=a;simp only[oM]
   cases ν[i]?<;>simp[Yr r]
  .have e:oM ν (c::d::r)=(c::(oM ν (d::r)).1,(oM ν (d::r)).2):=by
    cases c<;>try rfl
    rename_i b
    cases b<;>try rfl
    cases d<;>try rfl
    grind
   rw[e];have:=Yr (d::r) (ν:=ν);grind
def rY (ν:LV):List (Nat×bH)->List (Nat×bH)×List Prop
 | []=>([],[])
 |(b,B)::r=>((b,{B with cs:=(oM ν B.cs).1})::(rY ν r).1,(oM ν B.cs).2++(rY ν r).2)
def Uw (s:AS):AS:={s with boxes:=(rY s.nums s.boxes).1}
theorem aLg {ν:LV}:∀(l:List (Nat×bH)) (b:Nat) (a:bH),look (rY ν l).1 b=Y a->∃B,look l b=Y B/\a={B with cs:=(oM ν B.cs).1}/\(Holds (rY ν l).2->Holds (oM ν B.cs).2)
 | [],b,a,h=>by simp[rY,look]at h
 |(c,D)::l,b,a,h=>by
  simp only[rY,look]at h ⊢
  cases hc:(c==b)with
  |true=>
   rw[hc]at h;simp at h;exact⟨D,by rw[cond_true],h.symm,λd q e=>d q (by simp[e])⟩
  |false=>
   rw[hc]at h;obtain⟨B,f,g,i⟩:=aLg l b a h;exact⟨B,by rw[cond_false];exact f,g,λd=>i λq e=>d q (by simp[e])⟩
variable {q:LI}
theorem aVr {R:eQ}(S:Holds (rY s.nums s.boxes).2)(d:Rep R v q φ s a w):Rep R v q φ (Uw s) a w:=by
 have m:=λb f h=>aLg (ν:=s.nums) s.boxes b f h
 refine⟨⟨?_,?_,?_,?_,d.wd.fresh,d.wd.lt,d.wd.low,d.wd.on,d.wd.base,?_⟩,d.defers,d.tmps⟩
 .intro b f i;obtain⟨B,g,c,P⟩:=m b f i;obtain⟨k,o,A,ys,u,k1,k2,T,U⟩:=d.wd.box b B g;exact⟨k,o,A,ys,u,k1,by rw[c];exact k2,T,by rw[c];exact Zn _ _ (P S) U⟩
 .intro b f k o i p n;obtain⟨B,g,c,_⟩:=m b f i;rw[c]at p;exact d.wd.own b B k o g p n
 .intro b F B f k o W i y n z;obtain⟨D,g,c,_⟩:=m b B i;obtain⟨L,x,j,_⟩:=m F f y
  rcases d.wd.inj b F D L k o W g x n z with e|⟨e1,e2,M,N⟩
  .omega
  .refine A6 ⟨by rw[c];exact e1,by rw[j];exact e2,by rw[c,j];exact M,?_⟩;intro t
   have l:D.tip=I:=by rw[c]at t;exact t
   have:=N l;rw[c,j];simp only[Yr];exact this
 .intro b f i t;obtain⟨B,g,c,_⟩:=m b f i
  have l:B.tip=I:=by rw[c]at t;exact t
  obtain⟨e1,e2⟩:=d.wd.tip b B g l;grind
 .intro b f k o i p r n;obtain⟨B,g,c,_⟩:=m b f i;rw[c]at p r;obtain⟨e1,e2⟩:=d.wd.rF b B k o g p r n;refine⟨e1,?_⟩;rw[c];simp only[Yr];exact e2
def mC:List (Int×Nat)->List Nat->List (Int×Nat)
 |(z,_)::r,N::a=>(z,N)::mC r a
 |l,_=>l
def oI:List (Int×Nat)->List Nat->List Prop
 |(z,_)::r,N::a=>Bits N z::oI r a
 |_,_=>[]
def Hl (a:NU)(s:AS):AS:={s with nums:=mC s.nums a}
theorem aTm:∀(l:LV) (d:NU) (i:Nat) (z:Int) (n:Nat),l[i]?=Y (z,n)->Bits n z->Holds (oI l d)->∃m,(mC l d)[i]?=Y (z,m)/\Bits m z
 | [],_,i,z,n,h,_,_=>by simp at h
 |(y,k)::r,[],i,z,n,h,a,_=>⟨n,by simpa[mC]using h,a⟩
 |(y,k)::r,N::c,0,z,n,h,a,b=>by
  obtain⟨rfl,rfl⟩:=h;exact⟨N,by simp[mC],b _ (by simp[oI])⟩
 |(y,k)::r,N::c,i+1,z,n,h,a,b=>by
  obtain⟨m,e,f⟩:=aTm r c i z n (by simpa using h) a (λq g=>b q (by simp[oI,g]));exact⟨m,by simpa[mC]using e,f⟩
theorem aPU:∀(l:LV) (c:NU) (i:Nat) (z:Int) (n:Nat),l[i]?=Y (z,n)->∃m,(mC l c)[i]?=Y (z,m)
 | [],_,i,z,n,h=>by simp at h
 |(y,k)::r,[],i,z,n,h=>⟨n,by simpa[mC]using h⟩
 |(y,k)::r,N::a,0,z,n,h=>by
  obtain⟨rfl,rfl⟩:=h;exact⟨N,by simp[mC]⟩
 |(y,k)::r,N::a,i+1,z,n,h=>by
  obtain⟨m,b⟩:=aPU r a i z n (by simpa using h);exact⟨m,by simpa[mC]using b⟩
variable {ν:LV}
theorem Yq (g:Holds (oI ν y))(c:AC)(x:Value)(r:relC Z φ ν v c x):relC Z φ (mC ν y) v c x:=by
 cases c<;>try exact r
 .obtain⟨z,n,a,b⟩:=r;obtain⟨m,d⟩:=aPU ν y _ z n a;exact⟨z,m,d,b⟩
 .obtain⟨z,n,a,b,d⟩:=r;obtain⟨m,e,f⟩:=aTm ν y _ z n a d g;exact⟨z,m,e,b,f⟩
theorem aHM (b:Holds (oI ν y))(a:AV)(x:Value)(r:dJ Z φ ν v a x):dJ Z φ (mC ν y) v a x:=by
 cases a with
 |one c=>exact Yq b c x r
 |agg cs=>obtain⟨d,e,h⟩:=r;exact⟨d,e,h.mono (Yq b)⟩
theorem aR1 (b:Holds (oI ν y))(t:AT)(x:Value)(r:relT Z φ ν v t x):relT Z φ (mC ν y) v t x:=by
 cases t with
 |top=>trivial
 |fB=>exact r
 |val a=>exact aHM b a x r
 |tup f=>obtain⟨d,e,h⟩:=r;exact⟨d,e,h.mono (aHM b)⟩
 |lU c a=>
  simp only[relT]at r ⊢
  cases c with
  |true=>simp at r ⊢;exact aHM b a x r
  |false=>simpa using r
theorem aPT (f:Holds (oI s.nums y))(c:Rep Z v q φ s a w):Rep Z v q φ (Hl y s) a w:=by
 refine⟨⟨?_,c.wd.own,c.wd.inj,c.wd.tip,c.wd.fresh,c.wd.lt,c.wd.low,c.wd.on,c.wd.base,c.wd.rF⟩,c.defers,c.tmps.mono (aR1 f)⟩;intro b B g;obtain⟨k,o,e,j,d,k1,k2,h,i⟩:=c.wd.box b B g;exact⟨k,o,e,j,d,k1,k2,h,i.mono (Yq f)⟩
def turnS (c d:NU)(nx:Nat)(a:NU)(s:AS):Option (AS×List Prop):=
 (norm c d nx (Uw s)).map λb=>(Hl a b,(rY s.nums s.boxes).2++oI b.nums a)
theorem aL7 {e:LI}{nx:Nat}{m:NU}{g:AS}{p:List Prop}(h:turnS y l nx m s=Y (g,p))(f:Holds p)(d:∀b x,e b=Y x->y.contains b=I)(k:Rep Z v e φ s a w):Rep Z v e (rst y φ) g a w:=by
 obtain⟨t,i,j⟩:=bI h;cases j;exact aPT (λq c=>f q (by simp[c])) (aPi i d (aVr (λq c=>f q (by simp[c])) k))
inductive LT where
 |ret (g:RG)
 |again (ks:List (K (List AT))) (s:AS)
 |br (t:Bool) (a b:LT)
 |need (p:List Prop) (o:LT)
def LT.ok (P:RG->Prop)(Q:List (K (List AT))->AS->Prop):LT->Prop
 |.ret g=>P g
 |.again c s=>Q c s
 |.br t a b=>(t=I->a.ok P Q)/\(t=J->b.ok P Q)
 |.need p o=>Holds p/\o.ok P Q
def Nf (k:Bool):RV->Option RG
 |.val v=>(gT k v).map λg=>.one g.1
 |.tup b=>(gB (gT k) b).map λa=>.tup (a.map (·.1))
def pO (k:Bool)(c d:NU)(nx:Nat)(e:NU):Tr->Option LT
 |.ret r s=>bif clean s then((rvOf s.nums r).bind (Nf k)).map .ret else X
 |.br t a b=>(pO k c d nx e a).bind λx=>(pO k c d nx e b).map λy=>.br t x y
 |.need p t=>(pO k c d nx e t).map (.need p)
 |.stop f s=>(turnS c d nx e s).map λx=>match x.2 with| []=>.again f x.1|p::g=>.need (p::g) (.again f x.1)
def isL (k:Bool)(P:RG->Prop)(r:AT)(s:AS):Prop:=clean s=I/\∃a g,rvOf s.nums r=Y a/\Nf k a=Y g/\P g
def isN (b d:NU)(nx:Nat)(e:NU)(Q:List (K (List AT))->AS->Prop)(c:List (K (List AT)))(s:AS):Prop:=∃a p,turnS b d nx e s=Y (a,p)/\Holds p/\Q c a
theorem Rr {k:Bool}{y l:NU}{nx:Nat}{m:NU}{P:RG->Prop}{Q:List (K (List AT))->AS->Prop}:∀{o:Tr} {lt:LT},pO k y l nx m o=Y lt->lt.ok P Q->o.ok (isL k P) (isN y l nx m Q)
 |.ret r s,lt,h,d=>by
  simp only[pO]at h
  cases hc:clean s with
  |false=>rw[hc]at h;cases h
  |true=>
   rw[hc]at h;obtain⟨g,f,rfl⟩:=bI h;obtain⟨v,i,j⟩:=aK f;exact⟨hc,v,g,i,j,d⟩
 |.br t a b,lt,h,d=>by
  obtain⟨x,f,i⟩:=aK h;obtain⟨c,j,rfl⟩:=bI i;exact⟨λe=>Rr f (d.1 e),λe=>Rr j (d.2 e)⟩
 |.need p t,lt,h,d=>by
  obtain⟨x,f,rfl⟩:=bI h;exact⟨d.1,Rr f d.2⟩
 |.stop w s,lt,h,d=>by
  obtain⟨⟨n,q⟩,f,i⟩:=bI h
  cases q with
  |nil=>
   subst i;exact⟨n,[],f,fX,d⟩
  |cons p u=>
   subst i;exact⟨n,p::u,f,d.1,d.2⟩
variable {rb:NU}
theorem Tq {N:Spec}{g:AW}{R:EW}(i:SpecOk Z v q N)(z:bS Z g){P:RG->Prop}(hG:∀r s φ d w,isL k P r s->relT Z φ s.nums w r d->RepW Z v q φ s w->R (.returned d) w){b:Code}{h:List (K (List AT))}(A:noFr h=I){nx:Nat}(F:∀b x,q b=Y x->y.contains b=I)(c:Nat->AS->Prop)
  (hI:∀m s,c m s->∀n,∃f lt,(run Z N g (aL Z N) qY f (.code b::.lp b n::h) s).bind (pO k y kt nx rb)=Y lt/\lt.ok P λT U=>T=.lp b n::h/\∃u,u<m/\c u U):
  ∀(m n:Nat) (s:AS),c m s->m<n->∀(e:List (K Act)) (φ:LI) (a:Act) (w:World),SR Z φ s.nums w (.lp b n::h) e->Rep Z v q φ s a w->gJ Z.P R e .normal a w:=by
 intro m
 induction m using Nat.strongRecOn with
 |_ m ih=>
  intro n s hs ah e φ a w D hr
  cases n with
  |zero=>omega
  |succ n=>
   match e,D with
   |.lp t n'::e,⟨e1,e2,l⟩=>
    subst e1 e2;obtain⟨f,lt,h1,h2⟩:=hI m s hs n;obtain⟨tr,h3,h4⟩:=aK h1
    have L:gJ Z.P R (.code t::.lp t n::e) .normal a w:=by
     refine Bj i z (uH mixed i) (isL k P) _ ?_ hG f _ s tr h3 (Rr h4 h2) (.code t::.lp t n::e) φ a w ⟨rfl,rfl,rfl,l⟩ hr;rintro T U⟨M,p,hn,hp,rfl,u,B,hi⟩ o S W w' j C;exact ih u B n M hi O o (rst y S) W w' (SR.any (by simpa[noFr]using A) j) (aL7 hn hp F C)
    exact L
variable {l:List (FuncId×TE)}
theorem Vb (hl:cK Z l){p:Spec}(x:∀w0 M,SpecOk Z w0 M p){b:AW}(q:bS Z b){j:Func}(d:Fn W j){C:List Nat->Nat}(g:∀c ns out,F c=Y out->Holds (nd c)->pS c ns->pS c y->RGB (C ns) out)
  (h:∀c out,F c=Y out->∃B,((run Z (gI p (aE l)) b (aL Z (gI p (aE l))) (λ_=>J) 2000 [.code (aG j),.top j] (start j (fP k c y))).bind outcome).bind (zM k)=Y (B,out)/\(Holds (nd c)->pS c y->Holds B)):bD Z W (fI k F nd C y):=by
 refine Ex d.en g λc out hF u r w L z=>?_
 obtain⟨B,N,R⟩:=h c out hF;obtain⟨o,S,T⟩:=aK N;obtain⟨tr,U,h6⟩:=aK S
 have hA:At (eB 0 (fP k c y)).2 0 (eB 0 (fP k c y)).2:=λi a hy=>by rw[r8];exact hy
 have D:SpecOk Z w (λ_=>X) (gI p (aE l)):=Fp (x _ _) (dX hl);obtain⟨n0,t⟩:=mW.someB out
 have A:Calls Z.P W L.toArray w λe m=>∃v,e=.returned v/\RRV Z m (xS k n0 out) v/\Below w.heap.size w m:=by
  refine kQ (ψ:=λ_=>X) (φ:=λ_=>X) D q (uH mixed D) d.at' d.body rfl (Fv _ 0 L hA z) (Kq j _ w) 2000 U _ (λ_ _=>False) (λ_ _ h=>h.elim) (yM h6 (Rq T (R u r) t)) ?_;rintro r0 s φ v m⟨hc,r',h7,h8⟩ hr hw;exact⟨v,rfl,h8 m v (Bh h7 hr),RepF.below hw hc⟩
 refine A.mono ?_;rintro e m⟨v,rfl,hv,hb⟩;exact⟨v,rfl,λn hn=>mW.anyB hv hn,hb⟩
theorem aL4 {m:List G->Option RG}{d:List G->List Prop}{o g:List Nat->Nat}(h:bD Z W (fI k F nd o y))(C:∀a out,m a=Y out->Holds (d a)->pS a y->F a=Y out/\Holds (nd a))(c:∀a ns out,m a=Y out->Holds (d a)->pS a ns->pS a y->RGB (g ns) out):bD Z W (fI k m d g y):=by
 refine⟨h.1,λx r p n u w z i=>?_⟩;obtain⟨l,s,j⟩:=aK n
 cases b:mR (l.map (·.2)) y with
 |false=>rw[b]at j;cases j
 |true=>
  rw[b]at j;obtain⟨out,t,B⟩:=bI j;cases B;obtain⟨L,A,q⟩:=Qm x l y z s b i;obtain⟨k1,k2⟩:=C _ out t u q;refine(h.2 x (xS k (o (l.map (·.2))) out) (nd (l.map (·.1))) (by unfold fI;rw[s];simp only[Option.bind_some,b,cond_true,k1,Option.map_some]) k2 w z i).mono ?_;rintro e M⟨v,rfl,hv,D⟩;exact⟨v,rfl,mW.anyB hv (c _ _ out t u A q),D⟩
theorem Va (hl:cK Z l){B:Spec}(U:∀w0 ψ,SpecOk Z w0 ψ B){d:Func}(q:Fn W d)(u:∀j ns out,F j=Y out->Holds (nd j)->pS j ns->pS j y->RGB (bo ns) out)
  {kb:NU} {nx:Nat}  (D:noFr (Jj (aG d) d)=I)
  (h:∀ j out,F j=Y out->Holds (nd j)->pS j y->∃ b:Nat->AS->Prop,
   (∃n lt,(run Z (gI B (aE l)) (λ_=>X) (aL Z (gI B (aE l))) Bm n [.code (aG d),.top d] (start d (fP k j y))).bind (pO k kb kt nx rb)=Y lt/\lt.ok (λg=>g=out) λM s=>M=.code (.loop (Fa (aG d) d))::Jj (aG d) d/\∃m,b m s)/\
   ∀m s,b m s->∀n,∃W lt,(run Z (gI B (aE l)) (λ_=>X) (aL Z (gI B (aE l))) qY W (.code (Fa (aG d) d)::.lp (Fa (aG d) d) n::Jj (aG d) d) s).bind (pO k kb kt nx rb)=Y lt/\lt.ok (λg=>g=out) λM s'=>M=.lp (Fa (aG d) d) n::Jj (aG d) d/\∃m',m'<m/\b m' s'):bD Z W (fI k F nd bo y):=by
 refine Ex q.en u λj out hF P N w vs ab=>?_
 obtain⟨b,⟨n,lt,C,h2⟩,hI⟩:=h j out hF P N;obtain⟨tr,h3,h4⟩:=aK C
 have hA:At (eB 0 (fP k j y)).2 0 (eB 0 (fP k j y)).2:=λi c hy=>by rw[r8];exact hy
 have T:SpecOk Z w (λ_=>X) (gI B (aE l)):=Fp (U _ _) (dX hl)
 have hG:∀r s φ v o,isL k (λg=>g=out) r s->relT Z φ s.nums o r v->RepW Z w (λ_=>X) φ s o->(λ(e:Ending) (o:World)=>∃v,e=.returned v/\(∀n,RGB n out->RRV Z o (xS k n out) v)/\Below w.heap.size w o) (.returned v) o:=by
  rintro r s φ v o⟨hc,r',g,g1,g2,rfl⟩ S hw;exact⟨v,rfl,λn A=>rgOf_ok g2 (Bh g1 S) A,RepF.below hw hc⟩
 refine kQ T bO (uH mixed T) q.at' q.body rfl (Fv _ 0 vs hA ab) (Kq d _ w) n h3 (isL k λg=>g=out) _ ?_ (Rr h4 h2) hG;rintro M s'⟨ad,p,A,hp,rfl,m,hi⟩ z ae a o aa S
 match z,aa with
 |.code c'::z,⟨e,L⟩=>
  subst e;have:=Tq (R:=λ(e:Ending) (o:World)=>∃v,e=.returned v/\(∀n,RGB n out->RRV Z o (xS k n out) v)/\Below w.heap.size w o) T bO hG D (λ_ _ e=>by cases e) b hI m (m+1) ad hi O (.lp (Fa (aG d) d) (m+1)::z) (rst kb ae) a o ⟨rfl,rfl,SR.any D L⟩ (aL7 A hp (λ_ _ e=>by cases e) S);exact wp_loop_rounds (m+1) this
where
 rgOf_ok {k:Bool} {w:World} {r:RV} {g:RG} {v:Value} (h:Nf k r=Y g) (hv:RRV Z w r v) {n:Nat} (A:RGB n g):RRV Z w (xS k n g) v:=by
  cases r with
  |val t=>
   obtain⟨⟨x,m⟩,C,rfl⟩:=bI h;exact(Pb C hv).2 n A
  |tup vs=>
   obtain⟨j,C,rfl⟩:=bI h;obtain⟨xs,e,hx⟩:=hv;exact⟨xs,e,aHz C A hx⟩
end Ab
variable {xs:LB}
theorem Nm.Ii {i:Nat}(h:¬i<xs.length):Nm.at' xs i=0:=by
 unfold Nm.at';grind
variable {x:LB}{k:Nat}
theorem Nm.aKo (h:k<x.length)(a:Nm.at' x k=0):Nm.strip (x.take (k+1))=Nm.strip (x.take k):=by
 rw[o9 h];unfold Nm.at' at a;rw[p5,p6 h]at a;rw[show x[k]=0 from a,Nm.Nu]
theorem Nm.aKn (h:k<x.length)(a:Nm.at' x k≠0):Nm.strip (x.take (k+1))=x.take (k+1):=by
 rw[o9 h];unfold Nm.at' at a;rw[p5,p6 h]at a;exact Nm.Od _ a
theorem Ek (w:World)(a:LB)(v:Value)(B:Nat)(h:cG B w a v)(t:a.length<=100000000000):
  Calls prog 157 #[v] w λe p=>e=.returned (.int .i64 (Nm.strip a).length)/\w=p:=by
 obtain⟨q,j,rfl,f⟩:=h.shape;have i:=hid h;clear h
 go_in
 go_wp2_with fail
 go_loop [3] (λn=>∃k:Nat,k<=a.length/\n=.int .i64 k/\Nm.strip (a.take k)=Nm.strip a) (λn=>(intOf n).toNat)
 case atStart=>exact⟨a.length,s7 _,rfl,by rw[p8]⟩
 case round=>
  obtain⟨k,s,rfl,m⟩:=hrel;have b:=hid m
  cases k with
  |zero=>
   have o:Hid (Nm.strip a=[]):=by have:=b.out;rw[<-this];rfl
   go_wp2_with fail
   go_ret
   exact⟨by rw[o.out];rfl,rfl⟩
  |succ k=>
   obtain⟨g,rfl,hc⟩:=i.out.place O;have l:=hc k O
   by_cases d:Nm.at' a k=0
   .have c:=hid (Nm.aKo O d)
    go_wp2_with fail
    go_round
    case rel=>exact⟨k,O,E4,by rw[<-c.out,b.out]⟩
    case measure=>simp[intOf]
   .have r:(Nm.at' a k==0)=J:=by simpa using d
    go_wp2_with fail
    go_ret
    exact⟨by rw[(hid (show(Nm.strip a).length=k+1 by rw[<-b.out,Nm.aKn O d,q8];omega)).out];rfl,rfl⟩
def Cs (w:World)(N:Int)(m d:Value)(wr:World):Prop:=
 ∃(k:Int) (done:LB),m=.int .u64 k/\0<=k/\k<=N/\done.length<=2/\wr.ownsRow w.heap.size 192 1 d done.length (done.map (Value.int .u32))/\Below w.heap.size w wr/\bZ 4294967296 done/\(k=0->Top done)/\Nm.val 4294967296 done+k*4294967296^done.length=N/\(done.length=1->k<4294967296)/\(2<=done.length->k=0)
theorem Vr (N:Int)(w:World)(F:0<=N)(U:N<18446744073709551616):Calls prog 137 #[.int .u64 N] w (dA w λB=>Nm.Good 4294967296 B/\Nm.val 4294967296 B=N/\B.length<=2):=by
 obtain⟨i,hi,T,n,z⟩:=info_parts kE
 go_in
 go_wp2_with fail
 go_loopw [0,3] (λm d wr=>Cs w N m d wr) (λm _ _=>(intOf m).toNat)
 case atStart=>
  exact⟨N,[],rfl,F,Int.le_refl _,E4,(⟨rfl,A6 ⟨w.heap.size,0,#[],rfl,s7 _,yR _ _,s7 _,E3,rfl,rfl⟩⟩),aU (Below.refl _ _) O _,bZ.nil _,λ_=>Top.nil,by simp[Nm.val],λh=>by simp at h,λh=>by simp at h⟩
 case round=>
  obtain⟨k,done,rfl,k0,k1,M,c,b,s,g,j,t,v⟩:=hrel;have y:=hid j;have C:=hid g;have x:=hid s;have a:=hid b;have o:=hid t;have p:=hid v;have S:=b.size;clear j g s b t v
  by_cases L:(0:Int)<k
  .have R:done.length<=1:=by have:=p.out;omega
   go_wp2_with (at_builtin;refine wpList_append_own _ rfl _ _ 123 rfl _ 192 i (.int .u32 0) 1 4 underlying123 hi T n z rfl E3 _ _ _ rfl (c.alloc _) ⟨wr.heap.size,0,X⟩ 1 1 [.int .u32 (k%4294967296)] rfl rfl (cell_one_new _ _ _) (λu D=>by simp at D;subst D;rfl) (by unfold maxLen;omega) O (by simp;omega) ?_;intro W w3 l f A)
   go_roundw
   case rel=>
    refine⟨k/4294967296,done++[k%4294967296],rfl,O,O,by simp;omega,by simpa using l,qT c a.out a.out.size _ f,x.out.snoc O O,?_,?_,?_,?_⟩
    .intro h;exact Nm.aL6 O
    .rw[Nm.Ev,<-y.out,List.length_append,List.length_singleton,zq5];have e:=Int.emod_add_mul_ediv k 4294967296;generalize k%4294967296=r at*;generalize k/4294967296=q at*;generalize (4294967296:Int)^done.length=P at*;clear y C x a o p;grind
    .intro h;omega
    .intro h;simp at h;have:=o.out O;omega
   case measure=>simp[intOf];omega
  .obtain rfl:k=0:=O
   go_wp2_with fail
   go_ret
   refine⟨_,done,rfl,⟨⟨x.out,C.out E4⟩,by have:=y.out;simpa using this,M⟩,c,a.out⟩
def Lg (W:World)(a b:LB)(i:Value)(wr:World):Prop:=
 ∃k:Nat,k<=a.length/\i=.int .i64 ((k:Int)-1)/\a.drop k=b.drop k/\Below W.heap.size W wr
theorem Qe (w:World)(a b:LB)(u v:Value)(r:Lims w a u)(s:Lims w b v)(N:a.length<=100000000000)(t:Nm.Good 4294967296 a)(x:Nm.Good 4294967296 b):
  Calls prog 192 #[u,v] w λe P=>e=.returned (.int .i64 (Nm.cmp (Nm.val 4294967296 a) (Nm.val 4294967296 b)))/\Below w.heap.size w P:=by
 obtain⟨S,M,rfl,B⟩:=r.shape;obtain⟨T,L,rfl,A⟩:=s.shape;have D:=hid r;have F:=hid s;have n:=hid t;have GB:=hid x;clear r s t x
 by_cases c1:(a.length:Int)<b.length
 .rw[iQ (Kb E3 n.out.cP GB.out O)]
  go_in
  go_wp2_with fail
  go_ret
  exact⟨rfl,Below.refl _ _⟩
 .by_cases c3:(b.length:Int)<a.length
  .rw[gW (Kb E3 GB.out.cP n.out O)]
   go_in
   go_wp2_with fail
   go_ret
   exact⟨rfl,Below.refl _ _⟩
  .have d:a.length=b.length:=O
   clear c3 c1;rw[<-d];have f:=hid d;clear d
   go_in
   go_wp2_with fail
   go_loopw [5] (λi wr=>Lg w a b i wr) (λi _=>(intOf i+1).toNat)
   case atStart=>exact⟨a.length,s7 _,rfl,by rw[q9,f.out,q9],Below.refl _ _⟩
   case round=>
    obtain⟨k,W,rfl,C,h⟩:=hrel;have o:=hid C;have c:=hid h;clear C h
    cases k with
    |zero=>
     have l:Hid (Nm.cmp (Nm.val 4294967296 a) (Nm.val 4294967296 b)=0):=jQ (by have:=o.out;simp at this;rw[this])
     go_wp2_with fail
     go_ret
     exact⟨by rw[l.out];rfl,c.out⟩
    |succ k=>
     obtain⟨g,rfl,hc⟩:=(D.out.below c.out).place O;obtain⟨U,rfl,j⟩:=(F.out.below c.out).place (by rw[<-f.out];omega);have x1:=hc k O;have R:=j k (by rw[<-f.out];omega);clear hc j
     have m:k<b.length:=by rw[<-f.out];omega
     by_cases e1:Nm.at' a k<Nm.at' b k
     .have l:Hid (Nm.cmp (Nm.val 4294967296 a) (Nm.val 4294967296 b)=-1):=iQ (Yi E3 n.out.cP GB.out.cP k o.out e1 O m);generalize Nm.at' a k=y at*;generalize Nm.at' b k=z at*
      go_wp2_with fail
      go_quiet (fail)
      go_wp2_with fail
      go_ret
      exact⟨by rw[l.out];rfl,below_drewN c.out _⟩
     .by_cases e2:Nm.at' b k<Nm.at' a k
      .have l:Hid (Nm.cmp (Nm.val 4294967296 a) (Nm.val 4294967296 b)=1):=gW (Yi E3 GB.out.cP n.out.cP k o.out.symm e2 m O);generalize Nm.at' a k=y at*;generalize Nm.at' b k=z at*
       go_wp2_with fail
       go_quiet (fail)
       go_wp2_with fail
       go_quiet (fail)
       go_wp2_with fail
       go_ret
       exact⟨by rw[l.out];rfl,by first|exact below_drewN c.out _|exact below_drewN (below_drewN c.out _) _⟩
      .have q:Nm.at' a k=Nm.at' b k:=O
       have p:=hid (Nm.aLf f.out O o.out q);rw[<-q]at R;clear e1 e2 q;generalize Nm.at' a k=y at*
       go_wp2_with fail
       go_quiet (fail)
       go_wp2_with fail
       go_quiet (fail)
       go_wp2_with fail
       go_roundw
       case rel=>exact⟨k,O,E4,p.out,by first|exact below_drewN c.out _|exact below_drewN (below_drewN c.out _) _⟩
       case measure=>simp[intOf]
variable {l:LB}
theorem Nm.Xy {x:Int}(h:k<l.length):(l.set k x).take (k+1)=l.take k++[x]:=by
 rw[o9 (by simpa using h),List.take_set_of_le O];simp
variable {n:Int}{w:Nat}{a b:LB}
theorem Nm.aLD {c:Int}(g:2<=n){out:LB}(s:out.length=w+1)(hd:bZ n out)(j:a.length<=w)(k:b.length<=w)(d:bZ n a)(e:bZ n b)(c0:0<=c)
  (h:Nm.val n (out.take (w+1))+c*n^(w+1)=Nm.val n (a.take (w+1))+Nm.val n (b.take (w+1))):Nm.val n out=Nm.val n a+Nm.val n b:=by
 rw[zY n out O,zY n a O,zY n b O]at h;have l:=vC O d;have m:=vC O e;have o:=sP (B:=n) O j;have p:=sP (B:=n) O k;have q:=Nm.oY O hd;have i:=Nm.nF (B:=n) O w;have r:=Int.mul_le_mul_of_nonneg_right g (Int.le_of_lt i);rw[zq5,u6 (n^w) n]at h
 have f:c*(n*n^w)<1*(n*n^w):=O
 have h8:=Int.lt_of_mul_lt_mul_right f O;grind
variable {v:World}
theorem dI.used {G:Nat}(h:dI v G x)(e:x.length<=100000000000){B:Nat}(d:B<=G):cG B v (Nm.strip x) (.slice (Y ⟨G,0,X⟩) (Nm.strip x).length x.length):=by
 obtain⟨a,c,b⟩:=h;refine⟨E4,A6 ⟨G,x.length,a,rfl,d,c,(wQ x),by unfold maxLen;omega,?_,?_⟩⟩
 .rw[<-Array.length_toList,b];simp
 .rw[b,Nat.mul_one,<-List.map_take,<-Nm.aEQ]
def vG (w:World)(a b:LB)(N:Nat)(c i:Value)(wr:World):Prop:=
 ∃(k:Nat) (d:Int) (out:LB),i=.int .i64 k/\c=.int .u64 d/\0<=d/\d<=1/\k<=N+1/\dI wr w.heap.size out/\out.length=N+1/\bZ 4294967296 out/\Below w.heap.size w wr/\
  Nm.val 4294967296 (out.take k)+d*4294967296^k=Nm.val 4294967296 (a.take k)+Nm.val 4294967296 (b.take k)
theorem aFA {wr:World}{out:LB}{x:Int}(c0:0<=n)(c1:n<=1)(l:k<w+1)(d:dI wr v.heap.size out)(f:out.length=w+1)(e:bZ 4294967296 out)(c:Below v.heap.size v wr)(h:bZ 4294967296 a)(i:bZ 4294967296 b)
  (g:Nm.val 4294967296 (out.take k)+n*4294967296^k=Nm.val 4294967296 (a.take k)+Nm.val 4294967296 (b.take k)) (j:x=n+Nm.at' a k+Nm.at' b k):
  vG v a b w (.int .u64 (x/4294967296)) (.int .i64 ((k:Int)+1)) (wr.setCell ⟨v.heap.size,k,X⟩ (.int .u32 (x%4294967296))):=by
 have a0:=h.at' E3 k;have b0:=i.at' E3 k;refine⟨k+1,x/4294967296,out.set k (x%4294967296),E4,rfl,O,O,O,d.set _ _,by simpa using f,e.set _ O O,c.setCell E4 _,?_⟩;rw[Nm.Xy O];exact Nm.aIP (by rw[q8];omega) g j
theorem aJy (w:World)(a b:LB)(u v:Value)(D:Lims w a u)(F:Lims w b v)(ai:a.length<=10000000000)(aj:b.length<=10000000000)(C:bZ 4294967296 a)(s:bZ 4294967296 b)(al:(a.length:Int)<b.length):
  Calls prog 159 #[u,v] w (dA w λt=>Nm.Good 4294967296 t/\Nm.val 4294967296 t=Nm.val 4294967296 a+Nm.val 4294967296 b):=by
 obtain⟨ao,af,rfl,U⟩:=D.shape;obtain⟨bo,ae,rfl,T⟩:=F.shape;have L:=run_make_row' 123 192 (.int .u32 0) 4 underlying123 kE rfl .i64 .i64 (b.length+1) O O;rw[show((b.length+1:Nat):Int)=(b.length:Int)+1 by omega]at L;have W:=hid D;have N:=hid F;have z:=hid C;have GB:=hid s;clear D F C s
 go_in
 go_wp2_with fail
 go_loopw [7,8] (λc i wr=>vG w a b b.length c i wr) (λ_ i _=>b.length+1-(intOf i).toNat)
 case atStart=>exact⟨0,0,r5 (b.length+1) 0,rfl,rfl,O,O,O,dI.made w _,E4,bZ.jO E3 _,aU (Below.refl _ _) O _,rfl⟩
 case round=>
  obtain⟨k,cc,out,rfl,rfl,c0,c1,hk,g,d,j,f,l⟩:=hrel
  by_cases ak:(k:Int)<(b.length:Int)+1
  .have k1:=g.cell k O;have k2:=g.frozen k;have ST:=hid (λx hx=>aFA (x:=x) c0 c1 O g d j f z.out GB.out l hx);have a0:=z.out.at' E3 k;have b0:=GB.out.at' E3 k;have R:=hid d
   by_cases g1:(k:Int)<a.length
   .obtain⟨C,rfl,r⟩:=(W.out.below f).place O;have x1:=r k O;clear r
    by_cases g2:(k:Int)<b.length
    .obtain⟨s,rfl,m⟩:=(N.out.below f).place O;have x2:=m k O;clear m l d j f g;generalize Nm.at' a k=x at*;generalize Nm.at' b k=y at*;generalize Nm.at' out k=o at*;obtain⟨a1,a2⟩:=a0;obtain⟨b1,b2⟩:=b0
     go_wp2_with fail
     go_roundw
     case rel=>exact ST.out _ O
     case measure=>simp[intOf];omega
    .exfalso;omega
   .have e1:=Nm.Ii (xs:=a) (i:=k) O
    by_cases g2:(k:Int)<b.length
    .obtain⟨s,rfl,m⟩:=(N.out.below f).place O;have x2:=m k O;clear m l d j f g;generalize Nm.at' a k=x at*;generalize Nm.at' b k=y at*;generalize Nm.at' out k=o at*;obtain⟨b1,b2⟩:=b0;have p:=hid e1;clear e1 a0
     go_wp2_with fail
     go_roundw
     case rel=>exact ST.out _ (by have:=p.out;omega)
     case measure=>simp[intOf];omega
    .have e2:=Nm.Ii (xs:=b) (i:=k) O;clear l d j f g;generalize Nm.at' a k=x at*;generalize Nm.at' b k=y at*;generalize Nm.at' out k=o at*;have p:=hid e1;have A:=hid e2;clear e1 a0 e2 b0
     go_wp2_with fail
     go_roundw
     case rel=>
      have h:=ST.out cc (by have:=p.out;have:=A.out;omega)
      first
       |exact h
       |(rw[u7 c0 O]at h;exact h)
       |(rw[u7 c0 O,u9 c0 O]at h;exact h)
     case measure=>simp[intOf];omega
  .obtain rfl:k=b.length+1:=O
   have HE:=hid (Nm.aLD E3 d j O O z.out GB.out c0 l);have S:=hid (Ek wr out _ 0 (g.rR O) O);rw[d]at S;have M:=wQ out;rw[d]at M;have P:=hid (g.used (B:=w.heap.size) O O);rw[d]at P;have HD:=hid j;have q:=hid f;clear l d j f g;generalize hn:(Nm.strip out).length=n at*;clear hn
   go_wp2_with fail
   refine(S.out).mono ?_;rintro e w1⟨rfl,rfl⟩
   go_wp2_with fail
   go_ret
   exact⟨_,Nm.strip out,rfl,⟨wR HD.out,by rw[uZ,HE.out]⟩,P.out,q.out⟩
theorem aJx (w:World)(a b:LB)(u v:Value)(D:Lims w a u)(F:Lims w b v)(ai:a.length<=10000000000)(aj:b.length<=10000000000)(A:bZ 4294967296 a)(C:bZ 4294967296 b)(al:¬(a.length:Int)<b.length):
  Calls prog 159 #[u,v] w (dA w λs=>Nm.Good 4294967296 s/\Nm.val 4294967296 s=Nm.val 4294967296 a+Nm.val 4294967296 b):=by
 obtain⟨ao,af,rfl,T⟩:=D.shape;obtain⟨bo,ae,rfl,S⟩:=F.shape;have L:=run_make_row' 123 192 (.int .u32 0) 4 underlying123 kE rfl .i64 .i64 (a.length+1) O O;rw[show((a.length+1:Nat):Int)=(a.length:Int)+1 by omega]at L;have U:=hid D;have W:=hid F;have t:=hid A;have GB:=hid C;clear D F A C
 go_in
 go_wp2_with fail
 go_loopw [7,8] (λc i wr=>vG w a b a.length c i wr) (λ_ i _=>a.length+1-(intOf i).toNat)
 case atStart=>exact⟨0,0,r5 (a.length+1) 0,rfl,rfl,O,O,O,dI.made w _,E4,bZ.jO E3 _,aU (Below.refl _ _) O _,rfl⟩
 case round=>
  obtain⟨k,cc,out,rfl,rfl,c0,c1,hk,f,d,j,g,l⟩:=hrel
  by_cases ak:(k:Int)<(a.length:Int)+1
  .have k1:=f.cell k O;have k2:=f.frozen k;have ST:=hid (λx hx=>aFA (x:=x) c0 c1 O f d j g t.out GB.out l hx);have a0:=t.out.at' E3 k;have b0:=GB.out.at' E3 k;have P:=hid d
   by_cases g1:(k:Int)<a.length
   .obtain⟨A,rfl,q⟩:=(U.out.below g).place O;have x1:=q k O;clear q
    by_cases g2:(k:Int)<b.length
    .obtain⟨C,rfl,r⟩:=(W.out.below g).place O;have x2:=r k O;clear r l d j g f;generalize Nm.at' a k=x at*;generalize Nm.at' b k=y at*;generalize Nm.at' out k=o at*;obtain⟨a1,a2⟩:=a0;obtain⟨b1,b2⟩:=b0
     go_wp2_with fail
     go_roundw
     case rel=>exact ST.out _ O
     case measure=>simp[intOf];omega
    .have e2:=Nm.Ii (xs:=b) (i:=k) O;clear l d j g f;generalize Nm.at' a k=x at*;generalize Nm.at' b k=y at*;generalize Nm.at' out k=o at*;obtain⟨a1,a2⟩:=a0;have m:=hid e2;clear e2 b0
     go_wp2_with fail
     go_roundw
     case rel=>exact ST.out _ (by have:=m.out;omega)
     case measure=>simp[intOf];omega
   .have e1:=Nm.Ii (xs:=a) (i:=k) O
    by_cases g2:(k:Int)<b.length
    .exfalso;omega
    .have e2:=Nm.Ii (xs:=b) (i:=k) O;clear l d j g f;generalize Nm.at' a k=x at*;generalize Nm.at' b k=y at*;generalize Nm.at' out k=o at*;have z:=hid e1;have m:=hid e2;clear e1 a0 e2 b0
     go_wp2_with fail
     go_roundw
     case rel=>
      have h:=ST.out cc (by have:=z.out;have:=m.out;omega)
      first
       |exact h
       |(rw[u7 c0 O]at h;exact h)
       |(rw[u7 c0 O,u9 c0 O]at h;exact h)
     case measure=>simp[intOf];omega
  .obtain rfl:k=a.length+1:=O
   have HE:=hid (Nm.aLD E3 d j O O t.out GB.out c0 l);have R:=hid (Ek wr out _ 0 (f.rR O) O);rw[d]at R;have M:=wQ out;rw[d]at M;have N:=hid (f.used (B:=w.heap.size) O O);rw[d]at N;have HD:=hid j;have p:=hid g;clear l d j g f;generalize hn:(Nm.strip out).length=n at*;clear hn
   go_wp2_with fail
   refine(R.out).mono ?_;rintro e w1⟨rfl,rfl⟩
   go_wp2_with fail
   go_ret
   exact⟨_,Nm.strip out,rfl,⟨wR HD.out,by rw[uZ,HE.out]⟩,N.out,p.out⟩
theorem aEW (w:World)(a b:LB)(u v:Value)(g:Lims w a u)(i:Lims w b v)(c:a.length<=10000000000)(d:b.length<=10000000000)(e:bZ 4294967296 a)(f:bZ 4294967296 b):
  Calls prog 159 #[u,v] w (dA w λj=>Nm.Good 4294967296 j/\Nm.val 4294967296 j=Nm.val 4294967296 a+Nm.val 4294967296 b):=by
 by_cases h:(a.length:Int)<b.length
 .exact aJy w a b u v g i c d e f h
 .exact aJx w a b u v g i c d e f h
def Dv (w:World)(a b:LB)(c i:Value)(wr:World):Prop:=
 ∃(k:Nat) (d:Int) (out:LB),i=.int .i64 k/\c=.int .u64 d/\0<=d/\d<=1/\k<=a.length/\dI wr w.heap.size out/\out.length=a.length/\bZ 4294967296 out/\Below w.heap.size w wr/\
  Nm.val 4294967296 (out.take k)+Nm.val 4294967296 (b.take k)=Nm.val 4294967296 (a.take k)+d*4294967296^k
theorem aKp {wr:World}{out:LB}{c' d:Int}(c0:0<=c')(c1:c'<=1)(j:k<a.length)(e:dI wr v.heap.size out)(g:out.length=a.length)(f:bZ 4294967296 out)(c:Below v.heap.size v wr)
  (h:Nm.val 4294967296 (out.take k)+Nm.val 4294967296 (b.take k)=Nm.val 4294967296 (a.take k)+n*4294967296^k) (d0:0<=d) (i:d<4294967296) (hd:d=Nm.at' a k-Nm.at' b k-n+c'*4294967296):
  Dv v a b (.int .u64 c') (.int .i64 ((k:Int)+1)) (wr.setCell ⟨v.heap.size,k,X⟩ (.int .u32 d)):=by
 refine⟨k+1,c',out.set k d,E4,rfl,c0,c1,O,e.set _ _,by simpa using g,f.set _ d0 i,c.setCell E4 _,?_⟩;rw[Nm.Xy O];exact Nm.aIF (by rw[q8];omega) h hd
theorem Ns (w:World)(a b:LB)(u v:Value)(L:Lims w a u)(M:Lims w b v)(ap:a.length<=10000000000)(N:b.length<=a.length)(D:bZ 4294967296 a)(F:bZ 4294967296 b)(t:Nm.val 4294967296 b<=Nm.val 4294967296 a):
  Calls prog 160 #[u,v] w (dA w λR=>Nm.Good 4294967296 R/\Nm.val 4294967296 R=Nm.val 4294967296 a-Nm.val 4294967296 b):=by
 obtain⟨ao,am,rfl,ad⟩:=L.shape;obtain⟨bo,al,rfl,ab⟩:=M.shape;have ar:=run_make_row' 123 192 (.int .u32 0) 4 underlying123 kE rfl .i64 .i64 a.length O O;have HA:=hid L;have HB:=hid M;have GA:=hid D;have GB:=hid F;have z:=hid t;clear L M D F t
 go_in
 go_wp2_with fail
 go_loopw [6,7] (λc i wr=>Dv w a b c i wr) (λ_ i _=>a.length-(intOf i).toNat)
 case atStart=>exact⟨0,0,r5 a.length 0,rfl,rfl,O,O,O,dI.made w _,E4,bZ.jO E3 _,aU (Below.refl _ _) O _,rfl⟩
 case round=>
  obtain⟨k,cc,out,rfl,rfl,c0,c1,hk,f,g,j,h,l⟩:=hrel
  by_cases aq:(k:Int)<a.length
  .have k1:=f.cell k O;have k2:=f.frozen k;have ST:=hid (λW d A C d0 d1 hd=>aKp (c':=W) (d:=d) A C O f g j h l d0 d1 hd);have a0:=GA.out.at' E3 k;have b0:=GB.out.at' E3 k;have T:=hid g;obtain⟨D,rfl,q⟩:=(HA.out.below h).place O;have x1:=q k O;clear q
   by_cases g2:(k:Int)<b.length
   .obtain⟨F,rfl,r⟩:=(HB.out.below h).place O;have x2:=r k O;clear r l g j h f;generalize Nm.at' a k=x at*;generalize Nm.at' b k=y at*;generalize Nm.at' out k=o at*;obtain⟨a1,a2⟩:=a0;obtain⟨b1,b2⟩:=b0
    by_cases hc:x<cc+y
    .go_wp2_with fail
     go_roundw
     case rel=>exact ST.out 1 _ O O O O O
     case measure=>simp[intOf];omega
    .go_wp2_with fail
     go_roundw
     case rel=>exact ST.out 0 _ O O O O O
     case measure=>simp[intOf];omega
   .have e2:=Nm.Ii (xs:=b) (i:=k) O;clear l g j h f;generalize Nm.at' a k=x at*;generalize Nm.at' b k=y at*;generalize Nm.at' out k=o at*;obtain⟨a1,a2⟩:=a0;have p:=hid e2;clear e2 b0
    by_cases hc:x<cc
    .go_wp2_with fail
     go_roundw
     case rel=>exact ST.out 1 _ O O O O (by have:=p.out;omega)
     case measure=>simp[intOf];omega
    .go_wp2_with fail
     go_roundw
     case rel=>exact ST.out 0 _ O O O O (by have:=p.out;omega)
     case measure=>simp[intOf];omega
  .obtain rfl:k=a.length:=O
   have s:(out.take a.length).length=a.length:=by rw[q8];omega
   have HE:=hid (Nm.aLe E3 rfl s (j.take _) c0 z.out N l);have HT:=hid (show out.take a.length=out from List.take_of_length_le O);have U:=hid (Ek wr out _ 0 (f.rR O) O);rw[g]at U;have P:=wQ out;rw[g]at P;have S:=hid (f.used (B:=w.heap.size) O O);rw[g]at S;have HD:=hid j;have m:=hid h;clear l g j h f s;generalize hn:(Nm.strip out).length=n at*;clear hn
   go_wp2_with fail
   refine(U.out).mono ?_;rintro e w1⟨rfl,rfl⟩
   go_wp2_with fail
   go_ret
   exact⟨_,Nm.strip out,rfl,⟨wR HD.out,by rw[uZ,<-HE.out.2,HT.out]⟩,S.out,m.out⟩
theorem Nm.Qs {j:Nat}{x:Int}(h:k≠j):Nm.at' (l.set k x) j=Nm.at' l j:=by
 unfold Nm.at';grind
theorem Nm.aKK (n i:Nat):Nm.at' (r5 n 0) i=0:=by
 unfold Nm.at';grind
def xY (w:World)(S L:LB)(i:Value)(wr:World):Prop:=
 ∃(k:Nat) (out:LB),i=.int .i64 k/\k<=S.length/\dI wr w.heap.size out/\out.length=S.length+L.length/\bZ 4294967296 out/\Below w.heap.size w wr/\Nm.val 4294967296 out=Nm.val 4294967296 (S.take k)*Nm.val 4294967296 L/\(∀t,k+L.length<=t->Nm.at' out t=0)
def Hu (w:World)(S L:LB)(i:Nat)(c b:Value)(wr:World):Prop:=
 ∃(j:Nat) (a:Int) (out:LB),b=.int .i64 j/\c=.int .u64 a/\0<=a/\a<4294967296/\j<=L.length/\dI wr w.heap.size out/\out.length=S.length+L.length/\bZ 4294967296 out/\Below w.heap.size w wr/\
  Nm.val 4294967296 out+a*4294967296^(i+j)=Nm.val 4294967296 (S.take i)*Nm.val 4294967296 L+Nm.at' S i*Nm.val 4294967296 (L.take j)*4294967296^i/\(∀t,i+L.length<=t->Nm.at' out t=0)
theorem aTF {out:LB}(c:k+b.length<out.length)(d:Nm.at' out (k+b.length)=0)(h:Nm.val 4294967296 out+n*4294967296^(k+b.length)=Nm.val 4294967296 (a.take k)*Nm.val 4294967296 b+Nm.at' a k*Nm.val 4294967296 (b.take b.length)*4294967296^k):
  Nm.val 4294967296 (out.set (k+b.length) n)=Nm.val 4294967296 (a.take (k+1))*Nm.val 4294967296 b:=by
 rw[Nm.aQL _ _ _ _ c,d,Nm.wU];grind
theorem aB2 (w:World)(a b:LB)(u v:Value)(ha:Lims w a u)(hb:Lims w b v)(be:a.length<=10000000000)(bf:b.length<=10000000000)(ga:bZ 4294967296 a)(gb:bZ 4294967296 b):
  Calls prog 191 #[u,v] w (dA w λxs=>Nm.Good 4294967296 xs/\Nm.val 4294967296 xs=Nm.val 4294967296 a*Nm.val 4294967296 b):=by
 obtain⟨ao,ba,rfl,a5⟩:=ha.shape;obtain⟨bo,a9,rfl,a4⟩:=hb.shape;have aq:=run_make_row' 123 192 (.int .u32 0) 4 underlying123 kE rfl .i64 .i64 (a.length+b.length) O O;rw[show((a.length+b.length:Nat):Int)=(a.length:Int)+b.length by omega]at aq
 by_cases bd:(b.length:Int)<a.length
 .have HS:=hid hb;have P:=hid ha;have GS:=hid gb;have GL:=hid ga;clear ha hb ga gb
  go_in
  go_wp2_with fail
  go_loopw [8] (λi wr=>xY w b a i wr) (λi _=>b.length-(intOf i).toNat)
  case atStart=>exact⟨0,r5 (a.length+b.length) 0,rfl,s8 _,dI.made w _,by simp;try omega,bZ.jO E3 _,aU (Below.refl _ _) O _,by rw[Xc];simp[Nm.val],λt _=>Nm.aKK _ _⟩
  case round=>
   obtain⟨k,out,rfl,hk,f,l,p,m,r,z⟩:=hrel;have HV:=hid r;have R:=hid l;have F:=hid p;have A:=hid m;have N:=hid f;have T:=hid z;have hs:=f.lt
   by_cases ap:(k:Int)<b.length
   .obtain⟨g,rfl,_⟩:=HS.out.place O
    obtain⟨wo,W⟩:∃wo:World,wo=wr:=⟨_,rfl⟩
    subst W;have x1:=(HS.out.below A.out).jJ k O;clear r l p m f z;have a0:=GS.out.at' E3 k
    have i5:(k:Int)+a.length<=(a.length:Int)+b.length:=O
    have i6:IntKind.i64.wrap ((k:Int)+a.length)=(k:Int)+a.length:=by rw[IntKind.wrap_i64];omega
    have i7:((k:Int)+a.length).toNat=k+a.length:=O
    have i8:k+a.length-k=a.length:=O
    have i9:(0:Int)<=(k:Int)+a.length:=O
    have av:(k:Int)<=(k:Int)+a.length:=O
    have ax:k+a.length<=a.length+b.length:=O
    have ay:k<=k+a.length:=O
    go_wp2_with fail
    go_loopw [11,12] (λc j wr=>Hu w b a k c j wr) (λ_ j _=>a.length-(intOf j).toNat)
    case atStart=>
     refine⟨0,0,out,rfl,rfl,O,O,O,N.out,R.out,F.out,A.out,?_,T.out⟩;rw[HV.out];simp[Nm.val]
    case round=>
     obtain⟨j,M,h,rfl,rfl,c0,c1,hj,f,l,p,m,r,z⟩:=hrel;have au:=f.lt
     by_cases gg:(j:Int)<a.length
     .have D:k+j<h.length:=by rw[l];omega
      obtain⟨g2,rfl,_⟩:=P.out.place O;have y1:=(P.out.below m).jJ j O;have x2:=f.cell (k+j) D;have x3:=f.frozen (k+j);have b0:=GL.out.at' E3 j;have o0:=p.at' E3 (k+j);have C:=aFY (x:=M+Nm.at' h (k+j)+Nm.at' b k*Nm.at' a j) E3 c0 c1 o0.1 o0.2 a0.1 a0.2 b0.1 b0.2 rfl;have ST:=hid (aHo (x:=M+Nm.at' h (k+j)+Nm.at' b k*Nm.at' a j) D r rfl)
      have L:Hid (∀d q,d=M+Nm.at' h (k+j)+Nm.at' b k*Nm.at' a j->Hu w b a k (.int .u64 (d/4294967296)) (.int .i64 ((j:Int)+1)) ((wr.drewN q).setCell ⟨w.heap.size,k+j,X⟩ (.int .u32 (d%4294967296)))):=by
       rintro d q rfl;refine⟨j+1,_,h.set (k+j) ((M+Nm.at' h (k+j)+Nm.at' b k*Nm.at' a j)%4294967296),E4,rfl,C.2.1,C.2.2.1,O,(show dI (wr.drewN q) w.heap.size h from f).set _ _,by simpa using l,p.set _ O O,(below_drewN m q).setCell E4 _,ST.out,?_⟩;intro t ht;rw[Nm.Qs O];exact z t ht
      clear r l p m f z ST;generalize Nm.at' b k=x at*;generalize Nm.at' a j=y at*;generalize Nm.at' h (k+j)=o at*;obtain⟨a1,a2⟩:=a0;obtain⟨b1,b2⟩:=b0;obtain⟨o1,o2⟩:=o0;obtain⟨k0,k1,k2,k3⟩:=C;have p0:0<=x*y:=x8 a1 b1;have p1:x*y<=4294967295*4294967295:=y8 O O b1 O
      go_wp2_with fail
      go_quiet (fail)
      go_wp2_with fail
      go_roundw
      case rel=>exact L.out (M+(x*y+o)) _ (by rw[z8 (x*y) o,A0])
      case measure=>simp[intOf];omega
     .obtain rfl:j=a.length:=O
      have D:k+a.length<h.length:=by rw[l];omega
      have S:=hid (aTF D (z _ (s7 _)) r);have x2:=f.cell (k+a.length) D;have x3:=f.frozen (k+a.length)
      have L:Hid (xY w b a (.int .i64 ((k:Int)+1)) (wr.setCell ⟨w.heap.size,k+a.length,X⟩ (.int .u32 M))):=by
       refine⟨k+1,h.set (k+a.length) M,E4,O,f.set _ _,by simpa using l,p.set _ c0 c1,m.setCell E4 _,S.out,?_⟩;intro t ht;rw[Nm.Qs O];exact z t O
      have i1:(k:Int)+a.length<(a.length:Int)+b.length:=O
      clear r l p m f z S;generalize Nm.at' h (k+a.length)=o at*
      go_wp2_with fail
      go_roundw
      case rel=>exact L.out
      case measure=>simp[intOf];omega
   .obtain rfl:k=b.length:=O
    have HE:=hid (show Nm.val 4294967296 out=Nm.val 4294967296 b*Nm.val 4294967296 a by rw[r,p8]);have US:=hid (Ek wr out _ 0 (f.rR O) O)
    have s:out.length=a.length+b.length:=O
    rw[s]at US;have U:=wQ out;rw[s]at U;have P:=hid (f.used (B:=w.heap.size) O (s7 _));rw[s]at P;clear r l p m f z s;generalize hn:(Nm.strip out).length=n at*;clear hn
    go_wp2_with fail
    refine(US.out).mono ?_;rintro e w1⟨rfl,rfl⟩
    go_wp2_with fail
    go_ret
    exact⟨_,Nm.strip out,rfl,⟨wR F.out,by rw[uZ,HE.out];exact u6 _ _⟩,P.out,A.out⟩
 .have HS:=hid ha;have P:=hid hb;have GS:=hid ga;have GL:=hid gb;clear ha hb ga gb
  go_in
  go_wp2_with fail
  go_loopw [8] (λi wr=>xY w a b i wr) (λi _=>a.length-(intOf i).toNat)
  case atStart=>exact⟨0,r5 (a.length+b.length) 0,rfl,s8 _,dI.made w _,by simp;try omega,bZ.jO E3 _,aU (Below.refl _ _) (s7 _) _,by rw[Xc];simp[Nm.val],λt _=>Nm.aKK _ _⟩
  case round=>
   obtain⟨k,out,rfl,hk,f,l,p,m,r,z⟩:=hrel;have HV:=hid r;have R:=hid l;have F:=hid p;have A:=hid m;have N:=hid f;have T:=hid z;have hs:=f.lt
   by_cases ap:(k:Int)<a.length
   .obtain⟨g,rfl,_⟩:=HS.out.place O
    obtain⟨wo,W⟩:∃wo:World,wo=wr:=⟨_,rfl⟩
    subst W;have x1:=(HS.out.below A.out).jJ k O;clear r l p m f z;have a0:=GS.out.at' E3 k
    have i5:(k:Int)+b.length<=(a.length:Int)+b.length:=O
    have i6:IntKind.i64.wrap ((k:Int)+b.length)=(k:Int)+b.length:=by rw[IntKind.wrap_i64];omega
    have i7:((k:Int)+b.length).toNat=k+b.length:=O
    have i8:k+b.length-k=b.length:=O
    have i9:(0:Int)<=(k:Int)+b.length:=O
    have av:(k:Int)<=(k:Int)+b.length:=O
    have ax:k+b.length<=a.length+b.length:=O
    have ay:k<=k+b.length:=O
    go_wp2_with fail
    go_loopw [11,12] (λc j wr=>Hu w a b k c j wr) (λ_ j _=>b.length-(intOf j).toNat)
    case atStart=>
     refine⟨0,0,out,rfl,rfl,O,O,O,N.out,R.out,F.out,A.out,?_,T.out⟩;rw[HV.out];simp[Nm.val]
    case round=>
     obtain⟨j,M,h,rfl,rfl,c0,c1,hj,f,l,p,m,r,z⟩:=hrel;have au:=f.lt
     by_cases gg:(j:Int)<b.length
     .have D:k+j<h.length:=by rw[l];omega
      obtain⟨g2,rfl,_⟩:=P.out.place O;have y1:=(P.out.below m).jJ j O;have x2:=f.cell (k+j) D;have x3:=f.frozen (k+j);have b0:=GL.out.at' E3 j;have o0:=p.at' E3 (k+j);have C:=aFY (x:=M+Nm.at' h (k+j)+Nm.at' a k*Nm.at' b j) E3 c0 c1 o0.1 o0.2 a0.1 a0.2 b0.1 b0.2 rfl;have ST:=hid (aHo (x:=M+Nm.at' h (k+j)+Nm.at' a k*Nm.at' b j) D r rfl)
      have L:Hid (∀d q,d=M+Nm.at' h (k+j)+Nm.at' a k*Nm.at' b j->Hu w a b k (.int .u64 (d/4294967296)) (.int .i64 ((j:Int)+1)) ((wr.drewN q).setCell ⟨w.heap.size,k+j,X⟩ (.int .u32 (d%4294967296)))):=by
       rintro d q rfl;refine⟨j+1,_,h.set (k+j) ((M+Nm.at' h (k+j)+Nm.at' a k*Nm.at' b j)%4294967296),E4,rfl,C.2.1,C.2.2.1,O,(show dI (wr.drewN q) w.heap.size h from f).set _ _,by simpa using l,p.set _ O O,(below_drewN m q).setCell E4 _,ST.out,?_⟩;intro t ht;rw[Nm.Qs O];exact z t ht
      clear r l p m f z ST;generalize Nm.at' a k=x at*;generalize Nm.at' b j=y at*;generalize Nm.at' h (k+j)=o at*;obtain⟨a1,a2⟩:=a0;obtain⟨b1,b2⟩:=b0;obtain⟨o1,o2⟩:=o0;obtain⟨k0,k1,k2,k3⟩:=C;have p0:0<=x*y:=x8 a1 b1;have p1:x*y<=4294967295*4294967295:=y8 O O b1 O
      go_wp2_with fail
      go_quiet (fail)
      go_wp2_with fail
      go_roundw
      case rel=>exact L.out (M+(x*y+o)) _ (by rw[z8 (x*y) o,A0])
      case measure=>simp[intOf];omega
     .obtain rfl:j=b.length:=O
      have D:k+b.length<h.length:=by rw[l];omega
      have S:=hid (aTF D (z _ (s7 _)) r);have x2:=f.cell (k+b.length) D;have x3:=f.frozen (k+b.length)
      have L:Hid (xY w a b (.int .i64 ((k:Int)+1)) (wr.setCell ⟨w.heap.size,k+b.length,X⟩ (.int .u32 M))):=by
       refine⟨k+1,h.set (k+b.length) M,E4,O,f.set _ _,by simpa using l,p.set _ c0 c1,m.setCell E4 _,S.out,?_⟩;intro t ht;rw[Nm.Qs O];exact z t O
      have i1:(k:Int)+b.length<(a.length:Int)+b.length:=O
      clear r l p m f z S;generalize Nm.at' h (k+b.length)=o at*
      go_wp2_with fail
      go_roundw
      case rel=>exact L.out
      case measure=>simp[intOf];omega
   .obtain rfl:k=a.length:=O
    have HE:=hid (show Nm.val 4294967296 out=Nm.val 4294967296 a*Nm.val 4294967296 b by rw[r,p8]);have US:=hid (Ek wr out _ 0 (f.rR O) O)
    have s:out.length=a.length+b.length:=O
    rw[s]at US;have U:=wQ out;rw[s]at U;have P:=hid (f.used (B:=w.heap.size) O (s7 _));rw[s]at P;clear r l p m f z s;generalize hn:(Nm.strip out).length=n at*;clear hn
    go_wp2_with fail
    refine(US.out).mono ?_;rintro e w1⟨rfl,rfl⟩
    go_wp2_with fail
    go_ret
    exact⟨_,Nm.strip out,rfl,⟨wR F.out,by rw[uZ,HE.out]⟩,P.out,A.out⟩
theorem yS {o:Obj}(a:Obj)(h:v.heap[k]?=Y o):(v.alloc a).heap[k]?=Y o:=by rw[Below.heap_alloc _ _ _ (cZ h)];exact h
structure aYX (w w2:World) (B:Nat) (z:Int) (p q:Value):Prop where
 c0:((w2.setCell ⟨B,0,X⟩ p).setCell ⟨B,1,X⟩ q).cell? ⟨B,0,X⟩=Y p
 c1:((w2.setCell ⟨B,0,X⟩ p).setCell ⟨B,1,X⟩ q).cell? ⟨B,1,X⟩=Y q
 num:WhoAt ((w2.setCell ⟨B,0,X⟩ p).setCell ⟨B,1,X⟩ q) z (.agg #[p,q])
 below:Below w.heap.size w ((w2.setCell ⟨B,0,X⟩ p).setCell ⟨B,1,X⟩ q)
theorem vU {s:World}{x c p q:Value}(h:s.heap[w]?=Y (.cells #[x,c] 125 (0,0)))(f:WhoAt s n (.agg #[p,q]))(e:Below v.heap.size v s)(d:v.heap.size<=w):aYX v s w n p q:=by
 have a:=nQ h (o:=0) p;have b:=nQ a (o:=1) q;exact⟨aB b rfl,aB b rfl,(f.other h E3 p).other a E3 q,(e.setCell d _).setCell d _⟩
theorem Cf {s:World}{x c p q:Value}(h:s.heap[w]?=Y (.cells #[x,c] 125 (0,0)))(d:WhoAt s n (.agg #[p,q]))(b:Below v.heap.size v s)(a:v.heap.size<=w):s.frozen? ⟨w,0,X⟩=J/\s.frozen? ⟨w,1,X⟩=J/\s.cell? ⟨w,0,X⟩=Y x/\s.cell? ⟨w,1,X⟩=Y c/\
  ((s.setCell ⟨w,0,X⟩ p).setCell ⟨w,1,X⟩ q).cell? ⟨w,0,X⟩=Y p/\((s.setCell ⟨w,0,X⟩ p).setCell ⟨w,1,X⟩ q).cell? ⟨w,1,X⟩=Y q/\Hid (WhoAt ((s.setCell ⟨w,0,X⟩ p).setCell ⟨w,1,X⟩ q) n (.agg #[p,q]))/\Hid (Below v.heap.size v ((s.setCell ⟨w,0,X⟩ p).setCell ⟨w,1,X⟩ q)):=
 have F:=vU h d b a
 ⟨dP h,dP h,aB h rfl,aB h rfl,F.c0,F.c1,F.num,F.below⟩
def kO (w:World)(a b c d:Value):World:=((w.alloc (.cells #[a,b] 125)).alloc (.cells #[c,d] 125)).alloc (.cells #[.bool J,.slice X 0 0] 125)
theorem Oc (w:World)(a b c d:Value):Below w.heap.size w (kO w a b c d).drew:=(aU (aU (aU (Below.refl _ _) O _) E4 _) (by simp;omega) _).trans ((Bs _).mono (by simp[kO];omega))
theorem Be (w:World)(a b c d:Value):(kO w a b c d).drew.heap.size=w.heap.size+3:=by simp[kO]
theorem Qq (w:World)(a b c d:Value):(kO w a b c d).drew.heap[w.heap.size]?=Y (.cells #[a,b] 125 (0,0)):=yS _ (yS _ (yR _ _))
theorem Wl (w:World)(a b c d:Value):(kO w a b c d).drew.heap[w.heap.size+1]?=Y (.cells #[c,d] 125 (0,0)):=by
 have:=yS (.cells #[.bool J,.slice X 0 0] 125) (yR (w.alloc (.cells #[a,b] 125)) (.cells #[c,d] 125));rw[A5]at this;exact this
theorem aGY (w:World)(a b c d:Value):(kO w a b c d).drew.heap[w.heap.size+2]?=Y (.cells #[.bool J,.slice X 0 0] 125 (0,0)):=by
 have:=yR ((w.alloc (.cells #[a,b] 125)).alloc (.cells #[c,d] 125)) (.cells #[.bool J,.slice X 0 0] 125);rw[A5,A5]at this;exact this
theorem oX (w:World)(a b c d:Value):Below w.heap.size w (kO w a b c d):=aU (aU (aU (Below.refl _ _) O _) E4 _) (by simp;omega) _
theorem zW (w:World)(a b c d:Value):(kO w a b c d).heap.size=w.heap.size+3:=by simp[kO]
theorem Qw (w:World)(a b c d:Value):(kO w a b c d).heap[w.heap.size]?=Y (.cells #[a,b] 125 (0,0)):=Qq w a b c d
theorem Nz (w:World)(a b c d:Value):(kO w a b c d).heap[w.heap.size+1]?=Y (.cells #[c,d] 125 (0,0)):=Wl w a b c d
theorem Em (w:World)(a b c d:Value):(kO w a b c d).heap[w.heap.size+2]?=Y (.cells #[.bool J,.slice X 0 0] 125 (0,0)):=aGY w a b c d
theorem uL {W:World}{v:Value}{m:Bool}(a:Lims W xs v)(c:Nm.Good 4294967296 xs)(hv:Nm.val 4294967296 xs=n.natAbs)(b:m=decide (n<0)):WhoAt W n (.agg #[.bool m,v]):=⟨xs,v,by rw[b],a,c,hv⟩
theorem aVQ (n:Int)(w:World)(o:-9223372036854775808<=n)(m:n<9223372036854775808):Calls prog 97 #[.int .i64 n] w (cN w n):=by
 have k:Hid (∀W N,N=(n.natAbs:Int)->Calls prog 137 #[.int .u64 N] W (dA W λa=>Nm.Good 4294967296 a/\Nm.val 4294967296 a=(n.natAbs:Int)/\a.length<=2)):=by
  rintro W N rfl;exact Vr _ W O O
 obtain⟨s,hd⟩:∃s,s=decide (n<0):=⟨_,rfl⟩
 have c:(n<0/\s=I)\/(¬n<0/\s=J):=by
  by_cases h:n<0
  .exact Or.inl ⟨h,by rw[hd];simpa using h⟩
  .exact A6 ⟨h,by rw[hd];simpa using h⟩
 have j:=hid hd;clear hd
 rcases c with⟨hc,rfl⟩|⟨hc,rfl⟩
 all_goals
  go_in
  go_wp2_with fail
  refine(k.out _ _ O).mono ?_;rintro e z⟨y,a,rfl,⟨l,hv,_⟩,f,b⟩;have d:=b.size;rw[A5]at d;obtain⟨o1,c1,rfl,_⟩:=f.shape;obtain⟨r,t,u,x,p,q,i,g⟩:=Cf (cY (by rw[A5];omega) (yR w (.cells #[.bool J,.slice X 0 0] 125)) b) (uL (f.cJ O) l O j.out) ((aU (Below.refl w.heap.size w) O (.cells #[.bool J,.slice X 0 0] 125)).trans (b.mono (by rw[A5];omega))) O
  go_wp2_with fail
  exact bodyPost_ret (v:=.agg #[.bool _,.slice o1 a.length c1]) (by simp[results,results97,go_sem,p,q]) rfl ⟨_,rfl,i.out,g.out⟩
theorem Rn (a:Nm.Good 4294967296 x)(hv:Nm.val 4294967296 x=n.natAbs):x=[]↔n=0:=by
 have:=Nm.yQ E3 a
 simp_all
theorem aGl (w:World)(z:Int)(v:Value)(h:WhoAt w z v):Calls prog 113 #[v] w λe i=>e=.returned (.int .i64 (Nm.cmp z 0))/\Below w.heap.size w i:=by
 obtain⟨b,j,d,rfl,f,c,hv⟩:=h.open;have a:=Rn c hv;clear f c hv h
 rcases A4 z 0 with h0|h0|h0
 .have g:((b.length:Int)==0)=J:=by
   simp only[beq_eq_false_iff_ne];intro h;have:=a.1 (r7 O);omega
  rw[iQ h0,decide_eq_true h0];clear a
  go_in
  go_wp2_with fail
  go_ret
  exact⟨rfl,aU (Below.refl _ _) O _⟩
 .subst h0;have:=a.2 rfl;subst this;rw[jQ rfl];clear a
  go_in
  go_wp2_with fail
  go_ret
  exact⟨rfl,aU (Below.refl _ _) O _⟩
 .have g:((b.length:Int)==0)=J:=by
   simp only[beq_eq_false_iff_ne];intro h;have:=a.1 (r7 O);omega
  rw[gW h0,decide_eq_false O]
  go_in
  go_wp2_with fail
  go_ret
  exact⟨rfl,aU (Below.refl _ _) O _⟩
theorem aMd (w:World)(z:Int)(v:Value)(h:WhoAt w z v):Calls prog 141 #[v] w (cN w (-z)):=by
 obtain⟨c,g,b,rfl,l,i,hv⟩:=h.open;have m:=Rn i hv;have f:=hid l;have d:=hid i;have j:=hid hv;clear l i hv h
 by_cases a:z<0
 .rw[decide_eq_true a]
  go_in
  go_wp2_with fail
  refine bodyPost_ret (v:=.agg #[.bool J,.slice g c.length b]) (by simp[results,results141,go_sem]) rfl ⟨_,rfl,uL ((f.out.alloc _).alloc _) d.out (by rw[j.out];omega) (by symm;simp;omega),aU (aU (Below.refl _ _) O _) E4 _⟩
 .rw[decide_eq_false a]
  by_cases k:z=0
  .have e:=m.2 k;subst e
   go_in
   go_wp2_with fail
   refine bodyPost_ret (v:=.agg #[.bool J,.slice g 0 b]) (by simp[results,results141,go_sem]) rfl ⟨_,rfl,uL (xs:=[]) ((f.out.alloc _).alloc _) d.out rfl rfl,aU (aU (Below.refl _ _) O _) E4 _⟩
  .have o:(0:Int)<c.length:=by
    rcases Nat.eq_zero_or_pos c.length with h|h
    .exact absurd (m.1 (r7 h)) k
    .omega
   have n:0<c.length:=O
   go_in
   go_wp2_with fail
   refine bodyPost_ret (v:=.agg #[.bool I,.slice g c.length b]) (by simp[results,results141,go_sem,n]) rfl ⟨_,rfl,uL ((f.out.alloc _).alloc _) d.out (by rw[j.out];omega) (by symm;simp;omega),aU (aU (Below.refl _ _) (s7 _) _) E4 _⟩
theorem aGm (w:World)(z:Int)(v:Value)(h:WhoAt w z v):Calls prog 193 #[v] w (cN w (z.natAbs:Int)):=by
 obtain⟨c,b,a,rfl,d,e,hv⟩:=h.open
 go_in
 go_wp2_with fail
 refine bodyPost_ret (v:=.agg #[.bool J,.slice b c.length a]) (by simp[results,go_sem]) rfl ⟨_,rfl,uL (((hid d).out.alloc _).alloc _) (hid e).out (by rw[(hid hv).out];simp) (by symm;simp),aU (aU (Below.refl _ _) O _) E4 _⟩
theorem aNx (w:World)(f q:Bool)(h i:Option Addr)(la k c b:Nat)(z:Int)(P:List Int->Prop)(y:f=q)
  (m:∀W,Below w.heap.size w W->Calls prog 159 #[.slice h la c,.slice i k b] W (dA W P))
  (n:∀W g v,P g->Lims W g v->WhoAt W z (.agg #[.bool (f),v])):
  Calls prog 139 #[.agg #[.bool f,.slice h la c],.agg #[.bool q,.slice i k b]] w (cN w z):=by
 subst y;have t:=hid m;have u:=hid n;clear m n
 have A:¬(w.heap.size=w.heap.size+1+1):=O
 have B:¬(w.heap.size+1+1=w.heap.size):=O
 go_in
 go_wp2_with fail
 go_region_held3 (λl=>l.cell? ⟨w.heap.size,0,X⟩=Y (.bool f)/\l.cell? ⟨w.heap.size,1,X⟩=Y (.slice h la c)/\l.cell? ⟨w.heap.size+1,1,X⟩=Y (.slice i k b)) (go_keep) (
   (go_at_call 159
    refine(t.out _ (Oc w _ _ _ _)).mono ?_;rintro e F⟨S,g,rfl,p,d,a⟩;have j:=a.size;rw[Be]at j;obtain⟨o1,c1,rfl,_⟩:=d.shape;have T:=aB (o:=0) (cY (by rw[Be];omega) (Qq _ _ _ _ _) a) rfl;have U:=aB (o:=1) (cY (by rw[Be];omega) (Qq _ _ _ _ _) a) rfl;have x2:=aB (o:=1) (cY (by rw[Be];omega) (Wl _ _ _ _ _) a) rfl
    have x:w.heap.size+1<F.heap.size:=O
    obtain⟨L,M,N,R,C,D,s,r⟩:=Cf (cY (by rw[Be];omega) (aGY _ _ _ _ _) a) (u.out _ g _ p (d.cJ O)) ((Oc w _ _ _ _).trans (a.mono (Oc w _ _ _ _).size)) O
    clear a d p))
 all_goals
  go_wp2_with fail
  refine bodyPost_ret (v:=.agg #[.bool (f),.slice o1 g.length c1]) (by simp[results,results139,go_sem,C,D]) rfl ⟨_,rfl,s.out,r.out⟩
theorem aMf (w:World)(q s:Bool)(k l:Option Addr)(la m d c:Nat)(z:Int)(P:List Int->Prop)(hs:(q==s)=J){r:Int}{nx:Bool}{t:Array Value}(h:(r=1/\q=nx/\t=#[.slice k la d,.slice l m c])\/(r=-1/\s=nx/\t=#[.slice l m c,.slice k la d]))
  (B:∀W,Below w.heap.size w W->Calls prog 192 #[.slice k la d,.slice l m c] W λe j=>e=.returned (.int .i64 r)/\Below W.heap.size W j)
  (A:∀W,Below w.heap.size w W->Calls prog 160 t W (dA W P))
  (C:∀W n v,P n->Lims W n v->WhoAt W z (.agg #[.bool nx,v])):
  Calls prog 139 #[.agg #[.bool q,.slice k la d],.agg #[.bool s,.slice l m c]] w (cN w z):=by
 rcases h with⟨rfl,rfl,rfl⟩|⟨rfl,rfl,rfl⟩
 all_goals
  have R:=hid B;have N:=hid A;have S:=hid C;clear A C B
  have U:¬(w.heap.size=w.heap.size+1+1):=O
  have aa:¬(w.heap.size+1+1=w.heap.size):=O
  go_in
  go_wp2_with fail
  refine(R.out _ (oX w _ _ _ _)).mono ?_;rintro e w0⟨rfl,b⟩;have u:=b.size;rw[zW]at u;have x:=cY (by rw[zW];omega) (Em _ _ _ _ _) b;have b1:=cY (by rw[zW];omega) (Nz _ _ _ _ _) b;have b0:=cY (by rw[zW];omega) (Qw _ _ _ _ _) b;obtain⟨z0,z1⟩:=fD b0 rfl rfl;obtain⟨z3,z2⟩:=fD b1 rfl rfl;have o:=hid ((oX w _ _ _ _).trans (b.mono (oX w _ _ _ _).size));clear b b0 b1
  go_wp2_with fail
  go_region_held3 (λj=>j.cell? ⟨w.heap.size,0,X⟩=Y (.bool q)/\j.cell? ⟨w.heap.size+1,0,X⟩=Y (.bool s)/\j.cell? ⟨w.heap.size,1,X⟩=Y (.slice k la d)/\j.cell? ⟨w.heap.size+1,1,X⟩=Y (.slice l m c)) (go_keep) (
    (go_at_call 160
     refine(N.out _ (o.out.trans ((Bs _).mono o.out.size))).mono ?_;rintro e w1⟨v1,n,rfl,D,i,f⟩;have a:=xW f;clear f;have T:=a.size;obtain⟨o1,c1,rfl,_⟩:=i.shape;have g:=cY O x a;have x0:=(a.cell (p:=⟨w.heap.size,0,X⟩) (by simp only;omega)).trans z0;have x3:=(a.cell (p:=⟨w.heap.size+1,0,X⟩) (by simp only;omega)).trans z3;have x1:=(a.cell (p:=⟨w.heap.size,1,X⟩) (by simp only;omega)).trans z1;have x2:=(a.cell (p:=⟨w.heap.size+1,1,X⟩) (by simp only;omega)).trans z2;have y:=S.out _ n _ D (i.cJ O);have F:=o.out.trans (a.mono o.out.size);obtain⟨r0,r1,s0,s1,q0,q1,M,L⟩:=Cf g y F O
     clear y F g a i D x))
  all_goals
   go_wp2_with fail
   exact bodyPost_ret (v:=.agg #[.bool _,.slice o1 n.length c1]) (by simp[results,results139,go_sem,q0,q1]) rfl ⟨_,rfl,M.out,L.out⟩
theorem Yj (W:World):WhoAt W 0 (.agg #[.bool J,.slice X 0 0]):=⟨[],_,rfl,cG.nil _ _,Nm.Good.nil _,rfl⟩
theorem aSK (w:World)(j k:Bool)(f g:Option Addr)(la i c b:Nat)(u:(j==k)=J)
  (h:∀W,Below w.heap.size w W->Calls prog 192 #[.slice f la c,.slice g i b] W λe s=>e=.returned (.int .i64 0)/\Below W.heap.size W s):
  Calls prog 139 #[.agg #[.bool j,.slice f la c],.agg #[.bool k,.slice g i b]] w (cN w 0):=by
 have n:=hid h;clear h
 have o:¬(w.heap.size=w.heap.size+1+1):=O
 have p:¬(w.heap.size+1+1=w.heap.size):=O
 go_in
 go_wp2_with fail
 refine(n.out _ (oX w _ _ _ _)).mono ?_;rintro e t⟨rfl,a⟩;have d:=a.size;rw[zW]at d;obtain⟨v,x,y,z,q,r,m,l⟩:=Cf (cY (by rw[zW];omega) (Em _ _ _ _ _) a) (Yj t) ((oX w _ _ _ _).trans (a.mono (oX w _ _ _ _).size)) O
 go_wp2_with fail
 refine bodyPost_ret (by simp[results,go_sem,q,r]) rfl ⟨_,rfl,m.out,l.out⟩
theorem Iv (c:Nm.Good 4294967296 a)(d:Nm.Good 4294967296 b)(h:Nm.val 4294967296 a<=Nm.val 4294967296 b):a.length<=b.length:=by
 rcases Nat.lt_or_ge b.length a.length with h1|h1
 .have:=Kb E3 d.cP c h1;omega
 .exact h1
theorem opp {x b:Int}(a:¬decide (x<0)=decide (b<0)):(x<0/\0<=b)\/(0<=x/\b<0):=by
 grind
theorem aJu (w:World)(x y:Int)(u v:Value)(n:Nat)(F:WhoAt w x u)(L:WhoAt w y v)(C:x.natAbs<2^n)(A:y.natAbs<2^n)(S:n<=1000000000):Calls prog 139 #[u,v] w (cN w (x+y)):=by
 obtain⟨a,M,D,rfl,o,d,hv⟩:=F.open;obtain⟨b,N,B,rfl,p,f,s⟩:=L.open;have R:=yV d hv C;have P:=yV f s A
 by_cases q:decide (x<0)=decide (y<0)
 .refine aNx w _ _ _ _ _ _ _ _ (x+y) _ q (λW c=>aEW W a b _ _ (o.below c) (p.below c) O O d.cP f.cP) ?_;rintro W z r⟨j,k⟩ l
  have e:(x<0)=(y<0):=by simpa using q
  by_cases m:x<0
  .have:y<0:=by rw[<-e];exact m
   exact uL l j (by rw[k,hv,s];omega) (by simp;omega)
  .have:¬y<0:=by rw[<-e];exact m
   exact uL l j (by rw[k,hv,s];omega) (by simp;omega)
 .have g:(decide (x<0)==decide (y<0))=J:=by simpa using q
  have i:=λW c=>Qe W a b _ _ (o.below c) (p.below c) O d f
  have t:=opp q
  rcases A4 (Nm.val 4294967296 a) (Nm.val 4294967296 b)with h|h|h
  .rw[iQ h]at i;refine aMf w _ _ _ _ _ _ _ _ (x+y) _ g (A6 ⟨rfl,rfl,rfl⟩) i (λW c=>Ns W b a _ _ (p.below c) (o.below c) O (Iv d f O) f.cP d.cP O) ?_;rintro W z r⟨j,k⟩ l;exact uL l j (by rw[k];omega) (by simp;omega)
  .rw[jQ h]at i;rw[show x+y=0 by omega];exact aSK w _ _ _ _ _ _ _ _ g i
  .rw[gW h]at i;refine aMf w _ _ _ _ _ _ _ _ (x+y) _ g (Or.inl ⟨rfl,rfl,rfl⟩) i (λW c=>Ns W a b _ _ (o.below c) (p.below c) O (Iv f d O) d.cP f.cP O) ?_;rintro W z r⟨j,k⟩ l;exact uL l j (by rw[k];omega) (by simp;omega)
end Go.Proofs.YtnlddnbfoehboaaGreatDoor
