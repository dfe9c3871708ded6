import Derived.Test.YtpdflaaamaokbaaGreatDoorCCh07
import Derived.Test.YtpdflaaamaokbaaGreatDoorCCh08
set_option linter.all false
set_option maxRecDepth 100000
set_option maxHeartbeats 2000000
namespace Go.Proofs.YtpdflaaamaokbaaGreatDoor
open List renaming getElem_of_mem->j8,getElem?_eq_getElem->j9,getElem?_append_left->k8,getElem?_eq_some_iff->k9,getElem?_set_self->l4,getElem?_set_ne->l5,getElem?_append_right->l7,map_cons->l8,map_nil->l9,map->n4,getElem?_cons_zero->n5,length_eq_one_iff->n6,mem_singleton->n7,mem_of_getElem?->n8
open Option renaming bind_some->n9,map_some->o8
open Nat renaming mul_le_mul_right->o9,le_refl->p7,le_trans->p8,mul_le_mul->p9,mul_pos->q7,lt_trans->q8
open Int renaming mul_pos->q9,lt_or_le->s4
open Bool renaming false_eq_true->s8
open Go.Proofs.Tryz
namespace Rf
open Nw
def fn (o:Op):Prop:=o=.sqrt\/o=.exp\/o=.fK\/o=.atan
def pT (n:Nd):Prop:=n.op=.pi\/n.op=.e\/(n.op=.cf/\2<=n.terms.length/\∀a∈n.terms,Bits 40 a)\/(fn n.op/\0<n.p/\0<n.q)
def Pos (ns:List Nd)(a:Nat):Prop:=∃x,ns[a]?=some x/\x.pos=true
def first (t:List V):Prop:=fits t=true->wider 8 t≠-1
structure jM (ns:List Nd) (rho:NN) (c i:Nat) (n:Nd) (a:Nat):Prop where
 ex:∃base ck,rho i=base+ck+1/\c<=ck/\n.k+ck<=3000/\rho a<base/\(¬(n.read=[0]/\n.out=[])->c<ck)/\
  (n.op≠.sqrt->∃x,n.x=some x/\x<ns.length/\rho x+1<base/\Pos ns x/\(∀s,n.fA=some s->s<ns.length/\rho s<base/\Pos ns s))
 op:fn n.op
 first:first n.t
 pos:Pos ns a
inductive Shp (ns:List Nd) (rho:NN) (c i:Nat) (n:Nd):Prop where
 |fH (ht:n.t=[]) (ha:n.args=[]) (hp:n.aP=false) (hc:pT n)
 |gQ (v:V) (ht:n.t=[v]) (ha:n.args=[]) (hp:n.aP=false) (hv:fits [fG n.told v]=true\/(n.pos=false/\n.out=[]/\v.1<0/\0<v.2))
 |kR (v w:V) (a:Nat) (ht:n.t=[v,w]) (ha:n.args=[a]) (hp:n.aP=true->n.pos=true/\fn n.op/\n.out=[]/\Pos ns a/\rho a+3100<=rho i/\n.k=0)
 |bin (a b:Nat) (v w x y:V) (ht:n.t=[v,w,x,y]) (ha:n.args=[a,b]) (hp:n.aP=false)
 |nest (a:Nat) (v w x y:V) (ht:n.t=[v,w,x,y]) (ha:n.args=[a]) (hp:n.aP=false) (hn:n.nest=true) (ok:jM ns rho c i n a)
def Dg (n:Nd):Prop:=∀(j:Nat) (c:Int),n.out[j]?=some c->c∈(if n.pos=false/\j=0 then [43,45,111,119]else [-1,1,0]:LN)
structure aY (ns:List Nd) (rho:NN) (c i:Nat) (n:Nd):Prop where
 len:n.read.length=n.args.length
 arg:∀(j a:Nat),n.args[j]?=some a->a<ns.length/\rho a<rho i
 rd:∀(j a r:Nat) (x:Nd),n.args[j]?=some a->n.read[j]?=some r->ns[a]?=some x->r<=x.out.length
 kY:n.dR.length=n.out.length+1
 nM:n.dR[0]?=some one
 fst:(n.out=[]->n.told=one)/\Dg n
 iX:n.out.length+c<=3000
 ku:n.k+c<=3000
 jE:∀r∈n.read,r+c<=3000
 jF:cW (2*n.out.length+1) n.told
 lU:∀(j:Nat) (m:Mt),n.dR[j]?=some m->cW (2*j+1) m
 up:n.pos=true->Up n.told/\∀m∈n.dR,Up m
 tb:∀v∈n.t,Bits 13000 v.1/\Bits 13000 v.2
 pb:Bits 6100 n.p
 qb:Bits 6100 n.q
 iF:cW (1+n.k*18500) n.part
 shp:Shp ns rho c i n
variable {ns:List Nd}{P:NN}
theorem aY.ok {c i:Nat}{n:Nd}(h:aY ns P c i n):Ok n:=by
 have s:=h.iX;have p:=h.ku;refine⟨λv hv=>⟨eI (h.tb v hv).1 (by decide),eI (h.tb v hv).2 (by decide)⟩,mb h.jF (by omega),?_,mb h.iF ?_,eI h.pb (by decide),eI h.qb (by decide),?_,by omega,by omega⟩
 .intro m l;obtain⟨j,g,e⟩:=j8 l;have q:=h.kY;exact mb (h.lU j m (by rw[j9 g,e])) (by omega)
 .have:n.k*18500<=3000*18500:=o9 _ (by omega);omega
 .intro r o;have:=h.jE r o;omega
where
 mb {m:Mt} {a b:Nat} (h:cW a m) (f:a<=b):cW b m:=⟨eI h.a f,eI h.b f,eI h.c f,eI h.d f⟩
variable {a:Nat}
theorem cW.mono {m:Mt}{b:Nat}(h:cW a m)(e:a<=b):cW b m:=⟨eI h.a e,eI h.b e,eI h.c e,eI h.d e⟩
structure Le (ns ns':List Nd):Prop where
 len:ns.length<=ns'.length
 at':∀(i:Nat) (n:Nd),ns[i]?=some n->∃n',ns'[i]?=some n'/\n'.pos=n.pos/\n.out.length<=n'.out.length
theorem Le.refl (ns:List Nd):Le ns ns:=⟨p7 _,λi n h=>⟨n,h,rfl,p7 _⟩⟩
theorem Le.trans {a b c:List Nd}(h:Le a b)(d:Le b c):Le a c:=⟨p8 h.len d.len,λi n o=>by
 obtain⟨p,e,f,g⟩:=h.at' i n o;obtain⟨q,j,k,l⟩:=d.at' i p e
 exact⟨q,j,k.trans f,p8 g l⟩⟩
theorem Le.more (ns a:List Nd):Le ns (ns++a):=⟨by simp,λi n h=>⟨n,by rw[k8 (k9.1 h).1];exact h,rfl,p7 _⟩⟩
theorem Le.set {ns:List Nd}{i:Nat}{d n':Nd}(h:ns[i]?=some d)(f:n'.pos=d.pos)(e:d.out.length<=n'.out.length):Le ns (ns.set i n'):=by
 refine⟨by simp,λk m a=>?_⟩
 by_cases b:i=k
 .subst b;rw[h]at a;cases a;refine⟨n',?_,f,e⟩;rw[l4 (k9.1 h).1]
 .exact⟨m,by rw[l5 b];exact a,rfl,p7 _⟩
theorem Pos.le {b:List Nd}(h:Pos ns a)(i:Le ns b):Pos b a:=by
 obtain⟨x,d,e⟩:=h;obtain⟨j,f,g,_⟩:=i.at' a x d;exact⟨j,f,g.trans e⟩
theorem Pos.lt (h:Pos ns a):a<ns.length:=by grind [Pos]
theorem aY.mono {z:List Nd}{f:NN}{c c' i:Nat}{n:Nd}(h:aY ns P c i n)(q:Le ns z)(p:∀k,k<ns.length->f k=P k)(hi:i<ns.length)(hc:c'<=c):aY z f c' i n:=by
 have C:∀(j a:Nat),n.args[j]?=some a->a<z.length/\f a<f i:=by
  intro j a d;obtain⟨o,A⟩:=h.arg j a d;have:=q.len;rw[p a o,p i hi];exact⟨by omega,A⟩
 refine⟨h.len,C,?_,h.kY,h.nM,h.fst,by have:=h.iX;omega,by have:=h.ku;omega,λr u=>by have:=h.jE r u;omega,h.jF,h.lU,h.up,h.tb,h.pb,h.qb,h.iF,?_⟩
 .intro j a r x d u I;obtain⟨o,_⟩:=h.arg j a d;obtain⟨Y,A,_,B⟩:=q.at' a ns[a] (j9 o);rw[A]at I;cases I;exact p8 (h.rd j a r _ d u (j9 o)) B
 .cases h.shp with
  |fH l d g hc=>exact .fH l d g hc
  |gQ v l d g hv=>exact .gQ v l d g hv
  |kR v w a l d g=>
   refine .kR v w a l d λe=>?_
   obtain⟨o,A,B,D,E,F⟩:=g e;exact⟨o,A,B,D.le q,by rw[p a D.lt,p i hi];exact E,F⟩
  |bin a b v w x y l d g=>exact .bin a b v w x y l d g
  |nest a v w x y l d g M ok=>
   refine .nest a v w x y l d g M ?_;obtain⟨⟨base,J,o,A,B,D,E,F⟩,L,h8,H⟩:=ok;refine⟨⟨base,J,by rw[p i hi];exact o,by omega,B,by rw[p a H.lt];exact D,λe=>by have:=E e;omega,λe=>?_⟩,L,h8,H.le q⟩;obtain⟨x,k1,O,R,S,T⟩:=F e;have:=q.len;refine⟨x,k1,by omega,by rw[p x O];exact R,S.le q,λs N=>?_⟩;obtain⟨U,W,X⟩:=T s N;exact⟨by omega,by rw[p s U];exact W,X.le q⟩
structure Inv (ns:List Nd) (rho:NN) (c:Nat):Prop where
 at':∀(i:Nat) (n:Nd),ns[i]?=some n->aY ns rho c i n
theorem Inv.tick {c k:Nat}(h:Inv ns P c)(hc:k<=c):Inv ns P k:=
 ⟨λi n a=>(h.at' i n a).mono (Le.refl _) (λ_ _=>rfl) (k9.1 a).1 hc⟩
theorem Inv.put {ns:List Nd}{P:NN}{c i:Nat}{d n':Nd}(h:Inv ns P c)(g:ns[i]?=some d)(l:n'.pos=d.pos)(j:d.out.length<=n'.out.length)(e:aY ns P c i n'):
  put ns i n'=some (ns.set i n')/\Inv (ns.set i n') P c/\Le ns (ns.set i n'):=by
 have hi:=(k9.1 g).1;have b:=Le.set g l j;refine⟨?_,⟨λk m a=>?_⟩,b⟩
 .unfold Rf.put;rw[if_pos ⟨e.ok,hi⟩]
 .by_cases f:i=k
  .subst f;rw[l4 hi]at a;cases a;exact e.mono b (λ_ _=>rfl) hi (p7 _)
  .rw[l5 f]at a;exact(h.at' k m a).mono b (λ_ _=>rfl) (k9.1 a).1 (p7 _)
def jU (rho:NN)(k r:Nat):NN:=λi=>if i=k then r else rho i
theorem Inv.more {ns:List Nd}{P:NN}{c r:Nat}{d:Nd}(h:Inv ns P c)(f:aY ns (jU P ns.length r) c ns.length d):
  more ns d=some (ns++[d])/\Inv (ns++[d]) (jU P ns.length r) c/\Le ns (ns++[d])/\(∀k,k<ns.length->jU P ns.length r k=P k)/\jU P ns.length r ns.length=r:=by
 have o:=Le.more ns [d]
 have E:∀k,k<ns.length->jU P ns.length r k=P k:=λk C=>by unfold jU;rw[if_neg (by omega)]
 refine⟨?_,⟨λk m p=>?_⟩,o,E,by simp[jU]⟩
 .unfold Rf.more;rw[if_pos f.ok]
 .by_cases C:k<ns.length
  .rw[k8 C]at p;exact(h.at' k m p).mono o E C (p7 _)
  .rw[l7 (by omega)]at p
   have:k=ns.length:=by
    have:=(k9.1 p).1;simp at this;omega
   subst this;simp at p;subst p
   -- the new node itself
   refine⟨f.len,?_,?_,f.kY,f.nM,f.fst,f.iX,f.ku,f.jE,f.jF,f.lU,f.up,f.tb,f.pb,f.qb,f.iF,?_⟩
   .intro j a g;obtain⟨n,q⟩:=f.arg j a g;exact⟨by simp;omega,q⟩
   .intro j a r x g D F;obtain⟨n,_⟩:=f.arg j a g;rw[k8 n]at F;exact f.rd j a r x g D F
   .cases f.shp with
    |fH l g i hc=>exact .fH l g i hc
    |gQ v l g i hv=>exact .gQ v l g i hv
    |kR v w a l g i=>
     refine .kR v w a l g λe=>?_
     obtain⟨n,q,u,z,A,B⟩:=i e;exact⟨n,q,u,z.le o,A,B⟩
    |bin a b v w x y l g i=>exact .bin a b v w x y l g i
    |nest a v w x y l g i L ok=>
     refine .nest a v w x y l g i L ?_;obtain⟨⟨base,H,n,q,u,z,A,B⟩,I,h8,J⟩:=ok;refine⟨⟨base,H,n,q,u,z,A,λe=>?_⟩,I,h8,J.le o⟩;obtain⟨x,k1,U,N,O,R⟩:=B e;refine⟨x,k1,by simp;omega,N,O.le o,λs M=>?_⟩;obtain⟨W,S,T⟩:=R s M;exact⟨by simp;omega,S,T.le o⟩
end Rf
namespace Rf
open Nw
section
variable {ns:List Nd} {rho:NN} {c i:Nat} {n:Nd}
theorem Fo (h:Inv ns rho c)(e:aY ns rho c i n){sd a:Nat}(b:n.args[sd]?=some a):∃m x r,ns[a]?=some x/\n.read[sd]?=some r/\x.dR[r]?=some m/\ends ns n sd=some (eX m (1,0),eX m (0,1)):=by
 obtain⟨k,_⟩:=e.arg sd a b;have d:ns[a]?=some ns[a]:=j9 k
 have f:sd<n.read.length:=by rw[e.len];exact(k9.1 b).1
 have g:n.read[sd]?=some n.read[sd]:=j9 f;have l:=e.rd sd a _ _ b g d;have o:=(h.at' a _ d).kY;have j:ns[a].dR[n.read[sd]]?=some (ns[a].dR[n.read[sd]]'(by omega)):=j9 _;refine⟨_,_,_,d,g,j,?_⟩;unfold ends;simp only[b,d,g,j,n9,o8]
theorem aH3 (h:Inv ns rho c)(f:aY ns rho c i n):∃l,bare ns n=some l:=by
 cases f.shp with
 |fH e d j hc=>exact⟨_,by unfold bare;rw[e]⟩
 |gQ v e d j hv=>exact⟨_,by unfold bare;rw[e]⟩
 |kR v w a e d j=>
  obtain⟨m,x,r,_,_,_,g⟩:=Fo h f (sd:=0) (a:=a) (by rw[d];rfl);exact⟨_,by unfold bare;rw[e];simp only[g];rfl⟩
 |bin a b v w x y e d j=>
  obtain⟨m,x,r,_,_,_,g⟩:=Fo h f (sd:=0) (a:=a) (by rw[d];rfl);obtain⟨p,s,q,_,_,_,k⟩:=Fo h f (sd:=1) (a:=b) (by rw[d];rfl);exact⟨_,by unfold bare;rw[e];simp only[g,k,d];rfl⟩
 |nest a v w x y e d j o ok=>
  obtain⟨m,x,r,_,_,_,g⟩:=Fo h f (sd:=0) (a:=a) (by rw[d];rfl);exact⟨_,by unfold bare;rw[e];simp only[g,d];rfl⟩
theorem sC (h:Inv ns rho c)(a:aY ns rho c i n):∃o,next ns n=some o:=by
 obtain⟨l,b⟩:=aH3 h a
 unfold next corners
 rw[b];split
 .exact⟨_,rfl⟩
 .exact⟨_,rfl⟩
variable {v:Int}
theorem aMe (h:next ns n=some (some v)):∃l,bare ns n=some l/\v∈tries n/\can (l.map (fG n.told)) v=true:=by
 unfold next at h
 split at h
 .simp at h
 .unfold corners at h
  cases a:bare ns n with
  |none=>rw[a]at h;simp at h
  |some l=>
   rw[a]at h;simp only[o8,Option.some.injEq]at h;obtain⟨b,d⟩:=aP2 h;exact⟨l,rfl,d,b⟩
theorem aGA {M:V}(j:n.t=[M])(g:n.args=[])(f:n.out=[]->n.told=one)(hv:fits [fG n.told M]=true\/(n.pos=false/\n.out=[]/\M.1<0/\0<M.2)):next ns n≠some none:=by
 unfold next corners bare
 rw[j,g];simp only[waits,s8,if_false,o8,l8,l9];unfold tries;intro h;simp only[Option.some.injEq]at h;split at h
 .rename_i hc
  rcases hv with hv|⟨_,_,b,d⟩
  .rw[f hc.2,Gi]at h hv;have e:=List.find?_eq_none.1 h
   rcases(mX M).1 hv with⟨k1,k,l⟩|⟨k1,k,l⟩
   .refine absurd ?_ (e 43 (by simp));unfold can;simp only[l8,l9];rw[mX];simp[fG,Mt.sym,Mt.vG,Mt.vH];omega
   .refine absurd ?_ (e 43 (by simp));unfold can;simp only[l8,l9];rw[mX];simp[fG,Mt.sym,Mt.vG,Mt.vH];omega
  .rw[f hc.2,Gi]at h;obtain⟨s,a⟩:=aPO b d;rw[a]at h;cases h
 .rename_i hc
  rcases hv with hv|⟨b,d,_,_⟩
  .obtain⟨s,a⟩:=aM8 hv;rw[a]at h;cases h
  .exact hc ⟨b,d⟩
theorem aSP (h:Dg n){t b:_}(a:v∈tries n):Dg {n with out:=n.out++[v],told:=t,dR:=b}:=by
 intro j c hc;simp only at hc
 by_cases e:j<n.out.length
 .rw[k8 e]at hc;exact h j c hc
 .rw[l7 (by omega)]at hc
  have d:j=n.out.length:=by
   have:=(k9.1 hc).1;simp at this;omega
  subst d;simp at hc;subst hc;unfold tries at a
  simpa[List.length_eq_zero_iff]using a
theorem aHc (h:Inv ns rho (c+1))(E:ns[i]?=some n)(B:n.aP=false)(ho:next ns n=some (some v)):
  ∃H,put ns i {n with out:=n.out++[v],told:=n.told.mul (Mt.sym v),dR:=n.dR++[n.told.mul (Mt.sym v)]}=some (ns.set i H)/\Inv (ns.set i H) rho c/\Le ns (ns.set i H)/\H.out.length=n.out.length+1:=by
 have r:=h.at' i n E;obtain⟨l,U,k,hc⟩:=aMe ho;have hi:=(k9.1 E).1;have C:n.dR.length=n.out.length+1:=r.kY
 have z:cW (2*(n.out.length+1)+1) (n.told.mul (Mt.sym v)):=by
  have:=aIz r.jF v;exact cW.mono this (by omega)
 have F:n.pos=true->Up (n.told.mul (Mt.sym v)):=by
  intro g;refine aWN (r.up g).1 ?_;unfold tries at k;rw[if_neg (by rw[g];simp)]at k;exact k
 have J:aY ns rho c i {n with out:=n.out++[v],told:=n.told.mul (Mt.sym v),dR:=n.dR++[n.told.mul (Mt.sym v)]}:=by
  have A:=r.mono (c':=c) (Le.refl _) (λ_ _=>rfl) hi (by omega);refine⟨r.len,A.arg,A.rd,by simp[C],?_,⟨λe=>by simp at e,aSP r.fst.2 k⟩,?_,A.ku,A.jE,?_,?_,?_,A.tb,A.pb,A.qb,A.iF,?_⟩
  .show(n.dR++_)[0]?=_;rw[k8 (by omega)];exact r.nM
  .have:=r.iX;simp;omega
  .simpa using z
  .intro j m q;simp only at q
   by_cases hj:j<n.dR.length
   .rw[k8 hj]at q;exact r.lU j m q
   .rw[l7 (by omega)]at q
    have L:j=n.dR.length:=by
     have:=(k9.1 q).1;simp at this;omega
    subst L;simp at q;subst q;rw[C];exact z
  .intro g;refine⟨F g,λm q=>?_⟩;simp at q
   rcases q with q|rfl
   .exact(r.up g).2 m q
   .exact F g
  .cases A.shp with
   |fH k s B hc=>exact .fH k s B hc
   |gQ d k s B hv=>
    refine .gQ d k s B (Or.inl ?_)
    have hb:bare ns n=some [d]:=by unfold bare;rw[k]
    rw[hb]at U;cases U;show fits [fG (n.told.mul (Mt.sym v)) d]=true;rw[aKd];exact hc
   |kR d w a k s u=>exact .kR d w a k s λe=>by simp only at e;rw[B]at e;cases e
   |bin a b d w x y k s B=>exact .bin a b d w x y k s B
   |nest a d w x y k s B E ok=>
    refine .nest a d w x y k s B E ?_
    have N:jM ns rho (c+1) i n a:=by
     cases r.shp with
     |fH f p u ab=>rw[k]at f;cases f
     |gQ O f p u ag=>rw[k]at f;cases f
     |kR O W P f p u=>rw[k]at f;cases f
     |bin P b' O W x' y' f p u=>rw[s]at p;cases p
     |nest P O W x' y' f p u ae M=>rw[s]at p;cases p;exact M
    obtain⟨⟨base,ck,R,S,T,h4,h5,h6⟩,X,h8,Y⟩:=ok;obtain⟨⟨D,I,k1,k2,k3,k4,k5,k6⟩,_,_,_⟩:=N;exact⟨⟨D,I,k1,by omega,k3,k4,λ_=>by omega,k6⟩,X,h8,Y⟩
 obtain⟨R,S,T⟩:=(h.tick (show c<=c+1 by omega)).put E (n':={n with out:=n.out++[v],told:=n.told.mul (Mt.sym v),dR:=n.dR++[n.told.mul (Mt.sym v)]}) rfl (by simp) J;exact⟨_,R,S,T,by simp⟩
theorem aHn {a b:Nat}{x y:Mt}(e:cW a x)(f:cW b y):cW (a+b+1) (x.mul y):=
 ⟨pL (fY e.a f.a) (fY e.b f.c),pL (fY e.a f.b) (fY e.b f.d),pL (fY e.c f.a) (fY e.d f.c),pL (fY e.c f.b) (fY e.d f.d)⟩
variable {k:Nat}
theorem Ky {m:Nat}(h:k<2^m):Bits m (k:Int):=by unfold Bits;simpa using h
theorem Fq (h:k<16777216):Bits 24 (k:Int):=Ky (by simpa using h)
theorem Zo (op:Op)(a:k<=3001):Bits 24 (shape op k).1/\Bits 24 (shape op k).2/\0<(shape op k).1/\0<(shape op k).2:=by
 have d:k*k<=3001*3001:=p9 a a;unfold shape;split
 .split
  .exact⟨Ky (k:=1) (by decide),Ky (k:=1) (by decide),by decide,by decide⟩
  .have e:(k+1)/2*((k+1)/2)<=3001*3001:=p9 (by omega) (by omega);have b:0<(k+1)/2*((k+1)/2):=q7 (by omega) (by omega);exact⟨Fq (by omega),Fq (by omega),by simp only;omega,by simp only;omega⟩
 .split
  .split
   .exact⟨Ky (k:=1) (by decide),Ky (k:=1) (by decide),by decide,by decide⟩
   .have b:0<k*k:=q7 (by omega) (by omega);exact⟨Fq (by omega),Fq (by omega),by simp only;omega,by simp only;omega⟩
  .exact⟨Ky (k:=1) (by decide),Fq (by omega),by simp,by simp only;omega⟩
theorem Fx (h:pT n)(r:k<=3000)(pb:Bits 6100 n.p)(qb:Bits 6100 n.q):∃m,constant n k=some m/\cW 18400 m:=by
 have one:∀z:Int,z.natAbs<=4->Bits 18400 z:=λz A=>eI (n:=3) (by unfold Bits;omega) (by decide)
 have w:k*k<=3000*3000:=p9 r r;obtain⟨s,u,_,_⟩:=Zo n.op (k:=k) (by omega)
 have f:n.op=.exp\/n.op=.fK\/n.op=.atan->∃m,constant n k=some m/\cW 18400 m:=by
  intro ho
  have e:constant n k=some (if n.op≠.fK/\0<k then⟨0,(shape n.op k).1*(n.p*n.p),n.q*n.q,(shape n.op k).2*(n.q*n.q)⟩else⟨0,(shape n.op k).1*n.p,n.q,(shape n.op k).2*n.q⟩):=by
   unfold constant
   rcases ho with ho|ho|ho<;>simp only[ho]
  refine⟨_,e,?_⟩;split
  .exact⟨one 0 (by decide),eI (fY s (fY pb pb)) (by decide),eI (fY qb qb) (by decide),eI (fY u (fY qb qb)) (by decide)⟩
  .exact⟨one 0 (by decide),eI (fY s pb) (by decide),eI qb (by decide),eI (fY u qb) (by decide)⟩
 rcases h with h|h|⟨h,o,g⟩|⟨h,o,g⟩
 .refine⟨_,by unfold constant;rw[h],?_⟩;split
  .exact⟨one 0 (by decide),one 4 (by decide),one 1 (by decide),one 1 (by decide)⟩
  .exact⟨one 0 (by decide),eI (Fq (by omega)) (by decide),one 1 (by decide),eI (Fq (by omega)) (by decide)⟩
 .refine⟨_,by unfold constant;rw[h],?_⟩;refine⟨?_,one 1 (by decide),one 1 (by decide),one 0 (by decide)⟩;show Bits 18400 (hP k);unfold hP;split
  .exact one 2 (by decide)
  .split
   .exact eI (Fq (by omega)) (by decide)
   .exact one 1 (by decide)
 .have d:(if k=0 then 0 else 1+(k-1)%(n.terms.length-1))<n.terms.length:=by
   split
   .omega
   .have:=Nat.mod_lt (k-1) (show 0<n.terms.length-1 by omega);omega
  refine⟨_,by unfold constant;rw[h];simp only;rw[j9 d];rfl,?_⟩;exact⟨eI (g _ (List.getElem_mem d)) (by decide),one 1 (by decide),one 1 (by decide),one 0 (by decide)⟩
 .rcases h with h|h
  .obtain⟨a,b,v,x,y,j,l⟩:=Ox o g pb qb;refine⟨_,by unfold constant;rw[h];simp only;rw[v];rfl,?_⟩;exact⟨eI (fY j qb) (by decide),eI (fY l pb) (by decide),eI (fY l qb) (by decide),eI (fY j qb) (by decide)⟩
  .exact f h
theorem aJt (h:Inv ns rho (c+1))(q:ns[i]?=some n)(o:n.t=[]):∃m p,constant n n.k=some m/\put ns i {n with part:=n.part.mul m,k:=n.k+1}=some (ns.set i p)/\Inv (ns.set i p) rho c/\Le ns (ns.set i p)/\p.out=n.out:=by
 have f:=h.at' i n q;have hi:=(k9.1 q).1;have g:=f.mono (c':=c) (Le.refl _) (λ_ _=>rfl) hi (by omega)
 have C:n.args=[]/\n.aP=false/\pT n:=by
  cases f.shp with
  |fH o j l hc=>exact⟨j,l,hc⟩
  |gQ v d j l hv=>rw[o]at d;cases d
  |kR v w a d j l=>rw[o]at d;cases d
  |bin a b v w x y d j l=>rw[o]at d;cases d
  |nest a v w x y d j l q ok=>rw[o]at d;cases d
 obtain⟨j,l,hc⟩:=C;have B:=f.ku;obtain⟨m,e,A⟩:=Fx hc (k:=n.k) (by omega) f.pb f.qb
 have r:aY ns rho c i {n with part:=n.part.mul m,k:=n.k+1}:=by
  refine⟨f.len,g.arg,g.rd,f.kY,f.nM,f.fst,g.iX,by simp only;omega,g.jE,f.jF,f.lU,f.up,g.tb,g.pb,g.qb,?_,.fH o j l ?_⟩
  .refine cW.mono (aHn f.iF A) ?_;simp only;rw[Nat.add_mul];omega
  .exact hc
 obtain⟨s,u,z⟩:=(h.tick (show c<=c+1 by omega)).put q (n':={n with part:=n.part.mul m,k:=n.k+1}) rfl (p7 _) r;exact⟨m,_,e,s,u,z,rfl⟩
end
end Rf
namespace Rf
open Nw
section
variable {ns:List Nd} {rho:NN} {c i:Nat} {n:Nd}
theorem Tp (b:aY ns rho c i n)(d:Nat):∃o,digits ns n d=some o:=by
 unfold digits;split
 .rename_i a;obtain⟨e,_⟩:=b.arg d _ (j9 a);rw[j9 a,n9,j9 e,n9,j9 (by rw[b.len];exact a)];exact⟨_,rfl⟩
 .exact⟨_,rfl⟩
theorem aLf {M F:V}(a:n.t=[M,F]):side ns n=some 0:=by grind [side]
theorem Uj (h:Inv ns rho c)(d:aY ns rho c i n):∃e,side ns n=some e/\e<=1:=by
 unfold side;split
 .exact⟨0,rfl,by decide⟩
 .obtain⟨a,f⟩:=Tp d 0;rw[f,n9]
  cases a with
  |none=>exact⟨0,rfl,by decide⟩
  |some a=>
   obtain⟨b,g⟩:=Tp d 1;simp only;rw[g,n9]
   cases b with
   |none=>exact⟨1,rfl,by decide⟩
   |some b=>
    obtain⟨l,j⟩:=aH3 h d;simp only;unfold corners;rw[j];refine⟨_,rfl,?_⟩;simp only;generalize (if fits (n4 (fG n.told) l)=true then wider (if n.nest=true then 8 else 1) (n4 (fG n.told) l)else 0)=z;split
    .omega
    .split
     .omega
     .split<;>omega
theorem aGL (h:Inv ns rho c)(r:aY ns rho c i n){a:Nat}{M F x y:V}(k:n.t=[M,F,x,y])(d:n.args=[a])(z:n.nest=true)(o:first n.t)(B:Pos ns a)(p:n.read=[0])(A:n.out=[]):side ns n=some 0:=by
 obtain⟨C,l,j⟩:=B;have q:=(h.at' a C l).nM
 have u:ends ns n 0=some ((1,0),(0,1)):=by
  unfold ends;rw[d,p];simp only[n5,n9,l,q,o8];rfl
 have s:bare ns n=some [M,F,x,y]:=by
  unfold bare;rw[k];simp only[u,d,n9,o8,List.length_cons,List.length_nil];simp[bK]
 unfold side;rw[if_neg (by rw[k];simp)]
 have f:digits ns n 0=some (some 0):=by
  unfold digits;rw[d,p];simp[l,j]
 have g:digits ns n 1=some (some 0):=by
  unfold digits;rw[d];simp
 rw[f,g];simp only[n9];unfold corners;rw[s,r.fst.1 A]
 have e:n4 (fG one) [M,F,x,y]=n.t:=by rw[k];simp[Gi]
 simp only[o8,e,z,if_true]
 unfold first at o
 by_cases b:fits n.t=true
 .rw[if_pos b,if_neg (o b)];simp
 .rw[if_neg b];simp
theorem aNc {x z:Int}(h:z<x):Nm.cmp x z=1:=by
 unfold Nm.cmp;rw[decide_eq_false (by omega),decide_eq_false (by omega)];rfl
theorem aGv (b:V):apart (0,0) b=(0,1):=by unfold apart;simp
theorem aGu {c d:Int}(hc:0<c)(e:0<d):apart (c,0) (0,d)=(2*(c*d),c*d):=by
 unfold apart;simp only;rw[if_neg (by omega)];have h:0<c*d:=q9 hc e
 have a:(c-0)*(0+d)-(0-d)*(c+0)=2*(c*d):=by grind
 have b:(c+0)*(0+d)=c*d:=by grind
 rw[a,b]
 ext<;>(simp only;omega)
theorem aLT {c d:Int}(hc:0<c)(a:0<d):first [(0,0),(c,0),(0,1),(0,d)]:=by
 intro _;have h:0<c*d:=q9 hc a;unfold wider;simp only[aGv,aGu hc a]
 have b:apart (0,1) (0,d)=(0,d):=by
  unfold apart;simp only;rw[if_neg (by omega)]
  ext<;>simp<;>omega
 have e:dW (0,1) (2*(c*d),c*d)=(2*(c*d),c*d):=by
  unfold dW;rw[if_neg (by simp;omega)]
 have f:dW (0,1) (0,d)=(0,1):=by
  unfold dW;rw[if_pos (by simp)]
 rw[b,e,f];simp only;rw[aNc (by omega)];decide
theorem aLU {a b:Int}(d:0<a)(g:0<b):first [(0,0),(b,0),(a,b),(0,a)]:=by
 intro _;have h:0<b*a:=q9 g d;have e:0<a*a:=q9 d d;unfold wider;simp only[aGv,aGu g d]
 have j:apart (a,b) (0,a)=(2*(a*a),a*a+b*a):=by
  unfold apart;simp only;rw[if_neg (by omega)]
  have k1:(a-b)*(0+a)-(0-a)*(a+b)=2*(a*a):=by grind
  have f:(a+b)*(0+a)=a*a+b*a:=by grind
  rw[k1,f]
  ext<;>(simp only;omega)
 have k:dW (0,1) (2*(b*a),b*a)=(2*(b*a),b*a):=by
  unfold dW;rw[if_neg (by simp;omega)]
 have l:dW (0,1) (2*(a*a),a*a+b*a)=(2*(a*a),a*a+b*a):=by
  unfold dW;rw[if_neg (by simp;omega)]
 rw[j,k,l];simp only
 have k1:8*(2*(b*a))*(a*a+b*a)=16*((b*a)*(a*a))+16*((b*a)*(b*a)):=by grind
 have f:2*(a*a)*(b*a)=2*((b*a)*(a*a)):=by grind
 have p1:0<(b*a)*(a*a):=q9 h e;have o:0<(b*a)*(b*a):=q9 h h;rw[k1,f,aNc (by omega)];decide
theorem wT (hc:c<=3000)(h:n.read=n.args.map (λ_=>0))(f:n.out=[])(l:n.told=one)(g:n.dR=[one])(o:n.part=one)(u:n.k+c<=3000)(tb:∀v∈n.t,Bits 13000 v.1/\Bits 13000 v.2)(pb:Bits 6100 n.p)(qb:Bits 6100 n.q)
  (arg:∀(j a:Nat),n.args[j]?=some a->a<ns.length/\rho a<rho i) (shp:Shp ns rho c i n):aY ns rho c i n:=by
 have b1:cW 1 one:=⟨by unfold Bits one;decide,by unfold Bits one;decide,by unfold Bits one;decide,by unfold Bits one;decide⟩
 refine⟨by rw[h];simp,arg,?_,by rw[g,f];rfl,by rw[g];rfl,⟨λ_=>l,λj x e=>by rw[f]at e;simp at e⟩,by rw[f];simpa using hc,u,?_,by rw[l,f];exact b1,?_,λ_=>⟨by rw[l];exact aSe,λm b=>?_⟩,tb,pb,qb,?_,shp⟩
 .intro j a r x s d w;rw[h,List.getElem?_map,s]at d;simp at d;omega
 .intro r d;rw[h]at d;simp at d;omega
 .intro j m b;rw[g]at b
  have:j=0:=by
   have:=(k9.1 b).1;simp at this;exact this
  subst this;simp at b;rw[<-b];exact b1
 .rw[g]at b;simp at b;rw[b];exact aSe
 .rw[o];exact cW.mono b1 (by omega)
theorem aW {m:Nat}:Bits m 0:=by grind [Bits]
theorem eJ {m:Nat}(h:1<=m):Bits m 1:=by grind [Bits]
structure Grown (ns:List Nd) (rho:NN) (c R:Nat) (ns':List Nd) (rho':NN):Prop where
 inv:Inv ns' rho' c
 ext:∃ms,ns'=ns++ms
 agree:∀k,k<ns.length->rho' k=rho k
 jD:∀k,ns.length<=k->k<ns'.length->rho' k<=R
variable {j:List Nd}{P:NN}{w:Nat}
theorem Grown.le (h:Grown ns rho c w j P):Le ns j:=by
 obtain⟨a,rfl⟩:=h.ext;exact Le.more _ _
theorem Grown.refl (h:Inv ns rho c)(R:Nat):Grown ns rho c R ns rho:=⟨h,⟨[],by simp⟩,λ_ _=>rfl,λk a b=>by omega⟩
theorem Grown.trans {b:List Nd}{a:NN}(h:Grown ns rho c w j P)(d:Grown j P c w b a):Grown ns rho c w b a:=by
 have r:=h.le.len;obtain⟨q,e⟩:=h.ext;obtain⟨g,l⟩:=d.ext;refine⟨d.inv,⟨q++g,by rw[l,e,List.append_assoc]⟩,λk f=>by rw[d.agree k (by omega),h.agree k f],λk o p=>?_⟩
 by_cases f:k<j.length
 .rw[d.agree k f];exact h.jD k o f
 .exact d.jD k (by omega) p
theorem Grown.bO {a:Nat}(h:Grown ns rho c w j P)(e:w<=a):Grown ns rho c a j P:=⟨h.inv,h.ext,h.agree,λk b d=>p8 (h.jD k b d) e⟩
variable {r:Nat}
theorem uH (h:Inv ns rho c){n':Nd}(f:aY ns (jU rho ns.length r) c ns.length n'):more ns n'=some (ns++[n'])/\Grown ns rho c r (ns++[n']) (jU rho ns.length r)/\jU rho ns.length r ns.length=r:=by
 obtain⟨b,d,j,e,a⟩:=h.more f;refine⟨b,⟨d,⟨_,rfl⟩,e,λk k1 g=>?_⟩,a⟩
 have:k=ns.length:=by simp at g;omega
 rw[this,a];exact p7 _
variable {k:Nat}
theorem sJ {p:Nat}(h:p<k):jU rho k r p=rho p:=by unfold jU;rw[if_neg (by omega)]
theorem uE:jU rho k r k=r:=by unfold jU;rw[if_pos rfl]
theorem Cm {n':Nd}(h:n'.pos=true):Pos (ns++[n']) ns.length:=⟨n',by simp,h⟩
variable {x:Nat}{sq:FF}
theorem Zi (hc:c<=3000){op:Op}{a base:Nat}(f:fn op)(C:op≠.sqrt)(q:k+c<=3000)(l:Pos ns a)(o:Pos ns x)(ra:rho a<base)(w:rho x+1<base)(h:∀s,sq=some s->s<ns.length/\rho s<base/\Pos ns s):
  aY ns (jU rho ns.length (base+c+1)) c ns.length (eR op k a x sq):=by
 obtain⟨y,z,A,B⟩:=Zo op (k:=k) (by omega);refine wT hc rfl rfl rfl rfl rfl q ?_ aW aW ?_ ?_
 .intro v hv;simp[eR,fresh]at hv
  rcases hv with rfl|rfl|rfl|rfl
  .exact⟨aW,aW⟩
  .exact⟨eI y (by decide),aW⟩
  .exact⟨aW,eJ (by decide)⟩
  .exact⟨aW,eI z (by decide)⟩
 .intro j b d
  have:b=a:=by
   simp only[eR,fresh]at d
   cases j with
   |zero=>simpa using d.symm
   |succ j=>simp at d
  subst this;have:=l.lt;rw[sJ this,uE];exact⟨this,by omega⟩
 .refine .nest a _ _ _ _ rfl rfl rfl rfl ⟨⟨base,c,uE,p7 _,q,by rw[sJ l.lt];exact ra,λe=>absurd ⟨rfl,rfl⟩ e,λ_=>⟨x,rfl,o.lt,by rw[sJ o.lt];exact w,o,λs g=>?_⟩⟩,f,aLT A B,l⟩;obtain⟨p,r,u⟩:=h s g;exact⟨p,by rw[sJ p];exact r,u⟩
theorem aKb (hc:c<=3000){p:Bool}(d:x<ns.length)(e:rho x<r):aY ns (jU rho ns.length r) c ns.length (two .mul p p x x):=by
 refine wT hc rfl rfl rfl rfl rfl (by simpa[two,fresh]using hc) ?_ aW aW ?_ (.bin x x _ _ _ _ rfl rfl rfl)
 .intro v hv;simp[two,fresh,Kind.cols]at hv
  rcases hv with rfl|rfl|rfl
  .exact⟨eJ (by decide),aW⟩
  .exact⟨aW,aW⟩
  .exact⟨aW,eJ (by decide)⟩
 .intro j b a
  have:b=x:=by
   simp only[two,fresh]at a
   cases j with
   |zero=>simpa using a.symm
   |succ j=>cases j with
    |zero=>simpa using a.symm
    |succ j=>simp at a
  subst this;rw[sJ d,uE];exact⟨d,e⟩
theorem aKS (h:Inv ns rho c)(hc:c<=3000){op:Op}{base:Nat}(f:fn op)(y:op≠.sqrt)(w:k+c<=3000)(b:Pos ns x)(z:rho x+1<base)(g:∀s,sq=some s->s<ns.length/\rho s<base/\Pos ns s):
  ∃l u d,nest ns op k x sq=some (l,d)/\Grown ns rho c (base+c+1) l u/\ns.length<=d/\Pos l d:=by
 unfold nest;split
 .cases sq with
  |some s=>
   obtain⟨H,C,D⟩:=g s rfl;obtain⟨k1,j,v⟩:=uH h (Zi hc f y w (a:=s) D b C z (sq:=some s) g);simp only;rw[k1];exact⟨_,_,_,rfl,j,p7 _,Cm rfl⟩
  |none=>
   obtain⟨o,A,q⟩:=b
   have b:Pos ns x:=⟨o,A,q⟩
   obtain⟨k1,j,v⟩:=uH h (aKb (p:=o.pos) hc b.lt (r:=base-1) (by omega));simp only;rw[A,n9,k1,n9];have B:Pos (ns++[two .mul o.pos o.pos x x]) ns.length:=Cm (by rw[q];rfl);obtain⟨E,F,I⟩:=uH j.inv (Zi (rho:=jU rho ns.length (base-1)) hc f y w (a:=ns.length) (base:=base) B (b.le j.le) (by rw[v];omega) (by rw[sJ b.lt];exact z) (sq:=some ns.length) (λs e=>by cases e;exact⟨by simp,by rw[v];omega,B⟩));rw[E];exact⟨_,_,_,rfl,(j.bO (by omega)).trans F,by simp,by have:=Cm (ns:=ns++[two .mul o.pos o.pos x x]) (n':=eR op k ns.length x (some ns.length)) rfl;simpa using this⟩
 .obtain⟨k1,j,v⟩:=uH h (Zi hc f y w (a:=x) b b (by omega) z (sq:=sq) g);rw[k1];exact⟨_,_,_,rfl,j,p7 _,Cm rfl⟩
end
end Rf
namespace Rf
open Nw
section
variable {ns:List Nd} {rho:NN} {c i:Nat} {n:Nd}
theorem aWw {k:Nat}{d:Nd}(a:k≠i):(ns.set i d)[k]?=ns[k]?:=l5 (λe=>a e.symm)
structure gX (ns:List Nd) (rho:NN) (i:Nat) (ns':List Nd) (rho':NN):Prop where
 le:Le ns ns'
 agree:∀k,k<ns.length->rho' k=rho k
 jD:∀k,ns.length<=k->k<ns'.length->rho' k<rho i
 same:∀(k:Nat) (n:Nd),ns[k]?=some n->rho i<rho k->ns'[k]?=some n
theorem gX.refl (ns:List Nd)(rho:NN)(i:Nat):gX ns rho i ns rho:=⟨Le.refl _,λ_ _=>rfl,λk a b=>by omega,λk n h _=>h⟩
theorem gX.trans {j b:List Nd}{P a:NN}(hi:i<ns.length)(h:gX ns rho i j P)(e:gX j P i b a):gX ns rho i b a:=by
 have p:=h.le.len;refine⟨h.le.trans e.le,λk d=>by rw[e.agree k (by omega),h.agree k d],λk l o=>?_,λk n f g=>?_⟩
 .by_cases d:k<j.length
  .rw[e.agree k d];exact h.jD k l d
  .have:=e.jD k (by omega) o;rw[h.agree i hi]at this;exact this
 .have d:=(k9.1 f).1;refine e.same k n (h.same k n f g) ?_;rw[h.agree i hi,h.agree k d];exact g
theorem gX.set {n':Nd}(d:ns[i]?=some n)(g:n'.pos=n.pos)(f:n.out.length<=n'.out.length):gX ns rho i (ns.set i n') rho:=
 ⟨Le.set d g f,λ_ _=>rfl,λk h a=>by simp at a;omega,λk m b j=>by rw[aWw (by intro e;subst e;omega)];exact b⟩
variable {a:Nat}{j:List Nd}{P:NN}
theorem gX.up (h:gX ns rho a j P)(b:rho a<rho i):gX ns rho i j P:=
 ⟨h.le,h.agree,λk d e=>q8 (h.jD k d e) b,λk n g f=>h.same k n g (q8 b f)⟩
variable {w:Nat}
theorem gX.grown (h:Grown ns rho c w j P)(e:w<rho i):gX ns rho i j P:=by
 refine⟨h.le,h.agree,λk b d=>Nat.lt_of_le_of_lt (h.jD k b d) e,λk n a _=>?_⟩;obtain⟨f,rfl⟩:=h.ext;rw[k8 (k9.1 a).1];exact a
theorem Grown.at' {k:Nat}{m:Nd}(h:Grown ns rho c w j P)(a:ns[k]?=some m):j[k]?=some m:=by
 obtain⟨b,rfl⟩:=h.ext;rw[k8 (k9.1 a).1];exact a
theorem aLC {cl:Int}(h:Inv ns rho c)(hc:c<=3000)(H:ns[i]?=some n){M F x y:V}(S:n.t=[M,F,x,y])(s:n.args=[a])(hp:n.aP=false)(ok:jM ns rho c i n a)(J:¬(n.read=[0]/\n.out=[])):
  ∃l o d B,wide ⟨ns,cl⟩ i n 1=some ⟨l,cl⟩/\Inv l o c/\gX ns rho i l o/\l[i]?=some B/\B={n with args:=n.args++[d],read:=n.read++[0]}:=by
 have D:=h.at' i n H;have hi:=(k9.1 H).1;obtain⟨⟨base,ck,h1,h2,h3,Y,h5,h6⟩,P,h8,A⟩:=ok;have ae:=h5 J
 have N:∃l o d,deeper ns n=some (l,d)/\Grown ns rho c (base+c+1) l o/\ns.length<=d/\Pos l d:=by
  unfold deeper
  by_cases z:n.op=.sqrt
  .rw[if_pos z,s];simp only[n5,n9]
   obtain ⟨k1,T,U⟩:=uH h (r:=base+c+1) (n':={ fresh true n.t [a] with op:=n.op,nest:=true}) (by
    refine wT hc rfl rfl rfl rfl rfl (by simpa[fresh]using hc) D.tb aW aW ?_ (.nest a M F x y S rfl rfl rfl ⟨⟨base,c,uE,p7 _,by simpa[fresh]using hc,by rw[sJ A.lt];exact Y,λe=>absurd ⟨rfl,rfl⟩ e,λe=>absurd z e⟩,P,h8,A⟩);intro j b p
    have:b=a:=by
     simp only[fresh]at p
     cases j with
     |zero=>simpa using p.symm
     |succ j=>simp at p
    subst this;rw[sJ A.lt,uE]
    exact⟨A.lt,by omega⟩)
   rw[k1];exact⟨_,_,_,rfl,T,p7 _,Cm rfl⟩
  .rw[if_neg z];obtain⟨W,k1,T,U,k4,k5⟩:=h6 z;rw[k1,n9];exact aKS h hc P z (by omega) k4 U k5
 obtain⟨O,q,d,X,g,hd,pd⟩:=N;have u:=g.at' H;have f:=g.inv.at' i n u;have I:q i=rho i:=g.agree i hi
 obtain⟨r,R⟩:∃r,n.read=[r]:=by
  have:=D.len;rw[s]at this;exact n6.1 this
 have E:aY O q c i {n with args:=n.args++[d],read:=n.read++[0]}:=by
  refine⟨by simp[D.len],?_,?_,f.kY,f.nM,f.fst,f.iX,f.ku,?_,f.jF,f.lU,f.up,f.tb,f.pb,f.qb,f.iF,.bin a d M F x y S (by simp[s]) hp⟩
  .intro j b p;simp only[s]at p
   cases j with
   |zero=>exact f.arg 0 b (by rw[s];simpa using p)
   |succ j=>cases j with
    |zero=>
     have:b=d:=by simpa using p.symm
     subst this;have:=g.jD b hd pd.lt;exact⟨pd.lt,by rw[I];omega⟩
    |succ j=>simp at p
  .intro j b C W p k L;simp only[s,R]at p k
   cases j with
   |zero=>exact f.rd 0 b C W (by rw[s];simpa using p) (by rw[R];simpa using k) L
   |succ j=>cases j with
    |zero=>
     have:C=0:=by simpa using k.symm
     omega
    |succ j=>simp at p
  .intro C k;simp only[List.mem_append,n7]at k
   rcases k with k|rfl
   .exact f.jE C k
   .omega
 obtain⟨p1,p2,p3⟩:=g.inv.put u (n':={n with args:=n.args++[d],read:=n.read++[0]}) rfl (p7 _) E;refine⟨_,q,d,_,?_,p2,?_,by rw[l4 (by have:=g.le.len;omega)],rfl⟩
 .unfold wide;rw[if_pos (by simp[s]),X,n9,p1];rfl
 .exact(gX.grown g (by omega)).trans hi (gX.set u rfl (p7 _))
theorem aN5 {m:Mt}(a:cW (2*w+1) m)(g:w<=3000):Bits 6100 (eX m (0,1)).1/\Bits 6100 (eX m (0,1)).2:=by
 have e:(eX m (0,1)).1=m.b:=by simp[eX,Mt.at1]
 have f:(eX m (0,1)).2=m.d:=by simp[eX,Mt.at2]
 rw[e,f];exact⟨eI a.b (by omega),eI a.d (by omega)⟩
theorem aTc {m:Mt}(h:Up m):0<=(eX m (0,1)).1/\0<(eX m (0,1)).2/\(known .sqrt (eX m (0,1)) (eX m (1,0))=true->0<(eX m (0,1)).1):=by
 have j:eX m (0,1)=(m.b,m.d):=by simp[eX,Mt.at1,Mt.at2]
 have k:eX m (1,0)=(m.a,m.c):=by simp[eX,Mt.at1,Mt.at2]
 obtain⟨p,f,l,q,g⟩:=h;have o:0<=m.b*m.c:=Int.mul_nonneg f l;rw[j,k];refine⟨f,?_,?_⟩
 .show 0<m.d
  rcases s4 0 m.d with h|h
  .exact h
  .have:m.d=0:=by omega
   rw[this]at g;omega
 .intro e;unfold known at e;simp at e;show 0<m.b
  rcases s4 0 m.b with h|h
  .exact h
  .have:m.b=0:=by omega
   rw[this]at g e;omega
theorem lM {b p:Nat}(h:([a]:NU)[p]?=some b):b=a:=by grind
theorem args2 {b d W:Nat}(h:([a,d]:NU)[W]?=some b):b=a\/b=d:=by grind
theorem aFa (h:Inv ns rho c)(hc:c<=3000){op:Op}{p q:Int}(k:fn op)(o:0<p)(s:0<q)(pb:Bits 6100 p)(qb:Bits 6100 q):∃b f d,outright ns op p q=some (b,d)/\Grown ns rho c 1 b f/\ns.length<=d/\Pos b d:=by
 unfold outright;obtain⟨k1,l,x⟩:=uH h (r:=0) (n':=row op p q) (wT hc rfl rfl rfl rfl rfl (by simpa[row,fresh]using hc) (λv hv=>by simp[row,fresh]at hv) pb qb (λj a g=>by simp[row,fresh]at g) (.fH rfl rfl rfl (Or.inr (Or.inr (Or.inr ⟨k,o,s⟩)))));rw[k1,n9];split
 .obtain ⟨u,w,y⟩:=uH l.inv (r:=1) (n':=raised ns.length) (by
   refine wT hc rfl rfl rfl rfl rfl (by simpa[raised,fresh]using hc) ?_ aW aW ?_ (.kR _ _ ns.length rfl rfl (λe=>by cases e))
   .intro v hv;simp[raised,fresh]at hv
    rcases hv with rfl|rfl
    .exact⟨eJ (by decide),yO (eJ (by decide))⟩
    .exact⟨eJ (by decide),eJ (by decide)⟩
   .intro j a g;have:=lM g;subst this;rw[sJ (by simp),uE,uE]
    exact⟨by simp,by decide⟩)
  rw[u];exact⟨_,_,_,rfl,(l.bO (by decide)).trans w,by simp,by have:=Cm (ns:=ns++[row op p q]) (n':=raised ns.length) rfl;simpa using this⟩
 .exact⟨_,_,_,rfl,l.bO (by decide),p7 _,Cm rfl⟩
theorem aQ2 (h:Inv ns rho c)(hc:c<=3000)(R:ns[i]?=some n){v w:V}{x:Nat}(ht:n.t=[v,w])(ha:n.args=[x])(hr:n.read=[0])(hp:n.aP=false)(a2:n.pos=true)(N:fn n.op)(ho:n.out=[])(px:Pos ns x)(rx:rho x+3100<=rho i)(hk:n.k=0)
  {lo:V} (b1:Bits 6100 lo.1) (b2:Bits 6100 lo.2) (l1:0<=lo.1) (l2:0<lo.2) (l3:n.op=.sqrt->0<lo.1):
  ∃H J,turn ns i n lo=some H/\Inv H J c/\gX ns rho i H J/\(∃O,H[i]?=some O/\O.out=[]):=by
 have q:=h.at' i n R;have hi:=(k9.1 R).1
 have ak:n.args[0]?=some x:=by rw[ha];rfl
 unfold turn;rw[ak,n9]
 by_cases Y:n.op=.sqrt
 .rw[if_pos Y];obtain⟨a,b,e1,e2,e3,e4,e5⟩:=Ox (l3 Y) l2 b1 b2;rw[e1,n9]
  have B:aY ns rho c i {n with t:=[(0,0),(b,0),(a,b),(0,a)],nest:=true}:=by
   refine⟨q.len,q.arg,q.rd,q.kY,q.nM,q.fst,q.iX,q.ku,q.jE,q.jF,q.lU,q.up,?_,q.pb,q.qb,q.iF,.nest x _ _ _ _ rfl ha hp rfl ⟨⟨rho i-c-1,c,by omega,p7 _,by simp only;omega,by omega,λe=>absurd ⟨hr,ho⟩ e,λe=>absurd Y e⟩,N,aLU (by omega) e3,px⟩⟩;intro v hv;simp at hv
   rcases hv with rfl|rfl|rfl|rfl
   .exact⟨aW,aW⟩
   .exact⟨eI e5 (by decide),aW⟩
   .exact⟨eI e4 (by decide),eI e5 (by decide)⟩
   .exact⟨aW,eI e4 (by decide)⟩
  obtain⟨p1,p2,p3⟩:=h.put R (n':={n with t:=[(0,0),(b,0),(a,b),(0,a)],nest:=true}) rfl (p7 _) B;exact⟨_,rho,p1,p2,gX.set R rfl (p7 _),_,l4 hi,ho⟩
 .rw[if_neg Y]
  -- z
  have Z:∃A C z,(if 0<lo.1 then(more ns (fresh true (jV n.op lo) [x])).map λA=>(A,ns.length)else some (ns,x))=some (A,z)/\Grown ns rho c (rho x+1) A C/\Pos A z/\C z<=rho x+1:=by
   by_cases W:0<lo.1
   .rw[if_pos W]
    obtain ⟨k1,k2,k3⟩:=uH h (r:=rho x+1) (n':=fresh true (jV n.op lo) [x]) (by
     refine wT hc rfl rfl rfl rfl rfl (by simpa[fresh]using hc) ?_ aW aW ?_ (.kR _ _ x rfl rfl (λe=>by cases e))
     .intro v hv;simp[fresh,jV]at hv
      rcases hv with rfl|rfl
      .refine⟨eI b2 (by decide),?_⟩;simp only;split
       .exact eI b1 (by decide)
       .exact aW
      .refine⟨eI (yO b1) (by decide),?_⟩;simp only;split
       .exact eI (pL b1 b2) (by decide)
       .exact eI b2 (by decide)
     .intro j b D;have:=lM D;subst this;rw[sJ px.lt,uE]
      exact⟨px.lt,by omega⟩)
    rw[k1];exact⟨_,_,_,rfl,k2,Cm rfl,by rw[k3];exact p7 _⟩
   .rw[if_neg W];exact⟨_,_,_,rfl,Grown.refl h _,px,by omega⟩
  obtain⟨A,C,z,e1,g1,pz,rz⟩:=Z;rw[e1,n9]
  -- the nest
  obtain⟨I,L,d,e2,g2,hd,pd⟩:=aKS (base:=rho x+3) g1.inv hc (k:=0) (sq:=none) N Y (by omega) pz (by omega) (λs e=>by cases e);simp only;rw[e2,n9];have rd:L d<=rho x+3+c+1:=g2.jD d hd pd.lt;have G2:Grown ns rho c (rho x+3+c+1) I L:=(g1.bO (by omega)).trans g2
  -- raised
  have T:∃u o t,(if n.op=.exp then(more I (raised d)).map λu=>(u,I.length)else some (I,d))=some (u,t)/\Grown ns rho c (rho x+3+c+2) u o/\Pos u t/\o t<=rho x+3+c+2:=by
   by_cases U:n.op=.exp
   .rw[if_pos U]
    obtain ⟨k1,k2,k3⟩:=uH G2.inv (r:=rho x+3+c+2) (n':=raised d) (by
     refine wT hc rfl rfl rfl rfl rfl (by simpa[raised,fresh]using hc) ?_ aW aW ?_ (.kR _ _ d rfl rfl (λe=>by cases e))
     .intro v hv;simp[raised,fresh]at hv
      rcases hv with rfl|rfl
      .exact⟨eJ (by decide),yO (eJ (by decide))⟩
      .exact⟨eJ (by decide),eJ (by decide)⟩
     .intro j b D;have:=lM D;subst this;rw[sJ pd.lt,uE]
      exact⟨pd.lt,by omega⟩)
    rw[k1];exact⟨_,_,_,rfl,(G2.bO (by omega)).trans k2,Cm rfl,by rw[k3];exact p7 _⟩
   .rw[if_neg U];exact⟨_,_,_,rfl,G2.bO (by omega),pd,by omega⟩
  obtain⟨u,o,t,e3,M,pt,rt⟩:=T;simp only;rw[e3,n9];simp only;have E:=M.at' R;have g:=M.inv.at' i n E;have am:o i=rho i:=M.agree i hi
  by_cases W:lo.1=0
  .rw[if_pos W]
   have B:aY u o c i {n with args:=[t]}:=by
    refine⟨by simp[hr],?_,?_,g.kY,g.nM,g.fst,g.iX,g.ku,g.jE,g.jF,g.lU,g.up,g.tb,g.pb,g.qb,g.iF,.kR v w t ht rfl (λe=>by simp only at e;rw[hp]at e;cases e)⟩
    .intro j b D;have:=lM D;subst this;exact⟨pt.lt,by rw[am];omega⟩
    .intro j b r' x' D y ao;simp only[hr]at y;have:=lM y;omega
   obtain⟨p1,p2,p3⟩:=M.inv.put E (n':={n with args:=[t]}) rfl (p7 _) B;exact⟨_,o,p1,p2,(gX.grown M (by omega)).trans hi (gX.set E rfl (p7 _)),_,l4 (k9.1 E).1,ho⟩
  .rw[if_neg W];obtain⟨P,p,f,e4,g4,hf,pf⟩:=aFa M.inv hc N (show 0<lo.1 by omega) l2 b1 b2;rw[e4,n9];simp only;have S:Grown ns rho c (rho x+3+c+2) P p:=M.trans (g4.bO (by omega));have F:=S.at' R;have l:=S.inv.at' i n F;have X:p i=rho i:=S.agree i hi;have rf:p f<=1:=g4.jD f hf pf.lt;have av:p t=o t:=g4.agree t pt.lt;have au:Pos P t:=pt.le g4.le
   have B:aY P p c i {n with t:=(if n.op=.exp then Kind.mul else Kind.add).cols,args:=[f,t],read:=[0,0]}:=by
    refine⟨rfl,?_,?_,l.kY,l.nM,l.fst,l.iX,l.ku,?_,l.jF,l.lU,l.up,?_,l.pb,l.qb,l.iF,?_⟩
    .intro j b D
     rcases args2 D with rfl|rfl
     .exact⟨pf.lt,by rw[X];omega⟩
     .exact⟨au.lt,by rw[X,av];omega⟩
    .intro j b r' x' D y ao
     rcases args2 y with e|e<;>omega
    .intro r' y;simp at y;omega
    .intro v hv;simp only at hv;split at hv
     .simp[Kind.cols]at hv
      rcases hv with rfl|rfl|rfl
      .exact⟨eJ (by decide),aW⟩
      .exact⟨aW,aW⟩
      .exact⟨aW,eJ (by decide)⟩
     .simp[Kind.cols]at hv
      rcases hv with rfl|rfl|rfl
      .exact⟨aW,aW⟩
      .exact⟨eJ (by decide),aW⟩
      .exact⟨aW,eJ (by decide)⟩
    .by_cases U:n.op=.exp
     .exact .bin f t _ _ _ _ (by simp only[U,if_true];rfl) rfl hp
     .exact .bin f t _ _ _ _ (by simp only[U,if_false];rfl) rfl hp
   obtain⟨p1,p2,p3⟩:=S.inv.put F (n':={n with t:=(if n.op=.exp then Kind.mul else Kind.add).cols,args:=[f,t],read:=[0,0]}) rfl (p7 _) B;exact⟨_,p,p1,p2,(gX.grown S (by omega)).trans hi (gX.set F rfl (p7 _)),_,l4 (k9.1 F).1,ho⟩
end
end Rf
namespace Rf
open Nw
section
variable {ns:List Nd} {rho:NN} {c i:Nat} {n:Nd}
theorem aKy (l:NU)(k:Nat):(bump l k).length=l.length:=by
 induction l generalizing k with
 |nil=>rfl
 |cons r b a=>cases k with
  |zero=>rfl
  |succ k=>simp[bump,a]
theorem aM5 (l:NU)(k j:Nat):(bump l k)[j]?=(l[j]?).map λr=>if j=k then r+1 else r:=by
 induction l generalizing k j with
 |nil=>simp[bump]
 |cons r b a=>
  cases k with
  |zero=>cases j with
   |zero=>simp[bump]
   |succ j=>simp[bump]
  |succ k=>cases j with
   |zero=>simp[bump]
   |succ j=>simp[bump,a]
variable {r:Nat}
theorem aKz {f:NU}{k:Nat}(h:r∈bump f k):r∈f\/∃d,f[k]?=some d/\r=d+1:=by
 obtain⟨j,o,e⟩:=j8 h
 have a:(bump f k)[j]?=some r:=by rw[j9 o,e]
 rw[aM5]at a
 cases b:f[j]? with
 |none=>rw[b]at a;simp at a
 |some d=>
  rw[b]at a;simp at a;split at a
  .rename_i g;subst g;exact Or.inr ⟨d,b,a.symm⟩
  .subst a;exact Or.inl (n8 b)
variable {w:Nat}
theorem aKx (h:Inv ns rho (c+1))(D:ns[i]?=some n){a:Nat}{x:Nd}(u:n.args[w]?=some a)(E:n.read[w]?=some r)(F:ns[a]?=some x)(S:r<x.out.length):
  aY ns rho c i {n with read:=bump n.read w}:=by
 have A:=h.at' i n D;have hi:=(k9.1 D).1;have k:=A.mono (c':=c) (Le.refl _) (λ_ _=>rfl) hi (by omega);have T:=(h.at' a x F).iX;refine⟨by simp[aKy,A.len],k.arg,?_,k.kY,k.nM,k.fst,k.iX,k.ku,?_,k.jF,k.lU,k.up,k.tb,k.pb,k.qb,k.iF,?_⟩
 .intro j b H U B g p;simp only[aM5]at g
  cases z:n.read[j]? with
  |none=>rw[z]at g;simp at g
  |some I=>
   rw[z]at g;simp at g;have W:=A.rd j b I U B z p;split at g
   .rename_i e;subst e;rw[u]at B;cases B;rw[F]at p;cases p;rw[E]at z;cases z;omega
   .omega
 .intro H g
  rcases aKz g with q|⟨I,q,L⟩
  .exact k.jE H q
  .rw[E]at q;cases q;omega
 .cases A.shp with
  |fH o f l hc=>rw[f]at u;simp at u
  |gQ v o f l hv=>rw[f]at u;simp at u
  |kR v d s o f l=>exact .kR v d s o f l
  |bin s b v d x y o f l=>exact .bin s b v d x y o f l
  |nest s v d x y o f l C ok=>
   obtain⟨⟨base,J,q,L,M,N,X,O⟩,P,h8,R⟩:=ok;exact .nest s v d x y o f l C ⟨⟨base,J,q,by omega,M,N,λ_=>by omega,O⟩,P,h8,R⟩
theorem aSy (h:Inv ns rho c)(e:ns[i]?=some n):Ok {n with read:=bump n.read w}:=by
 have d:=h.at' i n e;have a:=d.ok;refine⟨a.t,a.told,a.dR,a.part,a.p,a.q,?_,a.out,a.k⟩;intro r f
 rcases aKz f with b|⟨g,b,j⟩
 .exact a.read r b
 .have:=d.jE g (n8 b);omega
theorem Zv {s:St}(F:s.clock=(c:Int))(h:Inv s.nodes rho c)(hc:c<=3000)(B:s.nodes[i]?=some n){a:Nat}{x:Nd}(ha:n.args[w]?=some a)(hr:n.read[w]?=some r)(hx:s.nodes[a]?=some x)(T:r<x.out.length)(aa:n.aP=true->w=0):
  ∃N b,after s i w=some (N,b)/\(b=true->∃p P,P<c/\N.clock=(P:Int)/\Inv N.nodes p P/\gX s.nodes rho i N.nodes p/\∃I,N.nodes[i]?=some I/\I.out=n.out):=by
 have hi:=(k9.1 B).1;unfold after;rw[B,n9]
 cases c with
 |zero=>
  have l:put s.nodes i {n with read:=bump n.read w}=some (s.nodes.set i {n with read:=bump n.read w}):=by
   unfold put;rw[if_pos ⟨aSy h B,hi⟩]
  rw[l,n9,if_pos (by rw[F];decide)];exact⟨_,_,rfl,λe=>by cases e⟩
 |succ c=>
  have hB:=aKx h B ha hr hx T;obtain⟨p1,J,p3⟩:=(h.tick (show c<=c+1 by omega)).put B (n':={n with read:=bump n.read w}) rfl (p7 _) hB;rw[p1,n9,if_neg (by rw[F];omega)]
  have u:s.clock-1=(c:Int):=by rw[F];omega
  have M1:gX s.nodes rho i (s.nodes.set i {n with read:=bump n.read w}) rho:=gX.set B rfl (p7 _);have C:(s.nodes.set i {n with read:=bump n.read w})[i]?=some {n with read:=bump n.read w}:=l4 hi;have f:=J.at' i _ C;unfold settle
  by_cases o:n.aP=true
  .rw[if_pos o];have ab:=f.shp
   have hS:∃v d q,n.t=[v,d]/\n.args=[q]/\n.pos=true/\fn n.op/\n.out=[]/\Pos (s.nodes.set i {n with read:=bump n.read w}) q/\rho q+3100<=rho i/\n.k=0:=by
    cases ab with
    |fH E g l hc=>simp only at l;rw[o]at l;cases l
    |gQ v E g l hv=>simp only at l;rw[o]at l;cases l
    |kR v d q E g l=>
     obtain⟨k1,k2,k3,k4,k5,k6⟩:=l o;exact⟨v,d,q,E,g,k1,k2,k3,k4,k5,k6⟩
    |bin q b v d x y E g l=>simp only at l;rw[o]at l;cases l
    |nest q v d x y E g l ay ok=>simp only at l;rw[o]at l;cases l
   obtain⟨v,d,q,E,g,L,X,ho,pa,ra,hk⟩:=hS;obtain⟨m,x',O,e1,e2,R,e4⟩:=Fo J f (sd:=0) (a:=q) (by show n.args[0]?=_;rw[g];rfl);rw[e4,n9];simp only;obtain⟨y',q1,q2⟩:=pa;rw[q1]at e1;cases e1;have A:=J.at' q x' q1;have ad:Up m:=(A.up q2).2 m (n8 R);have U:=A.lU O m R
   have M:O<=3000:=by have:=A.iX;have:=A.kY;have:=(k9.1 R).1;omega
   obtain⟨b1,b2⟩:=aN5 U M;obtain⟨l1,l2,l3⟩:=aTc ad
   by_cases H:known n.op (eX m (0,1)) (eX m (1,0))=true
   .rw[if_pos H]
    obtain⟨r0,Y⟩:∃r0,n.read=[r0]:=by
     have:=(h.at' i n B).len;rw[g]at this;exact n6.1 this
    have z:((bump n.read w).set 0 0)=[0]:=by
     rw[aa o,Y];rfl
    have S:aY (s.nodes.set i {n with read:=bump n.read w}) rho c i {n with read:=(bump n.read w).set 0 0,aP:=false}:=by
     refine⟨by simp[aKy,(h.at' i n B).len],f.arg,?_,f.kY,f.nM,f.fst,f.iX,f.ku,?_,f.jF,f.lU,f.up,f.tb,f.pb,f.qb,f.iF,.kR v d q E g (λe=>by cases e)⟩
     .intro j b O x' hb D a1;simp only[z]at D;have:=lM D;omega
     .intro O D;simp only[z,n7]at D;omega
    obtain⟨t1,t2,t3⟩:=J.put C (n':={n with read:=(bump n.read w).set 0 0,aP:=false}) rfl (p7 _) S;simp only[List.set_set]at t1 t2 t3 ⊢;have M2:gX s.nodes rho i (s.nodes.set i {n with read:=(bump n.read w).set 0 0,aP:=false}) rho:=gX.set B rfl (p7 _);have W:(s.nodes.set i {n with read:=(bump n.read w).set 0 0,aP:=false})[i]?=some {n with read:=(bump n.read w).set 0 0,aP:=false}:=l4 hi;obtain⟨ba,p,u1,u2,u3,I,u4,u5⟩:=aQ2 t2 (by omega) W (v:=v) (w:=d) (x:=q) E g z rfl L X ho (Pos.le ⟨_,q1,q2⟩ t3) ra hk b1 b2 l1 l2 (λe=>l3 (by rw[<-e];exact H));rw[t1,n9,u1];refine⟨_,_,rfl,λ_=>⟨p,c,by omega,u,u2,M2.trans hi u3,I,u4,by rw[u5,ho]⟩⟩
   .rw[if_neg H];exact⟨_,_,rfl,λ_=>⟨rho,c,by omega,u,J,M1,_,C,rfl⟩⟩
  .rw[if_neg o];exact⟨_,_,rfl,λ_=>⟨rho,c,by omega,u,J,M1,_,C,rfl⟩⟩
structure eQ (s:St) (rho:NN) (c i j:Nat) (x:St×Option Int):Prop where
 ex:∀v,x.2=some v->∃rho' c',c'<=c/\x.1.clock=(c':Int)/\Inv x.1.nodes rho' c'/\gX s.nodes rho i x.1.nodes rho'/\∃n',x.1.nodes[i]?=some n'/\j<n'.out.length
theorem eQ.none (s:St)(rho:NN)(c i j:Nat)(a:St):eQ s rho c i j (a,none):=⟨λv e=>by cases e⟩
theorem eQ.mid {s d:St}{rho a:NN}{c c1 i W:Nat}{x:St×Option Int}(hi:i<s.nodes.length)(h:gX s.nodes rho i d.nodes a)(hc:c1<=c)(p:eQ d a c1 i W x):eQ s rho c i W x:=by
 refine⟨λv e=>?_⟩;obtain⟨b,f,q,g,k,l,o⟩:=p.ex v e;exact⟨b,f,by omega,g,k,h.trans hi l,o⟩
theorem total:∀(f:Nat) (s:St) (i j:Nat) (rho:NN) (c:Nat),s.clock=(c:Int)->c<=3000->Inv s.nodes rho c->∀n,s.nodes[i]?=some n->j<=n.out.length->c+rho i+2<=f->∃x,sym f s i j=some x/\eQ s rho c i j x
 |0,s,i,j,rho,c,u,S,h,n,E,hj,hf=>by omega
 |f+1,s,i,j,rho,c,u,S,h,n,E,hj,hf=>by
  have hi:=(k9.1 E).1;have I:=h.at' i n E;unfold sym;rw[E,n9]
  cases R:n.out[j]? with
  |some v=>
   refine⟨_,rfl,⟨λv' e=>⟨rho,c,p7 _,u,h,gX.refl _ _ _,n,E,(k9.1 R).1⟩⟩⟩
  |none=>
   have bh:n.out.length=j:=by
    have:=List.getElem?_eq_none_iff.1 R;omega
   simp only
   obtain⟨o,C⟩:∃o,(if n.aP=true then some none else next s.nodes n)=some o:=by
    split
    .exact⟨_,rfl⟩
    .exact sC h I
   rw[C,n9]
   cases o with
   |some g=>
    have F:n.aP=false:=by
     cases aq:n.aP with
     |false=>rfl
     |true=>rw[aq]at C;simp at C
    rw[F]at C;simp only[s8,if_false]at C;simp only
    cases c with
    |zero=>
     rw[if_pos (by rw[u];decide)];exact⟨_,rfl,eQ.none _ _ _ _ _ _⟩
    |succ c=>
     rw[if_neg (by rw[u];omega)];obtain⟨B,g1,g2,g3,g4⟩:=aHc h E F C;unfold give;rw[g1,o8,n9];have L:(s.nodes.set i B)[i]?=some B:=l4 hi
     have M:B.pos=n.pos:=by
      obtain⟨m,k1,T,_⟩:=g3.at' i n E;rw[L]at k1;cases k1;exact T
     obtain⟨x,x1,x2⟩:=total f ⟨s.nodes.set i B,s.clock-1⟩ i j rho c (by simp only;rw[u];omega) (by omega) g2 B L (by omega) (by omega);exact⟨x,x1,x2.mid hi (gX.set E M (by omega)) (by omega)⟩
   |none=>
    simp only
    suffices hR:∃U b,reads (sym f) s i n=some (U,b)/\(b=true->∃A W,W<c/\U.clock=(W:Int)/\Inv U.nodes A W/\gX s.nodes rho i U.nodes A/\∃B,U.nodes[i]?=some B/\B.out=n.out) by
     obtain⟨U,b,r1,r2⟩:=hR;rw[r1,n9]
     cases b with
     |false=>exact⟨_,rfl,eQ.none _ _ _ _ _ _⟩
     |true=>
      obtain⟨A,W,k1,T,k3,k4,B,k5,k6⟩:=r2 rfl;simp only[if_true];obtain⟨x,x1,x2⟩:=total f U i j A W T (by omega) k3 B k5 (by rw[k6];omega) (by rw[k4.agree i hi];omega);exact⟨x,x1,x2.mid hi k4 (by omega)⟩
    unfold reads
    by_cases O:n.t=[]
    .rw[if_pos O]
     cases c with
     |zero=>
      -- the clock has run out
      have Y:pT n:=by
       cases I.shp with
       |fH O z F hc=>exact hc
       |gQ v l z F hv=>rw[O]at l;cases l
       |kR v w a l z F=>rw[O]at l;cases l
       |bin a b v w x y l z F=>rw[O]at l;cases l
       |nest a v w x y l z F E ok=>rw[O]at l;cases l
      have bi:=I.ku;obtain⟨m,m1,m2⟩:=Fx Y (k:=n.k) (by omega) I.pb I.qb
      have ap:Ok {n with part:=n.part.mul m,k:=n.k+1}:=by
       have C:=I.ok;refine⟨C.t,C.told,C.dR,cW.mono (aHn I.iF m2) ?_,C.p,C.q,C.read,C.out,by simp only;omega⟩;have:n.k*18500<=3000*18500:=o9 _ (by omega);omega
      have aa:put s.nodes i {n with part:=n.part.mul m,k:=n.k+1}=some (s.nodes.set i {n with part:=n.part.mul m,k:=n.k+1}):=by
       unfold put;rw[if_pos ⟨ap,hi⟩]
      rw[m1,n9,aa,o8];refine⟨_,_,rfl,λe=>?_⟩;rw[u]at e;exact absurd e (by decide)
     |succ c=>
      obtain⟨m,B,m1,m2,m3,m4,m5⟩:=aJt h E O;rw[m1,n9,m2,o8];have L:(s.nodes.set i B)[i]?=some B:=l4 hi
      have M:B.pos=n.pos:=by
       obtain⟨m,k1,T,_⟩:=m4.at' i n E;rw[L]at k1;cases k1;exact T
      exact⟨_,_,rfl,λ_=>⟨rho,c,by omega,by simp only;rw[u];omega,m3,gX.set E M (by rw[m5];exact p7 _),B,L,m5⟩⟩
    .rw[if_neg O]
     -- which side,and the nodes with that argument
     have hS:∃H N D P a r,side s.nodes n=some H/\wide s i n H=some N/\N.clock=(c:Int)/\Inv N.nodes D c/\gX s.nodes rho i N.nodes D/\N.nodes[i]?=some P/\P.args[H]?=some a/\P.read[H]?=some r/\P.out=n.out/\(P.aP=true->H=0):=by
      cases I.shp with
      |fH l z F hc=>exact absurd l O
      |gQ v l z F hv=>
       rw[F]at C;simp only[s8,if_false]at C;exact absurd C (aGA l z I.fst.1 hv)
      |kR v w a l z F=>
       obtain⟨r,hr⟩:∃r,n.read=[r]:=n6.1 (by rw[I.len,z];rfl);refine⟨0,s,rho,n,a,r,aLf l,?_,u,h,gX.refl _ _ _,E,by rw[z];rfl,by rw[hr];rfl,rfl,λ_=>rfl⟩;unfold wide;rw[if_neg (by rw[z];simp)]
      |bin a b v w x y l z F=>
       obtain⟨H,J,al⟩:=Uj h I
       have hl:H<n.args.length:=by rw[z];simp;omega
       refine⟨H,s,rho,n,n.args[H],n.read[H]'(by rw[I.len];exact hl),J,?_,u,h,gX.refl _ _ _,E,j9 _,j9 _,rfl,λe=>by rw[F]at e;cases e⟩;unfold wide;rw[if_neg (by omega)]
      |nest a v w x y l z F ao ok=>
       obtain⟨r,hr⟩:∃r,n.read=[r]:=n6.1 (by rw[I.len,z];rfl);obtain⟨H,J,al⟩:=Uj h I
       by_cases hz:H=0
       .subst hz;refine⟨0,s,rho,n,a,r,J,?_,u,h,gX.refl _ _ _,E,by rw[z];rfl,by rw[hr];rfl,rfl,λ_=>rfl⟩;unfold wide;rw[if_neg (by rw[z];simp)]
       .have au:H=1:=by omega
        subst au
        have ar:¬(n.read=[0]/\n.out=[]):=by
         rintro⟨k1,T⟩;rw[aGL h I l z ao ok.first ok.pos k1 T]at J;simp at J
        obtain⟨ay,A,d,B,w1,w2,w3,w4,w5⟩:=aLC (cl:=s.clock) h S E l z F ok ar;refine⟨1,⟨ay,s.clock⟩,A,B,d,0,J,w1,u,w2,w3,w4,by rw[w5];simp[z],by rw[w5];simp[hr],by rw[w5],λe=>by rw[w5]at e;simp only at e;rw[F]at e;cases e⟩
     obtain⟨H,N,D,P,a,r,e1,e2,e3,e4,e5,e6,e7,e8,e9,ai⟩:=hS;rw[e1,n9,e2,n9,e6,n9,e7,n9,e8,n9];have X:=e4.at' i P e6;obtain⟨la,ra⟩:=X.arg H a e7;have ab:N.nodes[a]?=some N.nodes[a]:=j9 la;have bk:D i=rho i:=e5.agree i hi;obtain⟨x,x1,x2⟩:=total f N a r D c e3 S e4 _ ab (X.rd H a r _ e7 e8 ab) (by omega);rw[x1,n9];obtain⟨s2,o2⟩:=x
     cases o2 with
     |none=>exact⟨_,_,rfl,λe=>by cases e⟩
     |some v=>
      obtain⟨a3,c2,y1,y2,y3,y4,B,y5,y6⟩:=x2.ex v rfl;simp only at y2 y3 y4 y5;have am:s2.nodes[i]?=some P:=y4.same i P e6 ra;have ak:i<N.nodes.length:=(k9.1 e6).1;obtain⟨s3,b,z1,z2⟩:=Zv y2 y3 (by omega) am e7 e8 y5 y6 ai;refine⟨s3,b,z1,λhb=>?_⟩;obtain⟨ad,c3,q1,q2,q3,q4,n3,q5,q6⟩:=z2 hb;refine⟨ad,c3,by omega,q2,q3,?_,n3,q5,by rw[q6,e9]⟩;exact(e5.trans hi ((y4.up ra).trans ak q4))
end
end Rf
open Go.RowKit
namespace Ab
open Rf (Nd Inv aY)
inductive Own where
 |nd (i:Nat)
 |gv (i:Nat)
 |pd (i:Nat)
def aB:Value:=.pointer none
def aI:Value:=.slice none 0 0
def aA (k:Nat):Value:=.pointer (some ⟨k,0,none⟩)
def lArg (n:Nd):FF:=if n.t.length=4 then n.args[0]? else none
def rArg (n:Nd):FF:=if n.t.length=4 then n.args[1]? else if n.t.length=2 then n.args[0]? else none
def hV (n:Nd):Nat:=if n.t.length=4 then n.read.getD 0 0 else 0
def gC (n:Nd):Nat:=if n.t.length=4 then n.read.getD 1 0 else if n.t.length=2 then n.read.getD 0 0 else 0
def eV (at':NN):Option Nat->Value
 |none=>aB
 |some a=>aA (at' a)
def aH:Rf.Op->Int
 |.none=>0
 |.pi=>2
 |.e=>3
 |.cf=>4
 |.sqrt=>10
 |.exp=>11
 |.fK=>12
 |.atan=>13
def fL (n:Nd):Int:=if n.aP then aH n.op else 0
def cE:List Int->List Rf.V
 | [a,b,c,d,e,f,g,h]=>[(a,b),(c,d),(e,f),(g,h)]
 |_=>[]
def gE (w:World)(b0:Nat)(own:Nat->Option Own)(i:Nat)(out:LN)(gv:Value):Prop:=
 (gv=aI/\out=[])\/∃g b,∃a:LB,gv=.slice (some ⟨g,0,none⟩) out.length b/\w.heap[g]?=some (.cells (out.map (λc=>Value.int .i64 (code c))++a).toArray 62 (0,0))/\out.length<=b/\b<=out.length+a.length/\own g=some (.gv i)/\b0<=g
structure fV (w:World) (n:Nd) (cb:Nat):Prop where
 bS:∃cs:LB,w.heap[cb]?=some (.cells cs.toArray 161 (0,0))
 mat:∀k:Nat,k<=3000->∃f a b c d:Int,0<f/\Rf.constant n k=some (Pg.wC f ⟨a,b,c,d⟩)/\(∀z∈[a,b,c,d],Bits 2 z)/\∀W,On Z.bt w W->Calls prog 167 #[aA cb,.int .i64 k] W λe w'=>∃xs:LB,e=.returned (.agg xs.toArray)/\Hold true w' [a,b,c,d] xs/\Below W.heap.size W w'
def jA (w:World)(b0:Nat)(own:Nat->Option Own)(at':NN)(i:Nat)(n:Nd)(f:Nat)(g:Int):Prop:=
 ∃(e:LB) (d:LN) (fst b:Value),w.heap[f]?=some (.cells (.int .i64 (aH n.op)::fst::b::e).toArray 223 (0,0))/\Hold true w d e/\d.length=8/\(∀z∈d,Bits 1 z)/\
  (n.op=.sqrt->∃a,n.args[0]?=some a/\fst=aA (at' a)/\b=aA (at' a)/\Pg.eN n.t (cE d))/\
  (n.op≠.sqrt->g=n.k/\∃ x,n.x=some x/\fst=aA (at' x)/\(n.op=.fK->b=aA (at' x))/\(n.op≠.fK->(∀ s,n.fA=some s->b=aA (at' s))/\
   (n.fA=none->∃pb,b=aA pb/\own pb=some (.pd i)/\b0<=pb/\NodeAt w pb [1,0,0,0,0,0,0,1] false 0 0 0 0 0 (aA (at' x)) (aA (at' x)) aI aB aB)))
def Mp (w:World)(b0:Nat)(own:Nat->Option Own)(at':NN)(i:Nat)(n:Nd)(b:Value)(d:Int):Prop:=
 (n.nest=false->b=aB)/\(n.nest=true->∃a,b=aA a/\(∃cs:LB,w.heap[a]?=some (.cells cs.toArray 223 (0,0)))/\(n.t.length=4->n.args.length=1->jA w b0 own at' i n a d))
structure Blk (w:World) (b0:Nat) (own:Nat->Option Own) (at':NN) (i:Nat) (n:Nd) (p0 q0 p1 q1 p2 q2 p3 q3 mt pl:Int) (gv cv nv:Value):Prop where
 nd:NodeAt w (at' i) [p0,q0,p1,q1,p2,q2,p3,q3] (!n.pos) (fL n) mt (hV n) (gC n) pl (eV at' (lArg n)) (eV at' (rArg n)) gv cv nv
 Aw:gE w b0 own i n.out gv
 fH:n.t=[]->mt=n.k/\∃cb,cv=aA cb/\fV w n cb
 oL:n.t≠[]->cv=aB
 nst:Mp w b0 own at' i n nv pl
structure cH (w:World) (b0:Nat) (own:Nat->Option Own) (at':NN) (ns:List Nd) (i:Nat) (n:Nd):Prop where
 ex:∃p0 q0 p1 q1 p2 q2 p3 q3 mt pl gv cv nv,Blk w b0 own at' i n p0 q0 p1 q1 p2 q2 p3 q3 mt pl gv cv nv/\∃l,Rf.corners ns n=some l/\Pg.eN l [(p0,q0),(p1,q1),(p2,q2),(p3,q3)]
 hc:Pg.HC n
 own:own (at' i)=some (.nd i)
 lo:b0<=at' i
 So:n.aP=true->n.t=[(1,0),(0,1)]/\n.nest=false
structure Net (w:World) (b0:Nat) (own:Nat->Option Own) (at':NN) (fb:Nat) (s:Rf.St):Prop where
 nd:∀i n,s.nodes[i]?=some n->cH w b0 own at' s.nodes i n
 fuel:w.heap[fb]?=some (.cells #[.int .i64 s.clock] 109 (0,0))
 Rm:b0<=fb
structure Chg (w w':World) (D:NU):Prop where
 on:On Z.bt w w'
 low:∀k,k<w.heap.size->k∉D->w'.heap[k]?=w.heap[k]?
theorem Chg.refl (w:World):Chg w w []:=⟨On.refl _ _,λ_ _ _=>rfl⟩
variable {w w':World}
theorem Chg.eC (h:Below w.heap.size w w'):Chg w w' []:=⟨On.below h,λk a _=>h.block k a⟩
variable {D:NU}{k:Nat}
theorem Chg.at (h:Chg w w' D){o:Obj}(a:w.heap[k]?=some o)(b:k∉D):w'.heap[k]?=some o:=by rw[h.low k (gZ a) b];exact a
theorem Chg.bO {a:NU}(h:Chg w w' D)(b:∀k∈D,k∈a):Chg w w' a:=⟨h.on,λk d f=>h.low k d λe=>f (b k e)⟩
theorem Chg.trans {w w' J:World}{D:NU}(h:Chg w w' D)(a:Chg w' J D):Chg w J D:=⟨h.on.trans a.on,λk d b=>by rw[a.low k (Nat.lt_of_lt_of_le d h.on.size) b,h.low k d b]⟩
def zF (w:World)(own:Nat->Option Own)(i:Nat)(D:NU):Prop:=∀k∈D,∀cs ty m,w.heap[k]?=some (.cells cs ty m)->(ty=120/\own k=some (.nd i))\/(ty=62/\own k=some (.gv i))\/ty=109
theorem nD {w w':World}(h:On Z.bt w w'):∀{b:LN} {a:LB},Hold true w b a->Hold true w' b a
 | [],[],_=>trivial
 |_::b,_::_::a,⟨d,e,f⟩=>⟨d,(show Z.eS true w' _ _ from Z.zZ (k:=true) h e),nD h f⟩
 | [],_::_,h=>h.elim
 |_::_,[],h=>h.elim
 |_::_,[_],h=>h.elim
variable {s:LN}{i:Bool}{v mt r y:Int}{lp rp gv Y:Value}
theorem NodeAt.aT {e:Int}{b:Value}(h:NodeAt w k s i v mt r y e lp rp gv Y b)(a:On Z.bt w w')(g:w'.heap[k]?=w.heap[k]?):NodeAt w' k s i v mt r y e lp rp gv Y b:=by
 obtain⟨j,d,f⟩:=h.ex;exact⟨j,by rw[g];exact d,nD a f⟩
theorem NodeAt.lt {e:Int}{b:Value}(h:NodeAt w k s i v mt r y e lp rp gv Y b):k<w.heap.size:=by
 obtain⟨f,a,d⟩:=h.ex;exact gZ a
section
variable {w w':World} {b0:Nat} {own own':Nat->Option Own} {D:NU} {i0:Nat}
theorem NodeAt.He {j:Int}{g:Value}(h:NodeAt w k s i v mt r y j lp rp gv Y g)(b:zF w own i0 D)(f:own k≠some (.nd i0)):k∉D:=by
 intro d;obtain⟨n,a,l⟩:=h.ex
 rcases b k d _ _ _ a with⟨_,e⟩|⟨e,_⟩|e
 .exact f e
 .exact absurd e (by decide)
 .exact absurd e (by decide)
theorem gE.aT {i:Nat}{out:LN}(h:gE w b0 own i out gv)(hc:Chg w w' D)(r:zF w own i0 D)(hi:i≠i0)(a:∀k o,k<w.heap.size->own k=some o->o≠.pd i0->own' k=some o):gE w' b0 own' i out gv:=by
 rcases h with h|⟨g,d,b,l,f,n,p,j,q⟩
 .exact Or.inl h
 .refine Or.inr ⟨g,d,b,l,hc.at f ?_,n,p,a _ _ (gZ f) j (by intro e;cases e),q⟩;intro s
  rcases r g s _ _ _ f with⟨e,_⟩|⟨_,e⟩|e
  .exact absurd e (by decide)
  .rw[j]at e;cases e;exact hi rfl
  .exact absurd e (by decide)
theorem fV.aT {n:Nd}{i:Nat}(h:fV w n i)(g:On Z.bt w w'):fV w' n i:=by
 obtain⟨cs,j⟩:=h.bS;refine⟨⟨cs,?_⟩,λk u=>?_⟩
 rotate_left
 .obtain⟨f,a,b,c,d,o,p,q,r⟩:=h.mat k u;exact⟨f,a,b,c,d,o,p,q,λW s=>r W (g.trans s)⟩
 rcases g.bS i _ j with e|⟨e,_⟩
 .exact e
 .have l:Md.contains 161=true:=e;exact absurd l (by decide)
theorem fV.of {d n':Nd}{a:Nat}(h:fV w d a)(b:∀k,Rf.constant n' k=Rf.constant d k):fV w n' a:=by
 refine⟨h.bS,λk e=>?_⟩;rw[b];exact h.mat k e
theorem jA.aT {at1 at2:NN}{i:Nat}{n:Nd}{p:Nat}{v:Int}{N:Nat}(h:jA w b0 own at1 i n p v)(hc:Chg w w' D)(z:zF w own i0 D)(j:∀k o,k<w.heap.size->own k=some o->o≠.pd i0->own' k=some o)(hi:i=i0->n.fA≠none\/∀k,k<w.heap.size->own k=some (.pd i0)->own' k=some (.pd i0))(d:∀a,a<N->at2 a=at1 a)(A:∀a,n.args[0]?=some a->a<N)(T:n.op≠.sqrt->∀x,n.x=some x->x<N)(S:n.op≠.sqrt->∀s,n.fA=some s->s<N):jA w' b0 own' at2 i n p v:=by
 obtain⟨xs,zs,fst,q,y,J,L,M,O,P⟩:=h
 have r:p∉D:=by
  intro R
  rcases z p R _ _ _ y with⟨e,_⟩|⟨e,_⟩|e<;>exact absurd e (by decide)
 refine⟨xs,zs,fst,q,hc.at y r,nD hc.on J,L,M,?_,?_⟩
 .intro b;obtain⟨a,a1,F,H,I⟩:=O b;exact⟨a,a1,by rw[d a (A a a1)];exact F,by rw[d a (A a a1)];exact H,I⟩
 .intro b;obtain⟨k1,x,C,U,W,E⟩:=P b;have g:=d x (T b x C);refine⟨k1,x,C,by rw[g];exact U,by rw[g];exact W,λB=>⟨λs e=>by rw[d s (S b s e)];exact(E B).1 s e,λe=>?_⟩⟩;obtain⟨pb,X,u,Y,l⟩:=(E B).2 e;refine⟨pb,X,?_,Y,?_⟩
  .by_cases f:i=i0
   .rcases hi f with h|h
    .exact absurd e h
    .subst f;exact h _ l.lt u
   .exact j _ _ l.lt u (by intro e;cases e;exact f rfl)
  .rw[g];exact l.aT hc.on (hc.low pb l.lt (l.He z (by rw[u];intro e;cases e)))
theorem cH.aT {at1 at2:NN}{ns F:List Nd}{H:NN}{c i:Nat}{n:Nd}(h:cH w b0 own at1 ns i n)(hc:Chg w w' D)(J:zF w own i0 D)(hi:i≠i0)(P:i<ns.length)(O:Pg.Go ns F)(p:∀k o,k<w.heap.size->own k=some o->o≠.pd i0->own' k=some o)(f:∀a,a<ns.length->at2 a=at1 a)(X:aY ns H c i n):cH w' b0 own' at2 F i n:=by
 obtain⟨p0,q0,p1,q1,p2,q2,p3,q3,mt,pl,gv,cv,nv,r,l,R,S⟩:=h.ex;have g:=f i P
 have z:∀a,a∈n.args->a<ns.length:=by
  intro a E;obtain⟨j,hj,e⟩:=j8 E;exact(X.arg j a (by rw[j9 hj,e])).1
 have hL:eV at2 (lArg n)=eV at1 (lArg n):=by
  unfold lArg;split
  .cases e:n.args[0]? with
   |none=>rfl
   |some a=>simp only[eV];rw[f a (z a (n8 e))]
  .rfl
 have hR:eV at2 (rArg n)=eV at1 (rArg n):=by
  unfold rArg;split
  .cases e:n.args[1]? with
   |none=>rfl
   |some a=>simp only[eV];rw[f a (z a (n8 e))]
  .split
   .cases e:n.args[0]? with
    |none=>rfl
    |some a=>simp only[eV];rw[f a (z a (n8 e))]
   .rfl
 refine⟨⟨p0,q0,p1,q1,p2,q2,p3,q3,mt,pl,gv,cv,nv,⟨?_,r.Aw.aT hc J hi p,?_,r.oL,?_⟩,l,O.corners R,S⟩,h.hc,by rw[g];exact p _ _ r.nd.lt h.own (by intro e;cases e),by rw[g];exact h.lo,h.So⟩
 .rw[g,hL,hR];exact r.nd.aT hc.on (hc.low _ r.nd.lt (r.nd.He J (by rw[h.own];intro e;cases e;exact hi rfl)))
 .intro A;obtain⟨L,cb,I,M⟩:=r.fH A;exact⟨L,cb,I,M.aT hc.on⟩
 .refine⟨r.nst.1,λT=>?_⟩;obtain⟨nb,L,⟨cs,I⟩,M⟩:=r.nst.2 T;refine⟨nb,L,⟨cs,hc.at I ?_⟩,λA E=>?_⟩
  .intro hk
   rcases J nb hk _ _ _ I with⟨e,_⟩|⟨e,_⟩|e<;>exact absurd e (by decide)
  .have B:∃a,n.args=[a]/\Rf.jM ns H c i n a:=by
    cases X.shp with
    |fH d _ _ _=>rw[d]at A;simp at A
    |gQ v d _ _ _=>rw[d]at A;simp at A
    |kR v u a d _ _=>rw[d]at A;simp at A
    |bin a b v u x y d q _=>rw[q]at E;simp at E
    |nest a v u x y d q _ _ ok=>exact⟨a,q,ok⟩
   obtain⟨a,q,ok⟩:=B;obtain⟨base,ck,_,_,_,_,_,Y⟩:=ok.ex;refine(M A E).aT (N:=ns.length) hc J p (λe=>absurd e hi) f (λa e=>z a (n8 e)) ?_ ?_
   .intro C x e;obtain⟨x',U,W,_⟩:=Y C;rw[U]at e;cases e;exact W
   .intro C s e;obtain⟨x',U,W,_,_,g5⟩:=Y C;exact(g5 s e).1
end
end Ab
end Go.Proofs.YtpdflaaamaokbaaGreatDoor
