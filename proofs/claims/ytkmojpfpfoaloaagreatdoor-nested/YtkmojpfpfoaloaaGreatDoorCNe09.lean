import Derived.Test.YtkmojpfpfoaloaaGreatDoorCNe07
import Derived.Test.YtkmojpfpfoaloaaGreatDoorCNe08
set_option linter.all false
set_option maxRecDepth 100000
set_option maxHeartbeats 2000000
namespace Go.Proofs.YtkmojpfpfoaloaaGreatDoor
open Go.Proofs.Tryz
namespace Rf
open Nw
def fn (o:Op):Prop:=o=.sqrt\/o=.exp\/o=.fK\/o=.atan
def pK (n:Nd):Prop:=n.op=.pi\/n.op=.e\/(n.op=.cf/\2<=n.terms.length/\∀a∈n.terms,Bits 40 a)\/(fn n.op/\0<n.p/\0<n.q)
def Pos (ns:List Nd)(a:Nat):Prop:=∃x,ns[a]?=some x/\x.pos=true
def first (t:List V):Prop:=fits t=true->wider 8 t≠-1
structure jN (ns:List Nd) (rho:Nat->Nat) (c i:Nat) (n:Nd) (a:Nat):Prop where
 ex:∃base ck,rho i=base+ck+1/\c<=ck/\n.k+ck<=3000/\rho a<base/\(¬(n.read=[0]/\n.out=[])->c<ck)/\
  (n.op≠.sqrt->∃x,n.x=some x/\x<ns.length/\rho x+1<base/\Pos ns x/\(∀s,n.eX=some s->s<ns.length/\rho s<base/\Pos ns s))
 op:fn n.op
 first:first n.t
 pos:Pos ns a
inductive Shp (ns:List Nd) (rho:Nat->Nat) (c i:Nat) (n:Nd):Prop where
 |fI (ht:n.t=[]) (ha:n.args=[]) (hp:n.aR=false) (hc:pK n)
 |gH (v:V) (ht:n.t=[v]) (ha:n.args=[]) (hp:n.aR=false) (hv:fits [fH n.told v]=true\/(n.pos=false/\n.out=[]/\v.1<0/\0<v.2))
 |kP (v w:V) (a:Nat) (ht:n.t=[v,w]) (ha:n.args=[a]) (hp:n.aR=true->n.pos=true/\fn n.op/\n.out=[]/\Pos ns a/\rho a+3100<=rho i/\n.k=0)
 |bin (a b:Nat) (v w x y:V) (ht:n.t=[v,w,x,y]) (ha:n.args=[a,b]) (hp:n.aR=false)
 |nest (a:Nat) (v w x y:V) (ht:n.t=[v,w,x,y]) (ha:n.args=[a]) (hp:n.aR=false) (hn:n.nest=true) (ok:jN ns rho c i n a)
structure aZ (ns:List Nd) (rho:Nat->Nat) (c i:Nat) (n:Nd):Prop where
 len:n.read.length=n.args.length
 arg:∀(j a:Nat),n.args[j]?=some a->a<ns.length/\rho a<rho i
 rd:∀(j a r:Nat) (x:Nd),n.args[j]?=some a->n.read[j]?=some r->ns[a]?=some x->r<=x.out.length
 kU:n.dP.length=n.out.length+1
 nB:n.dP[0]?=some one
 fst:n.out=[]->n.told=one
 iV:n.out.length+c<=3000
 ku:n.k+c<=3000
 jE:∀r∈n.read,r+c<=3000
 jF:cY (2*n.out.length+1) n.told
 lO:∀(j:Nat) (m:Mt),n.dP[j]?=some m->cY (2*j+1) m
 up:n.pos=true->Up n.told/\∀m∈n.dP,Up m
 tb:∀v∈n.t,Bits 13000 v.1/\Bits 13000 v.2
 pb:Bits 6100 n.p
 qb:Bits 6100 n.q
 iB:cY (1+n.k*18500) n.part
 shp:Shp ns rho c i n
variable {ns:List Nd}{S:Nat->Nat}
theorem aZ.ok {c i:Nat}{y:Nd}(h:aZ ns S c i y):Ok y:=by
 have s:=h.iV;have p:=h.ku;refine⟨fun v hv=>⟨eG (h.tb v hv).1 (by decide),eG (h.tb v hv).2 (by decide)⟩,mb h.jF (by omega),?_,mb h.iB ?_,eG h.pb (by decide),eG h.qb (by decide),?_,by omega,by omega⟩
 ·intro m l;obtain⟨j,g,e⟩:=List.getElem_of_mem l;have q:=h.kU;exact mb (h.lO j m (by rw[List.getElem?_eq_getElem g,e])) (by omega)
 ·have:y.k*18500<=3000*18500:=Nat.mul_le_mul_right _ (by omega);omega
 ·intro r o;have:=h.jE r o;omega
where
 mb {m:Mt} {a b:Nat} (h:cY a m) (f:a<=b):cY b m:=⟨eG h.a f,eG h.b f,eG h.c f,eG h.d f⟩
variable {a:Nat}
theorem cY.mono {m:Mt}{b:Nat}(h:cY a m)(e:a<=b):cY b m:=⟨eG h.a e,eG h.b e,eG h.c e,eG h.d e⟩
structure Le (ns ns':List Nd):Prop where
 len:ns.length<=ns'.length
 at':∀(i:Nat) (n:Nd),ns[i]?=some n->∃n',ns'[i]?=some n'/\n'.pos=n.pos/\n.out.length<=n'.out.length
theorem Le.refl (ns:List Nd):Le ns ns:=⟨Nat.le_refl _,fun i n h=>⟨n,h,rfl,Nat.le_refl _⟩⟩
theorem Le.trans {a b c:List Nd}(h:Le a b)(d:Le b c):Le a c:=⟨Nat.le_trans h.len d.len,fun i n o=>by
 obtain⟨p,e,f,g⟩:=h.at' i n o;obtain⟨q,j,k,l⟩:=d.at' i p e
 exact⟨q,j,k.trans f,Nat.le_trans g l⟩⟩
theorem Le.more (ns a:List Nd):Le ns (ns++a):=⟨by simp,fun i n h=>⟨n,by rw[List.getElem?_append_left (List.getElem?_eq_some_iff.1 h).1];exact h,rfl,Nat.le_refl _⟩⟩
theorem Le.set {ns:List Nd}{i:Nat}{y n':Nd}(h:ns[i]?=some y)(e:n'.pos=y.pos)(d:y.out.length<=n'.out.length):Le ns (ns.set i n'):=by
 refine⟨by simp,fun k m a=>?_⟩
 by_cases b:i=k
 ·subst b;rw[h]at a;cases a;refine⟨n',?_,e,d⟩;rw[List.getElem?_set_self (List.getElem?_eq_some_iff.1 h).1]
 ·exact⟨m,by rw[List.getElem?_set_ne b];exact a,rfl,Nat.le_refl _⟩
theorem Pos.le {b:List Nd}(h:Pos ns a)(i:Le ns b):Pos b a:=by
 obtain⟨x,d,e⟩:=h;obtain⟨j,f,g,_⟩:=i.at' a x d;exact⟨j,f,g.trans e⟩
theorem Pos.lt (h:Pos ns a):a<ns.length:=by
 obtain⟨x,b,_⟩:=h;exact(List.getElem?_eq_some_iff.1 b).1
theorem aZ.mono {z:List Nd}{f:Nat->Nat}{c c' i:Nat}{n:Nd}(h:aZ ns S c i n)(q:Le ns z)(p:∀k,k<ns.length->f k=S k)(hi:i<ns.length)(hc:c'<=c):aZ z f c' i n:=by
 have C:∀(j a:Nat),n.args[j]?=some a->a<z.length/\f a<f i:=by
  intro j a d;obtain⟨o,A⟩:=h.arg j a d;have:=q.len;rw[p a o,p i hi];exact⟨by omega,A⟩
 refine⟨h.len,C,?_,h.kU,h.nB,h.fst,by have:=h.iV;omega,by have:=h.ku;omega,fun r u=>by have:=h.jE r u;omega,h.jF,h.lO,h.up,h.tb,h.pb,h.qb,h.iB,?_⟩
 ·intro j a r x d u I;obtain⟨o,_⟩:=h.arg j a d;obtain⟨Y,A,_,B⟩:=q.at' a ns[a] (List.getElem?_eq_getElem o);rw[A]at I;cases I;exact Nat.le_trans (h.rd j a r _ d u (List.getElem?_eq_getElem o)) B
 ·cases h.shp with
  |fI l d g hc=>exact .fI l d g hc
  |gH v l d g hv=>exact .gH v l d g hv
  |kP v w a l d g=>
   refine .kP v w a l d fun e=>?_
   obtain⟨o,A,B,D,E,F⟩:=g e;exact⟨o,A,B,D.le q,by rw[p a D.lt,p i hi];exact E,F⟩
  |bin a b v w x y l d g=>exact .bin a b v w x y l d g
  |nest a v w x y l d g M ok=>
   refine .nest a v w x y l d g M ?_;obtain⟨⟨base,J,o,A,B,D,E,F⟩,L,h8,H⟩:=ok;refine⟨⟨base,J,by rw[p i hi];exact o,by omega,B,by rw[p a H.lt];exact D,fun e=>by have:=E e;omega,fun e=>?_⟩,L,h8,H.le q⟩;obtain⟨x,k1,O,P,R,T⟩:=F e;have:=q.len;refine⟨x,k1,by omega,by rw[p x O];exact P,R.le q,fun s N=>?_⟩;obtain⟨U,W,X⟩:=T s N;exact⟨by omega,by rw[p s U];exact W,X.le q⟩
structure Inv (ns:List Nd) (rho:Nat->Nat) (c:Nat):Prop where
 at':∀(i:Nat) (n:Nd),ns[i]?=some n->aZ ns rho c i n
theorem Inv.tick {c k:Nat}(h:Inv ns S c)(hc:k<=c):Inv ns S k:=
 ⟨fun i n a=>(h.at' i n a).mono (Le.refl _) (fun _ _=>rfl) (List.getElem?_eq_some_iff.1 a).1 hc⟩
theorem Inv.put {ns:List Nd}{S:Nat->Nat}{c i:Nat}{y n':Nd}(h:Inv ns S c)(f:ns[i]?=some y)(j:n'.pos=y.pos)(g:y.out.length<=n'.out.length)(d:aZ ns S c i n'):
  put ns i n'=some (ns.set i n')/\Inv (ns.set i n') S c/\Le ns (ns.set i n'):=by
 have hi:=(List.getElem?_eq_some_iff.1 f).1;have b:=Le.set f j g;refine⟨?_,⟨fun k m a=>?_⟩,b⟩
 ·unfold Rf.put;rw[if_pos ⟨d.ok,hi⟩]
 ·by_cases e:i=k
  ·subst e;rw[List.getElem?_set_self hi]at a;cases a;exact d.mono b (fun _ _=>rfl) hi (Nat.le_refl _)
  ·rw[List.getElem?_set_ne e]at a;exact(h.at' k m a).mono b (fun _ _=>rfl) (List.getElem?_eq_some_iff.1 a).1 (Nat.le_refl _)
def jV (rho:Nat->Nat)(k r:Nat):Nat->Nat:=fun i=>if i=k then r else rho i
theorem Inv.more {ns:List Nd}{S:Nat->Nat}{c r:Nat}{y:Nd}(h:Inv ns S c)(f:aZ ns (jV S ns.length r) c ns.length y):
  more ns y=some (ns++[y])/\Inv (ns++[y]) (jV S ns.length r) c/\Le ns (ns++[y])/\(∀k,k<ns.length->jV S ns.length r k=S k)/\jV S ns.length r ns.length=r:=by
 have o:=Le.more ns [y]
 have E:∀k,k<ns.length->jV S ns.length r k=S k:=fun k C=>by unfold jV;rw[if_neg (by omega)]
 refine⟨?_,⟨fun k m p=>?_⟩,o,E,by simp[jV]⟩
 ·unfold Rf.more;rw[if_pos f.ok]
 ·by_cases C:k<ns.length
  ·rw[List.getElem?_append_left C]at p;exact(h.at' k m p).mono o E C (Nat.le_refl _)
  ·rw[List.getElem?_append_right (by omega)]at p
   have:k=ns.length:=by
    have:=(List.getElem?_eq_some_iff.1 p).1;simp at this;omega
   subst this;simp at p;subst p
   -- the new node itself
   refine⟨f.len,?_,?_,f.kU,f.nB,f.fst,f.iV,f.ku,f.jE,f.jF,f.lO,f.up,f.tb,f.pb,f.qb,f.iB,?_⟩
   ·intro j a g;obtain⟨n,q⟩:=f.arg j a g;exact⟨by simp;omega,q⟩
   ·intro j a r x g D F;obtain⟨n,_⟩:=f.arg j a g;rw[List.getElem?_append_left n]at F;exact f.rd j a r x g D F
   ·cases f.shp with
    |fI l g i hc=>exact .fI l g i hc
    |gH v l g i hv=>exact .gH v l g i hv
    |kP v w a l g i=>
     refine .kP v w a l g fun e=>?_
     obtain⟨n,q,u,z,A,B⟩:=i e;exact⟨n,q,u,z.le o,A,B⟩
    |bin a b v w x d l g i=>exact .bin a b v w x d l g i
    |nest a v w x d l g i L ok=>
     refine .nest a v w x d l g i L ?_;obtain⟨⟨base,H,n,q,u,z,A,B⟩,I,h8,J⟩:=ok;refine⟨⟨base,H,n,q,u,z,A,fun e=>?_⟩,I,h8,J.le o⟩;obtain⟨x,k1,U,N,O,P⟩:=B e;refine⟨x,k1,by simp;omega,N,O.le o,fun s M=>?_⟩;obtain⟨W,R,T⟩:=P s M;exact⟨by simp;omega,R,T.le o⟩
end Rf
namespace Rf
open Nw
section
variable {ns:List Nd} {rho:Nat->Nat} {c i:Nat} {n:Nd}
theorem Eu (h:Inv ns rho c)(e:aZ ns rho c i n){sd a:Nat}(b:n.args[sd]?=some a):∃m x r,ns[a]?=some x/\n.read[sd]?=some r/\x.dP[r]?=some m/\ends ns n sd=some (eU m (1,0),eU m (0,1)):=by
 obtain⟨k,_⟩:=e.arg sd a b;have d:ns[a]?=some ns[a]:=List.getElem?_eq_getElem k
 have f:sd<n.read.length:=by rw[e.len];exact(List.getElem?_eq_some_iff.1 b).1
 have g:n.read[sd]?=some n.read[sd]:=List.getElem?_eq_getElem f;have l:=e.rd sd a _ _ b g d;have o:=(h.at' a _ d).kU;have j:ns[a].dP[n.read[sd]]?=some (ns[a].dP[n.read[sd]]'(by omega)):=List.getElem?_eq_getElem _;refine⟨_,_,_,d,g,j,?_⟩;unfold ends;simp only[b,d,g,j,Option.bind_some,Option.map_some]
theorem aHQ (h:Inv ns rho c)(f:aZ ns rho c i n):∃l,bare ns n=some l:=by
 cases f.shp with
 |fI e d j hc=>exact⟨_,by unfold bare;rw[e]⟩
 |gH v e d j hv=>exact⟨_,by unfold bare;rw[e]⟩
 |kP v w a e d j=>
  obtain⟨m,x,r,_,_,_,g⟩:=Eu h f (sd:=0) (a:=a) (by rw[d];rfl);exact⟨_,by unfold bare;rw[e];simp only[g];rfl⟩
 |bin a b v w x y e d j=>
  obtain⟨m,x,r,_,_,_,g⟩:=Eu h f (sd:=0) (a:=a) (by rw[d];rfl);obtain⟨p,s,q,_,_,_,k⟩:=Eu h f (sd:=1) (a:=b) (by rw[d];rfl);exact⟨_,by unfold bare;rw[e];simp only[g,k,d];rfl⟩
 |nest a v w x y e d j o ok=>
  obtain⟨m,x,r,_,_,_,g⟩:=Eu h f (sd:=0) (a:=a) (by rw[d];rfl);exact⟨_,by unfold bare;rw[e];simp only[g,d];rfl⟩
theorem pO (h:Inv ns rho c)(a:aZ ns rho c i n):∃o,next ns n=some o:=by
 obtain⟨l,b⟩:=aHQ h a
 unfold next corners
 rw[b];split
 ·exact⟨_,rfl⟩
 ·exact⟨_,rfl⟩
theorem aLO {v:Int}(h:next ns n=some (some v)):∃l,bare ns n=some l/\v∈tries n/\can (l.map (fH n.told)) v=true:=by
 unfold next at h
 split at h
 ·simp at h
 ·unfold corners at h
  cases a:bare ns n with
  |none=>rw[a]at h;simp at h
  |some l=>
   rw[a]at h;simp only[Option.map_some,Option.some.injEq]at h;obtain⟨b,d⟩:=aPk h;exact⟨l,rfl,d,b⟩
theorem aGn {B:V}(j:n.t=[B])(g:n.args=[])(f:n.out=[]->n.told=one)(hv:fits [fH n.told B]=true\/(n.pos=false/\n.out=[]/\B.1<0/\0<B.2)):next ns n≠some none:=by
 unfold next corners bare
 rw[j,g];simp only[waits,Bool.false_eq_true,if_false,Option.map_some,List.map_cons,List.map_nil];unfold tries;intro h;simp only[Option.some.injEq]at h;split at h
 ·rename_i hc
  rcases hv with hv|⟨_,_,b,d⟩
  ·rw[f hc.2,Fm]at h hv;have e:=List.find?_eq_none.1 h
   rcases(mL B).1 hv with⟨k1,k,l⟩|⟨k1,k,l⟩
   ·refine absurd ?_ (e 43 (by simp));unfold can;simp only[List.map_cons,List.map_nil];rw[mL];simp[fH,Mt.sym,Mt.vD,Mt.vE];omega
   ·refine absurd ?_ (e 43 (by simp));unfold can;simp only[List.map_cons,List.map_nil];rw[mL];simp[fH,Mt.sym,Mt.vD,Mt.vE];omega
  ·rw[f hc.2,Fm]at h;obtain⟨s,a⟩:=aO6 b d;rw[a]at h;cases h
 ·rename_i hc
  rcases hv with hv|⟨b,d,_,_⟩
  ·obtain⟨s,a⟩:=aMI hv;rw[a]at h;cases h
  ·exact hc ⟨b,d⟩
theorem Yn (h:Inv ns rho (c+1))(E:ns[i]?=some n)(B:n.aR=false){v:Int}(ho:next ns n=some (some v)):
  ∃H,put ns i {n with out:=n.out++[v],told:=n.told.mul (Mt.sym v),dP:=n.dP++[n.told.mul (Mt.sym v)]}=some (ns.set i H)/\Inv (ns.set i H) rho c/\Le ns (ns.set i H)/\H.out.length=n.out.length+1:=by
 have z:=h.at' i n E;obtain⟨l,U,p,hc⟩:=aLO ho;have hi:=(List.getElem?_eq_some_iff.1 E).1;have C:n.dP.length=n.out.length+1:=z.kU
 have u:cY (2*(n.out.length+1)+1) (n.told.mul (Mt.sym v)):=by
  have:=aIk z.jF v;exact cY.mono this (by omega)
 have F:n.pos=true->Up (n.told.mul (Mt.sym v)):=by
  intro g;refine aVI (z.up g).1 ?_;unfold tries at p;rw[if_neg (by rw[g];simp)]at p;exact p
 have J:aZ ns rho c i {n with out:=n.out++[v],told:=n.told.mul (Mt.sym v),dP:=n.dP++[n.told.mul (Mt.sym v)]}:=by
  have A:=z.mono (c':=c) (Le.refl _) (fun _ _=>rfl) hi (by omega);refine⟨z.len,A.arg,A.rd,by simp[C],?_,fun e=>by simp at e,?_,A.ku,A.jE,?_,?_,?_,A.tb,A.pb,A.qb,A.iB,?_⟩
  ·show(n.dP++_)[0]?=_;rw[List.getElem?_append_left (by omega)];exact z.nB
  ·have:=z.iV;simp;omega
  ·simpa using u
  ·intro j m q;simp only at q
   by_cases hj:j<n.dP.length
   ·rw[List.getElem?_append_left hj]at q;exact z.lO j m q
   ·rw[List.getElem?_append_right (by omega)]at q
    have L:j=n.dP.length:=by
     have:=(List.getElem?_eq_some_iff.1 q).1;simp at this;omega
    subst L;simp at q;subst q;rw[C];exact u
  ·intro g;refine⟨F g,fun m q=>?_⟩;simp at q
   rcases q with q|rfl
   ·exact(z.up g).2 m q
   ·exact F g
  ·cases A.shp with
   |fI p r B hc=>exact .fI p r B hc
   |gH d p r B hv=>
    refine .gH d p r B (Or.inl ?_)
    have hb:bare ns n=some [d]:=by unfold bare;rw[p]
    rw[hb]at U;cases U;show fits [fH (n.told.mul (Mt.sym v)) d]=true;rw[aJU];exact hc
   |kP d w a p r s=>exact .kP d w a p r fun e=>by simp only at e;rw[B]at e;cases e
   |bin a b d w x y p r B=>exact .bin a b d w x y p r B
   |nest a d w x y p r B E ok=>
    refine .nest a d w x y p r B E ?_
    have N:jN ns rho (c+1) i n a:=by
     cases z.shp with
     |fI f k s ab=>rw[p]at f;cases f
     |gH O f k s ag=>rw[p]at f;cases f
     |kP O W P f k s=>rw[p]at f;cases f
     |bin P b' O W x' y' f k s=>rw[r]at k;cases k
     |nest P O W x' y' f k s ae M=>rw[r]at k;cases k;exact M
    obtain⟨⟨base,ck,R,S,T,h4,h5,h6⟩,X,h8,Y⟩:=ok;obtain⟨⟨D,I,k1,k2,k3,k4,k5,k6⟩,_,_,_⟩:=N;exact⟨⟨D,I,k1,by omega,k3,k4,fun _=>by omega,k6⟩,X,h8,Y⟩
 obtain⟨R,S,T⟩:=(h.tick (show c<=c+1 by omega)).put E (n':={n with out:=n.out++[v],told:=n.told.mul (Mt.sym v),dP:=n.dP++[n.told.mul (Mt.sym v)]}) rfl (by simp) J;exact⟨_,R,S,T,by simp⟩
theorem Zg {a b:Nat}{x y:Mt}(e:cY a x)(f:cY b y):cY (a+b+1) (x.mul y):=
 ⟨pA (fW e.a f.a) (fW e.b f.c),pA (fW e.a f.b) (fW e.b f.d),pA (fW e.c f.a) (fW e.d f.c),pA (fW e.c f.b) (fW e.d f.d)⟩
variable {k:Nat}
theorem Kd {m:Nat}(h:k<2^m):Bits m (k:Int):=by unfold Bits;simpa using h
theorem Ew (h:k<16777216):Bits 24 (k:Int):=Kd (by simpa using h)
theorem Xm (op:Op)(a:k<=3001):Bits 24 (shape op k).1/\Bits 24 (shape op k).2/\0<(shape op k).1/\0<(shape op k).2:=by
 have d:k*k<=3001*3001:=Nat.mul_le_mul a a;unfold shape;split
 ·split
  ·exact⟨Kd (k:=1) (by decide),Kd (k:=1) (by decide),by decide,by decide⟩
  ·have e:(k+1)/2*((k+1)/2)<=3001*3001:=Nat.mul_le_mul (by omega) (by omega);have b:0<(k+1)/2*((k+1)/2):=Nat.mul_pos (by omega) (by omega);exact⟨Ew (by omega),Ew (by omega),by simp only;omega,by simp only;omega⟩
 ·split
  ·split
   ·exact⟨Kd (k:=1) (by decide),Kd (k:=1) (by decide),by decide,by decide⟩
   ·have b:0<k*k:=Nat.mul_pos (by omega) (by omega);exact⟨Ew (by omega),Ew (by omega),by simp only;omega,by simp only;omega⟩
  ·exact⟨Kd (k:=1) (by decide),Ew (by omega),by simp,by simp only;omega⟩
theorem Fe (h:pK n)(r:k<=3000)(pb:Bits 6100 n.p)(qb:Bits 6100 n.q):∃m,constant n k=some m/\cY 18400 m:=by
 have one:∀z:Int,z.natAbs<=4->Bits 18400 z:=fun z A=>eG (n:=3) (by unfold Bits;omega) (by decide)
 have w:k*k<=3000*3000:=Nat.mul_le_mul r r;obtain⟨s,u,_,_⟩:=Xm n.op (k:=k) (by omega)
 have f:n.op=.exp\/n.op=.fK\/n.op=.atan->∃m,constant n k=some m/\cY 18400 m:=by
  intro ho
  have e:constant n k=some (if n.op≠.fK/\0<k then⟨0,(shape n.op k).1*(n.p*n.p),n.q*n.q,(shape n.op k).2*(n.q*n.q)⟩else⟨0,(shape n.op k).1*n.p,n.q,(shape n.op k).2*n.q⟩):=by
   unfold constant
   rcases ho with ho|ho|ho<;>simp only[ho]
  refine⟨_,e,?_⟩;split
  ·exact⟨one 0 (by decide),eG (fW s (fW pb pb)) (by decide),eG (fW qb qb) (by decide),eG (fW u (fW qb qb)) (by decide)⟩
  ·exact⟨one 0 (by decide),eG (fW s pb) (by decide),eG qb (by decide),eG (fW u qb) (by decide)⟩
 rcases h with h|h|⟨h,o,g⟩|⟨h,o,g⟩
 ·refine⟨_,by unfold constant;rw[h],?_⟩;split
  ·exact⟨one 0 (by decide),one 4 (by decide),one 1 (by decide),one 1 (by decide)⟩
  ·exact⟨one 0 (by decide),eG (Ew (by omega)) (by decide),one 1 (by decide),eG (Ew (by omega)) (by decide)⟩
 ·refine⟨_,by unfold constant;rw[h],?_⟩;refine⟨?_,one 1 (by decide),one 1 (by decide),one 0 (by decide)⟩;show Bits 18400 (gW k);unfold gW;split
  ·exact one 2 (by decide)
  ·split
   ·exact eG (Ew (by omega)) (by decide)
   ·exact one 1 (by decide)
 ·have d:(if k=0 then 0 else 1+(k-1)%(n.terms.length-1))<n.terms.length:=by
   split
   ·omega
   ·have:=Nat.mod_lt (k-1) (show 0<n.terms.length-1 by omega);omega
  refine⟨_,by unfold constant;rw[h];simp only;rw[List.getElem?_eq_getElem d];rfl,?_⟩;exact⟨eG (g _ (List.getElem_mem d)) (by decide),one 1 (by decide),one 1 (by decide),one 0 (by decide)⟩
 ·rcases h with h|h
  ·obtain⟨a,b,v,x,y,j,l⟩:=Ny o g pb qb;refine⟨_,by unfold constant;rw[h];simp only;rw[v];rfl,?_⟩;exact⟨eG (fW j qb) (by decide),eG (fW l pb) (by decide),eG (fW l qb) (by decide),eG (fW j qb) (by decide)⟩
  ·exact f h
theorem aJb (h:Inv ns rho (c+1))(q:ns[i]?=some n)(o:n.t=[]):∃m p,constant n n.k=some m/\put ns i {n with part:=n.part.mul m,k:=n.k+1}=some (ns.set i p)/\Inv (ns.set i p) rho c/\Le ns (ns.set i p)/\p.out=n.out:=by
 have f:=h.at' i n q;have hi:=(List.getElem?_eq_some_iff.1 q).1;have g:=f.mono (c':=c) (Le.refl _) (fun _ _=>rfl) hi (by omega)
 have C:n.args=[]/\n.aR=false/\pK n:=by
  cases f.shp with
  |fI o j l hc=>exact⟨j,l,hc⟩
  |gH v d j l hv=>rw[o]at d;cases d
  |kP v w a d j l=>rw[o]at d;cases d
  |bin a b v w x y d j l=>rw[o]at d;cases d
  |nest a v w x y d j l q ok=>rw[o]at d;cases d
 obtain⟨j,l,hc⟩:=C;have B:=f.ku;obtain⟨m,e,A⟩:=Fe hc (k:=n.k) (by omega) f.pb f.qb
 have r:aZ ns rho c i {n with part:=n.part.mul m,k:=n.k+1}:=by
  refine⟨f.len,g.arg,g.rd,f.kU,f.nB,f.fst,g.iV,by simp only;omega,g.jE,f.jF,f.lO,f.up,g.tb,g.pb,g.qb,?_,.fI o j l ?_⟩
  ·refine cY.mono (Zg f.iB A) ?_;simp only;rw[Nat.add_mul];omega
  ·exact hc
 obtain⟨s,u,z⟩:=(h.tick (show c<=c+1 by omega)).put q (n':={n with part:=n.part.mul m,k:=n.k+1}) rfl (Nat.le_refl _) r;exact⟨m,_,e,s,u,z,rfl⟩
end
end Rf
namespace Rf
open Nw
section
variable {ns:List Nd} {rho:Nat->Nat} {c i:Nat} {n:Nd}
theorem Mn (b:aZ ns rho c i n)(d:Nat):∃o,digits ns n d=some o:=by
 unfold digits;split
 ·rename_i a;obtain⟨e,_⟩:=b.arg d _ (List.getElem?_eq_getElem a);rw[List.getElem?_eq_getElem a,Option.bind_some,List.getElem?_eq_getElem e,Option.bind_some,List.getElem?_eq_getElem (by rw[b.len];exact a)];exact⟨_,rfl⟩
 ·exact⟨_,rfl⟩
theorem aKT {B Y:V}(a:n.t=[B,Y]):side ns n=some 0:=by
 unfold side;rw[if_pos (by rw[a];simp)]
theorem Sy (h:Inv ns rho c)(d:aZ ns rho c i n):∃e,side ns n=some e/\e<=1:=by
 unfold side;split
 ·exact⟨0,rfl,by decide⟩
 ·obtain⟨a,f⟩:=Mn d 0;rw[f,Option.bind_some]
  cases a with
  |none=>exact⟨0,rfl,by decide⟩
  |some a=>
   obtain⟨b,g⟩:=Mn d 1;simp only;rw[g,Option.bind_some]
   cases b with
   |none=>exact⟨1,rfl,by decide⟩
   |some b=>
    obtain⟨l,j⟩:=aHQ h d;simp only;unfold corners;rw[j];refine⟨_,rfl,?_⟩;simp only;generalize (if fits (List.map (fH n.told) l)=true then wider (if n.nest=true then 8 else 1) (List.map (fH n.told) l)else 0)=z;split
    ·omega
    ·split
     ·omega
     ·split<;>omega
theorem aGy (h:Inv ns rho c)(r:aZ ns rho c i n){a:Nat}{B Y x y:V}(k:n.t=[B,Y,x,y])(d:n.args=[a])(z:n.nest=true)(o:first n.t)(C:Pos ns a)(p:n.read=[0])(A:n.out=[]):side ns n=some 0:=by
 obtain⟨D,l,j⟩:=C;have q:=(h.at' a D l).nB
 have u:ends ns n 0=some ((1,0),(0,1)):=by
  unfold ends;rw[d,p];simp only[List.getElem?_cons_zero,Option.bind_some,l,q,Option.map_some];rfl
 have s:bare ns n=some [B,Y,x,y]:=by
  unfold bare;rw[k];simp only[u,d,Option.bind_some,Option.map_some,List.length_cons,List.length_nil];simp[bM]
 unfold side;rw[if_neg (by rw[k];simp)]
 have f:digits ns n 0=some (some 0):=by
  unfold digits;rw[d,p];simp[l,j]
 have g:digits ns n 1=some (some 0):=by
  unfold digits;rw[d];simp
 rw[f,g];simp only[Option.bind_some];unfold corners;rw[s,r.fst A]
 have e:List.map (fH one) [B,Y,x,y]=n.t:=by rw[k];simp[Fm]
 simp only[Option.map_some,e,z,if_true]
 unfold first at o
 by_cases b:fits n.t=true
 ·rw[if_pos b,if_neg (o b)];simp
 ·rw[if_neg b];simp
theorem aML {x y:Int}(h:y<x):Nm.cmp x y=1:=by
 unfold Nm.cmp;rw[decide_eq_false (by omega),decide_eq_false (by omega)];rfl
theorem aGj (b:V):apart (0,0) b=(0,1):=by unfold apart;simp
theorem aGi {c d:Int}(hc:0<c)(e:0<d):apart (c,0) (0,d)=(2*(c*d),c*d):=by
 unfold apart;simp only;rw[if_neg (by omega)];have h:0<c*d:=Int.mul_pos hc e
 have a:(c-0)*(0+d)-(0-d)*(c+0)=2*(c*d):=by grind
 have b:(c+0)*(0+d)=c*d:=by grind
 rw[a,b]
 ext<;>(simp only;omega)
theorem aLs {c d:Int}(hc:0<c)(a:0<d):first [(0,0),(c,0),(0,1),(0,d)]:=by
 intro _;have h:0<c*d:=Int.mul_pos hc a;unfold wider;simp only[aGj,aGi hc a]
 have b:apart (0,1) (0,d)=(0,d):=by
  unfold apart;simp only;rw[if_neg (by omega)]
  ext<;>simp<;>omega
 have e:dS (0,1) (2*(c*d),c*d)=(2*(c*d),c*d):=by
  unfold dS;rw[if_neg (by simp;omega)]
 have f:dS (0,1) (0,d)=(0,1):=by
  unfold dS;rw[if_pos (by simp)]
 rw[b,e,f];simp only;rw[aML (by omega)];decide
theorem aLt {a b:Int}(d:0<a)(g:0<b):first [(0,0),(b,0),(a,b),(0,a)]:=by
 intro _;have h:0<b*a:=Int.mul_pos g d;have e:0<a*a:=Int.mul_pos d d;unfold wider;simp only[aGj,aGi g d]
 have j:apart (a,b) (0,a)=(2*(a*a),a*a+b*a):=by
  unfold apart;simp only;rw[if_neg (by omega)]
  have k1:(a-b)*(0+a)-(0-a)*(a+b)=2*(a*a):=by grind
  have f:(a+b)*(0+a)=a*a+b*a:=by grind
  rw[k1,f]
  ext<;>(simp only;omega)
 have k:dS (0,1) (2*(b*a),b*a)=(2*(b*a),b*a):=by
  unfold dS;rw[if_neg (by simp;omega)]
 have l:dS (0,1) (2*(a*a),a*a+b*a)=(2*(a*a),a*a+b*a):=by
  unfold dS;rw[if_neg (by simp;omega)]
 rw[j,k,l];simp only
 have k1:8*(2*(b*a))*(a*a+b*a)=16*((b*a)*(a*a))+16*((b*a)*(b*a)):=by grind
 have f:2*(a*a)*(b*a)=2*((b*a)*(a*a)):=by grind
 have p1:0<(b*a)*(a*a):=Int.mul_pos h e;have o:0<(b*a)*(b*a):=Int.mul_pos h h;rw[k1,f,aML (by omega)];decide
theorem wS (hc:c<=3000)(f:n.read=n.args.map (fun _=>0))(g:n.out=[])(h:n.told=one)(e:n.dP=[one])(l:n.part=one)(s:n.k+c<=3000)(tb:∀v∈n.t,Bits 13000 v.1/\Bits 13000 v.2)(pb:Bits 6100 n.p)(qb:Bits 6100 n.q)
  (arg:∀(j a:Nat),n.args[j]?=some a->a<ns.length/\rho a<rho i) (shp:Shp ns rho c i n):aZ ns rho c i n:=by
 have b1:cY 1 one:=⟨by unfold Bits one;decide,by unfold Bits one;decide,by unfold Bits one;decide,by unfold Bits one;decide⟩
 refine⟨by rw[f];simp,arg,?_,by rw[e,g];rfl,by rw[e];rfl,fun _=>h,by rw[g];simpa using hc,s,?_,by rw[h,g];exact b1,?_,fun _=>⟨by rw[h];exact aRr,fun m b=>?_⟩,tb,pb,qb,?_,shp⟩
 ·intro j a r x o d u;rw[f,List.getElem?_map,o]at d;simp at d;omega
 ·intro r d;rw[f]at d;simp at d;omega
 ·intro j m b;rw[e]at b
  have:j=0:=by
   have:=(List.getElem?_eq_some_iff.1 b).1;simp at this;exact this
  subst this;simp at b;rw[<-b];exact b1
 ·rw[e]at b;simp at b;rw[b];exact aRr
 ·rw[l];exact cY.mono b1 (by omega)
theorem aW {m:Nat}:Bits m 0:=by unfold Bits;simp;exact Nat.pow_pos (by decide)
theorem eB {m:Nat}(h:1<=m):Bits m 1:=by
 unfold Bits;exact Nat.lt_of_lt_of_le (show 1<2^1 by decide) (Nat.pow_le_pow_right (by decide) h)
structure Grown (ns:List Nd) (rho:Nat->Nat) (c R:Nat) (ns':List Nd) (rho':Nat->Nat):Prop where
 inv:Inv ns' rho' c
 ext:∃ms,ns'=ns++ms
 agree:∀k,k<ns.length->rho' k=rho k
 jD:∀k,ns.length<=k->k<ns'.length->rho' k<=R
variable {g:List Nd}{S:Nat->Nat}{w:Nat}
theorem Grown.le (h:Grown ns rho c w g S):Le ns g:=by
 obtain⟨a,rfl⟩:=h.ext;exact Le.more _ _
theorem Grown.refl (h:Inv ns rho c)(R:Nat):Grown ns rho c R ns rho:=⟨h,⟨[],by simp⟩,fun _ _=>rfl,fun k a b=>by omega⟩
theorem Grown.trans {b:List Nd}{a:Nat->Nat}(h:Grown ns rho c w g S)(d:Grown g S c w b a):Grown ns rho c w b a:=by
 have r:=h.le.len;obtain⟨q,e⟩:=h.ext;obtain⟨j,l⟩:=d.ext;refine⟨d.inv,⟨q++j,by rw[l,e,List.append_assoc]⟩,fun k f=>by rw[d.agree k (by omega),h.agree k f],fun k o p=>?_⟩
 by_cases f:k<g.length
 ·rw[d.agree k f];exact h.jD k o f
 ·exact d.jD k (by omega) p
theorem Grown.bU {a:Nat}(h:Grown ns rho c w g S)(e:w<=a):Grown ns rho c a g S:=⟨h.inv,h.ext,h.agree,fun k b d=>Nat.le_trans (h.jD k b d) e⟩
variable {r:Nat}
theorem uE (h:Inv ns rho c){n':Nd}(f:aZ ns (jV rho ns.length r) c ns.length n'):more ns n'=some (ns++[n'])/\Grown ns rho c r (ns++[n']) (jV rho ns.length r)/\jV rho ns.length r ns.length=r:=by
 obtain⟨b,d,j,e,a⟩:=h.more f;refine⟨b,⟨d,⟨_,rfl⟩,e,fun k k1 g=>?_⟩,a⟩
 have:k=ns.length:=by simp at g;omega
 rw[this,a];exact Nat.le_refl _
variable {k:Nat}
theorem rZ {p:Nat}(h:p<k):jV rho k r p=rho p:=by unfold jV;rw[if_neg (by omega)]
theorem uB:jV rho k r k=r:=by unfold jV;rw[if_pos rfl]
theorem Ca {n':Nd}(h:n'.pos=true):Pos (ns++[n']) ns.length:=⟨n',by simp,h⟩
variable {x:Nat}{sq:Option Nat}
theorem Xx (hc:c<=3000){op:Op}{a base:Nat}(f:fn op)(C:op≠.sqrt)(q:k+c<=3000)(l:Pos ns a)(o:Pos ns x)(ra:rho a<base)(w:rho x+1<base)(h:∀s,sq=some s->s<ns.length/\rho s<base/\Pos ns s):
  aZ ns (jV rho ns.length (base+c+1)) c ns.length (eP op k a x sq):=by
 obtain⟨y,z,A,B⟩:=Xm op (k:=k) (by omega);refine wS hc rfl rfl rfl rfl rfl q ?_ aW aW ?_ ?_
 ·intro v hv;simp[eP,fresh]at hv
  rcases hv with rfl|rfl|rfl|rfl
  ·exact⟨aW,aW⟩
  ·exact⟨eG y (by decide),aW⟩
  ·exact⟨aW,eB (by decide)⟩
  ·exact⟨aW,eG z (by decide)⟩
 ·intro j b d
  have:b=a:=by
   simp only[eP,fresh]at d
   cases j with
   |zero=>simpa using d.symm
   |succ j=>simp at d
  subst this;have:=l.lt;rw[rZ this,uB];exact⟨this,by omega⟩
 ·refine .nest a _ _ _ _ rfl rfl rfl rfl ⟨⟨base,c,uB,Nat.le_refl _,q,by rw[rZ l.lt];exact ra,fun e=>absurd ⟨rfl,rfl⟩ e,fun _=>⟨x,rfl,o.lt,by rw[rZ o.lt];exact w,o,fun s g=>?_⟩⟩,f,aLs A B,l⟩;obtain⟨p,r,u⟩:=h s g;exact⟨p,by rw[rZ p];exact r,u⟩
theorem aJS (hc:c<=3000){p:Bool}(d:x<ns.length)(e:rho x<r):aZ ns (jV rho ns.length r) c ns.length (two .mul p p x x):=by
 refine wS hc rfl rfl rfl rfl rfl (by simpa[two,fresh]using hc) ?_ aW aW ?_ (.bin x x _ _ _ _ rfl rfl rfl)
 ·intro v hv;simp[two,fresh,Kind.cols]at hv
  rcases hv with rfl|rfl|rfl
  ·exact⟨eB (by decide),aW⟩
  ·exact⟨aW,aW⟩
  ·exact⟨aW,eB (by decide)⟩
 ·intro j b a
  have:b=x:=by
   simp only[two,fresh]at a
   cases j with
   |zero=>simpa using a.symm
   |succ j=>cases j with
    |zero=>simpa using a.symm
    |succ j=>simp at a
  subst this;rw[rZ d,uB];exact⟨d,e⟩
theorem aKw (h:Inv ns rho c)(hc:c<=3000){op:Op}{base:Nat}(f:fn op)(y:op≠.sqrt)(w:k+c<=3000)(b:Pos ns x)(z:rho x+1<base)(g:∀s,sq=some s->s<ns.length/\rho s<base/\Pos ns s):
  ∃l u d,nest ns op k x sq=some (l,d)/\Grown ns rho c (base+c+1) l u/\ns.length<=d/\Pos l d:=by
 unfold nest;split
 ·cases sq with
  |some s=>
   obtain⟨H,C,D⟩:=g s rfl;obtain⟨k1,j,v⟩:=uE h (Xx hc f y w (a:=s) D b C z (sq:=some s) g);simp only;rw[k1];exact⟨_,_,_,rfl,j,Nat.le_refl _,Ca rfl⟩
  |none=>
   obtain⟨o,A,q⟩:=b
   have b:Pos ns x:=⟨o,A,q⟩
   obtain⟨k1,j,v⟩:=uE h (aJS (p:=o.pos) hc b.lt (r:=base-1) (by omega));simp only;rw[A,Option.bind_some,k1,Option.bind_some];have B:Pos (ns++[two .mul o.pos o.pos x x]) ns.length:=Ca (by rw[q];rfl);obtain⟨E,F,I⟩:=uE j.inv (Xx (rho:=jV rho ns.length (base-1)) hc f y w (a:=ns.length) (base:=base) B (b.le j.le) (by rw[v];omega) (by rw[rZ b.lt];exact z) (sq:=some ns.length) (fun s e=>by cases e;exact⟨by simp,by rw[v];omega,B⟩));rw[E];exact⟨_,_,_,rfl,(j.bU (by omega)).trans F,by simp,by have:=Ca (ns:=ns++[two .mul o.pos o.pos x x]) (n':=eP op k ns.length x (some ns.length)) rfl;simpa using this⟩
 ·obtain⟨k1,j,v⟩:=uE h (Xx hc f y w (a:=x) b b (by omega) z (sq:=sq) g);rw[k1];exact⟨_,_,_,rfl,j,Nat.le_refl _,Ca rfl⟩
end
end Rf
namespace Rf
open Nw
section
variable {ns:List Nd} {rho:Nat->Nat} {c i:Nat} {n:Nd}
theorem aVt {k:Nat}{y:Nd}(a:k≠i):(ns.set i y)[k]?=ns[k]?:=List.getElem?_set_ne (fun e=>a e.symm)
structure gN (ns:List Nd) (rho:Nat->Nat) (i:Nat) (ns':List Nd) (rho':Nat->Nat):Prop where
 le:Le ns ns'
 agree:∀k,k<ns.length->rho' k=rho k
 jD:∀k,ns.length<=k->k<ns'.length->rho' k<rho i
 same:∀(k:Nat) (n:Nd),ns[k]?=some n->rho i<rho k->ns'[k]?=some n
theorem gN.refl (ns:List Nd)(rho:Nat->Nat)(i:Nat):gN ns rho i ns rho:=⟨Le.refl _,fun _ _=>rfl,fun k a b=>by omega,fun k n h _=>h⟩
theorem gN.trans {g b:List Nd}{S a:Nat->Nat}(hi:i<ns.length)(h:gN ns rho i g S)(e:gN g S i b a):gN ns rho i b a:=by
 have p:=h.le.len;refine⟨h.le.trans e.le,fun k d=>by rw[e.agree k (by omega),h.agree k d],fun k l o=>?_,fun k n f j=>?_⟩
 ·by_cases d:k<g.length
  ·rw[e.agree k d];exact h.jD k l d
  ·have:=e.jD k (by omega) o;rw[h.agree i hi]at this;exact this
 ·have d:=(List.getElem?_eq_some_iff.1 f).1;refine e.same k n (h.same k n f j) ?_;rw[h.agree i hi,h.agree k d];exact j
theorem gN.set {n':Nd}(d:ns[i]?=some n)(g:n'.pos=n.pos)(f:n.out.length<=n'.out.length):gN ns rho i (ns.set i n') rho:=
 ⟨Le.set d g f,fun _ _=>rfl,fun k h a=>by simp at a;omega,fun k m b j=>by rw[aVt (by intro e;subst e;omega)];exact b⟩
variable {a:Nat}{g:List Nd}{S:Nat->Nat}
theorem gN.up (h:gN ns rho a g S)(b:rho a<rho i):gN ns rho i g S:=
 ⟨h.le,h.agree,fun k d e=>Nat.lt_trans (h.jD k d e) b,fun k n j f=>h.same k n j (Nat.lt_trans b f)⟩
variable {w:Nat}
theorem gN.grown (h:Grown ns rho c w g S)(e:w<rho i):gN ns rho i g S:=by
 refine⟨h.le,h.agree,fun k b d=>Nat.lt_of_le_of_lt (h.jD k b d) e,fun k n a _=>?_⟩;obtain⟨f,rfl⟩:=h.ext;rw[List.getElem?_append_left (List.getElem?_eq_some_iff.1 a).1];exact a
theorem Grown.at' {k:Nat}{m:Nd}(h:Grown ns rho c w g S)(a:ns[k]?=some m):g[k]?=some m:=by
 obtain⟨b,rfl⟩:=h.ext;rw[List.getElem?_append_left (List.getElem?_eq_some_iff.1 a).1];exact a
theorem aLe {cl:Int}(h:Inv ns rho c)(hc:c<=3000)(H:ns[i]?=some n){B Y x y:V}(R:n.t=[B,Y,x,y])(s:n.args=[a])(hp:n.aR=false)(ok:jN ns rho c i n a)(J:¬(n.read=[0]/\n.out=[])):
  ∃l o d C,wide ⟨ns,cl⟩ i n 1=some ⟨l,cl⟩/\Inv l o c/\gN ns rho i l o/\l[i]?=some C/\C={n with args:=n.args++[d],read:=n.read++[0]}:=by
 have E:=h.at' i n H;have hi:=(List.getElem?_eq_some_iff.1 H).1;obtain⟨⟨base,ck,h1,h2,h3,X,h5,h6⟩,O,h8,A⟩:=ok;have ae:=h5 J
 have M:∃l o d,deeper ns n=some (l,d)/\Grown ns rho c (base+c+1) l o/\ns.length<=d/\Pos l d:=by
  unfold deeper
  by_cases z:n.op=.sqrt
  ·rw[if_pos z,s];simp only[List.getElem?_cons_zero,Option.bind_some]
   obtain ⟨k1,S,T⟩:=uE h (r:=base+c+1) (n':={ fresh true n.t [a] with op:=n.op,nest:=true}) (by
    refine wS hc rfl rfl rfl rfl rfl (by simpa[fresh]using hc) E.tb aW aW ?_ (.nest a B Y x y R rfl rfl rfl ⟨⟨base,c,uB,Nat.le_refl _,by simpa[fresh]using hc,by rw[rZ A.lt];exact X,fun e=>absurd ⟨rfl,rfl⟩ e,fun e=>absurd z e⟩,O,h8,A⟩);intro j b p
    have:b=a:=by
     simp only[fresh]at p
     cases j with
     |zero=>simpa using p.symm
     |succ j=>simp at p
    subst this;rw[rZ A.lt,uB]
    exact⟨A.lt,by omega⟩)
   rw[k1];exact⟨_,_,_,rfl,S,Nat.le_refl _,Ca rfl⟩
  ·rw[if_neg z];obtain⟨U,k1,S,T,k4,k5⟩:=h6 z;rw[k1,Option.bind_some];exact aKw h hc O z (by omega) k4 T k5
 obtain⟨N,q,d,W,g,hd,pd⟩:=M;have u:=g.at' H;have f:=g.inv.at' i n u;have I:q i=rho i:=g.agree i hi
 obtain⟨r,P⟩:∃r,n.read=[r]:=by
  have:=E.len;rw[s]at this;exact List.length_eq_one_iff.1 this
 have F:aZ N q c i {n with args:=n.args++[d],read:=n.read++[0]}:=by
  refine⟨by simp[E.len],?_,?_,f.kU,f.nB,f.fst,f.iV,f.ku,?_,f.jF,f.lO,f.up,f.tb,f.pb,f.qb,f.iB,.bin a d B Y x y R (by simp[s]) hp⟩
  ·intro j b p;simp only[s]at p
   cases j with
   |zero=>exact f.arg 0 b (by rw[s];simpa using p)
   |succ j=>cases j with
    |zero=>
     have:b=d:=by simpa using p.symm
     subst this;have:=g.jD b hd pd.lt;exact⟨pd.lt,by rw[I];omega⟩
    |succ j=>simp at p
  ·intro j b D U p k L;simp only[s,P]at p k
   cases j with
   |zero=>exact f.rd 0 b D U (by rw[s];simpa using p) (by rw[P];simpa using k) L
   |succ j=>cases j with
    |zero=>
     have:D=0:=by simpa using k.symm
     omega
    |succ j=>simp at p
  ·intro D k;simp only[List.mem_append,List.mem_singleton]at k
   rcases k with k|rfl
   ·exact f.jE D k
   ·omega
 obtain⟨p1,p2,p3⟩:=g.inv.put u (n':={n with args:=n.args++[d],read:=n.read++[0]}) rfl (Nat.le_refl _) F;refine⟨_,q,d,_,?_,p2,?_,by rw[List.getElem?_set_self (by have:=g.le.len;omega)],rfl⟩
 ·unfold wide;rw[if_pos (by simp[s]),W,Option.bind_some,p1];rfl
 ·exact(gN.grown g (by omega)).trans hi (gN.set u rfl (Nat.le_refl _))
theorem aNz {m:Mt}(a:cY (2*w+1) m)(g:w<=3000):Bits 6100 (eU m (0,1)).1/\Bits 6100 (eU m (0,1)).2:=by
 have e:(eU m (0,1)).1=m.b:=by simp[eU,Mt.at1]
 have f:(eU m (0,1)).2=m.d:=by simp[eU,Mt.at2]
 rw[e,f];exact⟨eG a.b (by omega),eG a.d (by omega)⟩
theorem aSh {m:Mt}(h:Up m):0<=(eU m (0,1)).1/\0<(eU m (0,1)).2/\(known .sqrt (eU m (0,1)) (eU m (1,0))=true->0<(eU m (0,1)).1):=by
 have j:eU m (0,1)=(m.b,m.d):=by simp[eU,Mt.at1,Mt.at2]
 have k:eU m (1,0)=(m.a,m.c):=by simp[eU,Mt.at1,Mt.at2]
 obtain⟨p,f,l,q,g⟩:=h;have o:0<=m.b*m.c:=Int.mul_nonneg f l;rw[j,k];refine⟨f,?_,?_⟩
 ·show 0<m.d
  rcases Int.lt_or_le 0 m.d with h|h
  ·exact h
  ·have:m.d=0:=by omega
   rw[this]at g;omega
 ·intro e;unfold known at e;simp at e;show 0<m.b
  rcases Int.lt_or_le 0 m.b with h|h
  ·exact h
  ·have:m.b=0:=by omega
   rw[this]at g e;omega
theorem lH {b p:Nat}(h:([a]:List Nat)[p]?=some b):b=a:=by
 cases p with
 |zero=>simpa using h.symm
 |succ p=>simp at h
theorem args2 {b d W:Nat}(h:([a,d]:List Nat)[W]?=some b):b=a\/b=d:=by
 cases W with
 |zero=>exact Or.inl (by simpa using h.symm)
 |succ W=>cases W with
  |zero=>exact Or.inr (by simpa using h.symm)
  |succ W=>simp at h
theorem aEX (h:Inv ns rho c)(hc:c<=3000){op:Op}{p q:Int}(k:fn op)(o:0<p)(s:0<q)(pb:Bits 6100 p)(qb:Bits 6100 q):∃b f d,outright ns op p q=some (b,d)/\Grown ns rho c 1 b f/\ns.length<=d/\Pos b d:=by
 unfold outright;obtain⟨k1,l,x⟩:=uE h (r:=0) (n':=row op p q) (wS hc rfl rfl rfl rfl rfl (by simpa[row,fresh]using hc) (fun v hv=>by simp[row,fresh]at hv) pb qb (fun j a g=>by simp[row,fresh]at g) (.fI rfl rfl rfl (Or.inr (Or.inr (Or.inr ⟨k,o,s⟩)))));rw[k1,Option.bind_some];split
 ·obtain ⟨u,w,y⟩:=uE l.inv (r:=1) (n':=raised ns.length) (by
   refine wS hc rfl rfl rfl rfl rfl (by simpa[raised,fresh]using hc) ?_ aW aW ?_ (.kP _ _ ns.length rfl rfl (fun e=>by cases e))
   ·intro v hv;simp[raised,fresh]at hv
    rcases hv with rfl|rfl
    ·exact⟨eB (by decide),yI (eB (by decide))⟩
    ·exact⟨eB (by decide),eB (by decide)⟩
   ·intro j a g;have:=lH g;subst this;rw[rZ (by simp),uB,uB]
    exact⟨by simp,by decide⟩)
  rw[u];exact⟨_,_,_,rfl,(l.bU (by decide)).trans w,by simp,by have:=Ca (ns:=ns++[row op p q]) (n':=raised ns.length) rfl;simpa using this⟩
 ·exact⟨_,_,_,rfl,l.bU (by decide),Nat.le_refl _,Ca rfl⟩
theorem aQl (h:Inv ns rho c)(hc:c<=3000)(R:ns[i]?=some n){v w:V}{x:Nat}(ht:n.t=[v,w])(ha:n.args=[x])(hr:n.read=[0])(hp:n.aR=false)(a2:n.pos=true)(N:fn n.op)(ho:n.out=[])(px:Pos ns x)(rx:rho x+3100<=rho i)(hk:n.k=0)
  {lo:V} (b1:Bits 6100 lo.1) (b2:Bits 6100 lo.2) (l1:0<=lo.1) (l2:0<lo.2) (l3:n.op=.sqrt->0<lo.1):
  ∃H J,turn ns i n lo=some H/\Inv H J c/\gN ns rho i H J/\(∃O,H[i]?=some O/\O.out=[]):=by
 have q:=h.at' i n R;have hi:=(List.getElem?_eq_some_iff.1 R).1
 have ak:n.args[0]?=some x:=by rw[ha];rfl
 unfold turn;rw[ak,Option.bind_some]
 by_cases Y:n.op=.sqrt
 ·rw[if_pos Y];obtain⟨a,b,e1,e2,e3,e4,e5⟩:=Ny (l3 Y) l2 b1 b2;rw[e1,Option.bind_some]
  have B:aZ ns rho c i {n with t:=[(0,0),(b,0),(a,b),(0,a)],nest:=true}:=by
   refine⟨q.len,q.arg,q.rd,q.kU,q.nB,q.fst,q.iV,q.ku,q.jE,q.jF,q.lO,q.up,?_,q.pb,q.qb,q.iB,.nest x _ _ _ _ rfl ha hp rfl ⟨⟨rho i-c-1,c,by omega,Nat.le_refl _,by simp only;omega,by omega,fun e=>absurd ⟨hr,ho⟩ e,fun e=>absurd Y e⟩,N,aLt (by omega) e3,px⟩⟩;intro v hv;simp at hv
   rcases hv with rfl|rfl|rfl|rfl
   ·exact⟨aW,aW⟩
   ·exact⟨eG e5 (by decide),aW⟩
   ·exact⟨eG e4 (by decide),eG e5 (by decide)⟩
   ·exact⟨aW,eG e4 (by decide)⟩
  obtain⟨p1,p2,p3⟩:=h.put R (n':={n with t:=[(0,0),(b,0),(a,b),(0,a)],nest:=true}) rfl (Nat.le_refl _) B;exact⟨_,rho,p1,p2,gN.set R rfl (Nat.le_refl _),_,List.getElem?_set_self hi,ho⟩
 ·rw[if_neg Y]
  -- z
  have Z:∃A C z,(if 0<lo.1 then(more ns (fresh true (jW n.op lo) [x])).map fun A=>(A,ns.length)else some (ns,x))=some (A,z)/\Grown ns rho c (rho x+1) A C/\Pos A z/\C z<=rho x+1:=by
   by_cases W:0<lo.1
   ·rw[if_pos W]
    obtain ⟨k1,k2,k3⟩:=uE h (r:=rho x+1) (n':=fresh true (jW n.op lo) [x]) (by
     refine wS hc rfl rfl rfl rfl rfl (by simpa[fresh]using hc) ?_ aW aW ?_ (.kP _ _ x rfl rfl (fun e=>by cases e))
     ·intro v hv;simp[fresh,jW]at hv
      rcases hv with rfl|rfl
      ·refine⟨eG b2 (by decide),?_⟩;simp only;split
       ·exact eG b1 (by decide)
       ·exact aW
      ·refine⟨eG (yI b1) (by decide),?_⟩;simp only;split
       ·exact eG (pA b1 b2) (by decide)
       ·exact eG b2 (by decide)
     ·intro j b D;have:=lH D;subst this;rw[rZ px.lt,uB]
      exact⟨px.lt,by omega⟩)
    rw[k1];exact⟨_,_,_,rfl,k2,Ca rfl,by rw[k3];exact Nat.le_refl _⟩
   ·rw[if_neg W];exact⟨_,_,_,rfl,Grown.refl h _,px,by omega⟩
  obtain⟨A,C,z,e1,g1,pz,rz⟩:=Z;rw[e1,Option.bind_some]
  -- the nest
  obtain⟨I,L,d,e2,g2,hd,pd⟩:=aKw (base:=rho x+3) g1.inv hc (k:=0) (sq:=none) N Y (by omega) pz (by omega) (fun s e=>by cases e);simp only;rw[e2,Option.bind_some];have rd:L d<=rho x+3+c+1:=g2.jD d hd pd.lt;have G2:Grown ns rho c (rho x+3+c+1) I L:=(g1.bU (by omega)).trans g2
  -- raised
  have T:∃u o t,(if n.op=.exp then(more I (raised d)).map fun u=>(u,I.length)else some (I,d))=some (u,t)/\Grown ns rho c (rho x+3+c+2) u o/\Pos u t/\o t<=rho x+3+c+2:=by
   by_cases U:n.op=.exp
   ·rw[if_pos U]
    obtain ⟨k1,k2,k3⟩:=uE G2.inv (r:=rho x+3+c+2) (n':=raised d) (by
     refine wS hc rfl rfl rfl rfl rfl (by simpa[raised,fresh]using hc) ?_ aW aW ?_ (.kP _ _ d rfl rfl (fun e=>by cases e))
     ·intro v hv;simp[raised,fresh]at hv
      rcases hv with rfl|rfl
      ·exact⟨eB (by decide),yI (eB (by decide))⟩
      ·exact⟨eB (by decide),eB (by decide)⟩
     ·intro j b D;have:=lH D;subst this;rw[rZ pd.lt,uB]
      exact⟨pd.lt,by omega⟩)
    rw[k1];exact⟨_,_,_,rfl,(G2.bU (by omega)).trans k2,Ca rfl,by rw[k3];exact Nat.le_refl _⟩
   ·rw[if_neg U];exact⟨_,_,_,rfl,G2.bU (by omega),pd,by omega⟩
  obtain⟨u,o,t,e3,M,pt,rt⟩:=T;simp only;rw[e3,Option.bind_some];simp only;have E:=M.at' R;have g:=M.inv.at' i n E;have am:o i=rho i:=M.agree i hi
  by_cases W:lo.1=0
  ·rw[if_pos W]
   have B:aZ u o c i {n with args:=[t]}:=by
    refine⟨by simp[hr],?_,?_,g.kU,g.nB,g.fst,g.iV,g.ku,g.jE,g.jF,g.lO,g.up,g.tb,g.pb,g.qb,g.iB,.kP v w t ht rfl (fun e=>by simp only at e;rw[hp]at e;cases e)⟩
    ·intro j b D;have:=lH D;subst this;exact⟨pt.lt,by rw[am];omega⟩
    ·intro j b r' x' D y ao;simp only[hr]at y;have:=lH y;omega
   obtain⟨p1,p2,p3⟩:=M.inv.put E (n':={n with args:=[t]}) rfl (Nat.le_refl _) B;exact⟨_,o,p1,p2,(gN.grown M (by omega)).trans hi (gN.set E rfl (Nat.le_refl _)),_,List.getElem?_set_self (List.getElem?_eq_some_iff.1 E).1,ho⟩
  ·rw[if_neg W];obtain⟨P,p,f,e4,g4,hf,pf⟩:=aEX M.inv hc N (show 0<lo.1 by omega) l2 b1 b2;rw[e4,Option.bind_some];simp only;have S:Grown ns rho c (rho x+3+c+2) P p:=M.trans (g4.bU (by omega));have F:=S.at' R;have l:=S.inv.at' i n F;have X:p i=rho i:=S.agree i hi;have rf:p f<=1:=g4.jD f hf pf.lt;have av:p t=o t:=g4.agree t pt.lt;have au:Pos P t:=pt.le g4.le
   have B:aZ P p c i {n with t:=(if n.op=.exp then Kind.mul else Kind.add).cols,args:=[f,t],read:=[0,0]}:=by
    refine⟨rfl,?_,?_,l.kU,l.nB,l.fst,l.iV,l.ku,?_,l.jF,l.lO,l.up,?_,l.pb,l.qb,l.iB,?_⟩
    ·intro j b D
     rcases args2 D with rfl|rfl
     ·exact⟨pf.lt,by rw[X];omega⟩
     ·exact⟨au.lt,by rw[X,av];omega⟩
    ·intro j b r' x' D y ao
     rcases args2 y with e|e<;>omega
    ·intro r' y;simp at y;omega
    ·intro v hv;simp only at hv;split at hv
     ·simp[Kind.cols]at hv
      rcases hv with rfl|rfl|rfl
      ·exact⟨eB (by decide),aW⟩
      ·exact⟨aW,aW⟩
      ·exact⟨aW,eB (by decide)⟩
     ·simp[Kind.cols]at hv
      rcases hv with rfl|rfl|rfl
      ·exact⟨aW,aW⟩
      ·exact⟨eB (by decide),aW⟩
      ·exact⟨aW,eB (by decide)⟩
    ·by_cases U:n.op=.exp
     ·exact .bin f t _ _ _ _ (by simp only[U,if_true];rfl) rfl hp
     ·exact .bin f t _ _ _ _ (by simp only[U,if_false];rfl) rfl hp
   obtain⟨p1,p2,p3⟩:=S.inv.put F (n':={n with t:=(if n.op=.exp then Kind.mul else Kind.add).cols,args:=[f,t],read:=[0,0]}) rfl (Nat.le_refl _) B;exact⟨_,p,p1,p2,(gN.grown S (by omega)).trans hi (gN.set F rfl (Nat.le_refl _)),_,List.getElem?_set_self (List.getElem?_eq_some_iff.1 F).1,ho⟩
end
end Rf
namespace Rf
open Nw
section
variable {ns:List Nd} {rho:Nat->Nat} {c i:Nat} {n:Nd}
theorem aKc (l:List Nat)(k:Nat):(bump l k).length=l.length:=by
 induction l generalizing k with
 |nil=>rfl
 |cons r b a=>cases k with
  |zero=>rfl
  |succ k=>simp[bump,a]
theorem aMF (l:List Nat)(k j:Nat):(bump l k)[j]?=(l[j]?).map fun r=>if j=k then r+1 else r:=by
 induction l generalizing k j with
 |nil=>simp[bump]
 |cons r b a=>
  cases k with
  |zero=>cases j with
   |zero=>simp[bump]
   |succ j=>simp[bump]
  |succ k=>cases j with
   |zero=>simp[bump]
   |succ j=>simp[bump,a]
variable {r:Nat}
theorem aKd {d:List Nat}{k:Nat}(h:r∈bump d k):r∈d\/∃f,d[k]?=some f/\r=f+1:=by
 obtain⟨j,o,e⟩:=List.getElem_of_mem h
 have a:(bump d k)[j]?=some r:=by rw[List.getElem?_eq_getElem o,e]
 rw[aMF]at a
 cases b:d[j]? with
 |none=>rw[b]at a;simp at a
 |some f=>
  rw[b]at a;simp at a;split at a
  ·rename_i g;subst g;exact Or.inr ⟨f,b,a.symm⟩
  ·subst a;exact Or.inl (List.mem_of_getElem? b)
variable {w:Nat}
theorem aKb (h:Inv ns rho (c+1))(D:ns[i]?=some n){a:Nat}{x:Nd}(u:n.args[w]?=some a)(E:n.read[w]?=some r)(F:ns[a]?=some x)(S:r<x.out.length):
  aZ ns rho c i {n with read:=bump n.read w}:=by
 have A:=h.at' i n D;have hi:=(List.getElem?_eq_some_iff.1 D).1;have k:=A.mono (c':=c) (Le.refl _) (fun _ _=>rfl) hi (by omega);have T:=(h.at' a x F).iV;refine⟨by simp[aKc,A.len],k.arg,?_,k.kU,k.nB,k.fst,k.iV,k.ku,?_,k.jF,k.lO,k.up,k.tb,k.pb,k.qb,k.iB,?_⟩
 ·intro j b H U B g p;simp only[aMF]at g
  cases z:n.read[j]? with
  |none=>rw[z]at g;simp at g
  |some I=>
   rw[z]at g;simp at g;have W:=A.rd j b I U B z p;split at g
   ·rename_i e;subst e;rw[u]at B;cases B;rw[F]at p;cases p;rw[E]at z;cases z;omega
   ·omega
 ·intro H g
  rcases aKd g with q|⟨I,q,L⟩
  ·exact k.jE H q
  ·rw[E]at q;cases q;omega
 ·cases A.shp with
  |fI o f l hc=>rw[f]at u;simp at u
  |gH v o f l hv=>rw[f]at u;simp at u
  |kP v d s o f l=>exact .kP v d s o f l
  |bin s b v d x y o f l=>exact .bin s b v d x y o f l
  |nest s v d x y o f l C ok=>
   obtain⟨⟨base,J,q,L,M,N,X,O⟩,P,h8,R⟩:=ok;exact .nest s v d x y o f l C ⟨⟨base,J,q,by omega,M,N,fun _=>by omega,O⟩,P,h8,R⟩
theorem aRK (h:Inv ns rho c)(e:ns[i]?=some n):Ok {n with read:=bump n.read w}:=by
 have d:=h.at' i n e;have a:=d.ok;refine⟨a.t,a.told,a.dP,a.part,a.p,a.q,?_,a.out,a.k⟩;intro r f
 rcases aKd f with b|⟨g,b,j⟩
 ·exact a.read r b
 ·have:=d.jE g (List.mem_of_getElem? b);omega
theorem Yj {s:St}(F:s.clock=(c:Int))(h:Inv s.nodes rho c)(hc:c<=3000)(B:s.nodes[i]?=some n){a:Nat}{x:Nd}(ha:n.args[w]?=some a)(hr:n.read[w]?=some r)(hx:s.nodes[a]?=some x)(T:r<x.out.length)(aa:n.aR=true->w=0):
  ∃N b,after s i w=some (N,b)/\(b=true->∃p P,P<c/\N.clock=(P:Int)/\Inv N.nodes p P/\gN s.nodes rho i N.nodes p/\∃I,N.nodes[i]?=some I/\I.out=n.out):=by
 have hi:=(List.getElem?_eq_some_iff.1 B).1;unfold after;rw[B,Option.bind_some]
 cases c with
 |zero=>
  have l:put s.nodes i {n with read:=bump n.read w}=some (s.nodes.set i {n with read:=bump n.read w}):=by
   unfold put;rw[if_pos ⟨aRK h B,hi⟩]
  rw[l,Option.bind_some,if_pos (by rw[F];decide)];exact⟨_,_,rfl,fun e=>by cases e⟩
 |succ c=>
  have hB:=aKb h B ha hr hx T;obtain⟨p1,J,p3⟩:=(h.tick (show c<=c+1 by omega)).put B (n':={n with read:=bump n.read w}) rfl (Nat.le_refl _) hB;rw[p1,Option.bind_some,if_neg (by rw[F];omega)]
  have u:s.clock-1=(c:Int):=by rw[F];omega
  have M1:gN s.nodes rho i (s.nodes.set i {n with read:=bump n.read w}) rho:=gN.set B rfl (Nat.le_refl _);have C:(s.nodes.set i {n with read:=bump n.read w})[i]?=some {n with read:=bump n.read w}:=List.getElem?_set_self hi;have f:=J.at' i _ C;unfold settle
  by_cases o:n.aR=true
  ·rw[if_pos o];have ab:=f.shp
   have hS:∃v d q,n.t=[v,d]/\n.args=[q]/\n.pos=true/\fn n.op/\n.out=[]/\Pos (s.nodes.set i {n with read:=bump n.read w}) q/\rho q+3100<=rho i/\n.k=0:=by
    cases ab with
    |fI E g l hc=>simp only at l;rw[o]at l;cases l
    |gH v E g l hv=>simp only at l;rw[o]at l;cases l
    |kP v d q E g l=>
     obtain⟨k1,k2,k3,k4,k5,k6⟩:=l o;exact⟨v,d,q,E,g,k1,k2,k3,k4,k5,k6⟩
    |bin q b v d x y E g l=>simp only at l;rw[o]at l;cases l
    |nest q v d x y E g l ay ok=>simp only at l;rw[o]at l;cases l
   obtain⟨v,d,q,E,g,L,X,ho,pa,ra,hk⟩:=hS;obtain⟨m,x',O,e1,e2,R,e4⟩:=Eu J f (sd:=0) (a:=q) (by show n.args[0]?=_;rw[g];rfl);rw[e4,Option.bind_some];simp only;obtain⟨y',q1,q2⟩:=pa;rw[q1]at e1;cases e1;have A:=J.at' q x' q1;have ad:Up m:=(A.up q2).2 m (List.mem_of_getElem? R);have U:=A.lO O m R
   have M:O<=3000:=by have:=A.iV;have:=A.kU;have:=(List.getElem?_eq_some_iff.1 R).1;omega
   obtain⟨b1,b2⟩:=aNz U M;obtain⟨l1,l2,l3⟩:=aSh ad
   by_cases H:known n.op (eU m (0,1)) (eU m (1,0))=true
   ·rw[if_pos H]
    obtain⟨r0,Y⟩:∃r0,n.read=[r0]:=by
     have:=(h.at' i n B).len;rw[g]at this;exact List.length_eq_one_iff.1 this
    have z:((bump n.read w).set 0 0)=[0]:=by
     rw[aa o,Y];rfl
    have S:aZ (s.nodes.set i {n with read:=bump n.read w}) rho c i {n with read:=(bump n.read w).set 0 0,aR:=false}:=by
     refine⟨by simp[aKc,(h.at' i n B).len],f.arg,?_,f.kU,f.nB,f.fst,f.iV,f.ku,?_,f.jF,f.lO,f.up,f.tb,f.pb,f.qb,f.iB,.kP v d q E g (fun e=>by cases e)⟩
     ·intro j b O x' hb D a1;simp only[z]at D;have:=lH D;omega
     ·intro O D;simp only[z,List.mem_singleton]at D;omega
    obtain⟨t1,t2,t3⟩:=J.put C (n':={n with read:=(bump n.read w).set 0 0,aR:=false}) rfl (Nat.le_refl _) S;simp only[List.set_set]at t1 t2 t3 ⊢;have M2:gN s.nodes rho i (s.nodes.set i {n with read:=(bump n.read w).set 0 0,aR:=false}) rho:=gN.set B rfl (Nat.le_refl _);have W:(s.nodes.set i {n with read:=(bump n.read w).set 0 0,aR:=false})[i]?=some {n with read:=(bump n.read w).set 0 0,aR:=false}:=List.getElem?_set_self hi;obtain⟨ba,p,u1,u2,u3,I,u4,u5⟩:=aQl t2 (by omega) W (v:=v) (w:=d) (x:=q) E g z rfl L X ho (Pos.le ⟨_,q1,q2⟩ t3) ra hk b1 b2 l1 l2 (fun e=>l3 (by rw[<-e];exact H));rw[t1,Option.bind_some,u1];refine⟨_,_,rfl,fun _=>⟨p,c,by omega,u,u2,M2.trans hi u3,I,u4,by rw[u5,ho]⟩⟩
   ·rw[if_neg H];exact⟨_,_,rfl,fun _=>⟨rho,c,by omega,u,J,M1,_,C,rfl⟩⟩
  ·rw[if_neg o];exact⟨_,_,rfl,fun _=>⟨rho,c,by omega,u,J,M1,_,C,rfl⟩⟩
structure eN (s:St) (rho:Nat->Nat) (c i j:Nat) (x:St×Option Int):Prop where
 ex:∀v,x.2=some v->∃rho' c',c'<=c/\x.1.clock=(c':Int)/\Inv x.1.nodes rho' c'/\gN s.nodes rho i x.1.nodes rho'/\∃n',x.1.nodes[i]?=some n'/\j<n'.out.length
theorem eN.none (s:St)(rho:Nat->Nat)(c i j:Nat)(a:St):eN s rho c i j (a,none):=⟨fun v e=>by cases e⟩
theorem eN.mid {s d:St}{rho a:Nat->Nat}{c c1 i W:Nat}{x:St×Option Int}(hi:i<s.nodes.length)(h:gN s.nodes rho i d.nodes a)(hc:c1<=c)(p:eN d a c1 i W x):eN s rho c i W x:=by
 refine⟨fun v e=>?_⟩;obtain⟨b,f,q,g,k,l,o⟩:=p.ex v e;exact⟨b,f,by omega,g,k,h.trans hi l,o⟩
theorem total:∀(f:Nat) (s:St) (i j:Nat) (rho:Nat->Nat) (c:Nat),s.clock=(c:Int)->c<=3000->Inv s.nodes rho c->∀n,s.nodes[i]?=some n->j<=n.out.length->c+rho i+2<=f->∃x,sym f s i j=some x/\eN s rho c i j x
 |0,s,i,j,rho,c,u,S,h,n,E,hj,hf=>by omega
 |f+1,s,i,j,rho,c,u,S,h,n,E,hj,hf=>by
  have hi:=(List.getElem?_eq_some_iff.1 E).1;have I:=h.at' i n E;unfold sym;rw[E,Option.bind_some]
  cases R:n.out[j]? with
  |some v=>
   refine⟨_,rfl,⟨fun v' e=>⟨rho,c,Nat.le_refl _,u,h,gN.refl _ _ _,n,E,(List.getElem?_eq_some_iff.1 R).1⟩⟩⟩
  |none=>
   have bh:n.out.length=j:=by
    have:=List.getElem?_eq_none_iff.1 R;omega
   simp only
   obtain⟨o,C⟩:∃o,(if n.aR=true then some none else next s.nodes n)=some o:=by
    split
    ·exact⟨_,rfl⟩
    ·exact pO h I
   rw[C,Option.bind_some]
   cases o with
   |some g=>
    have F:n.aR=false:=by
     cases aq:n.aR with
     |false=>rfl
     |true=>rw[aq]at C;simp at C
    rw[F]at C;simp only[Bool.false_eq_true,if_false]at C;simp only
    cases c with
    |zero=>
     rw[if_pos (by rw[u];decide)];exact⟨_,rfl,eN.none _ _ _ _ _ _⟩
    |succ c=>
     rw[if_neg (by rw[u];omega)];obtain⟨B,g1,g2,g3,g4⟩:=Yn h E F C;unfold give;rw[g1,Option.map_some,Option.bind_some];have L:(s.nodes.set i B)[i]?=some B:=List.getElem?_set_self hi
     have M:B.pos=n.pos:=by
      obtain⟨m,k1,T,_⟩:=g3.at' i n E;rw[L]at k1;cases k1;exact T
     obtain⟨x,x1,x2⟩:=total f ⟨s.nodes.set i B,s.clock-1⟩ i j rho c (by simp only;rw[u];omega) (by omega) g2 B L (by omega) (by omega);exact⟨x,x1,x2.mid hi (gN.set E M (by omega)) (by omega)⟩
   |none=>
    simp only
    suffices hR:∃U b,reads (sym f) s i n=some (U,b)/\(b=true->∃A W,W<c/\U.clock=(W:Int)/\Inv U.nodes A W/\gN s.nodes rho i U.nodes A/\∃B,U.nodes[i]?=some B/\B.out=n.out) by
     obtain⟨U,b,r1,r2⟩:=hR;rw[r1,Option.bind_some]
     cases b with
     |false=>exact⟨_,rfl,eN.none _ _ _ _ _ _⟩
     |true=>
      obtain⟨A,W,k1,T,k3,k4,B,k5,k6⟩:=r2 rfl;simp only[if_true];obtain⟨x,x1,x2⟩:=total f U i j A W T (by omega) k3 B k5 (by rw[k6];omega) (by rw[k4.agree i hi];omega);exact⟨x,x1,x2.mid hi k4 (by omega)⟩
    unfold reads
    by_cases O:n.t=[]
    ·rw[if_pos O]
     cases c with
     |zero=>
      -- the clock has run out
      have Y:pK n:=by
       cases I.shp with
       |fI O z F hc=>exact hc
       |gH v l z F hv=>rw[O]at l;cases l
       |kP v w a l z F=>rw[O]at l;cases l
       |bin a b v w x y l z F=>rw[O]at l;cases l
       |nest a v w x y l z F E ok=>rw[O]at l;cases l
      have bi:=I.ku;obtain⟨m,m1,m2⟩:=Fe Y (k:=n.k) (by omega) I.pb I.qb
      have ap:Ok {n with part:=n.part.mul m,k:=n.k+1}:=by
       have C:=I.ok;refine⟨C.t,C.told,C.dP,cY.mono (Zg I.iB m2) ?_,C.p,C.q,C.read,C.out,by simp only;omega⟩;have:n.k*18500<=3000*18500:=Nat.mul_le_mul_right _ (by omega);omega
      have aa:put s.nodes i {n with part:=n.part.mul m,k:=n.k+1}=some (s.nodes.set i {n with part:=n.part.mul m,k:=n.k+1}):=by
       unfold put;rw[if_pos ⟨ap,hi⟩]
      rw[m1,Option.bind_some,aa,Option.map_some];refine⟨_,_,rfl,fun e=>?_⟩;rw[u]at e;exact absurd e (by decide)
     |succ c=>
      obtain⟨m,B,m1,m2,m3,m4,m5⟩:=aJb h E O;rw[m1,Option.bind_some,m2,Option.map_some];have L:(s.nodes.set i B)[i]?=some B:=List.getElem?_set_self hi
      have M:B.pos=n.pos:=by
       obtain⟨m,k1,T,_⟩:=m4.at' i n E;rw[L]at k1;cases k1;exact T
      exact⟨_,_,rfl,fun _=>⟨rho,c,by omega,by simp only;rw[u];omega,m3,gN.set E M (by rw[m5];exact Nat.le_refl _),B,L,m5⟩⟩
    ·rw[if_neg O]
     -- which side,and the nodes with that argument
     have hS:∃H N D P a r,side s.nodes n=some H/\wide s i n H=some N/\N.clock=(c:Int)/\Inv N.nodes D c/\gN s.nodes rho i N.nodes D/\N.nodes[i]?=some P/\P.args[H]?=some a/\P.read[H]?=some r/\P.out=n.out/\(P.aR=true->H=0):=by
      cases I.shp with
      |fI l z F hc=>exact absurd l O
      |gH v l z F hv=>
       rw[F]at C;simp only[Bool.false_eq_true,if_false]at C;exact absurd C (aGn l z I.fst hv)
      |kP v w a l z F=>
       obtain⟨r,hr⟩:∃r,n.read=[r]:=List.length_eq_one_iff.1 (by rw[I.len,z];rfl);refine⟨0,s,rho,n,a,r,aKT l,?_,u,h,gN.refl _ _ _,E,by rw[z];rfl,by rw[hr];rfl,rfl,fun _=>rfl⟩;unfold wide;rw[if_neg (by rw[z];simp)]
      |bin a b v w x y l z F=>
       obtain⟨H,J,al⟩:=Sy h I
       have hl:H<n.args.length:=by rw[z];simp;omega
       refine⟨H,s,rho,n,n.args[H],n.read[H]'(by rw[I.len];exact hl),J,?_,u,h,gN.refl _ _ _,E,List.getElem?_eq_getElem _,List.getElem?_eq_getElem _,rfl,fun e=>by rw[F]at e;cases e⟩;unfold wide;rw[if_neg (by omega)]
      |nest a v w x y l z F ao ok=>
       obtain⟨r,hr⟩:∃r,n.read=[r]:=List.length_eq_one_iff.1 (by rw[I.len,z];rfl);obtain⟨H,J,al⟩:=Sy h I
       by_cases hz:H=0
       ·subst hz;refine⟨0,s,rho,n,a,r,J,?_,u,h,gN.refl _ _ _,E,by rw[z];rfl,by rw[hr];rfl,rfl,fun _=>rfl⟩;unfold wide;rw[if_neg (by rw[z];simp)]
       ·have au:H=1:=by omega
        subst au
        have ar:¬(n.read=[0]/\n.out=[]):=by
         rintro⟨k1,T⟩;rw[aGy h I l z ao ok.first ok.pos k1 T]at J;simp at J
        obtain⟨ay,A,d,B,w1,w2,w3,w4,w5⟩:=aLe (cl:=s.clock) h S E l z F ok ar;refine⟨1,⟨ay,s.clock⟩,A,B,d,0,J,w1,u,w2,w3,w4,by rw[w5];simp[z],by rw[w5];simp[hr],by rw[w5],fun e=>by rw[w5]at e;simp only at e;rw[F]at e;cases e⟩
     obtain⟨H,N,D,P,a,r,e1,e2,e3,e4,e5,e6,e7,e8,e9,ai⟩:=hS;rw[e1,Option.bind_some,e2,Option.bind_some,e6,Option.bind_some,e7,Option.bind_some,e8,Option.bind_some];have X:=e4.at' i P e6;obtain⟨la,ra⟩:=X.arg H a e7;have ab:N.nodes[a]?=some N.nodes[a]:=List.getElem?_eq_getElem la;have bk:D i=rho i:=e5.agree i hi;obtain⟨x,x1,x2⟩:=total f N a r D c e3 S e4 _ ab (X.rd H a r _ e7 e8 ab) (by omega);rw[x1,Option.bind_some];obtain⟨s2,o2⟩:=x
     cases o2 with
     |none=>exact⟨_,_,rfl,fun e=>by cases e⟩
     |some v=>
      obtain⟨a3,c2,y1,y2,y3,y4,B,y5,y6⟩:=x2.ex v rfl;simp only at y2 y3 y4 y5;have am:s2.nodes[i]?=some P:=y4.same i P e6 ra;have ak:i<N.nodes.length:=(List.getElem?_eq_some_iff.1 e6).1;obtain⟨s3,b,z1,z2⟩:=Yj y2 y3 (by omega) am e7 e8 y5 y6 ai;refine⟨s3,b,z1,fun hb=>?_⟩;obtain⟨ad,c3,q1,q2,q3,q4,n3,q5,q6⟩:=z2 hb;refine⟨ad,c3,by omega,q2,q3,?_,n3,q5,by rw[q6,e9]⟩;exact(e5.trans hi ((y4.up ra).trans ak q4))
end
end Rf
open Go.RowKit
namespace Ab
open Rf (Nd Inv aZ)
inductive Own where
 |nd (i:Nat)
 |gv (i:Nat)
 |pd (i:Nat)
def aB:Value:=.pointer none
def aJ:Value:=.slice none 0 0
def aA (k:Nat):Value:=.pointer (some ⟨k,0,none⟩)
def lArg (n:Nd):Option Nat:=if n.t.length=4 then n.args[0]? else none
def rArg (n:Nd):Option Nat:=if n.t.length=4 then n.args[1]? else if n.t.length=2 then n.args[0]? else none
def gX (n:Nd):Nat:=if n.t.length=4 then n.read.getD 0 0 else 0
def fY (n:Nd):Nat:=if n.t.length=4 then n.read.getD 1 0 else if n.t.length=2 then n.read.getD 0 0 else 0
def eS (at':Nat->Nat):Option Nat->Value
 |none=>aB
 |some a=>aA (at' a)
def aI:Rf.Op->Int
 |.none=>0
 |.pi=>2
 |.e=>3
 |.cf=>4
 |.sqrt=>10
 |.exp=>11
 |.fK=>12
 |.atan=>13
def fL (n:Nd):Int:=if n.aR then aI n.op else 0
def cH:List Int->List Rf.V
 | [a,b,c,d,e,f,g,h]=>[(a,b),(c,d),(e,f),(g,h)]
 |_=>[]
def gB (w:World)(b0:Nat)(own:Nat->Option Own)(i:Nat)(out:List Int)(gv:Value):Prop:=
 (gv=aJ/\out=[])\/∃g b,∃a:List Value,gv=.slice (some ⟨g,0,none⟩) out.length b/\w.heap[g]?=some (.cells (out.map (fun c=>Value.int .i64 (code c))++a).toArray 55 (0,0))/\out.length<=b/\b<=out.length+a.length/\own g=some (.gv i)/\b0<=g
structure fT (w:World) (n:Nd) (cb:Nat):Prop where
 cD:∃cs:List Value,w.heap[cb]?=some (.cells cs.toArray 132 (0,0))
 mat:∀k:Nat,k<=3000->∃f a b c d:Int,0<f/\Rf.constant n k=some (Pg.wB f ⟨a,b,c,d⟩)/\(∀z∈[a,b,c,d],Bits 2 z)/\∀W,On Z.bt w W->Calls prog 146 #[aA cb,.int .i64 k] W fun e w'=>∃xs:List Value,e=.returned (.agg xs.toArray)/\bD true w' [a,b,c,d] xs/\Below W.heap.size W w'
def iZ (w:World)(b0:Nat)(own:Nat->Option Own)(at':Nat->Nat)(i:Nat)(n:Nd)(f:Nat)(g:Int):Prop:=
 ∃(e:List Value) (d:List Int) (fst b:Value),w.heap[f]?=some (.cells (.int .i64 (aI n.op)::fst::b::e).toArray 206 (0,0))/\bD true w d e/\d.length=8/\(∀z∈d,Bits 1 z)/\
  (n.op=.sqrt->∃a,n.args[0]?=some a/\fst=aA (at' a)/\b=aA (at' a)/\Pg.eL n.t (cH d))/\
  (n.op≠.sqrt->g=n.k/\∃ x,n.x=some x/\fst=aA (at' x)/\(n.op=.fK->b=aA (at' x))/\(n.op≠.fK->(∀ s,n.eX=some s->b=aA (at' s))/\
   (n.eX=none->∃pb,b=aA pb/\own pb=some (.pd i)/\b0<=pb/\NodeAt w pb [1,0,0,0,0,0,0,1] false 0 0 0 0 0 (aA (at' x)) (aA (at' x)) aJ aB aB)))
def Lu (w:World)(b0:Nat)(own:Nat->Option Own)(at':Nat->Nat)(i:Nat)(n:Nd)(b:Value)(d:Int):Prop:=
 (n.nest=false->b=aB)/\(n.nest=true->∃a,b=aA a/\(∃cs:List Value,w.heap[a]?=some (.cells cs.toArray 206 (0,0)))/\(n.t.length=4->n.args.length=1->iZ w b0 own at' i n a d))
structure Blk (w:World) (b0:Nat) (own:Nat->Option Own) (at':Nat->Nat) (i:Nat) (n:Nd) (p0 q0 p1 q1 p2 q2 p3 q3 mt pl:Int) (gv cv nv:Value):Prop where
 nd:NodeAt w (at' i) [p0,q0,p1,q1,p2,q2,p3,q3] (!n.pos) (fL n) mt (gX n) (fY n) pl (eS at' (lArg n)) (eS at' (rArg n)) gv cv nv
 Ag:gB w b0 own i n.out gv
 fI:n.t=[]->mt=n.k/\∃cb,cv=aA cb/\fT w n cb
 oA:n.t≠[]->cv=aB
 nst:Lu w b0 own at' i n nv pl
structure cL (w:World) (b0:Nat) (own:Nat->Option Own) (at':Nat->Nat) (ns:List Nd) (i:Nat) (n:Nd):Prop where
 ex:∃p0 q0 p1 q1 p2 q2 p3 q3 mt pl gv cv nv,Blk w b0 own at' i n p0 q0 p1 q1 p2 q2 p3 q3 mt pl gv cv nv/\∃l,Rf.corners ns n=some l/\Pg.eL l [(p0,q0),(p1,q1),(p2,q2),(p3,q3)]
 hc:Pg.HC n
 own:own (at' i)=some (.nd i)
 lo:b0<=at' i
 Qw:n.aR=true->n.t=[(1,0),(0,1)]/\n.nest=false
structure Net (w:World) (b0:Nat) (own:Nat->Option Own) (at':Nat->Nat) (fb:Nat) (s:Rf.St):Prop where
 nd:∀i n,s.nodes[i]?=some n->cL w b0 own at' s.nodes i n
 fuel:w.heap[fb]?=some (.cells #[.int .i64 s.clock] 84 (0,0))
 Qf:b0<=fb
structure Chg (w w':World) (D:List Nat):Prop where
 on:On Z.bt w w'
 low:∀k,k<w.heap.size->k∉D->w'.heap[k]?=w.heap[k]?
theorem Chg.refl (w:World):Chg w w []:=⟨On.refl _ _,fun _ _ _=>rfl⟩
variable {w w':World}
theorem Chg.eH (h:Below w.heap.size w w'):Chg w w' []:=⟨On.below h,fun k a _=>h.block k a⟩
variable {D:List Nat}{k:Nat}
theorem Chg.at (h:Chg w w' D){o:Obj}(a:w.heap[k]?=some o)(b:k∉D):w'.heap[k]?=some o:=by rw[h.low k (gU a) b];exact a
theorem Chg.bU {a:List Nat}(h:Chg w w' D)(b:∀k∈D,k∈a):Chg w w' a:=⟨h.on,fun k d f=>h.low k d fun e=>f (b k e)⟩
theorem Chg.trans {w w' a:World}{D:List Nat}(h:Chg w w' D)(b:Chg w' a D):Chg w a D:=⟨h.on.trans b.on,fun k e d=>by rw[b.low k (Nat.lt_of_lt_of_le e h.on.size) d,h.low k e d]⟩
def yX (w:World)(own:Nat->Option Own)(i:Nat)(D:List Nat):Prop:=∀k∈D,∀cs ty m,w.heap[k]?=some (.cells cs ty m)->(ty=98/\own k=some (.nd i))\/(ty=55/\own k=some (.gv i))\/ty=84
theorem nM {w w':World}(h:On Z.bt w w'):∀{b:List Int} {a:List Value},bD true w b a->bD true w' b a
 | [],[],_=>trivial
 |_::b,_::_::a,⟨d,e,f⟩=>⟨d,(show Z.fB true w' _ _ from Z.zP (k:=true) h e),nM h f⟩
 | [],_::_,h=>h.elim
 |_::_,[],h=>h.elim
 |_::_,[_],h=>h.elim
variable {s:List Int}{a:Bool}{v mt l j o:Int}{lp rp gv J:Value}
theorem NodeAt.aT {d:Value}(h:NodeAt w k s a v mt l j o lp rp gv J d)(b:On Z.bt w w')(g:w'.heap[k]?=w.heap[k]?):NodeAt w' k s a v mt l j o lp rp gv J d:=by
 obtain⟨i,e,f⟩:=h.ex;exact⟨i,by rw[g];exact e,nM b f⟩
theorem NodeAt.lt {d:Value}(h:NodeAt w k s a v mt l j o lp rp gv J d):k<w.heap.size:=by
 obtain⟨f,b,e⟩:=h.ex;exact gU b
section
variable {w w':World} {b0:Nat} {own own':Nat->Option Own} {D:List Nat} {i0:Nat}
theorem NodeAt.Gj {i:Value}(h:NodeAt w k s a v mt l j o lp rp gv J i)(d:yX w own i0 D)(g:own k≠some (.nd i0)):k∉D:=by
 intro f;obtain⟨p,b,n⟩:=h.ex
 rcases d k f _ _ _ b with⟨_,e⟩|⟨e,_⟩|e
 ·exact g e
 ·exact absurd e (by decide)
 ·exact absurd e (by decide)
theorem gB.aT {i:Nat}{out:List Int}(h:gB w b0 own i out gv)(hc:Chg w w' D)(r:yX w own i0 D)(hi:i≠i0)(a:∀k o,k<w.heap.size->own k=some o->o≠.pd i0->own' k=some o):gB w' b0 own' i out gv:=by
 rcases h with h|⟨g,d,b,l,f,n,p,j,q⟩
 ·exact Or.inl h
 ·refine Or.inr ⟨g,d,b,l,hc.at f ?_,n,p,a _ _ (gU f) j (by intro e;cases e),q⟩;intro s
  rcases r g s _ _ _ f with⟨e,_⟩|⟨_,e⟩|e
  ·exact absurd e (by decide)
  ·rw[j]at e;cases e;exact hi rfl
  ·exact absurd e (by decide)
theorem fT.aT {n:Nd}{i:Nat}(h:fT w n i)(g:On Z.bt w w'):fT w' n i:=by
 obtain⟨cs,j⟩:=h.cD;refine⟨⟨cs,?_⟩,fun k u=>?_⟩
 rotate_left
 ·obtain⟨f,a,b,c,d,o,p,q,r⟩:=h.mat k u;exact⟨f,a,b,c,d,o,p,q,fun W s=>r W (g.trans s)⟩
 rcases g.cD i _ j with e|⟨e,_⟩
 ·exact e
 ·have l:Li.contains 132=true:=e;exact absurd l (by decide)
theorem fT.of {y n':Nd}{a:Nat}(h:fT w y a)(b:∀k,Rf.constant n' k=Rf.constant y k):fT w n' a:=by
 refine⟨h.cD,fun k d=>?_⟩;rw[b];exact h.mat k d
theorem iZ.aT {at1 at2:Nat->Nat}{i:Nat}{n:Nd}{p:Nat}{v:Int}{N:Nat}(h:iZ w b0 own at1 i n p v)(hc:Chg w w' D)(z:yX w own i0 D)(j:∀k o,k<w.heap.size->own k=some o->o≠.pd i0->own' k=some o)(hi:i=i0->n.eX≠none\/∀k,k<w.heap.size->own k=some (.pd i0)->own' k=some (.pd i0))(d:∀a,a<N->at2 a=at1 a)(A:∀a,n.args[0]?=some a->a<N)(T:n.op≠.sqrt->∀x,n.x=some x->x<N)(S:n.op≠.sqrt->∀s,n.eX=some s->s<N):iZ w' b0 own' at2 i n p v:=by
 obtain⟨xs,zs,fst,q,y,J,L,M,O,P⟩:=h
 have r:p∉D:=by
  intro R
  rcases z p R _ _ _ y with⟨e,_⟩|⟨e,_⟩|e<;>exact absurd e (by decide)
 refine⟨xs,zs,fst,q,hc.at y r,nM hc.on J,L,M,?_,?_⟩
 ·intro b;obtain⟨a,a1,F,H,I⟩:=O b;exact⟨a,a1,by rw[d a (A a a1)];exact F,by rw[d a (A a a1)];exact H,I⟩
 ·intro b;obtain⟨k1,x,C,U,W,E⟩:=P b;have g:=d x (T b x C);refine⟨k1,x,C,by rw[g];exact U,by rw[g];exact W,fun B=>⟨fun s e=>by rw[d s (S b s e)];exact(E B).1 s e,fun e=>?_⟩⟩;obtain⟨pb,X,u,Y,l⟩:=(E B).2 e;refine⟨pb,X,?_,Y,?_⟩
  ·by_cases f:i=i0
   ·rcases hi f with h|h
    ·exact absurd e h
    ·subst f;exact h _ l.lt u
   ·exact j _ _ l.lt u (by intro e;cases e;exact f rfl)
  ·rw[g];exact l.aT hc.on (hc.low pb l.lt (l.Gj z (by rw[u];intro e;cases e)))
theorem cL.aT {at1 at2:Nat->Nat}{ns F:List Nd}{H:Nat->Nat}{c i:Nat}{n:Nd}(h:cL w b0 own at1 ns i n)(hc:Chg w w' D)(J:yX w own i0 D)(hi:i≠i0)(P:i<ns.length)(O:Pg.Go ns F)(p:∀k o,k<w.heap.size->own k=some o->o≠.pd i0->own' k=some o)(f:∀a,a<ns.length->at2 a=at1 a)(X:aZ ns H c i n):cL w' b0 own' at2 F i n:=by
 obtain⟨p0,q0,p1,q1,p2,q2,p3,q3,mt,pl,gv,cv,nv,r,l,R,S⟩:=h.ex;have g:=f i P
 have z:∀a,a∈n.args->a<ns.length:=by
  intro a E;obtain⟨j,hj,e⟩:=List.getElem_of_mem E;exact(X.arg j a (by rw[List.getElem?_eq_getElem hj,e])).1
 have hL:eS at2 (lArg n)=eS at1 (lArg n):=by
  unfold lArg;split
  ·cases e:n.args[0]? with
   |none=>rfl
   |some a=>simp only[eS];rw[f a (z a (List.mem_of_getElem? e))]
  ·rfl
 have hR:eS at2 (rArg n)=eS at1 (rArg n):=by
  unfold rArg;split
  ·cases e:n.args[1]? with
   |none=>rfl
   |some a=>simp only[eS];rw[f a (z a (List.mem_of_getElem? e))]
  ·split
   ·cases e:n.args[0]? with
    |none=>rfl
    |some a=>simp only[eS];rw[f a (z a (List.mem_of_getElem? e))]
   ·rfl
 refine⟨⟨p0,q0,p1,q1,p2,q2,p3,q3,mt,pl,gv,cv,nv,⟨?_,r.Ag.aT hc J hi p,?_,r.oA,?_⟩,l,O.corners R,S⟩,h.hc,by rw[g];exact p _ _ r.nd.lt h.own (by intro e;cases e),by rw[g];exact h.lo,h.Qw⟩
 ·rw[g,hL,hR];exact r.nd.aT hc.on (hc.low _ r.nd.lt (r.nd.Gj J (by rw[h.own];intro e;cases e;exact hi rfl)))
 ·intro A;obtain⟨L,cb,I,M⟩:=r.fI A;exact⟨L,cb,I,M.aT hc.on⟩
 ·refine⟨r.nst.1,fun T=>?_⟩;obtain⟨nb,L,⟨cs,I⟩,M⟩:=r.nst.2 T;refine⟨nb,L,⟨cs,hc.at I ?_⟩,fun A E=>?_⟩
  ·intro hk
   rcases J nb hk _ _ _ I with⟨e,_⟩|⟨e,_⟩|e<;>exact absurd e (by decide)
  ·have B:∃a,n.args=[a]/\Rf.jN ns H c i n a:=by
    cases X.shp with
    |fI d _ _ _=>rw[d]at A;simp at A
    |gH v d _ _ _=>rw[d]at A;simp at A
    |kP v u a d _ _=>rw[d]at A;simp at A
    |bin a b v u x y d q _=>rw[q]at E;simp at E
    |nest a v u x y d q _ _ ok=>exact⟨a,q,ok⟩
   obtain⟨a,q,ok⟩:=B;obtain⟨base,ck,_,_,_,_,_,Y⟩:=ok.ex;refine(M A E).aT (N:=ns.length) hc J p (fun e=>absurd e hi) f (fun a e=>z a (List.mem_of_getElem? e)) ?_ ?_
   ·intro C x e;obtain⟨x',U,W,_⟩:=Y C;rw[U]at e;cases e;exact W
   ·intro C s e;obtain⟨x',U,W,_,_,g5⟩:=Y C;exact(g5 s e).1
end
end Ab
end Go.Proofs.YtkmojpfpfoaloaaGreatDoor
