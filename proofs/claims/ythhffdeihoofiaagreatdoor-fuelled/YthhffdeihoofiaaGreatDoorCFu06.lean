import Derived.Test.YthhffdeihoofiaaGreatDoorCFu05
import Derived.Test.YthhffdeihoofiaaGreatDoorCFu02
set_option linter.all false
set_option maxRecDepth 100000
set_option maxHeartbeats 2000000
namespace Go.Proofs.YthhffdeihoofiaaGreatDoor
open List (getElem?_eq_getElem getElem?_map getElem?_set_self getElem_of_mem mem_of_getElem? nil_append)
open Option (map_some)
open Int (mul_pos)
open Nat (le_refl pow_pos)
open Bool (false_eq_true)
open Go.Proofs.Tryz
namespace Rf
open Nw
section
variable {ns:List Nd} {rho:NU} {c i:Nat} {n:Nd}
theorem aFy (b:aZ ns rho c i n)(d:Nat):∃o,digits ns n d=some o:=by
 unfold digits;split
 ·rename_i a;obtain⟨e,_⟩:=b.arg d _ (getElem?_eq_getElem a);rw[getElem?_eq_getElem a,Option.bind_some,getElem?_eq_getElem e,Option.bind_some,getElem?_eq_getElem (by rw[b.len];exact a)];exact⟨_,rfl⟩
 ·exact⟨_,rfl⟩
theorem aK6 {S F:V}(a:n.t=[S,F]):side ns n=some 0:=by grind [side]
theorem Uz (h:Inv ns rho c)(d:aZ ns rho c i n):∃e,side ns n=some e/\e<=1:=by
 unfold side;split
 ·exact⟨0,rfl,by decide⟩
 ·obtain⟨a,f⟩:=aFy d 0;rw[f,Option.bind_some]
  cases a with
  |none=>exact⟨0,rfl,by decide⟩
  |some a=>
   obtain⟨b,g⟩:=aFy d 1;simp only;rw[g,Option.bind_some]
   cases b with
   |none=>exact⟨1,rfl,by decide⟩
   |some b=>
    obtain⟨l,j⟩:=aHW h d;simp only;unfold corners;rw[j];refine⟨_,rfl,?_⟩;simp only;generalize (if fits (List.map (fI n.told) l)=true then wider (if n.nest=true then 8 else 1) (List.map (fI n.told) l)else 0)=z;split
    ·omega
    ·split
     ·omega
     ·split<;>omega
theorem aGz (h:Inv ns rho c)(r:aZ ns rho c i n){a:Nat}{S F x y:V}(k:n.t=[S,F,x,y])(d:n.args=[a])(z:n.nest=true)(o:first n.t)(B:Pos ns a)(p:n.read=[0])(A:n.out=[]):side ns n=some 0:=by
 obtain⟨C,l,j⟩:=B;have q:=(h.at' a C l).nJ
 have u:ends ns n 0=some ((1,0),(0,1)):=by
  unfold ends;rw[d,p];simp only[List.getElem?_cons_zero,Option.bind_some,l,q,map_some];rfl
 have s:bare ns n=some [S,F,x,y]:=by
  unfold bare;rw[k];simp only[u,d,Option.bind_some,map_some,List.length_cons,List.length_nil];simp[bM]
 unfold side;rw[if_neg (by rw[k];simp)]
 have f:digits ns n 0=some (some 0):=by
  unfold digits;rw[d,p];simp[l,j]
 have g:digits ns n 1=some (some 0):=by
  unfold digits;rw[d];simp
 rw[f,g];simp only[Option.bind_some];unfold corners;rw[s,r.fst A]
 have e:List.map (fI one) [S,F,x,y]=n.t:=by rw[k];simp[Gg]
 simp only[map_some,e,z,if_true]
 unfold first at o
 by_cases b:fits n.t=true
 ·rw[if_pos b,if_neg (o b)];simp
 ·rw[if_neg b];simp
theorem aMM {x z:Int}(h:z<x):Nm.cmp x z=1:=by
 unfold Nm.cmp;rw[decide_eq_false (by omega),decide_eq_false (by omega)];rfl
theorem aGi (b:V):apart (0,0) b=(0,1):=by unfold apart;simp
theorem aGh {c d:Int}(hc:0<c)(e:0<d):apart (c,0) (0,d)=(2*(c*d),c*d):=by
 unfold apart;simp only;rw[if_neg (by omega)];have h:0<c*d:=mul_pos hc e
 have a:(c-0)*(0+d)-(0-d)*(c+0)=2*(c*d):=by grind
 have b:(c+0)*(0+d)=c*d:=by grind
 rw[a,b]
 ext<;>(simp only;omega)
theorem aLA {c d:Int}(hc:0<c)(a:0<d):first [(0,0),(c,0),(0,1),(0,d)]:=by
 intro _;have h:0<c*d:=mul_pos hc a;unfold wider;simp only[aGi,aGh hc a]
 have b:apart (0,1) (0,d)=(0,d):=by
  unfold apart;simp only;rw[if_neg (by omega)]
  ext<;>simp<;>omega
 have e:eA (0,1) (2*(c*d),c*d)=(2*(c*d),c*d):=by
  unfold eA;rw[if_neg (by simp;omega)]
 have f:eA (0,1) (0,d)=(0,1):=by
  unfold eA;rw[if_pos (by simp)]
 rw[b,e,f];simp only;rw[aMM (by omega)];decide
theorem aLB {a b:Int}(d:0<a)(g:0<b):first [(0,0),(b,0),(a,b),(0,a)]:=by
 intro _;have h:0<b*a:=mul_pos g d;have e:0<a*a:=mul_pos d d;unfold wider;simp only[aGi,aGh g d]
 have j:apart (a,b) (0,a)=(2*(a*a),a*a+b*a):=by
  unfold apart;simp only;rw[if_neg (by omega)]
  have k1:(a-b)*(0+a)-(0-a)*(a+b)=2*(a*a):=by grind
  have f:(a+b)*(0+a)=a*a+b*a:=by grind
  rw[k1,f]
  ext<;>(simp only;omega)
 have k:eA (0,1) (2*(b*a),b*a)=(2*(b*a),b*a):=by
  unfold eA;rw[if_neg (by simp;omega)]
 have l:eA (0,1) (2*(a*a),a*a+b*a)=(2*(a*a),a*a+b*a):=by
  unfold eA;rw[if_neg (by simp;omega)]
 rw[j,k,l];simp only
 have k1:8*(2*(b*a))*(a*a+b*a)=16*((b*a)*(a*a))+16*((b*a)*(b*a)):=by grind
 have f:2*(a*a)*(b*a)=2*((b*a)*(a*a)):=by grind
 have p1:0<(b*a)*(a*a):=mul_pos h e;have o:0<(b*a)*(b*a):=mul_pos h h;rw[k1,f,aMM (by omega)];decide
theorem xG (hc:c<=3000)(f:n.read=n.args.map (fun _=>0))(g:n.out=[])(h:n.told=one)(e:n.dT=[one])(l:n.part=one)(s:n.k+c<=3000)(tb:∀v∈n.t,Bits 13000 v.1/\Bits 13000 v.2)(pb:Bits 6100 n.p)(qb:Bits 6100 n.q)
  (arg:∀(j a:Nat),n.args[j]?=some a->a<ns.length/\rho a<rho i) (shp:Shp ns rho c i n):aZ ns rho c i n:=by
 have b1:dB 1 one:=⟨by unfold Bits one;decide,by unfold Bits one;decide,by unfold Bits one;decide,by unfold Bits one;decide⟩
 refine⟨by rw[f];simp,arg,?_,by rw[e,g];rfl,by rw[e];rfl,fun _=>h,by rw[g];simpa using hc,s,?_,by rw[h,g];exact b1,?_,fun _=>⟨by rw[h];exact aRZ,fun m b=>?_⟩,tb,pb,qb,?_,shp⟩
 ·intro j a r x o d u;rw[f,getElem?_map,o]at d;simp at d;omega
 ·intro r d;rw[f]at d;simp at d;omega
 ·intro j m b;rw[e]at b
  have:j=0:=by
   have:=(List.getElem?_eq_some_iff.1 b).1;simp at this;exact this
  subst this;simp at b;rw[<-b];exact b1
 ·rw[e]at b;simp at b;rw[b];exact aRZ
 ·rw[l];exact dB.mono b1 (by omega)
theorem aY {m:Nat}:Bits m 0:=by grind [Bits]
theorem eK {m:Nat}(h:1<=m):Bits m 1:=by grind [Bits]
structure Grown (ns:List Nd) (rho:NU) (c R:Nat) (ns':List Nd) (rho':NU):Prop where
 inv:Inv ns' rho' c
 ext:∃ms,ns'=ns++ms
 agree:∀k,k<ns.length->rho' k=rho k
 jG:∀k,ns.length<=k->k<ns'.length->rho' k<=R
variable {j:List Nd}{B:NU}{w:Nat}
theorem Grown.le (h:Grown ns rho c w j B):Le ns j:=by
 obtain⟨a,rfl⟩:=h.ext;exact Le.more _ _
theorem Grown.refl (h:Inv ns rho c)(R:Nat):Grown ns rho c R ns rho:=⟨h,⟨[],by simp⟩,fun _ _=>rfl,fun k a b=>by omega⟩
theorem Grown.trans {b:List Nd}{a:NU}(h:Grown ns rho c w j B)(d:Grown j B c w b a):Grown ns rho c w b a:=by
 have r:=h.le.len;obtain⟨q,e⟩:=h.ext;obtain⟨g,l⟩:=d.ext;refine⟨d.inv,⟨q++g,by rw[l,e,List.append_assoc]⟩,fun k f=>by rw[d.agree k (by omega),h.agree k f],fun k o p=>?_⟩
 by_cases f:k<j.length
 ·rw[d.agree k f];exact h.jG k o f
 ·exact d.jG k (by omega) p
theorem Grown.bO {a:Nat}(h:Grown ns rho c w j B)(e:w<=a):Grown ns rho c a j B:=⟨h.inv,h.ext,h.agree,fun k b d=>Nat.le_trans (h.jG k b d) e⟩
variable {r:Nat}
theorem uO (h:Inv ns rho c){n':Nd}(f:aZ ns (jV rho ns.length r) c ns.length n'):more ns n'=some (ns++[n'])/\Grown ns rho c r (ns++[n']) (jV rho ns.length r)/\jV rho ns.length r ns.length=r:=by
 obtain⟨b,d,j,e,a⟩:=h.more f;refine⟨b,⟨d,⟨_,rfl⟩,e,fun k k1 g=>?_⟩,a⟩
 have:k=ns.length:=by simp at g;omega
 rw[this,a];exact le_refl _
variable {k:Nat}
theorem sM {p:Nat}(h:p<k):jV rho k r p=rho p:=by unfold jV;rw[if_neg (by omega)]
theorem uM:jV rho k r k=r:=by unfold jV;rw[if_pos rfl]
theorem Cp {n':Nd}(h:n'.pos=true):Pos (ns++[n']) ns.length:=⟨n',by simp,h⟩
variable {x:Nat}{sq:ON}
theorem Zt (hc:c<=3000){op:Op}{a base:Nat}(f:fn op)(C:op≠.sqrt)(q:k+c<=3000)(l:Pos ns a)(o:Pos ns x)(ra:rho a<base)(w:rho x+1<base)(h:∀s,sq=some s->s<ns.length/\rho s<base/\Pos ns s):
  aZ ns (jV rho ns.length (base+c+1)) c ns.length (eR op k a x sq):=by
 obtain⟨y,z,A,B⟩:=Zj op (k:=k) (by omega);refine xG hc rfl rfl rfl rfl rfl q ?_ aY aY ?_ ?_
 ·intro v hv;simp[eR,fresh]at hv
  rcases hv with rfl|rfl|rfl|rfl
  ·exact⟨aY,aY⟩
  ·exact⟨eJ y (by decide),aY⟩
  ·exact⟨aY,eK (by decide)⟩
  ·exact⟨aY,eJ z (by decide)⟩
 ·intro j b d
  have:b=a:=by
   simp only[eR,fresh]at d
   cases j with
   |zero=>simpa using d.symm
   |succ j=>simp at d
  subst this;have:=l.lt;rw[sM this,uM];exact⟨this,by omega⟩
 ·refine .nest a _ _ _ _ rfl rfl rfl rfl ⟨⟨base,c,uM,le_refl _,q,by rw[sM l.lt];exact ra,fun e=>absurd ⟨rfl,rfl⟩ e,fun _=>⟨x,rfl,o.lt,by rw[sM o.lt];exact w,o,fun s g=>?_⟩⟩,f,aLA A B,l⟩;obtain⟨p,r,u⟩:=h s g;exact⟨p,by rw[sM p];exact r,u⟩
theorem aJ0 (hc:c<=3000){p:Bool}(d:x<ns.length)(e:rho x<r):aZ ns (jV rho ns.length r) c ns.length (two .mul p p x x):=by
 refine xG hc rfl rfl rfl rfl rfl (by simpa[two,fresh]using hc) ?_ aY aY ?_ (.bin x x _ _ _ _ rfl rfl rfl)
 ·intro v hv;simp[two,fresh,Kind.cols]at hv
  rcases hv with rfl|rfl|rfl
  ·exact⟨eK (by decide),aY⟩
  ·exact⟨aY,aY⟩
  ·exact⟨aY,eK (by decide)⟩
 ·intro j b a
  have:b=x:=by
   simp only[two,fresh]at a
   cases j with
   |zero=>simpa using a.symm
   |succ j=>cases j with
    |zero=>simpa using a.symm
    |succ j=>simp at a
  subst this;rw[sM d,uM];exact⟨d,e⟩
theorem aKH (h:Inv ns rho c)(hc:c<=3000){op:Op}{base:Nat}(f:fn op)(y:op≠.sqrt)(w:k+c<=3000)(b:Pos ns x)(z:rho x+1<base)(g:∀s,sq=some s->s<ns.length/\rho s<base/\Pos ns s):
  ∃l u d,nest ns op k x sq=some (l,d)/\Grown ns rho c (base+c+1) l u/\ns.length<=d/\Pos l d:=by
 unfold nest;split
 ·cases sq with
  |some s=>
   obtain⟨H,C,D⟩:=g s rfl;obtain⟨k1,j,v⟩:=uO h (Zt hc f y w (a:=s) D b C z (sq:=some s) g);simp only;rw[k1];exact⟨_,_,_,rfl,j,le_refl _,Cp rfl⟩
  |none=>
   obtain⟨o,A,q⟩:=b
   have b:Pos ns x:=⟨o,A,q⟩
   obtain⟨k1,j,v⟩:=uO h (aJ0 (p:=o.pos) hc b.lt (r:=base-1) (by omega));simp only;rw[A,Option.bind_some,k1,Option.bind_some];have B:Pos (ns++[two .mul o.pos o.pos x x]) ns.length:=Cp (by rw[q];rfl);obtain⟨E,F,I⟩:=uO j.inv (Zt (rho:=jV rho ns.length (base-1)) hc f y w (a:=ns.length) (base:=base) B (b.le j.le) (by rw[v];omega) (by rw[sM b.lt];exact z) (sq:=some ns.length) (fun s e=>by cases e;exact⟨by simp,by rw[v];omega,B⟩));rw[E];exact⟨_,_,_,rfl,(j.bO (by omega)).trans F,by simp,by have:=Cp (ns:=ns++[two .mul o.pos o.pos x x]) (n':=eR op k ns.length x (some ns.length)) rfl;simpa using this⟩
 ·obtain⟨k1,j,v⟩:=uO h (Zt hc f y w (a:=x) b b (by omega) z (sq:=sq) g);rw[k1];exact⟨_,_,_,rfl,j,le_refl _,Cp rfl⟩
end
end Rf
namespace Rf
open Nw
section
variable {ns:List Nd} {rho:NU} {c i:Nat} {n:Nd}
theorem aWf {k:Nat}{d:Nd}(a:k≠i):(ns.set i d)[k]?=ns[k]?:=List.getElem?_set_ne (fun e=>a e.symm)
structure hP (ns:List Nd) (rho:NU) (i:Nat) (ns':List Nd) (rho':NU):Prop where
 le:Le ns ns'
 agree:∀k,k<ns.length->rho' k=rho k
 jG:∀k,ns.length<=k->k<ns'.length->rho' k<rho i
 same:∀(k:Nat) (n:Nd),ns[k]?=some n->rho i<rho k->ns'[k]?=some n
theorem hP.refl (ns:List Nd)(rho:NU)(i:Nat):hP ns rho i ns rho:=⟨Le.refl _,fun _ _=>rfl,fun k a b=>by omega,fun k n h _=>h⟩
theorem hP.trans {j b:List Nd}{B a:NU}(hi:i<ns.length)(h:hP ns rho i j B)(e:hP j B i b a):hP ns rho i b a:=by
 have p:=h.le.len;refine⟨h.le.trans e.le,fun k d=>by rw[e.agree k (by omega),h.agree k d],fun k l o=>?_,fun k n f g=>?_⟩
 ·by_cases d:k<j.length
  ·rw[e.agree k d];exact h.jG k l d
  ·have:=e.jG k (by omega) o;rw[h.agree i hi]at this;exact this
 ·have d:=(List.getElem?_eq_some_iff.1 f).1;refine e.same k n (h.same k n f g) ?_;rw[h.agree i hi,h.agree k d];exact g
theorem hP.set {n':Nd}(d:ns[i]?=some n)(g:n'.pos=n.pos)(f:n.out.length<=n'.out.length):hP ns rho i (ns.set i n') rho:=
 ⟨Le.set d g f,fun _ _=>rfl,fun k h a=>by simp at a;omega,fun k m b j=>by rw[aWf (by intro e;subst e;omega)];exact b⟩
variable {a:Nat}{j:List Nd}{B:NU}
theorem hP.up (h:hP ns rho a j B)(b:rho a<rho i):hP ns rho i j B:=
 ⟨h.le,h.agree,fun k d e=>Nat.lt_trans (h.jG k d e) b,fun k n g f=>h.same k n g (Nat.lt_trans b f)⟩
variable {w:Nat}
theorem hP.grown (h:Grown ns rho c w j B)(e:w<rho i):hP ns rho i j B:=by
 refine⟨h.le,h.agree,fun k b d=>Nat.lt_of_le_of_lt (h.jG k b d) e,fun k n a _=>?_⟩;obtain⟨f,rfl⟩:=h.ext;rw[List.getElem?_append_left (List.getElem?_eq_some_iff.1 a).1];exact a
theorem Grown.at' {k:Nat}{m:Nd}(h:Grown ns rho c w j B)(a:ns[k]?=some m):j[k]?=some m:=by
 obtain⟨b,rfl⟩:=h.ext;rw[List.getElem?_append_left (List.getElem?_eq_some_iff.1 a).1];exact a
theorem aLn {cl:Int}(h:Inv ns rho c)(hc:c<=3000)(H:ns[i]?=some n){S F x y:V}(R:n.t=[S,F,x,y])(s:n.args=[a])(hp:n.aP=false)(ok:jO ns rho c i n a)(J:¬(n.read=[0]/\n.out=[])):
  ∃l o d B,wide ⟨ns,cl⟩ i n 1=some ⟨l,cl⟩/\Inv l o c/\hP ns rho i l o/\l[i]?=some B/\B={n with args:=n.args++[d],read:=n.read++[0]}:=by
 have D:=h.at' i n H;have hi:=(List.getElem?_eq_some_iff.1 H).1;obtain⟨⟨base,ck,h1,h2,h3,Y,h5,h6⟩,O,h8,A⟩:=ok;have ae:=h5 J
 have M:∃l o d,deeper ns n=some (l,d)/\Grown ns rho c (base+c+1) l o/\ns.length<=d/\Pos l d:=by
  unfold deeper
  by_cases z:n.op=.sqrt
  ·rw[if_pos z,s];simp only[List.getElem?_cons_zero,Option.bind_some]
   obtain ⟨k1,T,U⟩:=uO h (r:=base+c+1) (n':={ fresh true n.t [a] with op:=n.op,nest:=true}) (by
    refine xG hc rfl rfl rfl rfl rfl (by simpa[fresh]using hc) D.tb aY aY ?_ (.nest a S F x y R rfl rfl rfl ⟨⟨base,c,uM,le_refl _,by simpa[fresh]using hc,by rw[sM A.lt];exact Y,fun e=>absurd ⟨rfl,rfl⟩ e,fun e=>absurd z e⟩,O,h8,A⟩);intro j b p
    have:b=a:=by
     simp only[fresh]at p
     cases j with
     |zero=>simpa using p.symm
     |succ j=>simp at p
    subst this;rw[sM A.lt,uM]
    exact⟨A.lt,by omega⟩)
   rw[k1];exact⟨_,_,_,rfl,T,le_refl _,Cp rfl⟩
  ·rw[if_neg z];obtain⟨W,k1,T,U,k4,k5⟩:=h6 z;rw[k1,Option.bind_some];exact aKH h hc O z (by omega) k4 U k5
 obtain⟨N,q,d,X,g,hd,pd⟩:=M;have u:=g.at' H;have f:=g.inv.at' i n u;have I:q i=rho i:=g.agree i hi
 obtain⟨r,P⟩:∃r,n.read=[r]:=by
  have:=D.len;rw[s]at this;exact List.length_eq_one_iff.1 this
 have E:aZ N q c i {n with args:=n.args++[d],read:=n.read++[0]}:=by
  refine⟨by simp[D.len],?_,?_,f.kZ,f.nJ,f.fst,f.iP,f.ku,?_,f.jI,f.lW,f.up,f.tb,f.pb,f.qb,f.iH,.bin a d S F x y R (by simp[s]) hp⟩
  ·intro j b p;simp only[s]at p
   cases j with
   |zero=>exact f.arg 0 b (by rw[s];simpa using p)
   |succ j=>cases j with
    |zero=>
     have:b=d:=by simpa using p.symm
     subst this;have:=g.jG b hd pd.lt;exact⟨pd.lt,by rw[I];omega⟩
    |succ j=>simp at p
  ·intro j b C W p k L;simp only[s,P]at p k
   cases j with
   |zero=>exact f.rd 0 b C W (by rw[s];simpa using p) (by rw[P];simpa using k) L
   |succ j=>cases j with
    |zero=>
     have:C=0:=by simpa using k.symm
     omega
    |succ j=>simp at p
  ·intro C k;simp only[List.mem_append,List.mem_singleton]at k
   rcases k with k|rfl
   ·exact f.jH C k
   ·omega
 obtain⟨p1,p2,p3⟩:=g.inv.put u (n':={n with args:=n.args++[d],read:=n.read++[0]}) rfl (le_refl _) E;refine⟨_,q,d,_,?_,p2,?_,by rw[getElem?_set_self (by have:=g.le.len;omega)],rfl⟩
 ·unfold wide;rw[if_pos (by simp[s]),X,Option.bind_some,p1];rfl
 ·exact(hP.grown g (by omega)).trans hi (hP.set u rfl (le_refl _))
theorem aNH {m:Mt}(a:dB (2*w+1) m)(g:w<=3000):Bits 6100 (eZ m (0,1)).1/\Bits 6100 (eZ m (0,1)).2:=by
 have e:(eZ m (0,1)).1=m.b:=by simp[eZ,Mt.at1]
 have f:(eZ m (0,1)).2=m.d:=by simp[eZ,Mt.at2]
 rw[e,f];exact⟨eJ a.b (by omega),eJ a.d (by omega)⟩
theorem aSU {m:Mt}(h:Up m):0<=(eZ m (0,1)).1/\0<(eZ m (0,1)).2/\(known .sqrt (eZ m (0,1)) (eZ m (1,0))=true->0<(eZ m (0,1)).1):=by
 have j:eZ m (0,1)=(m.b,m.d):=by simp[eZ,Mt.at1,Mt.at2]
 have k:eZ m (1,0)=(m.a,m.c):=by simp[eZ,Mt.at1,Mt.at2]
 obtain⟨p,f,l,q,g⟩:=h;have o:0<=m.b*m.c:=Int.mul_nonneg f l;rw[j,k];refine⟨f,?_,?_⟩
 ·show 0<m.d
  rcases Int.lt_or_le 0 m.d with h|h
  ·exact h
  ·have:m.d=0:=by omega
   rw[this]at g;omega
 ·intro e;unfold known at e;simp at e;show 0<m.b
  rcases Int.lt_or_le 0 m.b with h|h
  ·exact h
  ·have:m.b=0:=by omega
   rw[this]at g e;omega
theorem lM {b p:Nat}(h:([a]:PH)[p]?=some b):b=a:=by grind
theorem args2 {b d o:Nat}(h:([a,d]:PH)[o]?=some b):b=a\/b=d:=by grind
theorem aEV (h:Inv ns rho c)(hc:c<=3000){op:Op}{p q:Int}(k:fn op)(o:0<p)(s:0<q)(pb:Bits 6100 p)(qb:Bits 6100 q):∃b f d,outright ns op p q=some (b,d)/\Grown ns rho c 1 b f/\ns.length<=d/\Pos b d:=by
 unfold outright;obtain⟨k1,l,x⟩:=uO h (r:=0) (n':=row op p q) (xG hc rfl rfl rfl rfl rfl (by simpa[row,fresh]using hc) (fun v hv=>by simp[row,fresh]at hv) pb qb (fun j a g=>by simp[row,fresh]at g) (.fK rfl rfl rfl (Or.inr (Or.inr (Or.inr ⟨k,o,s⟩)))));rw[k1,Option.bind_some];split
 ·obtain ⟨u,w,y⟩:=uO l.inv (r:=1) (n':=raised ns.length) (by
   refine xG hc rfl rfl rfl rfl rfl (by simpa[raised,fresh]using hc) ?_ aY aY ?_ (.kU _ _ ns.length rfl rfl (fun e=>by cases e))
   ·intro v hv;simp[raised,fresh]at hv
    rcases hv with rfl|rfl
    ·exact⟨eK (by decide),yX (eK (by decide))⟩
    ·exact⟨eK (by decide),eK (by decide)⟩
   ·intro j a g;have:=lM g;subst this;rw[sM (by simp),uM,uM]
    exact⟨by simp,by decide⟩)
  rw[u];exact⟨_,_,_,rfl,(l.bO (by decide)).trans w,by simp,by have:=Cp (ns:=ns++[row op p q]) (n':=raised ns.length) rfl;simpa using this⟩
 ·exact⟨_,_,_,rfl,l.bO (by decide),le_refl _,Cp rfl⟩
theorem aQN (h:Inv ns rho c)(hc:c<=3000)(R:ns[i]?=some n){v w:V}{x:Nat}(ht:n.t=[v,w])(ha:n.args=[x])(hr:n.read=[0])(hp:n.aP=false)(a2:n.pos=true)(N:fn n.op)(ho:n.out=[])(px:Pos ns x)(rx:rho x+3100<=rho i)(hk:n.k=0)
  {lo:V} (b1:Bits 6100 lo.1) (b2:Bits 6100 lo.2) (l1:0<=lo.1) (l2:0<lo.2) (l3:n.op=.sqrt->0<lo.1):
  ∃H J,turn ns i n lo=some H/\Inv H J c/\hP ns rho i H J/\(∃O,H[i]?=some O/\O.out=[]):=by
 have q:=h.at' i n R;have hi:=(List.getElem?_eq_some_iff.1 R).1
 have ak:n.args[0]?=some x:=by rw[ha];rfl
 unfold turn;rw[ak,Option.bind_some]
 by_cases Y:n.op=.sqrt
 ·rw[if_pos Y];obtain⟨a,b,e1,e2,e3,e4,e5⟩:=Pn (l3 Y) l2 b1 b2;rw[e1,Option.bind_some]
  have B:aZ ns rho c i {n with t:=[(0,0),(b,0),(a,b),(0,a)],nest:=true}:=by
   refine⟨q.len,q.arg,q.rd,q.kZ,q.nJ,q.fst,q.iP,q.ku,q.jH,q.jI,q.lW,q.up,?_,q.pb,q.qb,q.iH,.nest x _ _ _ _ rfl ha hp rfl ⟨⟨rho i-c-1,c,by omega,le_refl _,by simp only;omega,by omega,fun e=>absurd ⟨hr,ho⟩ e,fun e=>absurd Y e⟩,N,aLB (by omega) e3,px⟩⟩;intro v hv;simp at hv
   rcases hv with rfl|rfl|rfl|rfl
   ·exact⟨aY,aY⟩
   ·exact⟨eJ e5 (by decide),aY⟩
   ·exact⟨eJ e4 (by decide),eJ e5 (by decide)⟩
   ·exact⟨aY,eJ e4 (by decide)⟩
  obtain⟨p1,p2,p3⟩:=h.put R (n':={n with t:=[(0,0),(b,0),(a,b),(0,a)],nest:=true}) rfl (le_refl _) B;exact⟨_,rho,p1,p2,hP.set R rfl (le_refl _),_,getElem?_set_self hi,ho⟩
 ·rw[if_neg Y]
  -- z
  have Z:∃A C z,(if 0<lo.1 then(more ns (fresh true (jW n.op lo) [x])).map fun A=>(A,ns.length)else some (ns,x))=some (A,z)/\Grown ns rho c (rho x+1) A C/\Pos A z/\C z<=rho x+1:=by
   by_cases W:0<lo.1
   ·rw[if_pos W]
    obtain ⟨k1,k2,k3⟩:=uO h (r:=rho x+1) (n':=fresh true (jW n.op lo) [x]) (by
     refine xG hc rfl rfl rfl rfl rfl (by simpa[fresh]using hc) ?_ aY aY ?_ (.kU _ _ x rfl rfl (fun e=>by cases e))
     ·intro v hv;simp[fresh,jW]at hv
      rcases hv with rfl|rfl
      ·refine⟨eJ b2 (by decide),?_⟩;simp only;split
       ·exact eJ b1 (by decide)
       ·exact aY
      ·refine⟨eJ (yX b1) (by decide),?_⟩;simp only;split
       ·exact eJ (pM b1 b2) (by decide)
       ·exact eJ b2 (by decide)
     ·intro j b D;have:=lM D;subst this;rw[sM px.lt,uM]
      exact⟨px.lt,by omega⟩)
    rw[k1];exact⟨_,_,_,rfl,k2,Cp rfl,by rw[k3];exact le_refl _⟩
   ·rw[if_neg W];exact⟨_,_,_,rfl,Grown.refl h _,px,by omega⟩
  obtain⟨A,C,z,e1,g1,pz,rz⟩:=Z;rw[e1,Option.bind_some]
  -- the nest
  obtain⟨I,L,d,e2,g2,hd,pd⟩:=aKH (base:=rho x+3) g1.inv hc (k:=0) (sq:=none) N Y (by omega) pz (by omega) (fun s e=>by cases e);simp only;rw[e2,Option.bind_some];have rd:L d<=rho x+3+c+1:=g2.jG d hd pd.lt;have G2:Grown ns rho c (rho x+3+c+1) I L:=(g1.bO (by omega)).trans g2
  -- raised
  have T:∃u o t,(if n.op=.exp then(more I (raised d)).map fun u=>(u,I.length)else some (I,d))=some (u,t)/\Grown ns rho c (rho x+3+c+2) u o/\Pos u t/\o t<=rho x+3+c+2:=by
   by_cases U:n.op=.exp
   ·rw[if_pos U]
    obtain ⟨k1,k2,k3⟩:=uO G2.inv (r:=rho x+3+c+2) (n':=raised d) (by
     refine xG hc rfl rfl rfl rfl rfl (by simpa[raised,fresh]using hc) ?_ aY aY ?_ (.kU _ _ d rfl rfl (fun e=>by cases e))
     ·intro v hv;simp[raised,fresh]at hv
      rcases hv with rfl|rfl
      ·exact⟨eK (by decide),yX (eK (by decide))⟩
      ·exact⟨eK (by decide),eK (by decide)⟩
     ·intro j b D;have:=lM D;subst this;rw[sM pd.lt,uM]
      exact⟨pd.lt,by omega⟩)
    rw[k1];exact⟨_,_,_,rfl,(G2.bO (by omega)).trans k2,Cp rfl,by rw[k3];exact le_refl _⟩
   ·rw[if_neg U];exact⟨_,_,_,rfl,G2.bO (by omega),pd,by omega⟩
  obtain⟨u,o,t,e3,M,pt,rt⟩:=T;simp only;rw[e3,Option.bind_some];simp only;have E:=M.at' R;have g:=M.inv.at' i n E;have am:o i=rho i:=M.agree i hi
  by_cases W:lo.1=0
  ·rw[if_pos W]
   have B:aZ u o c i {n with args:=[t]}:=by
    refine⟨by simp[hr],?_,?_,g.kZ,g.nJ,g.fst,g.iP,g.ku,g.jH,g.jI,g.lW,g.up,g.tb,g.pb,g.qb,g.iH,.kU v w t ht rfl (fun e=>by simp only at e;rw[hp]at e;cases e)⟩
    ·intro j b D;have:=lM D;subst this;exact⟨pt.lt,by rw[am];omega⟩
    ·intro j b r' x' D y ao;simp only[hr]at y;have:=lM y;omega
   obtain⟨p1,p2,p3⟩:=M.inv.put E (n':={n with args:=[t]}) rfl (le_refl _) B;exact⟨_,o,p1,p2,(hP.grown M (by omega)).trans hi (hP.set E rfl (le_refl _)),_,getElem?_set_self (List.getElem?_eq_some_iff.1 E).1,ho⟩
  ·rw[if_neg W];obtain⟨P,p,f,e4,g4,hf,pf⟩:=aEV M.inv hc N (show 0<lo.1 by omega) l2 b1 b2;rw[e4,Option.bind_some];simp only;have S:Grown ns rho c (rho x+3+c+2) P p:=M.trans (g4.bO (by omega));have F:=S.at' R;have l:=S.inv.at' i n F;have X:p i=rho i:=S.agree i hi;have rf:p f<=1:=g4.jG f hf pf.lt;have av:p t=o t:=g4.agree t pt.lt;have au:Pos P t:=pt.le g4.le
   have B:aZ P p c i {n with t:=(if n.op=.exp then Kind.mul else Kind.add).cols,args:=[f,t],read:=[0,0]}:=by
    refine⟨rfl,?_,?_,l.kZ,l.nJ,l.fst,l.iP,l.ku,?_,l.jI,l.lW,l.up,?_,l.pb,l.qb,l.iH,?_⟩
    ·intro j b D
     rcases args2 D with rfl|rfl
     ·exact⟨pf.lt,by rw[X];omega⟩
     ·exact⟨au.lt,by rw[X,av];omega⟩
    ·intro j b r' x' D y ao
     rcases args2 y with e|e<;>omega
    ·intro r' y;simp at y;omega
    ·intro v hv;simp only at hv;split at hv
     ·simp[Kind.cols]at hv
      rcases hv with rfl|rfl|rfl
      ·exact⟨eK (by decide),aY⟩
      ·exact⟨aY,aY⟩
      ·exact⟨aY,eK (by decide)⟩
     ·simp[Kind.cols]at hv
      rcases hv with rfl|rfl|rfl
      ·exact⟨aY,aY⟩
      ·exact⟨eK (by decide),aY⟩
      ·exact⟨aY,eK (by decide)⟩
    ·by_cases U:n.op=.exp
     ·exact .bin f t _ _ _ _ (by simp only[U,if_true];rfl) rfl hp
     ·exact .bin f t _ _ _ _ (by simp only[U,if_false];rfl) rfl hp
   obtain⟨p1,p2,p3⟩:=S.inv.put F (n':={n with t:=(if n.op=.exp then Kind.mul else Kind.add).cols,args:=[f,t],read:=[0,0]}) rfl (le_refl _) B;exact⟨_,p,p1,p2,(hP.grown S (by omega)).trans hi (hP.set F rfl (le_refl _)),_,getElem?_set_self (List.getElem?_eq_some_iff.1 F).1,ho⟩
end
end Rf
namespace Rf
open Nw
section
variable {ns:List Nd} {rho:NU} {c i:Nat} {n:Nd}
theorem aKm (l:PH)(k:Nat):(bump l k).length=l.length:=by
 induction l generalizing k with
 |nil=>rfl
 |cons r b a=>cases k with
  |zero=>rfl
  |succ k=>simp[bump,a]
theorem aMH (l:PH)(k j:Nat):(bump l k)[j]?=(l[j]?).map fun r=>if j=k then r+1 else r:=by
 induction l generalizing k j with
 |nil=>simp[bump]
 |cons r b a=>
  cases k with
  |zero=>cases j with
   |zero=>simp[bump]
   |succ j=>simp[bump]
  |succ k=>cases j with
   |zero=>simp[bump]
   |succ j=>simp[bump,a]
variable {r:Nat}
theorem aKn {f:PH}{k:Nat}(h:r∈bump f k):r∈f\/∃d,f[k]?=some d/\r=d+1:=by
 obtain⟨j,o,e⟩:=getElem_of_mem h
 have a:(bump f k)[j]?=some r:=by rw[getElem?_eq_getElem o,e]
 rw[aMH]at a
 cases b:f[j]? with
 |none=>rw[b]at a;simp at a
 |some d=>
  rw[b]at a;simp at a;split at a
  ·rename_i g;subst g;exact Or.inr ⟨d,b,a.symm⟩
  ·subst a;exact Or.inl (mem_of_getElem? b)
variable {w:Nat}
theorem aKl (h:Inv ns rho (c+1))(D:ns[i]?=some n){a:Nat}{x:Nd}(u:n.args[w]?=some a)(E:n.read[w]?=some r)(F:ns[a]?=some x)(S:r<x.out.length):
  aZ ns rho c i {n with read:=bump n.read w}:=by
 have A:=h.at' i n D;have hi:=(List.getElem?_eq_some_iff.1 D).1;have k:=A.mono (c':=c) (Le.refl _) (fun _ _=>rfl) hi (by omega);have T:=(h.at' a x F).iP;refine⟨by simp[aKm,A.len],k.arg,?_,k.kZ,k.nJ,k.fst,k.iP,k.ku,?_,k.jI,k.lW,k.up,k.tb,k.pb,k.qb,k.iH,?_⟩
 ·intro j b H U B g p;simp only[aMH]at g
  cases z:n.read[j]? with
  |none=>rw[z]at g;simp at g
  |some I=>
   rw[z]at g;simp at g;have W:=A.rd j b I U B z p;split at g
   ·rename_i e;subst e;rw[u]at B;cases B;rw[F]at p;cases p;rw[E]at z;cases z;omega
   ·omega
 ·intro H g
  rcases aKn g with q|⟨I,q,L⟩
  ·exact k.jH H q
  ·rw[E]at q;cases q;omega
 ·cases A.shp with
  |fK o f l hc=>rw[f]at u;simp at u
  |gM v o f l hv=>rw[f]at u;simp at u
  |kU v d s o f l=>exact .kU v d s o f l
  |bin s b v d x y o f l=>exact .bin s b v d x y o f l
  |nest s v d x y o f l C ok=>
   obtain⟨⟨base,J,q,L,M,N,X,O⟩,P,h8,R⟩:=ok;exact .nest s v d x y o f l C ⟨⟨base,J,q,by omega,M,N,fun _=>by omega,O⟩,P,h8,R⟩
theorem aSj (h:Inv ns rho c)(e:ns[i]?=some n):Ok {n with read:=bump n.read w}:=by
 have d:=h.at' i n e;have a:=d.ok;refine⟨a.t,a.told,a.dT,a.part,a.p,a.q,?_,a.out,a.k⟩;intro r f
 rcases aKn f with b|⟨g,b,j⟩
 ·exact a.read r b
 ·have:=d.jH g (mem_of_getElem? b);omega
theorem aFq {s:St}(F:s.clock=(c:Int))(h:Inv s.nodes rho c)(hc:c<=3000)(B:s.nodes[i]?=some n){a:Nat}{x:Nd}(ha:n.args[w]?=some a)(hr:n.read[w]?=some r)(hx:s.nodes[a]?=some x)(T:r<x.out.length)(aa:n.aP=true->w=0):
  ∃N b,after s i w=some (N,b)/\(b=true->∃p P,P<c/\N.clock=(P:Int)/\Inv N.nodes p P/\hP s.nodes rho i N.nodes p/\∃I,N.nodes[i]?=some I/\I.out=n.out):=by
 have hi:=(List.getElem?_eq_some_iff.1 B).1;unfold after;rw[B,Option.bind_some]
 cases c with
 |zero=>
  have l:put s.nodes i {n with read:=bump n.read w}=some (s.nodes.set i {n with read:=bump n.read w}):=by
   unfold put;rw[if_pos ⟨aSj h B,hi⟩]
  rw[l,Option.bind_some,if_pos (by rw[F];decide)];exact⟨_,_,rfl,fun e=>by cases e⟩
 |succ c=>
  have hB:=aKl h B ha hr hx T;obtain⟨p1,J,p3⟩:=(h.tick (show c<=c+1 by omega)).put B (n':={n with read:=bump n.read w}) rfl (le_refl _) hB;rw[p1,Option.bind_some,if_neg (by rw[F];omega)]
  have u:s.clock-1=(c:Int):=by rw[F];omega
  have M1:hP s.nodes rho i (s.nodes.set i {n with read:=bump n.read w}) rho:=hP.set B rfl (le_refl _);have C:(s.nodes.set i {n with read:=bump n.read w})[i]?=some {n with read:=bump n.read w}:=getElem?_set_self hi;have f:=J.at' i _ C;unfold settle
  by_cases o:n.aP=true
  ·rw[if_pos o];have ab:=f.shp
   have hS:∃v d q,n.t=[v,d]/\n.args=[q]/\n.pos=true/\fn n.op/\n.out=[]/\Pos (s.nodes.set i {n with read:=bump n.read w}) q/\rho q+3100<=rho i/\n.k=0:=by
    cases ab with
    |fK E g l hc=>simp only at l;rw[o]at l;cases l
    |gM v E g l hv=>simp only at l;rw[o]at l;cases l
    |kU v d q E g l=>
     obtain⟨k1,k2,k3,k4,k5,k6⟩:=l o;exact⟨v,d,q,E,g,k1,k2,k3,k4,k5,k6⟩
    |bin q b v d x y E g l=>simp only at l;rw[o]at l;cases l
    |nest q v d x y E g l ay ok=>simp only at l;rw[o]at l;cases l
   obtain⟨v,d,q,E,g,L,X,ho,pa,ra,hk⟩:=hS;obtain⟨m,x',O,e1,e2,R,e4⟩:=Fo J f (sd:=0) (a:=q) (by show n.args[0]?=_;rw[g];rfl);rw[e4,Option.bind_some];simp only;obtain⟨y',q1,q2⟩:=pa;rw[q1]at e1;cases e1;have A:=J.at' q x' q1;have ad:Up m:=(A.up q2).2 m (mem_of_getElem? R);have U:=A.lW O m R
   have M:O<=3000:=by have:=A.iP;have:=A.kZ;have:=(List.getElem?_eq_some_iff.1 R).1;omega
   obtain⟨b1,b2⟩:=aNH U M;obtain⟨l1,l2,l3⟩:=aSU ad
   by_cases H:known n.op (eZ m (0,1)) (eZ m (1,0))=true
   ·rw[if_pos H]
    obtain⟨r0,Y⟩:∃r0,n.read=[r0]:=by
     have:=(h.at' i n B).len;rw[g]at this;exact List.length_eq_one_iff.1 this
    have z:((bump n.read w).set 0 0)=[0]:=by
     rw[aa o,Y];rfl
    have S:aZ (s.nodes.set i {n with read:=bump n.read w}) rho c i {n with read:=(bump n.read w).set 0 0,aP:=false}:=by
     refine⟨by simp[aKm,(h.at' i n B).len],f.arg,?_,f.kZ,f.nJ,f.fst,f.iP,f.ku,?_,f.jI,f.lW,f.up,f.tb,f.pb,f.qb,f.iH,.kU v d q E g (fun e=>by cases e)⟩
     ·intro j b O x' hb D a1;simp only[z]at D;have:=lM D;omega
     ·intro O D;simp only[z,List.mem_singleton]at D;omega
    obtain⟨t1,t2,t3⟩:=J.put C (n':={n with read:=(bump n.read w).set 0 0,aP:=false}) rfl (le_refl _) S;simp only[List.set_set]at t1 t2 t3 ⊢;have M2:hP s.nodes rho i (s.nodes.set i {n with read:=(bump n.read w).set 0 0,aP:=false}) rho:=hP.set B rfl (le_refl _);have W:(s.nodes.set i {n with read:=(bump n.read w).set 0 0,aP:=false})[i]?=some {n with read:=(bump n.read w).set 0 0,aP:=false}:=getElem?_set_self hi;obtain⟨ba,p,u1,u2,u3,I,u4,u5⟩:=aQN t2 (by omega) W (v:=v) (w:=d) (x:=q) E g z rfl L X ho (Pos.le ⟨_,q1,q2⟩ t3) ra hk b1 b2 l1 l2 (fun e=>l3 (by rw[<-e];exact H));rw[t1,Option.bind_some,u1];refine⟨_,_,rfl,fun _=>⟨p,c,by omega,u,u2,M2.trans hi u3,I,u4,by rw[u5,ho]⟩⟩
   ·rw[if_neg H];exact⟨_,_,rfl,fun _=>⟨rho,c,by omega,u,J,M1,_,C,rfl⟩⟩
  ·rw[if_neg o];exact⟨_,_,rfl,fun _=>⟨rho,c,by omega,u,J,M1,_,C,rfl⟩⟩
structure eP (s:St) (rho:NU) (c i j:Nat) (x:St×Option Int):Prop where
 ex:∀v,x.2=some v->∃rho' c',c'<=c/\x.1.clock=(c':Int)/\Inv x.1.nodes rho' c'/\hP s.nodes rho i x.1.nodes rho'/\∃n',x.1.nodes[i]?=some n'/\j<n'.out.length
theorem eP.none (s:St)(rho:NU)(c i j:Nat)(a:St):eP s rho c i j (a,none):=⟨fun v e=>by cases e⟩
theorem eP.mid {s d:St}{rho a:NU}{c c1 i o:Nat}{x:St×Option Int}(hi:i<s.nodes.length)(h:hP s.nodes rho i d.nodes a)(hc:c1<=c)(q:eP d a c1 i o x):eP s rho c i o x:=by
 refine⟨fun v e=>?_⟩;obtain⟨b,f,r,g,k,l,p⟩:=q.ex v e;exact⟨b,f,by omega,g,k,h.trans hi l,p⟩
theorem total:∀(f:Nat) (s:St) (i j:Nat) (rho:NU) (c:Nat),s.clock=(c:Int)->c<=3000->Inv s.nodes rho c->∀n,s.nodes[i]?=some n->j<=n.out.length->c+rho i+2<=f->∃x,sym f s i j=some x/\eP s rho c i j x
 |0,s,i,j,rho,c,u,S,h,n,E,hj,hf=>by omega
 |f+1,s,i,j,rho,c,u,S,h,n,E,hj,hf=>by
  have hi:=(List.getElem?_eq_some_iff.1 E).1;have I:=h.at' i n E;unfold sym;rw[E,Option.bind_some]
  cases R:n.out[j]? with
  |some v=>
   refine⟨_,rfl,⟨fun v' e=>⟨rho,c,le_refl _,u,h,hP.refl _ _ _,n,E,(List.getElem?_eq_some_iff.1 R).1⟩⟩⟩
  |none=>
   have bh:n.out.length=j:=by
    have:=List.getElem?_eq_none_iff.1 R;omega
   simp only
   obtain⟨o,C⟩:∃o,(if n.aP=true then some none else next s.nodes n)=some o:=by
    split
    ·exact⟨_,rfl⟩
    ·exact qA h I
   rw[C,Option.bind_some]
   cases o with
   |some g=>
    have F:n.aP=false:=by
     cases aq:n.aP with
     |false=>rfl
     |true=>rw[aq]at C;simp at C
    rw[F]at C;simp only[false_eq_true,if_false]at C;simp only
    cases c with
    |zero=>
     rw[if_pos (by rw[u];decide)];exact⟨_,rfl,eP.none _ _ _ _ _ _⟩
    |succ c=>
     rw[if_neg (by rw[u];omega)];obtain⟨B,g1,g2,g3,g4⟩:=aG3 h E F C;unfold give;rw[g1,map_some,Option.bind_some];have L:(s.nodes.set i B)[i]?=some B:=getElem?_set_self hi
     have M:B.pos=n.pos:=by
      obtain⟨m,k1,T,_⟩:=g3.at' i n E;rw[L]at k1;cases k1;exact T
     obtain⟨x,x1,x2⟩:=total f ⟨s.nodes.set i B,s.clock-1⟩ i j rho c (by simp only;rw[u];omega) (by omega) g2 B L (by omega) (by omega);exact⟨x,x1,x2.mid hi (hP.set E M (by omega)) (by omega)⟩
   |none=>
    simp only
    suffices hR:∃U b,reads (sym f) s i n=some (U,b)/\(b=true->∃A W,W<c/\U.clock=(W:Int)/\Inv U.nodes A W/\hP s.nodes rho i U.nodes A/\∃B,U.nodes[i]?=some B/\B.out=n.out) by
     obtain⟨U,b,r1,r2⟩:=hR;rw[r1,Option.bind_some]
     cases b with
     |false=>exact⟨_,rfl,eP.none _ _ _ _ _ _⟩
     |true=>
      obtain⟨A,W,k1,T,k3,k4,B,k5,k6⟩:=r2 rfl;simp only[if_true];obtain⟨x,x1,x2⟩:=total f U i j A W T (by omega) k3 B k5 (by rw[k6];omega) (by rw[k4.agree i hi];omega);exact⟨x,x1,x2.mid hi k4 (by omega)⟩
    unfold reads
    by_cases O:n.t=[]
    ·rw[if_pos O]
     cases c with
     |zero=>
      -- the clock has run out
      have Y:pW n:=by
       cases I.shp with
       |fK O z F hc=>exact hc
       |gM v l z F hv=>rw[O]at l;cases l
       |kU v w a l z F=>rw[O]at l;cases l
       |bin a b v w x y l z F=>rw[O]at l;cases l
       |nest a v w x y l z F E ok=>rw[O]at l;cases l
      have bi:=I.ku;obtain⟨m,m1,m2⟩:=Ga Y (k:=n.k) (by omega) I.pb I.qb
      have ap:Ok {n with part:=n.part.mul m,k:=n.k+1}:=by
       have C:=I.ok;refine⟨C.t,C.told,C.dT,dB.mono (aHe I.iH m2) ?_,C.p,C.q,C.read,C.out,by simp only;omega⟩;have:n.k*18500<=3000*18500:=Nat.mul_le_mul_right _ (by omega);omega
      have aa:put s.nodes i {n with part:=n.part.mul m,k:=n.k+1}=some (s.nodes.set i {n with part:=n.part.mul m,k:=n.k+1}):=by
       unfold put;rw[if_pos ⟨ap,hi⟩]
      rw[m1,Option.bind_some,aa,map_some];refine⟨_,_,rfl,fun e=>?_⟩;rw[u]at e;exact absurd e (by decide)
     |succ c=>
      obtain⟨m,B,m1,m2,m3,m4,m5⟩:=aJi h E O;rw[m1,Option.bind_some,m2,map_some];have L:(s.nodes.set i B)[i]?=some B:=getElem?_set_self hi
      have M:B.pos=n.pos:=by
       obtain⟨m,k1,T,_⟩:=m4.at' i n E;rw[L]at k1;cases k1;exact T
      exact⟨_,_,rfl,fun _=>⟨rho,c,by omega,by simp only;rw[u];omega,m3,hP.set E M (by rw[m5];exact le_refl _),B,L,m5⟩⟩
    ·rw[if_neg O]
     -- which side,and the nodes with that argument
     have hS:∃H N D P a r,side s.nodes n=some H/\wide s i n H=some N/\N.clock=(c:Int)/\Inv N.nodes D c/\hP s.nodes rho i N.nodes D/\N.nodes[i]?=some P/\P.args[H]?=some a/\P.read[H]?=some r/\P.out=n.out/\(P.aP=true->H=0):=by
      cases I.shp with
      |fK l z F hc=>exact absurd l O
      |gM v l z F hv=>
       rw[F]at C;simp only[false_eq_true,if_false]at C;exact absurd C (aGn l z I.fst hv)
      |kU v w a l z F=>
       obtain⟨r,hr⟩:∃r,n.read=[r]:=List.length_eq_one_iff.1 (by rw[I.len,z];rfl);refine⟨0,s,rho,n,a,r,aK6 l,?_,u,h,hP.refl _ _ _,E,by rw[z];rfl,by rw[hr];rfl,rfl,fun _=>rfl⟩;unfold wide;rw[if_neg (by rw[z];simp)]
      |bin a b v w x y l z F=>
       obtain⟨H,J,al⟩:=Uz h I
       have hl:H<n.args.length:=by rw[z];simp;omega
       refine⟨H,s,rho,n,n.args[H],n.read[H]'(by rw[I.len];exact hl),J,?_,u,h,hP.refl _ _ _,E,getElem?_eq_getElem _,getElem?_eq_getElem _,rfl,fun e=>by rw[F]at e;cases e⟩;unfold wide;rw[if_neg (by omega)]
      |nest a v w x y l z F ao ok=>
       obtain⟨r,hr⟩:∃r,n.read=[r]:=List.length_eq_one_iff.1 (by rw[I.len,z];rfl);obtain⟨H,J,al⟩:=Uz h I
       by_cases hz:H=0
       ·subst hz;refine⟨0,s,rho,n,a,r,J,?_,u,h,hP.refl _ _ _,E,by rw[z];rfl,by rw[hr];rfl,rfl,fun _=>rfl⟩;unfold wide;rw[if_neg (by rw[z];simp)]
       ·have au:H=1:=by omega
        subst au
        have ar:¬(n.read=[0]/\n.out=[]):=by
         rintro⟨k1,T⟩;rw[aGz h I l z ao ok.first ok.pos k1 T]at J;simp at J
        obtain⟨ay,A,d,B,w1,w2,w3,w4,w5⟩:=aLn (cl:=s.clock) h S E l z F ok ar;refine⟨1,⟨ay,s.clock⟩,A,B,d,0,J,w1,u,w2,w3,w4,by rw[w5];simp[z],by rw[w5];simp[hr],by rw[w5],fun e=>by rw[w5]at e;simp only at e;rw[F]at e;cases e⟩
     obtain⟨H,N,D,P,a,r,e1,e2,e3,e4,e5,e6,e7,e8,e9,ai⟩:=hS;rw[e1,Option.bind_some,e2,Option.bind_some,e6,Option.bind_some,e7,Option.bind_some,e8,Option.bind_some];have X:=e4.at' i P e6;obtain⟨la,ra⟩:=X.arg H a e7;have ab:N.nodes[a]?=some N.nodes[a]:=getElem?_eq_getElem la;have bk:D i=rho i:=e5.agree i hi;obtain⟨x,x1,x2⟩:=total f N a r D c e3 S e4 _ ab (X.rd H a r _ e7 e8 ab) (by omega);rw[x1,Option.bind_some];obtain⟨s2,o2⟩:=x
     cases o2 with
     |none=>exact⟨_,_,rfl,fun e=>by cases e⟩
     |some v=>
      obtain⟨a3,c2,y1,y2,y3,y4,B,y5,y6⟩:=x2.ex v rfl;simp only at y2 y3 y4 y5;have am:s2.nodes[i]?=some P:=y4.same i P e6 ra;have ak:i<N.nodes.length:=(List.getElem?_eq_some_iff.1 e6).1;obtain⟨s3,b,z1,z2⟩:=aFq y2 y3 (by omega) am e7 e8 y5 y6 ai;refine⟨s3,b,z1,fun hb=>?_⟩;obtain⟨ad,c3,q1,q2,q3,q4,n3,q5,q6⟩:=z2 hb;refine⟨ad,c3,by omega,q2,q3,?_,n3,q5,by rw[q6,e9]⟩;exact(e5.trans hi ((y4.up ra).trans ak q4))
end
end Rf
open Go.RowKit
namespace Ab
open Rf (Nd Inv aZ)
inductive Own where
 |nd (i:Nat)
 |gv (i:Nat)
 |pd (i:Nat)
def aA:Value:=.pointer none
def aI:Value:=.slice none 0 0
def ptrB (k:Nat):Value:=.pointer (some ⟨k,0,none⟩)
def lArg (n:Nd):ON:=if n.t.length=4 then n.args[0]? else none
def rArg (n:Nd):ON:=if n.t.length=4 then n.args[1]? else if n.t.length=2 then n.args[0]? else none
def hY (n:Nd):Nat:=if n.t.length=4 then n.read.getD 0 0 else 0
def gB (n:Nd):Nat:=if n.t.length=4 then n.read.getD 1 0 else if n.t.length=2 then n.read.getD 0 0 else 0
def eW (at':NU):Option Nat->Value
 |none=>aA
 |some a=>ptrB (at' a)
def aH:Rf.Op->Int
 |.none=>0
 |.pi=>2
 |.e=>3
 |.cf=>4
 |.sqrt=>10
 |.exp=>11
 |.fL=>12
 |.atan=>13
def fM (n:Nd):Int:=if n.aP then aH n.op else 0
def cH:List Int->List Rf.V
 | [a,b,c,d,e,f,g,h]=>[(a,b),(c,d),(e,f),(g,h)]
 |_=>[]
def gD (w:World)(b0:Nat)(own:Nat->Option Own)(i:Nat)(out:LN)(gv:Value):Prop:=
 (gv=aI/\out=[])\/∃g b,∃a:LB,gv=.slice (some ⟨g,0,none⟩) out.length b/\w.heap[g]?=some (.cells (out.map (fun c=>Value.int .i64 (code c))++a).toArray 110 (0,0))/\out.length<=b/\b<=out.length+a.length/\own g=some (.gv i)/\b0<=g
structure fT (w:World) (n:Nd) (cb:Nat):Prop where
 bV:∃cs:LB,w.heap[cb]?=some (.cells cs.toArray 164 (0,0))
 mat:∀k:Nat,k<=3000->∃f a b c d:Int,0<f/\Rf.constant n k=some (Pg.wM f ⟨a,b,c,d⟩)/\(∀z∈[a,b,c,d],Bits 2 z)/\∀W,On Z.bt w W->Calls prog 172 #[ptrB cb,.int .i64 k] W fun e w'=>∃xs:LB,e=.returned (.agg xs.toArray)/\aU true w' [a,b,c,d] xs/\Below W.heap.size W w'
def jC (w:World)(b0:Nat)(own:Nat->Option Own)(at':NU)(i:Nat)(n:Nd)(f:Nat)(g:Int):Prop:=
 ∃(e:LB) (d:LN) (fst b:Value),w.heap[f]?=some (.cells (.int .i64 (aH n.op)::fst::b::e).toArray 232 (0,0))/\aU true w d e/\d.length=8/\(∀z∈d,Bits 1 z)/\
  (n.op=.sqrt->∃a,n.args[0]?=some a/\fst=ptrB (at' a)/\b=ptrB (at' a)/\Pg.eO n.t (cH d))/\
  (n.op≠.sqrt->g=n.k/\∃ x,n.x=some x/\fst=ptrB (at' x)/\(n.op=.fL->b=ptrB (at' x))/\(n.op≠.fL->(∀ s,n.fC=some s->b=ptrB (at' s))/\
   (n.fC=none->∃pb,b=ptrB pb/\own pb=some (.pd i)/\b0<=pb/\NodeAt w pb [1,0,0,0,0,0,0,1] false 0 0 0 0 0 (ptrB (at' x)) (ptrB (at' x)) aI aA aA)))
def Nh (w:World)(b0:Nat)(own:Nat->Option Own)(at':NU)(i:Nat)(n:Nd)(b:Value)(d:Int):Prop:=
 (n.nest=false->b=aA)/\(n.nest=true->∃a,b=ptrB a/\(∃cs:LB,w.heap[a]?=some (.cells cs.toArray 232 (0,0)))/\(n.t.length=4->n.args.length=1->jC w b0 own at' i n a d))
structure Blk (w:World) (b0:Nat) (own:Nat->Option Own) (at':NU) (i:Nat) (n:Nd) (p0 q0 p1 q1 p2 q2 p3 q3 mt pl:Int) (gv cv nv:Value):Prop where
 nd:NodeAt w (at' i) [p0,q0,p1,q1,p2,q2,p3,q3] (!n.pos) (fM n) mt (hY n) (gB n) pl (eW at' (lArg n)) (eW at' (rArg n)) gv cv nv
 Aw:gD w b0 own i n.out gv
 fK:n.t=[]->mt=n.k/\∃cb,cv=ptrB cb/\fT w n cb
 oO:n.t≠[]->cv=aA
 nst:Nh w b0 own at' i n nv pl
structure cK (w:World) (b0:Nat) (own:Nat->Option Own) (at':NU) (ns:List Nd) (i:Nat) (n:Nd):Prop where
 ex:∃p0 q0 p1 q1 p2 q2 p3 q3 mt pl gv cv nv,Blk w b0 own at' i n p0 q0 p1 q1 p2 q2 p3 q3 mt pl gv cv nv/\∃l,Rf.corners ns n=some l/\Pg.eO l [(p0,q0),(p1,q1),(p2,q2),(p3,q3)]
 hc:Pg.HC n
 own:own (at' i)=some (.nd i)
 lo:b0<=at' i
 Ss:n.aP=true->n.t=[(1,0),(0,1)]/\n.nest=false
structure Net (w:World) (b0:Nat) (own:Nat->Option Own) (at':NU) (fb:Nat) (s:Rf.St):Prop where
 nd:∀i n,s.nodes[i]?=some n->cK w b0 own at' s.nodes i n
 fuel:w.heap[fb]?=some (.cells #[.int .i64 s.clock] 143 (0,0))
 Rr:b0<=fb
structure Chg (w w':World) (D:PH):Prop where
 on:On Z.bt w w'
 low:∀k,k<w.heap.size->k∉D->w'.heap[k]?=w.heap[k]?
theorem Chg.refl (w:World):Chg w w []:=⟨On.refl _ _,fun _ _ _=>rfl⟩
variable {w w':World}
theorem Chg.eF (h:Below w.heap.size w w'):Chg w w' []:=⟨On.below h,fun k a _=>h.block k a⟩
variable {D:PH}{k:Nat}
theorem Chg.at (h:Chg w w' D){o:Obj}(a:w.heap[k]?=some o)(b:k∉D):w'.heap[k]?=some o:=by rw[h.low k (gE a) b];exact a
theorem Chg.bO {a:PH}(h:Chg w w' D)(b:∀k∈D,k∈a):Chg w w' a:=⟨h.on,fun k d f=>h.low k d fun e=>f (b k e)⟩
theorem Chg.trans {w w' J:World}{D:PH}(h:Chg w w' D)(a:Chg w' J D):Chg w J D:=⟨h.on.trans a.on,fun k d b=>by rw[a.low k (Nat.lt_of_lt_of_le d h.on.size) b,h.low k d b]⟩
def zM (w:World)(own:Nat->Option Own)(i:Nat)(D:PH):Prop:=∀k∈D,∀cs ty m,w.heap[k]?=some (.cells cs ty m)->(ty=190/\own k=some (.nd i))\/(ty=110/\own k=some (.gv i))\/ty=143
theorem mC {w w':World}(h:On Z.bt w w'):∀{b:LN} {a:LB},aU true w b a->aU true w' b a
 | [],[],_=>trivial
 |_::b,_::_::a,⟨d,e,f⟩=>⟨d,(show Z.eU true w' _ _ from Z.Af (k:=true) h e),mC h f⟩
 | [],_::_,h=>h.elim
 |_::_,[],h=>h.elim
 |_::_,[_],h=>h.elim
variable {s:LN}{a:Bool}{v mt r y u:Int}{lp rp gv Y:Value}
theorem NodeAt.aS {d:Value}(h:NodeAt w k s a v mt r y u lp rp gv Y d)(b:On Z.bt w w')(g:w'.heap[k]?=w.heap[k]?):NodeAt w' k s a v mt r y u lp rp gv Y d:=by
 obtain⟨i,e,f⟩:=h.ex;exact⟨i,by rw[g];exact e,mC b f⟩
theorem NodeAt.lt {d:Value}(h:NodeAt w k s a v mt r y u lp rp gv Y d):k<w.heap.size:=by
 obtain⟨f,b,e⟩:=h.ex;exact gE b
section
variable {w w':World} {b0:Nat} {own own':Nat->Option Own} {D:PH} {i0:Nat}
theorem NodeAt.Hk {i:Value}(h:NodeAt w k s a v mt r y u lp rp gv Y i)(d:zM w own i0 D)(g:own k≠some (.nd i0)):k∉D:=by
 intro f;obtain⟨l,b,j⟩:=h.ex
 rcases d k f _ _ _ b with⟨_,e⟩|⟨e,_⟩|e
 ·exact g e
 ·exact absurd e (by decide)
 ·exact absurd e (by decide)
theorem gD.aS {i:Nat}{out:LN}(h:gD w b0 own i out gv)(hc:Chg w w' D)(r:zM w own i0 D)(hi:i≠i0)(a:∀k o,k<w.heap.size->own k=some o->o≠.pd i0->own' k=some o):gD w' b0 own' i out gv:=by
 rcases h with h|⟨g,d,b,l,f,n,p,j,q⟩
 ·exact Or.inl h
 ·refine Or.inr ⟨g,d,b,l,hc.at f ?_,n,p,a _ _ (gE f) j (by intro e;cases e),q⟩;intro s
  rcases r g s _ _ _ f with⟨e,_⟩|⟨_,e⟩|e
  ·exact absurd e (by decide)
  ·rw[j]at e;cases e;exact hi rfl
  ·exact absurd e (by decide)
theorem fT.aS {n:Nd}{i:Nat}(h:fT w n i)(g:On Z.bt w w'):fT w' n i:=by
 obtain⟨cs,j⟩:=h.bV;refine⟨⟨cs,?_⟩,fun k s=>?_⟩
 rotate_left
 ·obtain⟨f,a,b,c,d,l,o,p,q⟩:=h.mat k s;exact⟨f,a,b,c,d,l,o,p,fun W r=>q W (g.trans r)⟩
 rcases g.bV i _ j with e|⟨e,_⟩
 ·exact e
 ·have e':Ja.contains 164=true:=e;exact absurd e' (by decide)
theorem fT.of {d n':Nd}{a:Nat}(h:fT w d a)(b:∀k,Rf.constant n' k=Rf.constant d k):fT w n' a:=by
 refine⟨h.bV,fun k e=>?_⟩;rw[b];exact h.mat k e
theorem jC.aS {at1 at2:NU}{i:Nat}{n:Nd}{p:Nat}{v:Int}{N:Nat}(h:jC w b0 own at1 i n p v)(hc:Chg w w' D)(z:zM w own i0 D)(j:∀k o,k<w.heap.size->own k=some o->o≠.pd i0->own' k=some o)(hi:i=i0->n.fC≠none\/∀k,k<w.heap.size->own k=some (.pd i0)->own' k=some (.pd i0))(d:∀a,a<N->at2 a=at1 a)(A:∀a,n.args[0]?=some a->a<N)(T:n.op≠.sqrt->∀x,n.x=some x->x<N)(S:n.op≠.sqrt->∀s,n.fC=some s->s<N):jC w' b0 own' at2 i n p v:=by
 obtain⟨xs,zs,fst,q,y,J,L,M,O,P⟩:=h
 have r:p∉D:=by
  intro R
  rcases z p R _ _ _ y with⟨e,_⟩|⟨e,_⟩|e<;>exact absurd e (by decide)
 refine⟨xs,zs,fst,q,hc.at y r,mC hc.on J,L,M,?_,?_⟩
 ·intro b;obtain⟨a,a1,F,H,I⟩:=O b;exact⟨a,a1,by rw[d a (A a a1)];exact F,by rw[d a (A a a1)];exact H,I⟩
 ·intro b;obtain⟨k1,x,C,U,W,E⟩:=P b;have g:=d x (T b x C);refine⟨k1,x,C,by rw[g];exact U,by rw[g];exact W,fun B=>⟨fun s e=>by rw[d s (S b s e)];exact(E B).1 s e,fun e=>?_⟩⟩;obtain⟨pb,X,u,Y,l⟩:=(E B).2 e;refine⟨pb,X,?_,Y,?_⟩
  ·by_cases f:i=i0
   ·rcases hi f with h|h
    ·exact absurd e h
    ·subst f;exact h _ l.lt u
   ·exact j _ _ l.lt u (by intro e;cases e;exact f rfl)
  ·rw[g];exact l.aS hc.on (hc.low pb l.lt (l.Hk z (by rw[u];intro e;cases e)))
theorem cK.aS {at1 at2:NU}{ns F:List Nd}{H:NU}{c i:Nat}{n:Nd}(h:cK w b0 own at1 ns i n)(hc:Chg w w' D)(J:zM w own i0 D)(hi:i≠i0)(P:i<ns.length)(O:Pg.Go ns F)(p:∀k o,k<w.heap.size->own k=some o->o≠.pd i0->own' k=some o)(f:∀a,a<ns.length->at2 a=at1 a)(X:aZ ns H c i n):cK w' b0 own' at2 F i n:=by
 obtain⟨p0,q0,p1,q1,p2,q2,p3,q3,mt,pl,gv,cv,nv,r,l,R,S⟩:=h.ex;have g:=f i P
 have z:∀a,a∈n.args->a<ns.length:=by
  intro a E;obtain⟨j,hj,e⟩:=getElem_of_mem E;exact(X.arg j a (by rw[getElem?_eq_getElem hj,e])).1
 have hL:eW at2 (lArg n)=eW at1 (lArg n):=by
  unfold lArg;split
  ·cases e:n.args[0]? with
   |none=>rfl
   |some a=>simp only[eW];rw[f a (z a (mem_of_getElem? e))]
  ·rfl
 have hR:eW at2 (rArg n)=eW at1 (rArg n):=by
  unfold rArg;split
  ·cases e:n.args[1]? with
   |none=>rfl
   |some a=>simp only[eW];rw[f a (z a (mem_of_getElem? e))]
  ·split
   ·cases e:n.args[0]? with
    |none=>rfl
    |some a=>simp only[eW];rw[f a (z a (mem_of_getElem? e))]
   ·rfl
 refine⟨⟨p0,q0,p1,q1,p2,q2,p3,q3,mt,pl,gv,cv,nv,⟨?_,r.Aw.aS hc J hi p,?_,r.oO,?_⟩,l,O.corners R,S⟩,h.hc,by rw[g];exact p _ _ r.nd.lt h.own (by intro e;cases e),by rw[g];exact h.lo,h.Ss⟩
 ·rw[g,hL,hR];exact r.nd.aS hc.on (hc.low _ r.nd.lt (r.nd.Hk J (by rw[h.own];intro e;cases e;exact hi rfl)))
 ·intro A;obtain⟨L,cb,I,M⟩:=r.fK A;exact⟨L,cb,I,M.aS hc.on⟩
 ·refine⟨r.nst.1,fun T=>?_⟩;obtain⟨nb,L,⟨cs,I⟩,M⟩:=r.nst.2 T;refine⟨nb,L,⟨cs,hc.at I ?_⟩,fun A E=>?_⟩
  ·intro hk
   rcases J nb hk _ _ _ I with⟨e,_⟩|⟨e,_⟩|e<;>exact absurd e (by decide)
  ·have B:∃a,n.args=[a]/\Rf.jO ns H c i n a:=by
    cases X.shp with
    |fK d _ _ _=>rw[d]at A;simp at A
    |gM v d _ _ _=>rw[d]at A;simp at A
    |kU v u a d _ _=>rw[d]at A;simp at A
    |bin a b v u x y d q _=>rw[q]at E;simp at E
    |nest a v u x y d q _ _ ok=>exact⟨a,q,ok⟩
   obtain⟨a,q,ok⟩:=B;obtain⟨base,ck,_,_,_,_,_,Y⟩:=ok.ex;refine(M A E).aS (N:=ns.length) hc J p (fun e=>absurd e hi) f (fun a e=>z a (mem_of_getElem? e)) ?_ ?_
   ·intro C x e;obtain⟨x',U,W,_⟩:=Y C;rw[U]at e;cases e;exact W
   ·intro C s e;obtain⟨x',U,W,_,_,g5⟩:=Y C;exact(g5 s e).1
end
def yF (d:Bool)(b mt e g f:Int)(lp rp a nst gv:AC):bQ:=yR (Mx d b mt e g f lp rp a nst gv) 190
def uH (c:Int):bQ:=yR [.sint .i64 c] 143
def sWn (ns:LV)(d:Bool)(b mt e g f c:Int)(lp rp a nst gv:AC)(ex:List (Nat×bQ))(dirty:PH)(h:List AT):AS:=⟨h,(0,yF d b mt e g f lp rp a nst gv)::(6,uH c)::ex,7,ns,dirty⟩
def sW (i:LN)(d:Bool)(b mt e g f c:Int)(lp rp a nst gv:AC)(ex:List (Nat×bQ))(h:List AT):AS:=sWn (i.map fun z=>(z,10)) d b mt e g f c lp rp a nst gv ex [] h
def nE (m:Nat):List AT:=.val (.one (.ptr 0 0))::.val (.one (.ptr 6 0))::List.replicate m .fX
def slot (l:List (Nat×AT)):Nat->Nat->List AT
 |_,0=>[]
 |i,m+1=>(match l.find? (fun x=>x.1==i)with|some x=>x.2|none=>.top)::slot l (i+1) m
def sl0 (m:Nat):List AT:=slot [] 0 m
noncomputable def bW:FF:=fun f=>bif f==150 then some f150 else none
theorem rV:bU Z bW:=by
 intro f fn h;unfold bW at h
 cases a:f==150 with
 |true=>
  rw[a]at h;cases h
  have:f=150:=by simpa using a
  subst this;exact⟨(bF func150 rfl rfl).at',(bF func150 rfl rfl).en⟩
 |false=>rw[a]at h;cases h
theorem Mi {φ:LI}{ν:LV}{n:World}:∀(a:LN) (i:Nat) (e:LB),All2 (relC Z φ ν n) (bJ true i a.length) e->(∀(j:Nat) (z:Int),a[j]?=some z->∃b,ν[i+j]?=some (z,b))->aU true n a e
 | [],i,[],_,_=>trivial
 | [],i,_::_,h,_=>h.elim
 |z::a,i,[],h,_=>by simp[bJ]at h;exact h.elim
 |z::a,i,[x],h,_=>by simp[bJ]at h;exact h.2.elim
 |z::a,i,x::y::e,h,d=>by
  have l:All2 (relC Z φ ν n) (.sg i::.dg true i::bJ true (i+1) a.length) (x::y::e):=h;obtain⟨⟨s,q,f,k⟩,⟨u,r,f1,f2,f3⟩,o⟩:=l;obtain⟨b,g⟩:=d 0 z rfl;rw[Nat.add_zero]at g;rw[g]at f f1;cases f;cases f1;exact⟨k,f2,Mi a (i+1) e o fun j y p=>by rw[show i+1+j=i+(j+1) by omega];exact d (j+1) y (by simpa using p)⟩
def phW (k a:Nat)(ex:LI):LI:=fun b=>if b=0 then some (k,0)else if b=6 then some (a,0)else if b<6 then ex b else none
theorem aTg (k a:Nat)(ex:LI):phW k a ex 0=some (k,0):=rfl
theorem aTh (k a:Nat)(ex:LI):phW k a ex 6=some (a,0):=rfl
theorem aV7 (k a:Nat)(ex:LI){b:Nat}(h:7<=b):phW k a ex b=none:=by
 unfold phW;rw[if_neg (by omega),if_neg (by omega),if_neg (by omega)]
variable {n:World}{q:LI}
theorem aRI {f:Nat}{ex:List (Nat×bQ)}{c:Int}{S:Value}{lpC rpC gvC cvC nvC:AC}(hn:NodeAt n k s a v mt r y u lp rp gv Y S)(h8:s.length=8)(O:∀z∈s,Bits 10 z)(H:n.heap[f]?=some (.cells #[.int .i64 c] 143 (0,0)))
  (hl:relC Z (phW k f q) (s.map fun z=>(z,10)) n lpC lp) (hr:relC Z (phW k f q) (s.map fun z=>(z,10)) n rpC rp) (hg:relC Z (phW k f q) (s.map fun z=>(z,10)) n gvC gv) (hc:relC Z (phW k f q) (s.map fun z=>(z,10)) n cvC Y) (hm:relC Z (phW k f q) (s.map fun z=>(z,10)) n nvC S)
  (l:∀b B,look ex b=some B->B.own=false/\B.tip=false/\B.ro=true/\∃i o,phW k f q b=some (i,o)/\i≠k/\i≠f/\Seg Z (phW k f q) (s.map fun z=>(z,10)) n i o B.ty B.cs) (R:∀b i o,q b=some (i,o)->i<n.heap.size) (U:List AT):
  RepW Z n (phW k f q) (phW k f q) (sW s a v mt r y u c lpC rpC cvC nvC gvC ex U) n:=by
 obtain⟨I,M,h2⟩:=hn.ex
 have F:k≠f:=by
  intro e;subst e;rw[M]at H;have:=(Obj.cells.inj (Option.some.inj H)).2.1;exact absurd this (by decide)
 have P:All2 (relC Z (phW k f q) (s.map fun z=>(z,10)) n) (Mx a v mt r y u lpC rpC cvC nvC gvC) (.bool a::I++[Y,.int .i64 mt,lp,.int .i64 r,rp,.int .i64 y,gv,.int .i64 v,S,.int .i64 u]):=by
  have hx:All2 (relC Z (phW k f q) (s.map fun z=>(z,10)) n) (bJ true 0 8) I:=by
   rw[<-h8]
   exact sL s I 0 _ h2 O fun j z hz=>by rw[Nat.zero_add,getElem?_map,hz];rfl
  exact All2.append (show All2 (relC Z (phW k f q) (s.map fun z=>(z,10)) n) (.sbool a::bJ true 0 8) (.bool a::I)from⟨rfl,hx⟩) ⟨hc,rfl,hl,rfl,hr,rfl,hg,rfl,hm,rfl,trivial⟩
 have s0:Seg Z (phW k f q) (s.map fun z=>(z,10)) n k 0 190 (Mx a v mt r y u lpC rpC cvC nvC gvC):=⟨[],_,[],by simpa using M,rfl,P⟩
 have s6:Seg Z (phW k f q) (s.map fun z=>(z,10)) n f 0 143 [.sint .i64 c]:=⟨[],[.int .i64 c],[],by simpa using H,rfl,rfl,trivial⟩
 have g:∀b B,look (sW s a v mt r y u c lpC rpC cvC nvC gvC ex U).boxes b=some B->(b=0/\B=yF a v mt r y u lpC rpC cvC nvC gvC)\/(b=6/\B=uH c)\/look ex b=some B:=by
  intro b B h;simp only[sW,sWn,look]at h
  cases J:(0==b)with
  |true=>
   rw[J]at h;simp only[cond_true,Option.some.injEq]at h;exact Or.inl ⟨(show 0=b by simpa using J).symm,h.symm⟩
  |false=>
   rw[J]at h;simp only[cond_false]at h
   cases L:(6==b)with
   |true=>
    rw[L]at h;simp only[cond_true,Option.some.injEq]at h;exact Or.inr (Or.inl ⟨(show 6=b by simpa using L).symm,h.symm⟩)
   |false=>
    rw[L]at h;exact Or.inr (Or.inr h)
 refine Wv rfl ?_ ?_ (fun b O=>aV7 k f q O) ?_
 ·intro b B N
  rcases g b B N with⟨rfl,rfl⟩|⟨rfl,rfl⟩|h
  ·exact⟨rfl,rfl,k,0,rfl,s0⟩
  ·exact⟨rfl,rfl,f,0,rfl,s6⟩
  ·obtain⟨X,g2,_,i,o,p,_,_,g4⟩:=l b B h;exact⟨X,g2,i,o,p,g4⟩
 ·intro b C B A T o o' N x E d
  rcases g b B N with⟨rfl,rfl⟩|⟨rfl,rfl⟩|h
  ·rw[aTg]at E;cases E
   rcases g C A x with⟨rfl,rfl⟩|⟨rfl,rfl⟩|h'
   ·exact Or.inl rfl
   ·rw[aTh]at d;cases d;exact absurd rfl F
   ·obtain⟨_,_,_,i,o,p,D,_⟩:=l C A h';rw[d]at p;cases p;exact absurd rfl D
  ·rw[aTh]at E;cases E
   rcases g C A x with⟨rfl,rfl⟩|⟨rfl,rfl⟩|h'
   ·rw[aTg]at d;cases d;exact absurd rfl F
   ·exact Or.inl rfl
   ·obtain⟨_,_,_,i,o,p,_,D,_⟩:=l C A h';rw[d]at p;cases p;exact absurd rfl D
  ·obtain⟨_,_,W,i,o,p,D,g6,_⟩:=l b B h;rw[E]at p;cases p
   rcases g C A x with⟨rfl,rfl⟩|⟨rfl,rfl⟩|h'
   ·rw[aTg]at d;cases d;exact absurd rfl D
   ·rw[aTh]at d;cases d;exact absurd rfl g6
   ·exact Or.inr ⟨W,(l C A h').2.2.1⟩
 ·intro b T o h;unfold phW at h;split at h
  ·cases h;exact gE M
  ·split at h
   ·cases h;exact gE H
   ·split at h
    ·exact R b T o h
    ·cases h
variable {I:LI}{s:AS}
theorem aOx {g:World}{D:Nat}{zs:LN}{ns:LV}{hs:Bool}{uns lr rr pl c:Int}{lpC rpC gvC cvC nvC:AC}(A:RepW Z n (phW k D q) I s g)(h0:look s.boxes 0=some (yF hs uns mt lr rr pl lpC rpC cvC nvC gvC))(h6:look s.boxes 6=some (uH c))(hk:n.shape? k=some (190,27))(hf:n.shape? D=some (143,1))(h8:zs.length=8)(hz:∀(j:Nat) (z:Int),zs[j]?=some z->∃b,s.nums[j]?=some (z,b)):
  (∃lp rp gv S X,NodeAt g k zs hs uns mt lr rr pl lp rp gv S X/\relC Z I s.nums g lpC lp/\relC Z I s.nums g rpC rp/\relC Z I s.nums g gvC gv/\relC Z I s.nums g cvC S/\relC Z I s.nums g nvC X)/\g.heap[D]?=some (.cells #[.int .i64 c] 143 (0,0)):=by
 have p0:=A.base 0 (k,0) rfl;have p6:=A.base 6 (D,0) rfl;constructor
 ·obtain⟨k',o,x,a,l,B,p,M,E⟩:=A.box 0 _ h0;rw[p0]at B;cases B;have i:x=[]:=List.length_eq_zero_iff.1 M;subst i;have d:=A.on.shape hk;unfold World.shape? at d;rw[p]at d;simp only[Option.some.injEq,Prod.mk.injEq,List.size_toArray,nil_append,List.length_append]at d;have F:=E.len;have C:(yF hs uns mt lr rr pl lpC rpC cvC nvC gvC).cs.length=27:=rfl;have f:l=[]:=List.length_eq_zero_iff.1 (by omega);subst f;simp only[nil_append,List.append_nil]at p;have r:All2 (relC Z I s.nums g) (.sbool hs::bJ true 0 8++[cvC,.sint .i64 mt,lpC,.sint .i64 lr,rpC,.sint .i64 rr,gvC,.sint .i64 uns,nvC,.sint .i64 pl]) a:=E
  match a,r,F,p with
  |y::a,⟨v,U⟩,F,p=>
   have W:a.length=26:=by rw[C]at F;simp at F;omega
   have e:a=a.take 16++a.drop 16:=(List.take_append_drop 16 a).symm
   have ga:All2 (relC Z I s.nums g) (bJ true 0 8) (a.take 16):=by
    have:=U.take 16
    simpa[bJ]using this
   have gb:=U.drop 16;have u:All2 (relC Z I s.nums g) [cvC,.sint .i64 mt,lpC,.sint .i64 lr,rpC,.sint .i64 rr,gvC,.sint .i64 uns,nvC,.sint .i64 pl] (a.drop 16):=gb;have hold:aU true g zs (a.take 16):=Mi zs 0 _ (by rw[h8];exact ga) (by simpa using hz);have v:y=.bool hs:=v
   match hd:a.drop 16,u with
   | [a0,a1,N,Y,O,a5,P,a7,R,a9],u=>
    obtain⟨b0,b1,b2,H,b4,b5,b6,J,b8,L,_⟩:=u;have b1:a1=.int .i64 mt:=b1;have H:Y=.int .i64 lr:=H;have b5:a5=.int .i64 rr:=b5;have J:a7=.int .i64 uns:=J;have L:a9=.int .i64 pl:=L;refine⟨N,O,P,a0,R,⟨a.take 16,?_,hold⟩,b2,b4,b6,b0,b8⟩
    have T:a=a.take 16++[a0,.int .i64 mt,N,.int .i64 lr,O,.int .i64 rr,P,.int .i64 uns,R,.int .i64 pl]:=by
     rw[<-b1,<-H,<-b5,<-J,<-L,<-hd];exact e
    rw[p,v];generalize a.take 16=t at T;subst T;rfl
 ·obtain⟨k',o,x,a,l,B,p,M,E⟩:=A.box 6 _ h6;rw[p6]at B;cases B;have i:x=[]:=List.length_eq_zero_iff.1 M;subst i;have d:=A.on.shape hf;unfold World.shape? at d;rw[p]at d;simp only[Option.some.injEq,Prod.mk.injEq,List.size_toArray,nil_append,List.length_append]at d;have r:All2 (relC Z I s.nums g) [.sint .i64 c] a:=E
  match a,r with
  | [y],⟨v,_⟩=>
   have v:y=.int .i64 c:=v
   have f:l=[]:=by have:=d.2;simpa using this
   subst f;rw[p,v];rfl
  |_::_::_,⟨_,h⟩=>exact h.elim
theorem NodeAt.shape {n:World}{k:Nat}{zs:LN}{hs:Bool}{uns mt lr rr pl:Int}{lp rp gv Y d:Value}(h:NodeAt n k zs hs uns mt lr rr pl lp rp gv Y d)(h8:zs.length=8):n.shape? k=some (190,27):=by
 obtain⟨e,a,b⟩:=h.ex;have:=Gb zs e b;unfold World.shape?;rw[a];simp;omega
theorem Zq {w:Nat}{c:Int}(h:n.heap[w]?=some (.cells #[.int .i64 c] 143 (0,0))):n.shape? w=some (143,1):=by
 unfold World.shape?;rw[h];rfl
theorem Qe {g:World}{d:Nat}(a:RepW Z n (phW k d q) I s g)(i:s.dirty.all (fun b=>b==0||b==6)=true):Chg n g [k,d]:=by
 refine⟨a.on,fun j l f=>a.low j l fun b h o e=>?_⟩;have:=List.all_eq_true.1 i b h;simp only[Bool.or_eq_true,beq_iff_eq]at this
 rcases this with rfl|rfl
 ·rw[a.base 0 (k,0) rfl]at e;cases e;exact f (by simp)
 ·rw[a.base 6 (d,0) rfl]at e;cases e;exact f (by simp)
variable {f:PH}
theorem Chg.below {b:World}{b0:Nat}(h:Chg w b f)(d:b0<=w.heap.size)(a:∀k∈f,b0<=k):Below b0 w b:=
 ⟨h.on.os,h.on.tape,h.on.output,h.on.size,fun k g=>h.low k (by omega) fun e=>by have:=a k e;omega⟩
def Gp (s:AS):List (K (List AT))->Option (TypeId×TypeId×TypeId×AT×AT×Option Tmp×List (K (List AT)))
 |.ops all (i::a)::b=>(all[i]?).bind fun o=>
  match gd all s.tmps o with
  |.yes=>match o.op with
   |.call { callee:=.builtin .append,args:=args,argTypes:=ts}=>match ts.toList,args.toList with
    | [t,d],[x,y]=>some (t,d,o.type,iY s.tmps x,iY s.tmps y,o.dst,.ops all a::b)
    |_,_=>none
   |_=>none
  |_=>none
 |_=>none
variable {R:NN}{φ:LI}
theorem aPj {L:fG}{a:Act}{b:World}{N ks2:List (K (List AT))}{p:List (K Act)}{t t' ty:TypeId}{sv xv:AT}{dst:Option Tmp}(h:Gp s N=some (t,t',ty,sv,xv,dst,ks2))(r:noFr N=true){S:LI}{l:LV}{J:World}(M:SR L S l J N p)(I:Rep L n q φ s a b)
  (H:∀U W,relT L φ s.nums b sv U->relT L φ s.nums b xv W->∃v E,(Builtin.append_ #[t,t'] ty #[U,W]).run L.P b=.ok v E/\∀g,noFr ks2=true->(∀D B A,SR L D B A ks2 g)->gC L.P R g .normal (a.put dst v) E):gC L.P R p .normal a b:=by
 unfold Gp at h;split at h
 ·rename_i all i j O;obtain⟨o,ho,k⟩:=aT h;split at k
  ·rename_i hg;split at k
   ·rename_i args ts F;split at k
    ·rename_i t0 ak x y X Y;cases k
     match p,M with
     |.ops d r'::f,⟨q1,q2,z⟩=>
      subst q1 q2;show wpOps L.P d (gC L.P R f) (i::j) a b;rw[wpOps_cons];have T:=Qn (all:=d) (o:=o) I.tmps;rw[hg]at T
      have ea:args=#[x,y]:=by apply Array.toList_inj.1;rw[Y]
      have et:ts=#[t,t']:=by apply Array.toList_inj.1;rw[X]
      subst ea et;obtain⟨v,E,r1,r2⟩:=H _ _ (uF I.tmps x) (uF I.tmps y);unfold wpOp;simp only[ho];rw[if_pos T];refine Or.inl ?_;unfold Oper.wp
      have r3:(execOp a.eval o).run L.P b=.ok (.value v) E:=by
       unfold execOp;rw[F];show((do pure (Next.value (<-Builtin.append_ #[t,t'] o.type (#[x,y].map a.eval))):Sem Next).run L.P b)=_
       have e:#[x,y].map a.eval=#[a.eval x,a.eval y]:=by simp
       rw[e,Sem.run_bind,r1];rfl
      rw[r3]
      have u:noFr O=true:=by simpa[noFr]using r
      exact r2 (.ops d j::f) (by simpa[noFr]using r) fun D B A=>⟨rfl,rfl,SR.any u z⟩
    ·cases k
   ·cases k
  ·cases k
 ·cases h
def RowOf (w:World)(e:TypeId)(f:LB)(v:Value)(g:ON):Prop:=
 (v=.slice none 0 0/\f=[]/\g=none)\/∃b d,∃a:LB,g=some b/\v=.slice (some ⟨b,0,none⟩) f.length d/\w.heap[b]?=some (.cells (f++a).toArray e (0,0))/\f.length<=d/\d<=f.length+a.length
theorem aHP (z:Array Value)(n:Nat):(Builtin.zeroCells z n).size=n*z.size:=by
 simp[Builtin.zeroCells]
theorem aSd {bt:List TypeId}{P:Program}{t t' e ty:TypeId}{i:TypeInfo}{J:Value}(hu:P.underlying t=some (.slice e))(E:P.underlying t'=some (.slice e))(D:iR P e=some 1)(hi:P.info? e=some i)(O:i.bytes<=1000000)(hz:∀n,(zeroValue e).run P n=.ok J n)(X:J.cells.size=1)(N:bt.contains e=true)
   {d:LB} {g xv x:Value} {C:ON} (B:RowOf n e d g C) {xc:Nat} {q F:LB} {aa:TypeId} (hx:n.heap[k]?=some (.cells (q++[x]++F).toArray aa (0,0))) (W:xv=.slice (some ⟨k,q.length,none⟩) 1 xc) (U:One x) (ad:d.length<=99999):
  ∃H f b,(Builtin.append_ #[t,t'] ty #[g,xv]).run P n=.ok H f/\RowOf f e (d++[x]) H (some b)/\(C=some b\/n.heap.size<=b)/\On bt n f/\∀j,j<n.heap.size->j≠b->f.heap[j]?=n.heap[j]?:=by
 subst W
 have y:∀f,f.heap=n.heap->(Builtin.firstCells 1 1 (.slice (some ⟨k,q.length,none⟩) 1 xc)).run P f=.ok #[x] f:=fun f T=>Yy (ys:=[x]) (by rw[T];exact hx) rfl
 have u:∀(L:Option Addr) (h:Nat),g=.slice L d.length h->¬d.length+1<=h->(∀f,f.heap=n.heap->(Builtin.firstCells 1 d.length (.slice L d.length h)).run P f=.ok d.toArray f)->∃H f b,(Builtin.append_ #[t,t'] ty #[g,.slice (some ⟨k,q.length,none⟩) 1 xc]).run P n=.ok H f/\RowOf f e (d++[x]) H (some b)/\(C=some b\/n.heap.size<=b)/\On bt n f/\∀j,j<n.heap.size->j≠b->f.heap[j]?=n.heap[j]?:=by
  intro L h hv hc hold;obtain⟨p,c1,c2⟩:=aKa (ty:=ty) hu E D hi O hz hold y hc (by omega);subst hv;refine⟨_,_,n.heap.size,c2,Or.inr ⟨n.heap.size,p,(Builtin.zeroCells J.cells (p-(d.length+1))).toList,rfl,by simp,?_,by simpa using c1,?_⟩,Or.inr (le_refl _),⟨rfl,rfl,rfl,by simp,fun j o r=>Or.inl ?_⟩,fun j r _=>?_⟩
  ·rw[Array.getElem?_push_size];congr 2;apply Array.toList_inj.1;simp
  ·have hl:=aHP J.cells (p-(d.length+1));rw[X]at hl;simp[hl];omega
  ·obtain⟨R,S⟩:=Array.getElem?_eq_some_iff.1 r;rw[Array.getElem?_push_lt R,S]
  ·rw[Array.getElem?_push_lt r,Array.getElem?_eq_getElem r]
 rcases B with⟨M,I,z⟩|⟨b,h,l,M,I,z,h4,h5⟩
 ·subst I
  exact u none 0 M (by simp) fun f _=>aDK
 ·by_cases hc:d.length+1<=h
  ·subst I;have Y:=aHR (ty:=ty) (a:=⟨b,0,none⟩) (sLen:=d.length) hu E D (y n rfl) hc;obtain⟨f,s1,s⟩:=Ts (P:=P) d.length [x] 0 n (d++l) z (by simp;omega) (by simpa using U)
   have e1:(⟨b,0,none⟩:Addr).add (d.length*1)=⟨b,d.length,none⟩:=by rw[Fy];simp
   rw[e1,show(#[x]:Array Value).toList=[x]from rfl,s1]at Y;simp only[Result.andThen_ok]at Y;rw[Nat.add_zero,Oz _ _ _ (by simp;omega)]at s
   have t1:(d++l).take d.length=d:=by simp
   have t2:(d++l).drop (d.length+[x].length)=l.drop 1:=by simp
   rw[t1,t2]at s;refine⟨_,f,b,Y,Or.inr ⟨b,h,l.drop 1,rfl,by simp,s.bV,by simpa using hc,by simp;omega⟩,Or.inl M,⟨s.os,s.tape,s.output,by rw[s.size];exact le_refl _,fun j o r=>?_⟩,fun j _ r=>s.others j r⟩
   by_cases A:j=b
   ·subst A;rw[z]at r;cases r;refine Or.inr ⟨N,?_⟩;unfold World.shape?;rw[s.bV,z];simp;omega
   ·exact Or.inl (by rw[s.others j A];exact r)
  ·exact u _ h I hc fun f T=>Yy (pre:=[]) (ys:=d) (by rw[T];exact z) (by simp)
def qE (d:Nat)(p:Oper->Bool):Code->List (K (List AT))->Option (List (K (List AT)))
 |.region _ ops false,e=>(Ax p ops.toList 0).map fun j=>.ops ops ((List.range ops.size).drop (j+d))::e
 |.seq a b,e=>match qE d p a (.code b::e)with|some r=>some r|none=>qE d p b e
 |.block id b,e=>qE d p b (.bV id::e)
 |.cond _ a b,e=>match qE d p a e with|some r=>some r|none=>qE d p b e
 |_,_=>none
def dY (p:Oper->Bool)(fn:Func):List (K (List AT)):=(qE 0 p (aE fn) [.top fn]).getD []
def Ku (d a:PH)(f:Nat)(e b:PH)(g:Nat)(s:AS):Option (AS×List Prop):=match eX d a f [] s with|some r=>some r|none=>eX e b g [] s
def De (f:LI)(ns:AS->Option (AS×List Prop)):Prop:=∀e φ s d p a w,ns s=some (d,p)->Holds p->Rep Z e f φ s a w->∃b,Rep Z e f b d a w
variable {w:Nat}
theorem jD {j:PH}{k:PH}(e:∀b x,q b=some x->f.contains b=true):De q (eX f j w k):=fun n φ s l p a d h g i=>⟨_,aNW h g e i⟩
theorem aVW {g:PH}{n i:PH}(o:∀b x,q b=some x->f.contains b=true)(u:∀b x,q b=some x->n.contains b=true):De q (Ku f g w n i k):=by
 intro y φ s v p a d h j l;unfold Ku at h;split at h
 ·rename_i r e;cases h;exact⟨_,aNW e j o l⟩
 ·exact⟨_,aNW h j u l⟩
theorem cC {sp:Spec}{h:FF}{stp:List (K (List AT))->Bool}(u:SpecOk Z n q sp)(I:bU Z h){rb:PH}{ns:AS->Option (AS×List Prop)}(T:∀b x,q b=some x->f.contains b=true)(J:De q ns){d:Nat}{U:List (K (List AT))}{xt:XT}
  (ht:(run Z sp h (aK Z sp) stp d U s).bind (eD (eX f [] w rb) ns)=some xt) (G:AT->AS->Prop) (H:List (K (List AT))->AS->Prop) (L:xt.ok G H)
  (hG:∀r o j v l,G r o->(∀b,r=.val (.one (.bool b))\/r=.val (.one (.sbool b))->v=.bool b)->(∀k z,r=.val (.one (.sint k z))\/r=.val (.one (.int k z))->v=.int k z)->RepW Z n q j o l->R (.returned v) l)
  (hH:∀i o,H i o->noFr i=true/\∀(g:List (K Act)) (j:LI) (a:Act) (l:World),(∀C B Y,SR Z C B Y i g)->Rep Z n q j o a l->gC Z.P R g .normal a l):
  ∀(g:List (K Act)) (φ:LI) (a:Act) (e:World),SR Z φ s.nums e U g->Rep Z n q φ s a e->gC Z.P R g .normal a e:=by
 intro g φ a e O hr;obtain⟨tr,h1,h2⟩:=aT ht;refine sI u I (pN mixed u) _ _ ?_ ?_ d U s tr h1 (Lx h2 L) g φ a e O hr
 ·rintro i o⟨W,p,D,E,F⟩ A j a' l y M;obtain⟨hf,hk⟩:=hH i W F;obtain⟨X,N⟩:=J _ _ _ _ _ _ _ D E M;exact hk A X a' l (fun C B Y=>SR.any hf y) N
 ·rintro r o j v l⟨W,p,D,E,F⟩ hv S;refine hG r W _ v l F ?_ ?_ (aJH D E T S)
  ·rintro b(rfl|rfl)<;>exact hv
  ·rintro k z(rfl|rfl)<;>exact hv
abbrev P0:AT:=.val (.one (.ptr 0 0))
abbrev P6:AT:=.val (.one (.ptr 6 0))
abbrev litT (v:Value):AT:=.val (.one (.lit v))
abbrev cB (z:Int):AT:=.val (.one (.sint .i64 z))
theorem uE {ν:LV}{w:World}{b:Nat}{x:Value}(a:φ b=some (k,0))(h:dW Z φ ν w (.one (.ptr b 0)) x):x=ptrB k:=by
 obtain⟨f,o,d,e⟩:=h;rw[a]at d;cases d
 simpa[ptrB]using e
end Ab
namespace Rf
open Nw
def dX (n:Nat)(v:V):Prop:=Bits n v.1/\Bits n v.2
theorem dX.mono {n m:Nat}{S:V}(h:dX n S)(a:n<=m):dX m S:=⟨eJ h.1 a,eJ h.2 a⟩
variable {a b:Nat}
theorem aLk {m:Mt}{S:V}(e:dB a m)(hv:dX b S):dX (a+b+1) (eZ m S):=⟨pM (fY e.a hv.1) (fY e.b hv.2),pM (fY e.c hv.1) (fY e.d hv.2)⟩
theorem aQU {m:Mt}{S:V}(e:dB a m)(hv:dX b S):dX (a+b+1) (fI m S):=⟨pM (fY e.d hv.1) (fY (yX e.b) hv.2),pM (fY e.a hv.2) (fY (yX e.c) hv.1)⟩
theorem Fu {n:Nat}{t:List V}{x F:V}(f:∀v∈t,dX n v)(d:dX a x)(e:dX b F):dX (n+(a+b)+3) (bM t x F):=by
 unfold bM;split
 ·rename_i p q r s;have g:=f p (by simp);have h:=f q (by simp);have j:=f r (by simp);have k:=f s (by simp)
  exact ⟨pM (pM (pM (fY g.1 (fY d.1 e.1)) (fY h.1 (fY d.1 e.2))) (eJ (fY j.1 (fY d.2 e.1)) (by omega))) (eJ (fY k.1 (fY d.2 e.2)) (by omega)),
   pM (pM (pM (fY g.2 (fY d.1 e.1)) (fY h.2 (fY d.1 e.2))) (eJ (fY j.2 (fY d.2 e.1)) (by omega))) (eJ (fY k.2 (fY d.2 e.2)) (by omega))⟩
 ·exact⟨by unfold Bits;simp;exact pow_pos (by decide),by unfold Bits;simp;exact pow_pos (by decide)⟩
theorem aKu {m:Mt}(e:dB a m):dX a (eZ m (1,0))/\dX a (eZ m (0,1)):=by
 have f:eZ m (1,0)=(m.a,m.c):=by simp[eZ,Mt.at1,Mt.at2]
 have g:eZ m (0,1)=(m.b,m.d):=by simp[eZ,Mt.at1,Mt.at2]
 rw[f,g];exact⟨⟨e.a,e.c⟩,e.b,e.d⟩
theorem aO2:dX 6001 ((1,0):V)/\dX 6001 ((0,1):V):=by grind [dX,aY,eK]
section
variable {ns:List Nd} {rho:NU} {c i:Nat} {n:Nd}
theorem Tz (h:Inv ns rho c)(d:aZ ns rho c i n){sd:Nat}(f:n.args[sd]?=some a){e:V×V}(g:ends ns n sd=some e):dX 6001 e.1/\dX 6001 e.2:=by
 obtain⟨m,x,r,b,k,l,o⟩:=Fo h d f;rw[o]at g;cases g;have j:=h.at' a x b;have p:=j.lW r m l;have u:=d.rd sd a r x f k b;have s:=j.iP;obtain⟨k1,q⟩:=aKu p;exact⟨k1.mono (by omega),q.mono (by omega)⟩
theorem aME (h:Inv ns rho c)(p:aZ ns rho c i n){D:List V}(f:bare ns n=some D):∀v∈D,dX 60000000 v:=by
 have g:=p.tb;have d:∀v∈n.t,dX 13000 v:=g;unfold bare at f
 cases p.shp with
 |fK g j B hc=>
  rw[g]at f;cases f;obtain⟨k1,E⟩:=aKu p.iH;have F:=p.ku
  have A:1+n.k*18500<=60000000:=by
   have:n.k*18500<=3000*18500:=Nat.mul_le_mul_right _ (by omega);omega
  intro v hv;simp at hv
  rcases hv with rfl|rfl
  ·exact k1.mono A
  ·exact E.mono A
 |gM v g j B hv=>
  rw[g]at f d;cases f;intro u o;exact(d u o).mono (by decide)
 |kU v w a g j B=>
  rw[g]at f d;obtain⟨e,s,rfl⟩:=Option.map_eq_some_iff.1 f;obtain⟨b1,b2⟩:=Tz h p (sd:=0) (a:=a) (by rw[j];rfl) s
  have A:dB 13000 ⟨v.1,w.1,v.2,w.2⟩:=⟨(d v (by simp)).1,(d w (by simp)).1,(d v (by simp)).2,(d w (by simp)).2⟩
  intro u o;simp at o
  rcases o with rfl|rfl
  ·exact(aLk A b1).mono (by decide)
  ·exact(aLk A b2).mono (by decide)
 |bin a b v w x y g j B=>
  rw[g]at f d;obtain⟨e,s,C⟩:=Option.bind_eq_some_iff.1 f;obtain⟨r,z,rfl⟩:=Option.map_eq_some_iff.1 C;rw[if_pos (by rw[j];rfl)]at z;obtain⟨b1,b2⟩:=Tz h p (sd:=0) (a:=a) (by rw[j];rfl) s;obtain⟨q,b4⟩:=Tz h p (sd:=1) (a:=b) (by rw[j];rfl) z;intro u o;simp at o
  rcases o with rfl|rfl|rfl|rfl
  ·exact(Fu d b1 q).mono (by decide)
  ·exact(Fu d b1 b4).mono (by decide)
  ·exact(Fu d b2 q).mono (by decide)
  ·exact(Fu d b2 b4).mono (by decide)
 |nest a v w x y g j B H ok=>
  rw[g]at f d;obtain⟨e,s,C⟩:=Option.bind_eq_some_iff.1 f;obtain⟨r,z,rfl⟩:=Option.map_eq_some_iff.1 C;rw[if_neg (by rw[j];simp)]at z;cases z;obtain⟨b1,b2⟩:=Tz h p (sd:=0) (a:=a) (by rw[j];rfl) s;obtain⟨q,b4⟩:=aO2;intro u o;simp at o
  rcases o with rfl|rfl|rfl|rfl
  ·exact(Fu d b1 q).mono (by decide)
  ·exact(Fu d b1 b4).mono (by decide)
  ·exact(Fu d b2 q).mono (by decide)
  ·exact(Fu d b2 b4).mono (by decide)
theorem aJl (h:Inv ns rho c)(a:aZ ns rho c i n){D:List V}(d:corners ns n=some D):∀v∈D,dX 70000000 v:=by
 unfold corners at d;obtain⟨b,e,rfl⟩:=Option.map_eq_some_iff.1 d;intro v hv;rw[List.mem_map]at hv;obtain⟨u,f,rfl⟩:=hv;have g:=a.iP;exact(aQU a.jI (aME h a e u f)).mono (by omega)
end
end Rf
namespace Pg
open Rf Nw
variable {ns:List Nd}{d x:Nd}{a:Nat}
theorem Ut {w:Nat}(e:d.args[w]?=some a)(f:d.read[w]?=some 0)(g:ns[a]?=some x)(b:x.dT[0]?=some one):ends ns d w=some ((1,0),(0,1)):=by
 unfold Rf.ends;rw[e];simp only[Option.bind_some,g,f,b,map_some];rw[Md,Md]
theorem Tg {S F y z:V}:bM [S,F,y,z] (1,0) (1,0)=S/\bM [S,F,y,z] (1,0) (0,1)=F/\bM [S,F,y,z] (0,1) (1,0)=y/\bM [S,F,y,z] (0,1) (0,1)=z:=by
 unfold bM
 refine⟨?_,?_,?_,?_⟩<;>ext<;>simp
theorem Pm (l:List V):l.map (fI one)=l:=by
 conv=>rhs;rw[<-List.map_id l]
 exact List.map_congr_left fun v _=>Gg v
theorem aFx (e:d.t=[])(b:d.part=one)(a:d.told=one):corners ns d=some [(1,0),(0,1)]:=by
 unfold Rf.corners;rw[aGJ e,b,a,map_some,Pm,Md,Md]
variable {S:V}
theorem Zd {F:V}(h:d.t=[S,F])(f:d.args[0]?=some a)(g:d.read[0]?=some 0)(i:ns[a]?=some x)(e:x.dT[0]?=some one)(b:d.told=one):corners ns d=some [S,F]:=by
 unfold Rf.corners;rw[Ux h,Ut f g i e,b,map_some,map_some,Pm];unfold eZ Mt.at1 Mt.at2;simp
theorem Ze {F y z:V}{b:Nat}{j:Nd}(r:d.t=[S,F,y,z])(f:d.args=[a,b])(i:d.read=[0,0])(s:ns[a]?=some x)(k:x.dT[0]?=some one)(h:ns[b]?=some j)(e:j.dT[0]?=some one)(g:d.told=one):corners ns d=some [S,F,y,z]:=by
 unfold Rf.corners;rw[Dj r,Ut (a:=a) (by rw[f];rfl) (by rw[i];rfl) s k,g,Option.bind_some,if_pos (by rw[f];rfl),Ut (a:=b) (by rw[f];rfl) (by rw[i];rfl) h e,map_some,map_some,Pm];obtain⟨l,o,p,q⟩:=@Tg S F y z;simp only[l,o,p,q]
theorem aH6 {F y z:V}(l:d.t=[S,F,y,z])(e:d.args=[a])(k:d.read=[0])(o:ns[a]?=some x)(f:x.dT[0]?=some one)(b:d.told=one):corners ns d=some [S,F,y,z]:=by
 unfold Rf.corners;rw[Dj l,Ut (a:=a) (by rw[e];rfl) (by rw[k];rfl) o f,b,Option.bind_some,if_neg (by rw[e];simp),map_some,map_some,Pm];obtain⟨g,h,i,j⟩:=@Tg S F y z;simp only[g,h,i,j]
variable {D:List V}
theorem aH5 (i:d.t.length=4)(f:corners ns d=some D):D.length=4:=by
 obtain⟨u,v,y,z,e⟩:=four i;unfold Rf.corners at f;obtain⟨b,a,rfl⟩:=Option.map_eq_some_iff.1 f;rw[Dj e]at a;obtain⟨j,k,h⟩:=Option.bind_eq_some_iff.1 a;obtain⟨g,o,rfl⟩:=Option.map_eq_some_iff.1 h;rfl
theorem Iv {d:Int}(a:0<d)(x:Int):x.natAbs<=(d*x).natAbs:=by
 rw[Int.natAbs_mul];exact Nat.le_mul_of_pos_left _ (by omega)
theorem aTe (h:S∈pad D):S∈D\/S=(0,0):=by
 unfold pad at h;split at h
 ·simp at h;exact Or.inr h
 ·simp at h
  rcases h with h|h
  ·exact Or.inl (by simp[h])
  ·exact Or.inr h
 ·simp at h
  rcases h with h|h|h
  ·exact Or.inl (by simp[h])
  ·exact Or.inl (by simp[h])
  ·exact Or.inr h
 ·simp at h
  rcases h with h|h|h|h
  ·exact Or.inl (by simp[h])
  ·exact Or.inl (by simp[h])
  ·exact Or.inl (by simp[h])
  ·exact Or.inr h
 ·exact Or.inl h
theorem eO.bits {cs:List V}{N:Nat}(h:eO D cs)(f:∀v∈D,dX N v):∀v∈cs,v.1.natAbs<2^N/\v.2.natAbs<2^N:=by
 obtain⟨d,a,e⟩:=h.ex;intro v hv
 have g:sc d v∈pad D:=by rw[e];exact List.mem_map_of_mem hv
 have b:dX N (sc d v):=by
  rcases aTe g with h1|h1
  ·exact f _ h1
  ·rw[h1];exact⟨by unfold Bits;simp;exact pow_pos (by decide),by unfold Bits;simp;exact pow_pos (by decide)⟩
 obtain⟨b1,b2⟩:=b;unfold Bits at b1 b2;exact⟨Nat.lt_of_le_of_lt (Iv a v.1) b1,Nat.lt_of_le_of_lt (Iv a v.2) b2⟩
theorem aNO {p q r:Int}(a:0<r):∀(k:Nat) (t:Int),near (r*p) (r*q) k t=near p q k t
 |0,_=>rfl
 |k+1,t=>by
  have e:t*t*(r*p)/(r*q)=t*t*p/q:=by
   rw[show t*t*(r*p)=r*(t*t*p) by grind];exact Int.mul_ediv_mul_of_pos _ _ a
  unfold near;rw[e,aNO a k]
end Pg
namespace Ab
open Rf (Nd Inv aZ)
section
variable {w w':World} {b0 fb:Nat} {own own':Nat->Option Own} {at1 at2:NU} {D:PH} {i:Nat} {n n':Nd} {s:Rf.St} {rho:NU} {c:Nat}
theorem Net.step (h:Net w b0 own at1 fb s)(x:Inv s.nodes rho c){j:List Nd}{cl:Int}(f:∀b,b<s.nodes.length->b≠i->j[b]?=s.nodes[b]?)(q:Pg.Go s.nodes j)(hc:Chg w w' D)(v:zM w own i D)(l:∀k o,k<w.heap.size->own k=some o->o≠.pd i->own' k=some o)(p:∀a,a<s.nodes.length->at2 a=at1 a)(e:w'.heap[fb]?=some (.cells #[.int .i64 cl] 143 (0,0)))(d:∀b m,j[b]?=some m->(b=i\/s.nodes.length<=b)->cK w' b0 own' at2 j b m):Net w' b0 own' at2 fb ⟨j,cl⟩:=by
 refine⟨fun b m r=>?_,e,h.Rr⟩
 by_cases hi:b=i
 ·exact d b m r (Or.inl hi)
 ·by_cases u:b<s.nodes.length
  ·have g:s.nodes[b]?=some m:=by rw[<-f b u hi];exact r
   exact(h.nd b m g).aS hc v hi u q l p (x.at' b m g)
  ·exact d b m r (Or.inr (by omega))
theorem Net.put (h:Net w b0 own at1 fb s)(r:Inv s.nodes rho c)(u:s.nodes[i]?=some n){cl:Int}(g:Pg.Go s.nodes (s.nodes.set i n'))(hc:Chg w w' D)(q:zM w own i D)(f:∀k o,k<w.heap.size->own k=some o->own' k=some o)(a:w'.heap[fb]?=some (.cells #[.int .i64 cl] 143 (0,0)))(d:cK w' b0 own' at1 (s.nodes.set i n') i n'):Net w' b0 own' at1 fb ⟨s.nodes.set i n',cl⟩:=by
 refine h.step (i:=i) r (fun j _ b=>List.getElem?_set_ne (fun e=>b e.symm)) g hc q (fun k o l e _=>f k o l e) (fun _ _=>rfl) a ?_;intro j m b p
 rcases p with rfl|hl
 ·rw[getElem?_set_self (List.getElem?_eq_some_iff.1 u).1]at b;cases b;exact d
 ·have:=(List.getElem?_eq_some_iff.1 b).1;simp at this;omega
structure sD (n n':Nd):Prop where
 pos:n'.pos=n.pos
 t:n'.t=n.t
 args:n'.args=n.args
 op:n'.op=n.op
 aP:n'.aP=n.aP
 nest:n'.nest=n.nest
 p:n'.p=n.p
 q:n'.q=n.q
 terms:n'.terms=n.terms
 x:n'.x=n.x
 fC:n'.fC=n.fC
theorem sD.constant (h:sD n n')(k:Nat):Rf.constant n' k=Rf.constant n k:=by
 unfold Rf.constant;rw[h.op,h.p,h.q,h.terms]
theorem jC.same {w:World}{d:Nat}{v:Int}(h:jC w b0 own at1 i n d v)(a:sD n n')(p:n'.k=n.k):jC w b0 own at1 i n' d v:=by
 obtain⟨q,r,fst,b,e,f,g,j,l,o⟩:=h;refine⟨q,r,fst,b,by rw[a.op];exact e,f,g,j,?_,?_⟩
 ·rw[a.op,a.args,a.t];exact l
 ·rw[a.op,p,a.x,a.fC];exact o
theorem Blk.pI (C:∀k o,k<w.heap.size->own k=some o->own' k=some o){v z p1 y u R p3 q3 mt Y:Int}{gv g X:Value}(h:Blk w b0 own at1 i n v z p1 y u R p3 q3 mt Y gv g X)(E:sD n n')(hc:Chg w w' D)(hD:zM w own i D)(hI:Inv s.nodes rho c)(hn:s.nodes[i]?=some n){r0 s0 r1 s1 r2 s2 r3 s3 B:Int}{gv':Value}(M:n'.k=n.k/\B=mt\/n.t=[]/\n'.k=n.k+1/\B=mt+1)
  (T:NodeAt w' (at1 i) [r0,s0,r1,s1,r2,s2,r3,s3] (!n'.pos) (fM n') B (hY n') (gB n') Y (eW at1 (lArg n')) (eW at1 (rArg n')) gv' g X) (hg:gD w' b0 own' i n'.out gv'):Blk w' b0 own' at1 i n' r0 s0 r1 s1 r2 s2 r3 s3 B Y gv' g X:=by
 have hN:=hI.at' i n hn;refine⟨T,hg,?_,?_,?_⟩
 ·intro q;rw[E.t]at q;obtain⟨J,cb,L,O⟩:=h.fK q;refine⟨?_,cb,L,(O.aS hc.on).of E.constant⟩
  rcases M with⟨k1,W⟩|⟨_,k1,W⟩
  ·rw[k1,W];exact J
  ·rw[k1,W,J];simp
 ·intro q;rw[E.t]at q;exact h.oO q
 ·refine⟨fun e=>h.nst.1 (by rw[<-E.nest];exact e),fun U=>?_⟩;obtain⟨nb,J,⟨cs,L⟩,O⟩:=h.nst.2 (by rw[<-E.nest];exact U);refine⟨nb,J,⟨cs,hc.at L ?_⟩,fun q I=>?_⟩
  ·intro M
   rcases hD nb M _ _ _ L with⟨e,_⟩|⟨e,_⟩|e<;>exact absurd e (by decide)
  ·rw[E.t]at q;rw[E.args]at I
   have P:n'.k=n.k:=by
    rcases M with⟨k1,_⟩|⟨e,_⟩
    ·exact k1
    ·rw[e]at q;simp at q
   have F:∃a,n.args=[a]/\Rf.jO s.nodes rho c i n a:=by
    cases hN.shp with
    |fK r _ _ _=>rw[r]at q;simp at q
    |gM f r _ _ _=>rw[r]at q;simp at q
    |kU f d a r _ _=>rw[r]at q;simp at q
    |bin a b f d x p r A _=>rw[A]at I;simp at I
    |nest a f d x p r A _ _ ok=>exact⟨a,A,ok⟩
   obtain⟨a,A,ok⟩:=F;obtain⟨base,ck,_,_,_,_,_,hx⟩:=ok.ex
   have S:∀a,a∈n.args->a<s.nodes.length:=by
    intro a I;obtain⟨j,hj,e⟩:=getElem_of_mem I;exact(hN.arg j a (by rw[getElem?_eq_getElem hj,e])).1
   refine((O q I).aS (own':=own') (at2:=at1) (N:=s.nodes.length) hc hD (fun k o l e _=>C k o l e) (fun _=>Or.inr fun k l e=>C k _ l e) (fun _ _=>rfl) (fun a e=>S a (mem_of_getElem? e)) ?_ ?_).same E P
   ·intro H x e;obtain⟨x',g1,g2,_⟩:=hx H;rw[g1]at e;cases e;exact g2
   ·intro H sq e;obtain⟨x',g1,g2,_,_,g5⟩:=hx H;exact(g5 sq e).1
end
end Ab
namespace Rf
open Nw
def nextP (ns:List Nd)(n:Nd):Option (Option Int):=if n.aP then some none else next ns n
noncomputable def step1 (f:Nat)(s:St)(i:Nat)(n:Nd):Option (St×Bool):=
 (nextP s.nodes n).bind fun o=>match o with
 |some c=>if s.clock-1<0 then some (⟨s.nodes,s.clock-1⟩,false)else(give s i n c).map fun a=>(a,true)
 |none=>reads (sym f) s i n
theorem aK9 (f:Nat)(s:St)(i j:Nat):sym (f+1) s i j=(s.nodes[i]?).bind fun n=>match n.out[j]? with
  |some c=>some (s,some c)
  |none=>(step1 f s i n).bind fun x=>if x.2 then sym f x.1 i j else some (x.1,none):=by
 rw[sym]
 cases s.nodes[i]? with
 |none=>rfl
 |some n=>
  simp only[Option.bind_some]
  cases n.out[j]? with
  |some c=>rfl
  |none=>
   simp only;unfold step1 nextP
   cases (if n.aP=true then some none else next s.nodes n)with
   |none=>rfl
   |some o=>
    simp only[Option.bind_some]
    cases o with
    |none=>rfl
    |some g=>
     simp only;split
     ·rfl
     ·cases give s i n g with
      |none=>rfl
      |some a=>rfl
section
variable {ns:List Nd} {rho:NU} {c i:Nat} {n:Nd}{s:St}
theorem aF0 (o:s.clock=(c:Int))(N:c<=3000)(h:Inv s.nodes rho c)(E:s.nodes[i]?=some n)(Y:n.t≠[])(M:nextP s.nodes n=some none):
  ∃j A z p a r,side s.nodes n=some j/\wide s i n j=some A/\A.clock=(c:Int)/\Inv A.nodes z c/\hP s.nodes rho i A.nodes z/\A.nodes[i]?=some p/\p.args[j]?=some a/\p.read[j]?=some r/\p.out=n.out/\(p.aP=true->j=0)/\
   ((∃v w,n.t=[v,w]/\n.args=[a]/\j=0/\A=s/\p=n)\/(∃v w x y,n.t=[v,w,x,y]/\j<n.args.length/\j<=1/\A=s/\p=n/\n.aP=false)\/(∃a0 v w x y,n.t=[v,w,x,y]/\n.args=[a0]/\j=1/\r=0/\n.aP=false/\jO s.nodes rho c i n a0/\n.nest=true/\∃r0 d,n.read=[r0]/\deeper s.nodes n=some d/\a=d.2/\p={n with args:=n.args++[d.2],read:=n.read++[0]}/\put d.1 i p=some A.nodes)):=by
 unfold nextP at M;have q:=h.at' i n E
 cases q.shp with
 |fK f g l hc=>exact absurd f Y
 |gM v f g l hv=>
  rw[l]at M;simp only[false_eq_true,if_false]at M;exact absurd M (aGn f g q.fst hv)
 |kU v w a f g l=>
  obtain⟨r,H⟩:∃r,n.read=[r]:=List.length_eq_one_iff.1 (by rw[q.len,g];rfl);refine⟨0,s,rho,n,a,r,aK6 f,?_,o,h,hP.refl _ _ _,E,by rw[g];rfl,by rw[H];rfl,rfl,fun _=>rfl,Or.inl ⟨v,w,f,g,rfl,rfl,rfl⟩⟩;unfold wide;rw[if_neg (by rw[g];simp)]
 |bin a b v w x y f g l=>
  obtain⟨j,k,D⟩:=Uz h q
  have R:j<n.args.length:=by rw[g];simp;omega
  refine⟨j,s,rho,n,n.args[j],n.read[j]'(by rw[q.len];exact R),k,?_,o,h,hP.refl _ _ _,E,getElem?_eq_getElem _,getElem?_eq_getElem _,rfl,fun e=>(by rw[l]at e;cases e),Or.inr (Or.inl ⟨v,w,x,y,f,R,D,rfl,rfl,l⟩)⟩;unfold wide;rw[if_neg (by omega)]
 |nest a v w x y f g l F ok=>
  obtain⟨r,H⟩:∃r,n.read=[r]:=List.length_eq_one_iff.1 (by rw[q.len,g];rfl);obtain⟨j,k,D⟩:=Uz h q
  by_cases hz:j=0
  ·subst hz;refine⟨0,s,rho,n,a,r,k,?_,o,h,hP.refl _ _ _,E,by rw[g];rfl,by rw[H];rfl,rfl,fun _=>rfl,Or.inr (Or.inl ⟨v,w,x,y,f,by rw[g];simp,by omega,rfl,rfl,l⟩)⟩;unfold wide;rw[if_neg (by rw[g];simp)]
  ·have P:j=1:=by omega
   subst P
   have O:¬(n.read=[0]/\n.out=[]):=by
    rintro⟨k1,k2⟩;rw[aGz h q f g F ok.first ok.pos k1 k2]at k;simp at k
   obtain⟨I,J,d,n',S,w2,w3,T,C⟩:=aLn (cl:=s.clock) h N E f g l ok O;have B:=S;unfold wide at B;rw[if_pos (by rw[g];rfl)]at B;obtain⟨L,d1,d2⟩:=Option.bind_eq_some_iff.1 B;obtain⟨ae,d3,U⟩:=Option.map_eq_some_iff.1 d2;cases U
   have u:I[i]?=some {n with args:=n.args++[L.2],read:=n.read++[0]}:=by
    unfold put at d3;split at d3
    ·rename_i X;cases d3;exact getElem?_set_self X.2
    ·cases d3
   have W:d=L.2:=by
    rw[T]at u;have:=congrArg Nd.args (Option.some.inj u);rw[C]at this;simp at this;exact this
   subst W;exact⟨1,⟨I,s.clock⟩,J,n',L.2,0,k,S,o,w2,w3,T,by rw[C];simp[g],by rw[C];simp[H],by rw[C],fun e=>(by rw[C]at e;simp only at e;rw[l]at e;cases e),Or.inr (Or.inr ⟨a,v,w,x,y,f,g,rfl,rfl,l,ok,F,r,L,H,d1,rfl,C,by rw[C];exact d3⟩)⟩
variable {w:Nat}
theorem aOk (A:s.clock=(c:Int))(E:c<=3000)(h:Inv s.nodes rho c)(B:s.nodes[i]?=some n)(hf:c+rho i+1<=w)(j:nextP s.nodes n=some none):
  ∃N b,reads (sym w) s i n=some (N,b)/\(b=true->∃u U,U<c/\N.clock=(U:Int)/\Inv N.nodes u U/\hP s.nodes rho i N.nodes u/\∃o,N.nodes[i]?=some o/\o.out=n.out):=by
 have hi:=(List.getElem?_eq_some_iff.1 B).1;have C:=h.at' i n B;unfold reads
 by_cases l:n.t=[]
 ·rw[if_pos l]
  cases c with
  |zero=>
   have F:pW n:=by
    cases C.shp with
    |fK l R S hc=>exact hc
    |gM v g R S hv=>rw[l]at g;cases g
    |kU v d a g R S=>rw[l]at g;cases g
    |bin a b v d x y g R S=>rw[l]at g;cases g
    |nest a v d x y g R S B ok=>rw[l]at g;cases g
   have au:=C.ku;obtain⟨m,m1,m2⟩:=Ga F (k:=n.k) (by omega) C.pb C.qb
   have ab:Ok {n with part:=n.part.mul m,k:=n.k+1}:=by
    have j:=C.ok;refine⟨j.t,j.told,j.dT,dB.mono (aHe C.iH m2) ?_,j.p,j.q,j.read,j.out,by simp only;omega⟩;have:n.k*18500<=3000*18500:=Nat.mul_le_mul_right _ (by omega);omega
   have J:put s.nodes i {n with part:=n.part.mul m,k:=n.k+1}=some (s.nodes.set i {n with part:=n.part.mul m,k:=n.k+1}):=by
    unfold put;rw[if_pos ⟨ab,hi⟩]
   rw[m1,Option.bind_some,J,map_some];refine⟨_,_,rfl,fun e=>?_⟩;rw[A]at e;exact absurd e (by decide)
  |succ c=>
   obtain⟨m,o,m1,m2,m3,m4,m5⟩:=aJi h B l;rw[m1,Option.bind_some,m2,map_some];have H:(s.nodes.set i o)[i]?=some o:=getElem?_set_self hi
   have I:o.pos=n.pos:=by
    obtain⟨m,k1,k2,_⟩:=m4.at' i n B;rw[H]at k1;cases k1;exact k2
   exact⟨_,_,rfl,fun _=>⟨rho,c,by omega,by simp only;rw[A];omega,m3,hP.set B I (by rw[m5];exact le_refl _),o,H,m5⟩⟩
 ·rw[if_neg l];obtain⟨sd,T,z,n1,a,r,e1,e2,e3,e4,e5,O,P,X,e9,W,_⟩:=aF0 A E h B l j;rw[e1,Option.bind_some,e2,Option.bind_some,O,Option.bind_some,P,Option.bind_some,X,Option.bind_some];have D:=e4.at' i n1 O;obtain⟨la,ra⟩:=D.arg sd a P;have L:T.nodes[a]?=some T.nodes[a]:=getElem?_eq_getElem la;have av:z i=rho i:=e5.agree i hi;obtain⟨x,x1,x2⟩:=total w T a r z c e3 E e4 _ L (D.rd sd a r _ P X L) (by omega);rw[x1,Option.bind_some];obtain⟨s2,o2⟩:=x
  cases o2 with
  |none=>exact⟨_,_,rfl,fun e=>by cases e⟩
  |some v=>
   obtain⟨aj,c2,y1,y2,y3,y4,o,y5,y6⟩:=x2.ex v rfl;simp only at y2 y3 y4 y5;have aa:s2.nodes[i]?=some n1:=y4.same i n1 O ra;have Y:i<T.nodes.length:=(List.getElem?_eq_some_iff.1 O).1;obtain⟨s3,b,z1,z2⟩:=aFq y2 y3 (by omega) aa P X y5 y6 W;refine⟨s3,b,z1,fun hb=>?_⟩;obtain⟨M,c3,q1,q2,q3,q4,n3,q5,q6⟩:=z2 hb;refine⟨M,c3,by omega,q2,q3,?_,n3,q5,by rw[q6,e9]⟩;exact(e5.trans hi ((y4.up ra).trans Y q4))
theorem aQx {f:Nat}(d:s.clock=(c:Int))(v:c<=3000)(h:Inv s.nodes rho c)(p:s.nodes[i]?=some n)(F:c+rho i+1<=f):
  ∃l b,step1 f s i n=some (l,b)/\(b=true->∃a q,q<c/\l.clock=(q:Int)/\Inv l.nodes a q/\hP s.nodes rho i l.nodes a/\∃k,l.nodes[i]?=some k/\n.out.length<=k.out.length):=by
 have hi:=(List.getElem?_eq_some_iff.1 p).1;have E:=h.at' i n p;unfold step1
 obtain⟨o,j⟩:∃o,nextP s.nodes n=some o:=by
  unfold nextP;split
  ·exact⟨_,rfl⟩
  ·exact qA h E
 rw[j,Option.bind_some]
 cases o with
 |none=>
  obtain⟨l,b,C,D⟩:=aOk d v h p F j;refine⟨l,b,C,fun e=>?_⟩;obtain⟨a,q,k1,x,H,I,k,J,L⟩:=D e;exact⟨a,q,k1,x,H,I,k,J,by rw[L];exact le_refl _⟩
 |some g=>
  have y:n.aP=false:=by
   unfold nextP at j
   cases w:n.aP with
   |false=>rfl
   |true=>rw[w]at j;simp at j
  unfold nextP at j;rw[y]at j;simp only[false_eq_true,if_false]at j;simp only
  cases c with
  |zero=>
   rw[if_pos (by rw[d];decide)];exact⟨_,_,rfl,fun e=>by cases e⟩
  |succ c=>
   rw[if_neg (by rw[d];omega)];obtain⟨k,z,A,B,M⟩:=aG3 h p y j;unfold give;rw[z,map_some,map_some];have r:(s.nodes.set i k)[i]?=some k:=getElem?_set_self hi
   have u:k.pos=n.pos:=by
    obtain⟨m,k1,x,_⟩:=B.at' i n p;rw[r]at k1;cases k1;exact x
   exact⟨_,_,rfl,fun _=>⟨rho,c,by omega,by simp only;rw[d];omega,A,hP.set p u (by omega),k,r,by omega⟩⟩
theorem We:∀(f:Nat) (s:St) (i j:Nat) (a:St) (v:Int),sym f s i j=some (a,some v)->∃e,a.nodes[i]?=some e/\e.out[j]?=some v
 |0,s,i,j,a,v,h=>by simp[sym]at h
 |f+1,s,i,j,a,v,h=>by
  rw[aK9]at h;obtain⟨n,g,h⟩:=Option.bind_eq_some_iff.1 h
  cases b:n.out[j]? with
  |some c=>
   rw[b]at h;cases h;exact⟨n,g,b⟩
  |none=>
   rw[b]at h;obtain⟨x,k,h⟩:=Option.bind_eq_some_iff.1 h
   by_cases d:x.2=true
   ·rw[if_pos d]at h;exact We f x.1 i j a v h
   ·rw[if_neg d]at h;cases h
theorem Yz {y:St×Bool}(j:s.nodes[i]?=some n)(h:after s i w=some y):(s.clock<1->y.2=false)/\(1<=s.clock->∃a,settle (s.nodes.set i {n with read:=bump n.read w}) i {n with read:=bump n.read w}=some a/\y=(⟨a,s.clock-1⟩,true)):=by
 unfold after at h;rw[j,Option.bind_some]at h;obtain⟨ns,b,d⟩:=Option.bind_eq_some_iff.1 h
 have e:ns=s.nodes.set i {n with read:=bump n.read w}:=by
  unfold put at b;split at b
  ·cases b;rfl
  ·cases b
 subst e;constructor
 ·intro hc;rw[if_pos (by omega)]at d;cases d;rfl
 ·intro hc;rw[if_neg (by omega)]at d;obtain⟨a,f,g⟩:=Option.map_eq_some_iff.1 d;exact⟨a,f,g.symm⟩
theorem aQl (h:Inv ns rho (c+1))(d:ns[i]?=some n){a r:Nat}{x:Nd}(e:n.args[w]?=some a)(f:n.read[w]?=some r)(g:ns[a]?=some x)(b:r<x.out.length):Inv (ns.set i {n with read:=bump n.read w}) rho c:=((h.tick (show c<=c+1 by omega)).put d (n':={n with read:=bump n.read w}) rfl (le_refl _) (aKl h d e f g b)).2.1
end
end Rf
namespace Ab
open Rf (Nd Inv aZ)
theorem Chg.alloc (w:World)(o:Obj):Chg w (w.alloc o) []:=Chg.eF ((Below.refl _ _).alloc (le_refl _) o)
variable {n:World}{k:Nat}{R:NN}
theorem aEW {a:Nat}{r:Int}(H:∀f,Chg n f []->Calls prog 113 #[ptrB k,.int .i64 r,ptrB a] f fun e d=>∃z,e=.returned (.int .i64 z)/\R (.returned (.int .i64 z)) d):Calls prog 88 #[.agg #[ptrB k,.int .i64 r],ptrB a] n R:=by
 have g:=hid (H _ (Chg.alloc n (.cells #[ptrB k,.int .i64 r] 140)));clear H;unfold ptrB at*
 go_enter func88,ntmps88
 go_wp2_with fail
 refine(g.out).mono ?_;rintro e d⟨z,rfl,b⟩;have h:=hid b;clear b
 go_wp2_with fail
 exact h.out
theorem NodeAt.cell {n:World}{k:Nat}{s:LN}{a:Bool}{v mt r y u:Int}{lp rp gv Y d:Value}(h:NodeAt n k s a v mt r y u lp rp gv Y d)(h8:s.length=8):n.cell? ⟨k,17,none⟩=some Y/\n.cell? ⟨k,23,none⟩=some gv:=by
 obtain⟨f,g,i⟩:=h.ex;have o:=Gb s f i;rw[h8]at o
 have e:∀j b,([Y,.int .i64 mt,lp,.int .i64 r,rp,.int .i64 y,gv,.int .i64 v,d,.int .i64 u]:LB)[j]?=some b->(Value.bool a::f++[Y,.int .i64 mt,lp,.int .i64 r,rp,.int .i64 y,gv,.int .i64 v,d,.int .i64 u]).toArray[17+j]?=some b:=by
  intro j b l;rw[List.getElem?_toArray,List.getElem?_append_right (by simp;omega)];rw[show 17+j-(Value.bool a::f).length=j by simp;omega];exact l
 exact⟨bH g (e 0 Y rfl),bH g (e 6 gv rfl)⟩
theorem aID {a cb:Nat}(hc:n.cell? ⟨k,17,none⟩=some (ptrB cb))(H:Calls prog 163 #[ptrB k,ptrB a] n fun e f=>∃b,e=.returned (.bool b)/\R (.returned (.bool b)) f):Calls prog 149 #[ptrB k,ptrB a] n R:=by
 have g:=hid H;clear H;unfold ptrB at*
 go_enter func149,ntmps149
 go_wp2_with fail
 refine(g.out).mono ?_;rintro e f⟨z,rfl,d⟩;have h:=hid d;clear d
 go_wp2_with fail
 exact h.out
theorem aIC {h:Nat}{b:Bool}(hc:n.cell? ⟨k,17,none⟩=some aA)(H:Calls prog 164 #[ptrB k] n fun e d=>e=.returned (.bool b)/\(b=true->Calls prog 165 #[ptrB k,ptrB h] d fun e d=>∃b,e=.returned (.bool b)/\R (.returned (.bool b)) d)/\(b=false->Calls prog 166 #[ptrB k,ptrB h] d fun e d=>∃b,e=.returned (.bool b)/\R (.returned (.bool b)) d)):Calls prog 149 #[ptrB k,ptrB h] n R:=by
 have j:=hid H;clear H;unfold ptrB aA at*
 go_enter func149,ntmps149
 go_wp2_with fail
 refine(j.out).mono ?_;rintro e d⟨rfl,i,a⟩
 cases b with
 |true=>
  have f:=hid (i rfl);clear i a
  go_wp2_with fail
  refine(f.out).mono ?_;rintro e d⟨z,rfl,a⟩;have g:=hid a;clear a
  go_wp2_with fail
  exact g.out
 |false=>
  have f:=hid (a rfl);clear i a
  go_wp2_with fail
  refine(f.out).mono ?_;rintro e d⟨z,rfl,a⟩;have g:=hid a;clear a
  go_wp2_with fail
  exact g.out
structure Dg (k fb:Nat) (j:Nat) (R:NN) (J:Nat->World->Prop):Prop where
 ex:∀m w,J m w->∃gb len cap,(∃gv,w.cell? ⟨k,23,none⟩=some gv/\(gv=.slice gb len cap))/\len<=1000000/\
  ((len<=j/\Calls prog 129 #[ptrB k,ptrB fb] w fun e w'=>∃ b,e=.returned (.bool b)/\(b=true->∃ m',m'<m/\J m' w')/\(b=false->R (.returned (.int .i64 0)) w'))\/
   (j<len/\∃g c,gb=some ⟨g,0,none⟩/\w.cell? ⟨g,j,none⟩=some (.int .i64 c)/\R (.returned (.int .i64 c)) w))
theorem aIR {i p:Nat}{J:Nat->World->Prop}{m:Nat}(N:p<=1000000)(q:Dg k i p R J)(o:J m n):Calls prog 113 #[ptrB k,.int .i64 p,ptrB i] n R:=by
 have v:=hid q;have h:=hid o;clear q o;unfold ptrB
 go_enter func113,ntmps113
 go_wp2_with fail
 go_loopg [] m (fun B wr=>J B wr)
 case atStart=>exact h.out
 case round=>
  obtain⟨M,len,z,⟨gv,I,A⟩,O,f⟩:=v.out.ex _ _ hrel;subst A;have H:=hid hrel;clear hrel h
  rcases f with⟨C,hc⟩|⟨D,g,c,rfl,L,l⟩
  ·have HC:=hid hc;clear hc
   have F:((len:Int)<=(p:Int)):=by omega
   go_wp2_with fail
   refine(HC.out).mono ?_;rintro e T⟨b,rfl,a,d⟩
   cases b with
   |true=>
    obtain⟨E,k1,r⟩:=a rfl;have x:=hid k1;have y:=hid r;clear k1 r a d
    go_wp2_with fail
    go_roundg E
    case measure=>exact x.out
    case rel=>exact y.out
   |false=>
    have u:=hid (d rfl);clear a d
    go_wp2_with fail
    exact u.out
  ·have s:=hid l;clear l
   have F:¬((len:Int)<=(p:Int)):=by omega
   have P:¬((p:Int)<0):=by omega
   have S:((p:Int)<(len:Int)):=by omega
   go_wp2_with fail
   exact s.out
section
variable {w w':World} {b0 fb:Nat} {own own':Nat->Option Own} {at1 at2:NU} {D:PH} {i:Nat} {n n':Nd} {s:Rf.St} {rho:NU} {c:Nat}{v:Int}
theorem xL {N:Nat}(a:N<=10000000*k)(h:v.natAbs<2^N):Bits k v:=Nat.lt_of_lt_of_le h (Nat.pow_le_pow_right (by decide) a)
variable {z y u R:Int}{l:List Rf.V}
theorem nZ {p1 p3 e:Int}(o:Inv s.nodes rho c)(q:s.nodes[i]?=some n)(p:Rf.corners s.nodes n=some l)(hc:Pg.eO l [(v,z),(p1,y),(u,R),(p3,e)]):∀a∈[v,z,p1,y,u,R,p3,e],Bits 10 a:=by
 have h:=hc.bits (Rf.aJl o (o.at' i n q) p)
 have b:∀a:Int,a.natAbs<2^70000000->Bits 10 a:=fun a d=>xL (N:=70000000) (by decide) d
 have f:=h (v,z) (by simp);have g:=h (p1,y) (by simp);have j:=h (u,R) (by simp);have k:=h (p3,e) (by simp);intro a d;simp at d
 rcases d with rfl|rfl|rfl|rfl|rfl|rfl|rfl|rfl
 ·exact b _ f.1
 ·exact b _ f.2
 ·exact b _ g.1
 ·exact b _ g.2
 ·exact b _ j.1
 ·exact b _ j.2
 ·exact b _ k.1
 ·exact b _ k.2
theorem Ve (o:ON):One (eW at1 o):=by cases o<;>rfl
variable {gv:Value}
theorem gD.one {out:LN}(h:gD w b0 own i out gv):One gv:=by
 rcases h with⟨rfl,_⟩|⟨g,b,a,rfl,_⟩<;>rfl
variable {mt:Int}{g:Value}
theorem Blk.Es {p1 p3 f d:Int}{e:Value}(h:Blk w b0 own at1 i n v z p1 y u R p3 f mt d gv g e):One gv/\One g/\One e:=by
 refine⟨h.Aw.one,?_,?_⟩
 ·by_cases b:n.t=[]
  ·obtain⟨_,j,rfl,_⟩:=h.fK b;rfl
  ·rw[h.oO b];rfl
 ·cases a:n.nest with
  |false=>rw[h.nst.1 a];rfl
  |true=>obtain⟨k,rfl,_⟩:=h.nst.2 a;rfl
theorem NodeAt.arg {s:LN}{a:Bool}{r:Int}{lp rp Y e:Value}(h:NodeAt w k s a v mt r y u lp rp gv Y e)(h8:s.length=8)(l:∀z∈s,Bits 10 z)(o1:One lp)(o2:One rp)(o3:One gv)(o4:One Y)(o5:One e):iL w (some (k,a)) (ptrB k):=by
 obtain⟨d,g,f⟩:=h.ex;have q:=Gb s d f;refine⟨rfl,d++[Y,.int .i64 mt,lp,.int .i64 r,rp,.int .i64 y,gv,.int .i64 v,e,.int .i64 u],by simpa using g,by simp;omega,?_⟩;have o:∀b∈d,One b:=Lv (C:=Z) (φ:=fun _=>none) (ν:=s.map fun z=>(z,10)) (w:=w) (sL s d 0 _ f l fun j z p=>by rw[Nat.zero_add,getElem?_map,p];rfl);intro b hy;rw[List.mem_append]at hy
 rcases hy with hy|hy
 ·exact o b hy
 ·simp only[List.mem_cons,List.not_mem_nil,or_false]at hy
  rcases hy with rfl|rfl|rfl|rfl|rfl|rfl|rfl|rfl|rfl|rfl<;>first|assumption|rfl
def sgO (ns:List Nd)(o:ON):Option Bool:=o.map fun a=>match ns[a]? with|some x=>!x.pos|none=>false
def xV (ns:List Nd)(at':NU)(o:ON):Option (Nat×Bool):=o.map fun a=>(at' a,match ns[a]? with|some x=>!x.pos|none=>false)
theorem Vv (ns:List Nd)(at':NU)(o:ON):(xV ns at' o).map (·.2)=sgO ns o:=by cases o<;>rfl
variable {C:ON}
theorem Net.Gq (h:Net w b0 own at1 fb s)(j:Inv s.nodes rho c)(p:∀a,C=some a->a<s.nodes.length):iL w (xV s.nodes at1 C) (eW at1 C):=by
 cases C with
 |none=>rfl
 |some a=>
  have k:=p a rfl;have f:s.nodes[a]?=some s.nodes[a]:=getElem?_eq_getElem k;obtain⟨u,y,p1,z,v,A,p3,B,mt,x,gv,q,r,g,l,b,d⟩:=(h.nd a _ f).ex;obtain⟨o1,o2,o3⟩:=g.Es
  have e:xV s.nodes at1 (some a)=some (at1 a,!(s.nodes[a]).pos):=by unfold xV;simp[f]
  rw[e];exact g.nd.arg rfl (nZ j f b d) (Ve _) (Ve _) o1 o2 o3
theorem aNE (b:aZ s.nodes rho c i n):∀a,lArg n=some a->a<s.nodes.length:=by
 intro a h;unfold lArg at h;split at h
 ·exact(b.arg 0 a h).1
 ·cases h
theorem aTl (b:aZ s.nodes rho c i n):∀a,rArg n=some a->a<s.nodes.length:=by
 intro a h;unfold rArg at h;split at h
 ·exact(b.arg 1 a h).1
 ·split at h
  ·exact(b.arg 0 a h).1
  ·cases h
structure Seen (w:World) (b0:Nat) (own:Nat->Option Own) (at1:NU) (ns:List Nd) (i:Nat) (n:Nd) (p0 q0 p1 q1 p2 q2 p3 q3 mt pl:Int) (gv cv nv:Value) (l:List Rf.V) (g:Option (Nat×Nat)) (cc nn:ON):Prop where
 bV:Blk w b0 own at1 i n p0 q0 p1 q1 p2 q2 p3 q3 mt pl gv cv nv
 Cx:Rf.corners ns n=some l
 Gw:Pg.eO l [(p0,q0),(p1,q1),(p2,q2),(p3,q3)]
 bits:∀z∈[p0,q0,p1,q1,p2,q2,p3,q3],Bits 10 z
 la:iL w (xV ns at1 (lArg n)) (eW at1 (lArg n))
 ra:iL w (xV ns at1 (rArg n)) (eW at1 (rArg n))
 gat:GivAt w g gv
 aZI:(g.map (·.2)).getD 0=n.out.length
 cat:ExtAt w 164 cc cv
 nat:ExtAt w 232 nn nv
 Kv:nn.isSome=n.nest
theorem Net.seen (h:Net w b0 own at1 fb s)(p:Inv s.nodes rho c)(x:s.nodes[i]?=some n):∃A E p1 F B H p3 I mt C gv o q l g e d,Seen w b0 own at1 s.nodes i n A E p1 F B H p3 I mt C gv o q l g e d:=by
 obtain⟨A,E,p1,F,B,H,p3,I,mt,C,gv,o,q,b,l,f,j⟩:=(h.nd i n x).ex;have J:=p.at' i n x
 obtain⟨g,O,v⟩:∃g,GivAt w g gv/\(g.map (·.2)).getD 0=n.out.length:=by
  rcases b.Aw with⟨rfl,a⟩|⟨g,r,M,rfl,a,R,S,T,U⟩
  ·exact⟨none,rfl,by rw[a];rfl⟩
  ·exact⟨some (g,n.out.length),⟨r,rfl,_,a⟩,rfl⟩
 obtain⟨e,u⟩:∃e,ExtAt w 164 e o:=by
  by_cases L:n.t=[]
  ·obtain⟨_,N,rfl,a⟩:=b.fK L;exact⟨some N,rfl,a.bV⟩
  ·exact⟨none,b.oO L⟩
 obtain⟨d,y,z⟩:∃d,ExtAt w 232 d q/\d.isSome=n.nest:=by
  cases k:n.nest with
  |false=>exact⟨none,b.nst.1 k,rfl⟩
  |true=>
   obtain⟨P,rfl,a,_⟩:=b.nst.2 k;exact⟨some P,⟨rfl,a⟩,rfl⟩
 exact⟨A,E,p1,F,B,H,p3,I,mt,C,gv,o,q,l,g,e,d,b,f,j,nZ p x f j,h.Gq p (aNE J),h.Gq p (aTl J),O,v,u,y,z⟩
theorem aQY (z:aZ s.nodes rho c i n):(dI (sgO s.nodes (lArg n)) (hY n)||dI (sgO s.nodes (rArg n)) (gB n))=Rf.waits s.nodes n.args n.read:=by
 have A:∀a,a∈n.args->∃x,s.nodes[a]?=some x:=by
  intro a d;obtain⟨j,E,e⟩:=getElem_of_mem d;exact⟨_,getElem?_eq_getElem (z.arg j a (by rw[getElem?_eq_getElem E,e])).1⟩
 have h:∀(a r:Nat) (x:Nd),s.nodes[a]?=some x->dI (sgO s.nodes (some a)) (r:Int)=(!x.pos&&r==0):=by
  intro a r x e;unfold sgO dI;simp only[map_some,e];congr 1;rw[Bool.eq_iff_iff];simp
 cases z.shp with
 |fK f d _ _=>
  unfold lArg rArg hY gB;rw[f,d];simp[sgO,dI,Rf.waits]
 |gM v f d _ _=>
  unfold lArg rArg hY gB;rw[f,d];simp[sgO,dI,Rf.waits]
 |kU v u a f d _=>
  obtain⟨r,g⟩:∃r,n.read=[r]:=List.length_eq_one_iff.1 (by rw[z.len,d];rfl);obtain⟨x,e⟩:=A a (by rw[d];simp)
  have o:lArg n=none:=by unfold lArg;rw[f];rfl
  have p:rArg n=some a:=by unfold rArg;rw[f,d];rfl
  have q:gB n=r:=by unfold gB;rw[f,g];rfl
  rw[o,p,q,h a r x e,d,g];simp[sgO,dI,Rf.waits,e]
 |bin a b v u x y f d _=>
  obtain⟨r,k,g⟩:∃r k,n.read=[r,k]:=by
   have:=z.len;rw[d]at this
   match hh:n.read,this with
   | [r,k],_=>exact⟨r,k,rfl⟩
  obtain⟨x1,l⟩:=A a (by rw[d];simp);obtain⟨x2,B⟩:=A b (by rw[d];simp)
  have o:lArg n=some a:=by unfold lArg;rw[f,d];rfl
  have p:rArg n=some b:=by unfold rArg;rw[f,d];rfl
  have q:hY n=r:=by unfold hY;rw[f,g];rfl
  have C:gB n=k:=by unfold gB;rw[f,g];rfl
  rw[o,p,q,C,h a r x1 l,h b k x2 B,d,g];simp[Rf.waits,l,B]
 |nest a v u x y f d _ _ _=>
  obtain⟨r,g⟩:∃r,n.read=[r]:=List.length_eq_one_iff.1 (by rw[z.len,d];rfl);obtain⟨x1,l⟩:=A a (by rw[d];simp)
  have o:lArg n=some a:=by unfold lArg;rw[f,d];rfl
  have p:rArg n=none:=by unfold rArg;rw[f,d];rfl
  have q:hY n=r:=by unfold hY;rw[f,g];rfl
  rw[o,p,q,h a r x1 l,d,g];simp[sgO,dI,Rf.waits,l]
theorem Seen.next {M p1 p3 O N:Int}{L:Value}{a:Option (Nat×Nat)}{J:ON}(h:Seen w b0 own at1 s.nodes i n M z p1 y u R p3 O mt N gv g L l a C J)(E:aZ s.nodes rho c i n){o:Option Int}(k:Rf.nextP s.nodes n=some o):Calls prog 148 #[ptrB (at1 i)] w fun e w'=>e=.returned (.int .i64 (eL o))/\Chg w w' []:=by
 refine(aLS h.bV.nd h.bits h.la h.ra h.gat h.cat h.nat).mono ?_;rintro e w'⟨rfl,H⟩;refine⟨?_,Chg.eF H⟩;congr 2;unfold Rf.nextP at k
 cases j:n.aP with
 |true=>
  rw[j]at k;simp only[if_true,Option.some.injEq]at k;subst k
  have A:fM n≠0:=by
   unfold fM;rw[j,if_pos rfl]
   have r:Rf.fn n.op:=by
    cases E.shp with
    |fK q F f hc=>rw[j]at f;cases f
    |gM v q F f hv=>rw[j]at f;cases f
    |kU v w B q p f=>exact(f j).2.1
    |bin B b v w x d q p f=>rw[j]at f;cases f
    |nest B v w x d q p f I ok=>rw[j]at f;cases f
   rcases r with e|e|e|e<;>rw[e]<;>decide
  unfold tC;rw[show(fM n != 0)=true from by simpa using A];rfl
 |false=>
  rw[j]at k;simp only[false_eq_true,if_false]at k
  have A:fM n=0:=by unfold fM;rw[j];rfl
  rw[A,Vv,Vv];exact aS3 h.Cx h.Gw (by simp) h.aZI (aQY E) k
theorem aIb {sd:Nat}{o:ON}{r:Nat}(b:n.args[sd]?=o)(g:o=none->r=0)(f:∀a,o=some a->n.read[sd]?=some r/\∃x,s.nodes[a]?=some x):Rf.digits s.nodes n sd=some (vX (sgO s.nodes o) r):=by
 unfold Rf.digits
 cases o with
 |none=>
  rw[if_neg (by have:=List.getElem?_eq_none_iff.1 b;omega)];rfl
 |some a=>
  obtain⟨d,x,e⟩:=f a rfl;rw[if_pos (List.getElem?_eq_some_iff.1 b).1,b];simp only[Option.bind_some,e,d,map_some,sgO,vX]
  cases x.pos<;>simp
theorem Seen.reads {p1 p3 q3 pl:Int}{nv:Value}{d:Option (Nat×Nat)}{nn:ON}(h:Seen w b0 own at1 s.nodes i n v z p1 y u R p3 q3 mt pl gv g nv l d C nn)(I:aZ s.nodes rho c i n){L:Nat}(T:Rf.side s.nodes n=some L):Calls prog 164 #[ptrB (at1 i)] w fun e w'=>e=.returned (.bool (decide (n.t.length=4/\L=0)))/\Chg w w' []:=by
 refine(aJO h.bV.nd h.bits h.la h.ra h.gat h.cat h.nat).mono ?_;rintro e w'⟨rfl,hb⟩;refine⟨?_,Chg.eF hb⟩;congr 2;rw[Vv,Vv,h.Kv]
 by_cases q:n.t.length=4
 ·have W:∀a,a∈n.args->∃x,s.nodes[a]?=some x:=by
   intro a E;obtain⟨j,M,e⟩:=getElem_of_mem E;exact⟨_,getElem?_eq_getElem (I.arg j a (by rw[getElem?_eq_getElem M,e])).1⟩
  have N:lArg n=n.args[0]?:=by unfold lArg;rw[if_pos q]
  have hr:rArg n=n.args[1]?:=by unfold rArg;rw[if_pos q]
  have O:hY n=n.read.getD 0 0:=by unfold hY;rw[if_pos q]
  have P:gB n=n.read.getD 1 0:=by unfold gB;rw[if_pos q]
  have U:∀j,n.read.getD j 0<=1000000:=by
   intro j;rw[List.getD_eq_getElem?_getD]
   cases e:n.read[j]? with
   |none=>simp
   |some r=>have:=I.jH r (mem_of_getElem? e);simp;omega
  have F:∀(j a:Nat),n.args[j]?=some a->n.read[j]?=some (n.read.getD j 0):=by
   intro j a e;have M:=(List.getElem?_eq_some_iff.1 e).1;rw[List.getD_eq_getElem?_getD,getElem?_eq_getElem (by rw[I.len];exact M)];rfl
  obtain⟨a0,B⟩:∃a0,n.args[0]?=some a0:=by
   cases I.shp with
   |fK H E _ _=>rw[H]at q;simp at q
   |gM k H E _ _=>rw[H]at q;simp at q
   |kU k f a H E _=>rw[H]at q;simp at q
   |bin a b k f x p H E _=>exact⟨a,by rw[E];rfl⟩
   |nest a k f x p H E _ _ _=>exact⟨a,by rw[E];rfl⟩
  have A:n.args[1]?=none->n.read.getD 1 0=0:=by
   intro e;have:=List.getElem?_eq_none_iff.1 e;rw[List.getD_eq_getElem?_getD,List.getElem?_eq_none_iff.2 (by rw[I.len];exact this)];rfl
  have d0:=aIb (s:=s) (n:=n) (sd:=0) (o:=some a0) (r:=n.read.getD 0 0) B (fun e=>by cases e) fun a e=>⟨F 0 a0 B,W a (by cases e;exact mem_of_getElem? B)⟩
  have d1:=aIb (s:=s) (n:=n) (sd:=1) (o:=n.args[1]?) (r:=n.read.getD 1 0) rfl A fun a e=>⟨F 1 a e,W a (mem_of_getElem? e)⟩
  have S:∃X,sgO s.nodes (some a0)=some X:=⟨_,rfl⟩
  obtain⟨X,J⟩:=S;rw[N,hr,O,P,B,J];rw[J]at d0;rw[aQm q h.Cx (Pg.aH5 q h.Cx) h.Gw (U 0) (U 1) ?_ d0 d1 T]
  ·simp[q]
  ·intro e;refine A ?_
   cases Y:n.args[1]? with
   |none=>rfl
   |some a=>rw[Y]at e;simp[sgO]at e
 ·have N:lArg n=none:=by unfold lArg;rw[if_neg q]
  rw[N];simp[q,sgO,oV]
end
end Ab
end Go.Proofs.YthhffdeihoofiaaGreatDoor
