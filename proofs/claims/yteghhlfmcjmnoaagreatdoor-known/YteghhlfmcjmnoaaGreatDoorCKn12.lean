import Derived.Test.YteghhlfmcjmnoaaGreatDoorCKn11
import Derived.Test.YteghhlfmcjmnoaaGreatDoorCKn10
set_option linter.unusedSimpArgs false
set_option linter.unusedVariables false
set_option maxRecDepth 100000
set_option maxHeartbeats 2000000
namespace Go.Proofs.YteghhlfmcjmnoaaGreatDoor
namespace Rf
open Nw
section
variable {ns:List Nd} {rho:Nat->Nat} {c i:Nat} {n:Nd}
theorem aE1 (b:NInv ns rho c i n)(sd:Nat):∃ o,digits ns n sd=some o:=by
 unfold digits;split
 ·rename_i a;obtain ⟨d,_⟩:=b.arg sd _ (List.getElem?_eq_getElem a);rw [List.getElem?_eq_getElem a,Option.bind_some,List.getElem?_eq_getElem d,Option.bind_some,List.getElem?_eq_getElem (by rw [b.len];exact a)];exact ⟨_,rfl⟩
 ·exact ⟨_,rfl⟩
theorem aJO {v w:V}(a:n.t=[v,w]):side ns n=some 0:=by
 unfold side;rw [if_pos (by rw [a];simp)]
theorem aDR (h:Inv ns rho c)(d:NInv ns rho c i n):∃ sd,side ns n=some sd/\sd<=1:=by
 unfold side;split
 ·exact ⟨0,rfl,by decide⟩
 ·obtain ⟨a,e⟩:=aE1 d 0;rw [e,Option.bind_some]
  cases a with
  | none=>exact ⟨0,rfl,by decide⟩
  | some a=>
   obtain ⟨b,f⟩:=aE1 d 1;simp only;rw [f,Option.bind_some]
   cases b with
   | none=>exact ⟨1,rfl,by decide⟩
   | some b=>
    obtain ⟨l,g⟩:=aG2 h d;simp only;unfold corners;rw [g];refine ⟨_,rfl,?_⟩;simp only;generalize (if fits (List.map (vag n.told) l)=true then wider (if n.nest=true then 8 else 1) (List.map (vag n.told) l) else 0)=z;split
    ·omega
    ·split
     ·omega
     ·split<;>omega
theorem aFS (h:Inv ns rho c)(u:NInv ns rho c i n){a:Nat}{v w x y:V}(l:n.t=[v,w,x,y])(d:n.args=[a])(z:n.nest=true)(m:first n.t)(A:Pos ns a)(o:n.read=[0])(B:n.out=[]):side ns n=some 0:=by
 obtain ⟨s,j,k⟩:=A;have p:=(h.at' a s j).had0
 have q:ends ns n 0=some ((1,0),(0,1)):=by
  unfold ends;rw [d,o];simp only [List.getElem?_cons_zero,Option.bind_some,j,p,Option.map_some];rfl
 have r:bare ns n=some [v,w,x,y]:=by
  unfold bare;rw [l];simp only [q,d,Option.bind_some,Option.map_some,List.length_cons,List.length_nil];simp [tensor]
 unfold side;rw [if_neg (by rw [l];simp)]
 have f:digits ns n 0=some (some 0):=by
  unfold digits;rw [d,o];simp [j,k]
 have g:digits ns n 1=some (some 0):=by
  unfold digits;rw [d];simp
 rw [f,g];simp only [Option.bind_some];unfold corners;rw [r,u.fst B]
 have e:List.map (vag one) [v,w,x,y]=n.t:=by rw [l];simp [aC7]
 simp only [Option.map_some,e,z,if_true]
 unfold first at m
 by_cases b:fits n.t=true
 ·rw [if_pos b,if_neg (m b)];simp
 ·rw [if_neg b];simp
theorem aLt {x y:Int}(h:y<x):Nm.cmp x y=1:=by
 unfold Nm.cmp;rw [decide_eq_false (by omega),decide_eq_false (by omega)];rfl
theorem aFF (b:V):apart (0,0) b=(0,1):=by unfold apart;simp
theorem aFE {c d:Int}(e:0<c)(f:0<d):apart (c,0) (0,d)=(2*(c*d),c*d):=by
 unfold apart;simp only;rw [if_neg (by omega)];have h:0<c*d:=Int.mul_pos e f
 have a:(c-0)*(0+d)-(0-d)*(c+0)=2*(c*d):=by grind
 have b:(c+0)*(0+d)=c*d:=by grind
 rw [a,b]
 ext<;>(simp only;omega)
theorem aKn {c d:Int}(a:0<c)(b:0<d):first [(0,0),(c,0),(0,1),(0,d)]:=by
 intro _;have h:0<c*d:=Int.mul_pos a b;unfold wider;simp only [aFF,aFE a b]
 have e:apart (0,1) (0,d)=(0,d):=by
  unfold apart;simp only;rw [if_neg (by omega)]
  ext<;>simp<;>omega
 have f:greater (0,1) (2*(c*d),c*d)=(2*(c*d),c*d):=by
  unfold greater;rw [if_neg (by simp;omega)]
 have g:greater (0,1) (0,d)=(0,1):=by
  unfold greater;rw [if_pos (by simp)]
 rw [e,f,g];simp only;rw [aLt (by omega)];decide
theorem aKo {a b:Int}(c:0<a)(g:0<b):first [(0,0),(b,0),(a,b),(0,a)]:=by
 intro _;have h:0<b*a:=Int.mul_pos g c;have d:0<a*a:=Int.mul_pos c c;unfold wider;simp only [aFF,aFE g c]
 have i:apart (a,b) (0,a)=(2*(a*a),a*a+b*a):=by
  unfold apart;simp only;rw [if_neg (by omega)]
  have e:(a-b)*(0+a)-(0-a)*(a+b)=2*(a*a):=by grind
  have f:(a+b)*(0+a)=a*a+b*a:=by grind
  rw [e,f]
  ext<;>(simp only;omega)
 have j:greater (0,1) (2*(b*a),b*a)=(2*(b*a),b*a):=by
  unfold greater;rw [if_neg (by simp;omega)]
 have k:greater (0,1) (2*(a*a),a*a+b*a)=(2*(a*a),a*a+b*a):=by
  unfold greater;rw [if_neg (by simp;omega)]
 rw [i,j,k];simp only
 have e:8*(2*(b*a))*(a*a+b*a)=16*((b*a)*(a*a))+16*((b*a)*(b*a)):=by grind
 have f:2*(a*a)*(b*a)=2*((b*a)*(a*a)):=by grind
 have l:0<(b*a)*(a*a):=Int.mul_pos h d;have m:0<(b*a)*(b*a):=Int.mul_pos h h;rw [e,f,aLt (by omega)];decide
theorem aA0 (y:c<=3000)(g:n.read=n.args.map (fun _=>0))(h:n.out=[])(l:n.told=one)(e:n.had=[one])(z:n.part=one)(A:n.k+c<=3000)(tb:∀ v∈n.t,Bits 13000 v.1/\Bits 13000 v.2)(pb:Bits 6100 n.p)(B:Bits 6100 n.q)
  (o:∀ (j a:Nat),n.args[j]?=some a->a<ns.length/\rho a<rho i) (s:Shp ns rho c i n):NInv ns rho c i n:=by
 have f:MBits 1 one:=⟨by unfold Bits one;decide,by unfold Bits one;decide,by unfold Bits one;decide,by unfold Bits one;decide⟩
 refine ⟨by rw [g];simp,o,?_,by rw [e,h];rfl,by rw [e];rfl,fun _=>l,by rw [h];simpa using y,A,?_,by rw [l,h];exact f,?_,fun _=>⟨by rw [l];exact aP1,fun m b=>?_⟩,tb,pb,B,?_,s⟩
 ·intro j a r x u d C;rw [g,List.getElem?_map,u] at d;simp at d;omega
 ·intro r d;rw [g] at d;simp at d;omega
 ·intro j m b;rw [e] at b
  have:j=0:=by
   have:=(List.getElem?_eq_some_iff.1 b).1;simp at this;exact this
  subst this;simp at b;rw [<-b];exact f
 ·rw [e] at b;simp at b;rw [b];exact aP1
 ·rw [z];exact MBits.mono f (by omega)
theorem bits0 {m:Nat}:Bits m 0:=by unfold Bits;simp;exact Nat.pow_pos (by decide)
theorem bits1 {m:Nat}(h:1<=m):Bits m 1:=by
 unfold Bits;exact Nat.lt_of_lt_of_le (show 1<2^1 by decide) (Nat.pow_le_pow_right (by decide) h)
structure Grown (ns:List Nd) (rho:Nat->Nat) (c R:Nat) (ns':List Nd) (rho':Nat->Nat):Prop where
 inv:Inv ns' rho' c
 ext:∃ ms,ns'=ns++ms
 agree:∀ k,k<ns.length->rho' k=rho k
 ranks:∀ k,ns.length<=k->k<ns'.length->rho' k<=R
theorem Grown.le {a:List Nd}{b:Nat->Nat}{R:Nat}(h:Grown ns rho c R a b):Le ns a:=by
 obtain ⟨d,rfl⟩:=h.ext;exact Le.more _ _
theorem Grown.refl (h:Inv ns rho c)(R:Nat):Grown ns rho c R ns rho:=⟨h,⟨[],by simp⟩,fun _ _=>rfl,fun k h1 h2=>by omega⟩
theorem Grown.trans {f b:List Nd}{d a:Nat->Nat}{R:Nat}(h:Grown ns rho c R f d)(g:Grown f d c R b a):Grown ns rho c R b a:=by
 have n:=h.le.len;obtain ⟨l,e⟩:=h.ext;obtain ⟨j,m⟩:=g.ext;refine ⟨g.inv,⟨l++j,by rw [m,e,List.append_assoc]⟩,fun k i=>by rw [g.agree k (by omega),h.agree k i],fun k h1 h2=>?_⟩
 by_cases i:k<f.length
 ·rw [g.agree k i];exact h.ranks k h1 i
 ·exact g.ranks k (by omega) h2
theorem Grown.weak {ns':List Nd}{rho':Nat->Nat}{R R':Nat}(h:Grown ns rho c R ns' rho')(hR:R<=R'):Grown ns rho c R' ns' rho':=⟨h.inv,h.ext,h.agree,fun k h1 h2=>Nat.le_trans (h.ranks k h1 h2) hR⟩
theorem aA5 (h:Inv ns rho c){r:Nat}{n':Nd}(f:NInv ns (rank rho ns.length r) c ns.length n'):more ns n'=some (ns++[n'])/\Grown ns rho c r (ns++[n']) (rank rho ns.length r)/\rank rho ns.length r ns.length=r:=by
 obtain ⟨b,d,g,e,a⟩:=h.more f;refine ⟨b,⟨d,⟨_,rfl⟩,e,fun k k1 k2=>?_⟩,a⟩
 have:k=ns.length:=by simp at k2;omega
 rw [this,a];exact Nat.le_refl _
theorem aBg {k r j:Nat}(h:j<k):rank rho k r j=rho j:=by unfold rank;rw [if_neg (by omega)]
theorem aAQ {k r:Nat}:rank rho k r k=r:=by unfold rank;rw [if_pos rfl]
theorem aBT {n':Nd}(h:n'.pos=true):Pos (ns++[n']) ns.length:=⟨n',by simp,h⟩
theorem aEc (z:c<=3000){d:Op}{k a x base:Nat}{sq:Option Nat}(g:fn d)(hs:d≠.sqrt)(o:k+c<=3000)(h:Pos ns a)(i:Pos ns x)(A:rho a<base)(B:rho x+1<base)(l:∀ s,sq=some s->s<ns.length/\rho s<base/\Pos ns s):
  NInv ns (rank rho ns.length (base+c+1)) c ns.length (nestNd d k a x sq):=by
 obtain ⟨p,q,r,t⟩:=aEi d (k:=k) (by omega);refine aA0 z rfl rfl rfl rfl rfl o ?_ bits0 bits0 ?_ ?_
 ·intro v n;simp [nestNd,fresh] at n
  rcases n with rfl | rfl | rfl | rfl
  ·exact ⟨bits0,bits0⟩
  ·exact ⟨aAg p (by decide),bits0⟩
  ·exact ⟨bits0,bits1 (by decide)⟩
  ·exact ⟨bits0,aAg q (by decide)⟩
 ·intro j b f
  have:b=a:=by
   simp only [nestNd,fresh] at f
   cases j with
   | zero=>simpa using f.symm
   | succ j=>simp at f
  subst this;have:=h.lt;rw [aBg this,aAQ];exact ⟨this,by omega⟩
 ·refine .nest a _ _ _ _ rfl rfl rfl rfl ⟨⟨base,c,aAQ,Nat.le_refl _,o,by rw [aBg h.lt];exact A,fun e=>absurd ⟨rfl,rfl⟩ e,fun _=>⟨x,rfl,i.lt,by rw [aBg i.lt];exact B,i,fun s hs'=>?_⟩⟩,g,aKn r t,h⟩;obtain ⟨m,u,y⟩:=l s hs';exact ⟨m,by rw [aBg m];exact u,y⟩
theorem aIP (e:c<=3000){x r:Nat}{p:Bool}(f:x<ns.length)(g:rho x<r):NInv ns (rank rho ns.length r) c ns.length (two .mul p p x x):=by
 refine aA0 e rfl rfl rfl rfl rfl (by simpa [two,fresh] using e) ?_ bits0 bits0 ?_ (.bin x x _ _ _ _ rfl rfl rfl)
 ·intro v d;simp [two,fresh,Kind.cols] at d
  rcases d with rfl | rfl | rfl
  ·exact ⟨bits1 (by decide),bits0⟩
  ·exact ⟨bits0,bits0⟩
  ·exact ⟨bits0,bits1 (by decide)⟩
 ·intro j b a
  have:b=x:=by
   simp only [two,fresh] at a
   cases j with
   | zero=>simpa using a.symm
   | succ j=>cases j with
    | zero=>simpa using a.symm
    | succ j=>simp at a
  subst this;rw [aBg f,aAQ];exact ⟨f,g⟩
theorem aJt (h:Inv ns rho c)(o:c<=3000){q:Op}{k x base:Nat}{sq:Option Nat}(g:fn q)(hs:q≠.sqrt)(t:k+c<=3000)(b:Pos ns x)(u:rho x+1<base)(i:∀ s,sq=some s->s<ns.length/\rho s<base/\Pos ns s):
  ∃ ns' rho' d,nest ns q k x sq=some (ns',d)/\Grown ns rho c (base+c+1) ns' rho'/\ns.length<=d/\Pos ns' d:=by
 unfold nest;split
 ·cases sq with
  | some s=>
   obtain ⟨D,z,A⟩:=i s rfl;obtain ⟨l,f,n⟩:=aA5 h (aEc o g hs t (a:=s) A b z u (sq:=some s) i);simp only;rw [l];exact ⟨_,_,_,rfl,f,Nat.le_refl _,aBT rfl⟩
  | none=>
   obtain ⟨j,y,m⟩:=b
   have b:Pos ns x:=⟨j,y,m⟩
   obtain ⟨l,f,n⟩:=aA5 h (aIP (p:=j.pos) o b.lt (r:=base-1) (by omega));simp only;rw [y,Option.bind_some,l,Option.bind_some];have v:Pos (ns++[two .mul j.pos j.pos x x]) ns.length:=aBT (by rw [m];rfl);obtain ⟨B,C,E⟩:=aA5 f.inv (aEc (rho:=rank rho ns.length (base-1)) o g hs t (a:=ns.length) (base:=base) v (b.le f.le) (by rw [n];omega) (by rw [aBg b.lt];exact u) (sq:=some ns.length) (fun s e=>by cases e;exact ⟨by simp,by rw [n];omega,v⟩));rw [B];exact ⟨_,_,_,rfl,(f.weak (by omega)).trans C,by simp,by have:=aBT (ns:=ns++[two .mul j.pos j.pos x x]) (n':=nestNd q k ns.length x (some ns.length)) rfl;simpa using this⟩
 ·obtain ⟨l,f,n⟩:=aA5 h (aEc o g hs t (a:=x) b b (by omega) u (sq:=sq) i);rw [l];exact ⟨_,_,_,rfl,f,Nat.le_refl _,aBT rfl⟩
end
end Rf
namespace Rf
open Nw
section
variable {ns:List Nd} {rho:Nat->Nat} {c i:Nat} {n:Nd}
theorem aT1 {k:Nat}{n':Nd}(hk:k≠i):(ns.set i n')[k]?=ns[k]?:=List.getElem?_set_ne (fun e=>hk e.symm)
structure Mid (ns:List Nd) (rho:Nat->Nat) (i:Nat) (ns':List Nd) (rho':Nat->Nat):Prop where
 le:Le ns ns'
 agree:∀ k,k<ns.length->rho' k=rho k
 ranks:∀ k,ns.length<=k->k<ns'.length->rho' k<rho i
 same:∀ (k:Nat) (n:Nd),ns[k]?=some n->rho i<rho k->ns'[k]?=some n
theorem Mid.refl (ns:List Nd)(rho:Nat->Nat)(i:Nat):Mid ns rho i ns rho:=⟨Le.refl _,fun _ _=>rfl,fun k h1 h2=>by omega,fun k n h _=>h⟩
theorem Mid.trans {d b:List Nd}{c a:Nat->Nat}(g:i<ns.length)(h:Mid ns rho i d c)(f:Mid d c i b a):Mid ns rho i b a:=by
 have j:=h.le.len;refine ⟨h.le.trans f.le,fun k e=>by rw [f.agree k (by omega),h.agree k e],fun k h1 h2=>?_,fun k n hn hr=>?_⟩
 ·by_cases e:k<d.length
  ·rw [f.agree k e];exact h.ranks k h1 e
  ·have:=f.ranks k (by omega) h2;rw [h.agree i g] at this;exact this
 ·have e:=(List.getElem?_eq_some_iff.1 hn).1;refine f.same k n (h.same k n hn hr) ?_;rw [h.agree i g,h.agree k e];exact hr
theorem Mid.set {n':Nd}(hn:ns[i]?=some n)(hp:n'.pos=n.pos)(ho:n.out.length<=n'.out.length):Mid ns rho i (ns.set i n') rho:=
 ⟨Le.set hn hp ho,fun _ _=>rfl,fun k h1 h2=>by simp at h2;omega,fun k m hm hr=>by rw [aT1 (by intro e;subst e;omega)];exact hm⟩
theorem Mid.up {a:Nat}{ns':List Nd}{rho':Nat->Nat}(h:Mid ns rho a ns' rho')(hr:rho a<rho i):Mid ns rho i ns' rho':=
 ⟨h.le,h.agree,fun k h1 h2=>Nat.lt_trans (h.ranks k h1 h2) hr,fun k n hn hk=>h.same k n hn (Nat.lt_trans hr hk)⟩
theorem Mid.grown {b:List Nd}{a:Nat->Nat}{R:Nat}(h:Grown ns rho c R b a)(hR:R<rho i):Mid ns rho i b a:=by
 refine ⟨h.le,h.agree,fun k h1 h2=>Nat.lt_of_le_of_lt (h.ranks k h1 h2) hR,fun k n hn _=>?_⟩;obtain ⟨d,rfl⟩:=h.ext;rw [List.getElem?_append_left (List.getElem?_eq_some_iff.1 hn).1];exact hn
theorem Grown.at' {a:List Nd}{b:Nat->Nat}{R k:Nat}{m:Nd}(h:Grown ns rho c R a b)(d:ns[k]?=some m):a[k]?=some m:=by
 obtain ⟨e,rfl⟩:=h.ext;rw [List.getElem?_append_left (List.getElem?_eq_some_iff.1 d).1];exact d
theorem aKa {cl:Int}(h:Inv ns rho c)(A:c<=3000)(J:ns[i]?=some n){a:Nat}{v w x y:V}(U:n.t=[v,w,x,y])(p:n.args=[a])(hp:n.probe=false)(ok:NestOk ns rho c i n a)(L:¬(n.read=[0]/\n.out=[])):
  ∃ ns' rho' d n',wide ⟨ns,cl⟩ i n 1=some ⟨ns',cl⟩/\Inv ns' rho' c/\Mid ns rho i ns' rho'/\ns'[i]?=some n'/\n'={n with args:=n.args++[d],read:=n.read++[0]}:=by
 have B:=h.at' i n J;have M:=(List.getElem?_eq_some_iff.1 J).1;obtain ⟨⟨m,ck,h1,h2,h3,X,Y,h6⟩,N,h8,u⟩:=ok;have W:=Y L
 have C:∃ ns' rho' d,deeper ns n=some (ns',d)/\Grown ns rho c (m+c+1) ns' rho'/\ns.length<=d/\Pos ns' d:=by
  unfold deeper
  by_cases s:n.op=.sqrt
  ·rw [if_pos s,p];simp only [List.getElem?_cons_zero,Option.bind_some]
   obtain ⟨F,O,P⟩:=aA5 h (r:=m+c+1) (n':={ fresh true n.t [a] with op:=n.op,nest:=true}) (by
    refine aA0 A rfl rfl rfl rfl rfl (by simpa [fresh] using A) B.tb bits0 bits0 ?_ (.nest a v w x y U rfl rfl rfl ⟨⟨m,c,aAQ,Nat.le_refl _,by simpa [fresh] using A,by rw [aBg u.lt];exact X,fun e=>absurd ⟨rfl,rfl⟩ e,fun e=>absurd s e⟩,N,h8,u⟩);intro j b l
    have:b=a:=by
     simp only [fresh] at l
     cases j with
     | zero=>simpa using l.symm
     | succ j=>simp at l
    subst this;rw [aBg u.lt,aAQ]
    exact ⟨u.lt,by omega⟩)
   rw [F];exact ⟨_,_,_,rfl,O,Nat.le_refl _,aBT rfl⟩
  ·rw [if_neg s];obtain ⟨R,F,O,P,k4,k5⟩:=h6 s;rw [F,Option.bind_some];exact aJt h A N s (by omega) k4 P k5
 obtain ⟨H,o,d,e1,g,hd,S⟩:=C;have q:=g.at' J;have f:=g.inv.at' i n q;have D:o i=rho i:=g.agree i M
 obtain ⟨r,T⟩:∃ r,n.read=[r]:=by
  have:=B.len;rw [p] at this;exact List.length_eq_one_iff.1 this
 have E:NInv H o c i {n with args:=n.args++[d],read:=n.read++[0]}:=by
  refine ⟨by simp [B.len],?_,?_,f.hadl,f.had0,f.fst,f.outu,f.ku,?_,f.toldb,f.hadb,f.up,f.tb,f.pb,f.qb,f.partb,.bin a d v w x y U (by simp [p]) hp⟩
  ·intro j b l;simp only [p] at l
   cases j with
   | zero=>exact f.arg 0 b (by rw [p];simpa using l)
   | succ j=>cases j with
    | zero=>
     have:b=d:=by simpa using l.symm
     subst this;have:=g.ranks b hd S.lt;exact ⟨S.lt,by rw [D];omega⟩
    | succ j=>simp at l
  ·intro j b z R l k I;simp only [p,T] at l k
   cases j with
   | zero=>exact f.rd 0 b z R (by rw [p];simpa using l) (by rw [T];simpa using k) I
   | succ j=>cases j with
    | zero=>
     have:z=0:=by simpa using k.symm
     omega
    | succ j=>simp at l
  ·intro z k;simp only [List.mem_append,List.mem_singleton] at k
   rcases k with k | rfl
   ·exact f.readu z k
   ·omega
 obtain ⟨p1,p2,p3⟩:=g.inv.put q (n':={n with args:=n.args++[d],read:=n.read++[0]}) rfl (Nat.le_refl _) E;refine ⟨_,o,d,_,?_,p2,?_,by rw [List.getElem?_set_self (by have:=g.le.len;omega)],rfl⟩
 ·unfold wide;rw [if_pos (by simp [p]),e1,Option.bind_some,p1];rfl
 ·exact (Mid.grown g (by omega)).trans M (Mid.set q rfl (Nat.le_refl _))
theorem aMj {m:Mt}{j:Nat}(a:MBits (2*j+1) m)(f:j<=3000):Bits 6100 (vat m (0,1)).1/\Bits 6100 (vat m (0,1)).2:=by
 have c:(vat m (0,1)).1=m.b:=by simp [vat,Mt.at1]
 have e:(vat m (0,1)).2=m.d:=by simp [vat,Mt.at2]
 rw [c,e];exact ⟨aAg a.b (by omega),aAg a.d (by omega)⟩
theorem aQX {m:Mt}(h:Up m):0<=(vat m (0,1)).1/\0<(vat m (0,1)).2/\(known .sqrt (vat m (0,1)) (vat m (1,0))=true->0<(vat m (0,1)).1):=by
 have i:vat m (0,1)=(m.b,m.d):=by simp [vat,Mt.at1,Mt.at2]
 have j:vat m (1,0)=(m.a,m.c):=by simp [vat,Mt.at1,Mt.at2]
 obtain ⟨n,f,l,o,g⟩:=h;have k:0<=m.b*m.c:=Int.mul_nonneg f l;rw [i,j];refine ⟨f,?_,?_⟩
 ·show 0<m.d
  rcases Int.lt_or_le 0 m.d with h | h
  ·exact h
  ·have:m.d=0:=by omega
   rw [this] at g;omega
 ·intro e;unfold known at e;simp at e;show 0<m.b
  rcases Int.lt_or_le 0 m.b with h | h
  ·exact h
  ·have:m.b=0:=by omega
   rw [this] at g e;omega
theorem args1 {a b j:Nat}(h:([a]:List Nat)[j]?=some b):b=a:=by
 cases j with
 | zero=>simpa using h.symm
 | succ j=>simp at h
theorem args2 {a b d j:Nat}(h:([a,d]:List Nat)[j]?=some b):b=a\/b=d:=by
 cases j with
 | zero=>exact Or.inl (by simpa using h.symm)
 | succ j=>cases j with
  | zero=>exact Or.inr (by simpa using h.symm)
  | succ j=>simp at h
theorem aEu (h:Inv ns rho c)(f:c<=3000){g:Op}{p q:Int}(l:fn g)(s:0<p)(t:0<q)(pb:Bits 6100 p)(u:Bits 6100 q):∃ ns' rho' d,outright ns g p q=some (ns',d)/\Grown ns rho c 1 ns' rho'/\ns.length<=d/\Pos ns' d:=by
 unfold outright;obtain ⟨m,i,x⟩:=aA5 h (r:=0) (n':=row g p q) (aA0 f rfl rfl rfl rfl rfl (by simpa [row,fresh] using f) (fun v b=>by simp [row,fresh] at b) pb u (fun j a k=>by simp [row,fresh] at k) (.con rfl rfl rfl (Or.inr (Or.inr (Or.inr ⟨l,s,t⟩)))));rw [m,Option.bind_some];split
 ·obtain ⟨n,o,y⟩:=aA5 i.inv (r:=1) (n':=raised ns.length) (by
   refine aA0 f rfl rfl rfl rfl rfl (by simpa [raised,fresh] using f) ?_ bits0 bits0 ?_ (.una _ _ ns.length rfl rfl (fun e=>by cases e))
   ·intro v b;simp [raised,fresh] at b
    rcases b with rfl | rfl
    ·exact ⟨bits1 (by decide),aBw (bits1 (by decide))⟩
    ·exact ⟨bits1 (by decide),bits1 (by decide)⟩
   ·intro j a k;have:=args1 k;subst this;rw [aBg (by simp),aAQ,aAQ]
    exact ⟨by simp,by decide⟩)
  rw [n];exact ⟨_,_,_,rfl,(i.weak (by decide)).trans o,by simp,by have:=aBT (ns:=ns++[row g p q]) (n':=raised ns.length) rfl;simpa using this⟩
 ·exact ⟨_,_,_,rfl,i.weak (by decide),Nat.le_refl _,aBT rfl⟩
theorem aOY (h:Inv ns rho c)(M:c<=3000)(N:ns[i]?=some n){v w:V}{x:Nat}(ht:n.t=[v,w])(ha:n.args=[x])(hr:n.read=[0])(hp:n.probe=false)(a6:n.pos=true)(L:fn n.op)(ho:n.out=[])(px:Pos ns x)(rx:rho x+3100<=rho i)(hk:n.k=0)
  {A:V} (b1:Bits 6100 A.1) (b2:Bits 6100 A.2) (l1:0<=A.1) (l2:0<A.2) (l3:n.op=.sqrt->0<A.1):
  ∃ ns' rho',turn ns i n A=some ns'/\Inv ns' rho' c/\Mid ns rho i ns' rho'/\(∃ n',ns'[i]?=some n'/\n'.out=[]):=by
 have o:=h.at' i n N;have O:=(List.getElem?_eq_some_iff.1 N).1
 have ai:n.args[0]?=some x:=by rw [ha];rfl
 unfold turn;rw [ai,Option.bind_some]
 by_cases W:n.op=.sqrt
 ·rw [if_pos W];obtain ⟨a,b,e1,e2,e3,e4,e5⟩:=aFd (l3 W) l2 b1 b2;rw [e1,Option.bind_some]
  have B:NInv ns rho c i {n with t:=[(0,0),(b,0),(a,b),(0,a)],nest:=true}:=by
   refine ⟨o.len,o.arg,o.rd,o.hadl,o.had0,o.fst,o.outu,o.ku,o.readu,o.toldb,o.hadb,o.up,?_,o.pb,o.qb,o.partb,.nest x _ _ _ _ rfl ha hp rfl ⟨⟨rho i-c-1,c,by omega,Nat.le_refl _,by simp only;omega,by omega,fun e=>absurd ⟨hr,ho⟩ e,fun e=>absurd W e⟩,L,aKo (by omega) e3,px⟩⟩;intro v q;simp at q
   rcases q with rfl | rfl | rfl | rfl
   ·exact ⟨bits0,bits0⟩
   ·exact ⟨aAg e5 (by decide),bits0⟩
   ·exact ⟨aAg e4 (by decide),aAg e5 (by decide)⟩
   ·exact ⟨bits0,aAg e4 (by decide)⟩
  obtain ⟨S,U,p3⟩:=h.put N (n':={n with t:=[(0,0),(b,0),(a,b),(0,a)],nest:=true}) rfl (Nat.le_refl _) B;exact ⟨_,rho,S,U,Mid.set N rfl (Nat.le_refl _),_,List.getElem?_set_self O,ho⟩
 ·rw [if_neg W]
  -- z
  have Z:∃ u C z,(if 0<A.1 then (more ns (fresh true (restCols n.op A) [x])).map fun u=>(u,ns.length) else some (ns,x))=some (u,z)/\Grown ns rho c (rho x+1) u C/\Pos u z/\C z<=rho x+1:=by
   by_cases X:0<A.1
   ·rw [if_pos X]
    obtain ⟨k1,k2,k3⟩:=aA5 h (r:=rho x+1) (n':=fresh true (restCols n.op A) [x]) (by
     refine aA0 M rfl rfl rfl rfl rfl (by simpa [fresh] using M) ?_ bits0 bits0 ?_ (.una _ _ x rfl rfl (fun e=>by cases e))
     ·intro v q;simp [fresh,restCols] at q
      rcases q with rfl | rfl
      ·refine ⟨aAg b2 (by decide),?_⟩;simp only;split
       ·exact aAg b1 (by decide)
       ·exact bits0
      ·refine ⟨aAg (aBw b1) (by decide),?_⟩;simp only;split
       ·exact aAg (aAH b1 b2) (by decide)
       ·exact aAg b2 (by decide)
     ·intro j b H;have:=args1 H;subst this;rw [aBg px.lt,aAQ]
      exact ⟨px.lt,by omega⟩)
    rw [k1];exact ⟨_,_,_,rfl,k2,aBT rfl,by rw [k3];exact Nat.le_refl _⟩
   ·rw [if_neg X];exact ⟨_,_,_,rfl,Grown.refl h _,px,by omega⟩
  obtain ⟨u,C,z,e1,g1,pz,rz⟩:=Z;rw [e1,Option.bind_some]
  -- the nest
  obtain ⟨F,rho2,d,e2,g2,hd,pd⟩:=aJt (base:=rho x+3) g1.inv M (k:=0) (sq:=none) L W (by omega) pz (by omega) (fun s e=>by cases e);simp only;rw [e2,Option.bind_some];have rd:rho2 d<=rho x+3+c+1:=g2.ranks d hd pd.lt;have G2:Grown ns rho c (rho x+3+c+1) F rho2:=(g1.weak (by omega)).trans g2
  -- raised
  have T:∃ p m t,(if n.op=.exp then (more F (raised d)).map fun p=>(p,F.length) else some (F,d))=some (p,t)/\Grown ns rho c (rho x+3+c+2) p m/\Pos p t/\m t<=rho x+3+c+2:=by
   by_cases Y:n.op=.exp
   ·rw [if_pos Y]
    obtain ⟨k1,k2,k3⟩:=aA5 G2.inv (r:=rho x+3+c+2) (n':=raised d) (by
     refine aA0 M rfl rfl rfl rfl rfl (by simpa [raised,fresh] using M) ?_ bits0 bits0 ?_ (.una _ _ d rfl rfl (fun e=>by cases e))
     ·intro v q;simp [raised,fresh] at q
      rcases q with rfl | rfl
      ·exact ⟨bits1 (by decide),aBw (bits1 (by decide))⟩
      ·exact ⟨bits1 (by decide),bits1 (by decide)⟩
     ·intro j b H;have:=args1 H;subst this;rw [aBg pd.lt,aAQ]
      exact ⟨pd.lt,by omega⟩)
    rw [k1];exact ⟨_,_,_,rfl,(G2.weak (by omega)).trans k2,aBT rfl,by rw [k3];exact Nat.le_refl _⟩
   ·rw [if_neg Y];exact ⟨_,_,_,rfl,G2.weak (by omega),pd,by omega⟩
  obtain ⟨p,m,t,e3,I,pt,rt⟩:=T;simp only;rw [e3,Option.bind_some];simp only;have D:=I.at' N;have g:=I.inv.at' i n D;have ak:m i=rho i:=I.agree i O
  by_cases X:A.1=0
  ·rw [if_pos X]
   have B:NInv p m c i {n with args:=[t]}:=by
    refine ⟨by simp [hr],?_,?_,g.hadl,g.had0,g.fst,g.outu,g.ku,g.readu,g.toldb,g.hadb,g.up,g.tb,g.pb,g.qb,g.partb,.una v w t ht rfl (fun e=>by simp only at e;rw [hp] at e;cases e)⟩
    ·intro j b H;have:=args1 H;subst this;exact ⟨pt.lt,by rw [ak];omega⟩
    ·intro j b r' x' H y av;simp only [hr] at y;have:=args1 y;omega
   obtain ⟨S,U,p3⟩:=I.inv.put D (n':={n with args:=[t]}) rfl (Nat.le_refl _) B;exact ⟨_,m,S,U,(Mid.grown I (by omega)).trans O (Mid.set D rfl (Nat.le_refl _)),_,List.getElem?_set_self (List.getElem?_eq_some_iff.1 D).1,ho⟩
  ·rw [if_neg X];obtain ⟨J,rho4,f,e4,g4,hf,pf⟩:=aEu I.inv M L (show 0<A.1 by omega) l2 b1 b2;rw [e4,Option.bind_some];simp only;have P:Grown ns rho c (rho x+3+c+2) J rho4:=I.trans (g4.weak (by omega));have E:=P.at' N;have l:=P.inv.at' i n E;have R:rho4 i=rho i:=P.agree i O;have rf:rho4 f<=1:=g4.ranks f hf pf.lt;have al:rho4 t=m t:=g4.agree t pt.lt;have am:Pos J t:=pt.le g4.le
   have B:NInv J rho4 c i {n with t:=(if n.op=.exp then Kind.mul else Kind.add).cols,args:=[f,t],read:=[0,0]}:=by
    refine ⟨rfl,?_,?_,l.hadl,l.had0,l.fst,l.outu,l.ku,?_,l.toldb,l.hadb,l.up,?_,l.pb,l.qb,l.partb,?_⟩
    ·intro j b H
     rcases args2 H with rfl | rfl
     ·exact ⟨pf.lt,by rw [R];omega⟩
     ·exact ⟨am.lt,by rw [R,al];omega⟩
    ·intro j b r' x' H y av
     rcases args2 y with e | e<;>omega
    ·intro r' y;simp at y;omega
    ·intro v q;simp only at q;split at q
     ·simp [Kind.cols] at q
      rcases q with rfl | rfl | rfl
      ·exact ⟨bits1 (by decide),bits0⟩
      ·exact ⟨bits0,bits0⟩
      ·exact ⟨bits0,bits1 (by decide)⟩
     ·simp [Kind.cols] at q
      rcases q with rfl | rfl | rfl
      ·exact ⟨bits0,bits0⟩
      ·exact ⟨bits1 (by decide),bits0⟩
      ·exact ⟨bits0,bits1 (by decide)⟩
    ·by_cases Y:n.op=.exp
     ·exact .bin f t _ _ _ _ (by simp only [Y,if_true];rfl) rfl hp
     ·exact .bin f t _ _ _ _ (by simp only [Y,if_false];rfl) rfl hp
   obtain ⟨S,U,p3⟩:=P.inv.put E (n':={n with t:=(if n.op=.exp then Kind.mul else Kind.add).cols,args:=[f,t],read:=[0,0]}) rfl (Nat.le_refl _) B;exact ⟨_,rho4,S,U,(Mid.grown P (by omega)).trans O (Mid.set E rfl (Nat.le_refl _)),_,List.getElem?_set_self (List.getElem?_eq_some_iff.1 E).1,ho⟩
end
end Rf
namespace Rf
open Nw
section
variable {ns:List Nd} {rho:Nat->Nat} {c i:Nat} {n:Nd}
theorem aJb (l:List Nat)(k:Nat):(bump l k).length=l.length:=by
 induction l generalizing k with
 | nil=>rfl
 | cons r rs ih=>cases k with
  | zero=>rfl
  | succ k=>simp [bump,ih]
theorem aLn (l:List Nat)(k j:Nat):(bump l k)[j]?=(l[j]?).map fun r=>if j=k then r+1 else r:=by
 induction l generalizing k j with
 | nil=>simp [bump]
 | cons r rs ih=>
  cases k with
  | zero=>cases j with
   | zero=>simp [bump]
   | succ j=>simp [bump]
  | succ k=>cases j with
   | zero=>simp [bump]
   | succ j=>simp [bump,ih]
theorem aJc {l:List Nat}{k r:Nat}(h:r∈bump l k):r∈l\/∃ r',l[k]?=some r'/\r=r'+1:=by
 obtain ⟨j,d,e⟩:=List.getElem_of_mem h
 have a:(bump l k)[j]?=some r:=by rw [List.getElem?_eq_getElem d,e]
 rw [aLn] at a
 cases b:l[j]? with
 | none=>rw [b] at a;simp at a
 | some r'=>
  rw [b] at a;simp at a;split at a
  ·rename_i c;subst c;exact Or.inr ⟨r',b,a.symm⟩
  ·subst a;exact Or.inl (List.mem_of_getElem? b)
theorem aJa (h:Inv ns rho (c+1))(t:ns[i]?=some n){sd a r:Nat}{x:Nd}(o:n.args[sd]?=some a)(u:n.read[sd]?=some r)(z:ns[a]?=some x)(N:r<x.out.length):
  NInv ns rho c i {n with read:=bump n.read sd}:=by
 have p:=h.at' i n t;have A:=(List.getElem?_eq_some_iff.1 t).1;have f:=p.mono (c':=c) (Le.refl _) (fun _ _=>rfl) A (by omega);have B:=(h.at' a x z).outu;refine ⟨by simp [aJb,p.len],f.arg,?_,f.hadl,f.had0,f.fst,f.outu,f.ku,?_,f.toldb,f.hadb,f.up,f.tb,f.pb,f.qb,f.partb,?_⟩
 ·intro j b s M q d g;simp only [aLn] at d
  cases m:n.read[j]? with
  | none=>rw [m] at d;simp at d
  | some r0=>
   rw [m] at d;simp at d;have O:=p.rd j b r0 M q m g;split at d
   ·rename_i e;subst e;rw [o] at q;cases q;rw [z] at g;cases g;rw [u] at m;cases m;omega
   ·omega
 ·intro s d
  rcases aJc d with k | ⟨r0,k,D⟩
  ·exact f.readu s k
  ·rw [u] at k;cases k;omega
 ·cases p.shp with
  | con ht ha' hp hc=>rw [ha'] at o;simp at o
  | frac v ht ha' hp hv=>rw [ha'] at o;simp at o
  | una v w a' ht ha' hp=>exact .una v w a' ht ha' hp
  | bin a' b v w x y ht ha' hp=>exact .bin a' b v w x y ht ha' hp
  | nest a' v w x y ht ha' hp hn' ok=>
   obtain ⟨⟨l,C,k,D,E,F,P,H⟩,I,J,L⟩:=ok;exact .nest a' v w x y ht ha' hp hn' ⟨⟨l,C,k,by omega,E,F,fun _=>by omega,H⟩,I,J,L⟩
theorem aQi (h:Inv ns rho c)(e:ns[i]?=some n){sd:Nat}:Ok {n with read:=bump n.read sd}:=by
 have b:=h.at' i n e;have a:=b.ok;refine ⟨a.t,a.told,a.had,a.part,a.p,a.q,?_,a.out,a.k⟩;intro r d
 rcases aJc d with h1 | ⟨r0,h1,h2⟩
 ·exact a.read r h1
 ·have:=b.readu r0 (List.mem_of_getElem? h1);omega
theorem aEU {s:St}(E:s.clock=(c:Int))(h:Inv s.nodes rho c)(hc:c<=3000)(B:s.nodes[i]?=some n){sd a r:Nat}{x:Nd}(ha:n.args[sd]?=some a)(hr:n.read[sd]?=some r)(hx:s.nodes[a]?=some x)(X:r<x.out.length)(Y:n.probe=true->sd=0):
  ∃ s' b,after s i sd=some (s',b)/\(b=true->∃ rho' c',c'<c/\s'.clock=(c':Int)/\Inv s'.nodes rho' c'/\Mid s.nodes rho i s'.nodes rho'/\∃ n',s'.nodes[i]?=some n'/\n'.out=n.out):=by
 have J:=(List.getElem?_eq_some_iff.1 B).1;unfold after;rw [B,Option.bind_some]
 cases c with
 | zero=>
  have g:put s.nodes i {n with read:=bump n.read sd}=some (s.nodes.set i {n with read:=bump n.read sd}):=by
   unfold put;rw [if_pos ⟨aQi h B,J⟩]
  rw [g,Option.bind_some,if_pos (by rw [E];decide)];exact ⟨_,_,rfl,fun e=>by cases e⟩
 | succ c=>
  have hB:=aJa h B ha hr hx X;obtain ⟨p1,F,p3⟩:=(h.tick (show c<=c+1 by omega)).put B (n':={n with read:=bump n.read sd}) rfl (Nat.le_refl _) hB;rw [p1,Option.bind_some,if_neg (by rw [E];omega)]
  have p:s.clock-1=(c:Int):=by rw [E];omega
  have M1:Mid s.nodes rho i (s.nodes.set i {n with read:=bump n.read sd}) rho:=Mid.set B rfl (Nat.le_refl _);have u:(s.nodes.set i {n with read:=bump n.read sd})[i]?=some {n with read:=bump n.read sd}:=List.getElem?_set_self J;have d:=F.at' i _ u;unfold settle
  by_cases l:n.probe=true
  ·rw [if_pos l];have M:=d.shp
   have hS:∃ v w o,n.t=[v,w]/\n.args=[o]/\n.pos=true/\fn n.op/\n.out=[]/\Pos (s.nodes.set i {n with read:=bump n.read sd}) o/\rho o+3100<=rho i/\n.k=0:=by
    cases M with
    | con C f g hc=>simp only at g;rw [l] at g;cases g
    | frac v C f g hv=>simp only at g;rw [l] at g;cases g
    | una v w o C f g=>
     obtain ⟨k1,k2,k3,k4,k5,k6⟩:=g l;exact ⟨v,w,o,C,f,k1,k2,k3,k4,k5,k6⟩
    | bin o b v w x y C f g=>simp only at g;rw [l] at g;cases g
    | nest o v w x y C f g hn' ok=>simp only at g;rw [l] at g;cases g
   obtain ⟨v,w,o,C,f,I,S,ho,pa,ra,hk⟩:=hS;obtain ⟨m,x',L,e1,e2,T,e4⟩:=aBW F d (sd:=0) (a:=o) (by show n.args[0]?=_;rw [f];rfl);rw [e4,Option.bind_some];simp only;obtain ⟨y',U,q2⟩:=pa;rw [U] at e1;cases e1;have z:=F.at' o x' U;have N:Up m:=(z.up q2).2 m (List.mem_of_getElem? T);have O:=z.hadb L m T
   have H:L<=3000:=by have:=z.outu;have:=z.hadl;have:=(List.getElem?_eq_some_iff.1 T).1;omega
   obtain ⟨b1,b2⟩:=aMj O H;obtain ⟨l1,l2,l3⟩:=aQX N
   by_cases D:known n.op (vat m (0,1)) (vat m (1,0))=true
   ·rw [if_pos D]
    obtain ⟨r0,W⟩:∃ r0,n.read=[r0]:=by
     have:=(h.at' i n B).len;rw [f] at this;exact List.length_eq_one_iff.1 this
    have q:((bump n.read sd).set 0 0)=[0]:=by
     rw [Y l,W];rfl
    have P:NInv (s.nodes.set i {n with read:=bump n.read sd}) rho c i {n with read:=(bump n.read sd).set 0 0,probe:=false}:=by
     refine ⟨by simp [aJb,(h.at' i n B).len],d.arg,?_,d.hadl,d.had0,d.fst,d.outu,d.ku,?_,d.toldb,d.hadb,d.up,d.tb,d.pb,d.qb,d.partb,.una v w o C f (fun e=>by cases e)⟩
     ·intro j b L x' hb A bc;simp only [q] at A;have:=args1 A;omega
     ·intro L A;simp only [q,List.mem_singleton] at A;omega
    obtain ⟨t1,t2,t3⟩:=F.put u (n':={n with read:=(bump n.read sd).set 0 0,probe:=false}) rfl (Nat.le_refl _) P;simp only [List.set_set] at t1 t2 t3 ⊢;have M2:Mid s.nodes rho i (s.nodes.set i {n with read:=(bump n.read sd).set 0 0,probe:=false}) rho:=Mid.set B rfl (Nat.le_refl _);have R:(s.nodes.set i {n with read:=(bump n.read sd).set 0 0,probe:=false})[i]?=some {n with read:=(bump n.read sd).set 0 0,probe:=false}:=List.getElem?_set_self J;obtain ⟨a6,rho',u1,u2,u3,n',u4,u5⟩:=aOY t2 (by omega) R (v:=v) (w:=w) (x:=o) C f q rfl I S ho (Pos.le ⟨_,U,q2⟩ t3) ra hk b1 b2 l1 l2 (fun e=>l3 (by rw [<-e];exact D));rw [t1,Option.bind_some,u1];refine ⟨_,_,rfl,fun _=>⟨rho',c,by omega,p,u2,M2.trans J u3,n',u4,by rw [u5,ho]⟩⟩
   ·rw [if_neg D];exact ⟨_,_,rfl,fun _=>⟨rho,c,by omega,p,F,M1,_,u,rfl⟩⟩
  ·rw [if_neg l];exact ⟨_,_,rfl,fun _=>⟨rho,c,by omega,p,F,M1,_,u,rfl⟩⟩
structure Post (s:St) (rho:Nat->Nat) (c i j:Nat) (x:St×Option Int):Prop where
 ex:∀ v,x.2=some v->∃ rho' c',c'<=c/\x.1.clock=(c':Int)/\Inv x.1.nodes rho' c'/\Mid s.nodes rho i x.1.nodes rho'/\∃ n',x.1.nodes[i]?=some n'/\j<n'.out.length
theorem Post.none (s:St)(rho:Nat->Nat)(c i j:Nat)(s':St):Post s rho c i j (s',none):=⟨fun v e=>by cases e⟩
theorem Post.mid {s d:St}{rho a:Nat->Nat}{c c1 i j:Nat}{x:St×Option Int}(n:i<s.nodes.length)(h:Mid s.nodes rho i d.nodes a)(q:c1<=c)(o:Post d a c1 i j x):Post s rho c i j x:=by
 refine ⟨fun v e=>?_⟩;obtain ⟨b,f,p,g,k,l,m⟩:=o.ex v e;exact ⟨b,f,by omega,g,k,h.trans n l,m⟩
theorem total:∀ (f:Nat) (s:St) (i j:Nat) (rho:Nat->Nat) (c:Nat),s.clock=(c:Int)->c<=3000->Inv s.nodes rho c->∀ n,s.nodes[i]?=some n->j<=n.out.length->c+rho i+2<=f->∃ x,sym f s i j=some x/\Post s rho c i j x
 | 0,s,i,j,rho,c,hcl,hc3,h,n,hn,hj,hf=>by omega
 | f+1,s,i,j,rho,c,hcl,hc3,h,n,hn,hj,hf=>by
  have hi:=(List.getElem?_eq_some_iff.1 hn).1;have hN:=h.at' i n hn;unfold sym;rw [hn,Option.bind_some]
  cases hout:n.out[j]? with
  | some v=>
   refine ⟨_,rfl,⟨fun v' e=>⟨rho,c,Nat.le_refl _,hcl,h,Mid.refl _ _ _,n,hn,(List.getElem?_eq_some_iff.1 hout).1⟩⟩⟩
  | none=>
   have hjl:n.out.length=j:=by
    have:=List.getElem?_eq_none_iff.1 hout;omega
   simp only
   obtain ⟨o,u⟩:∃ o,(if n.probe=true then some none else next s.nodes n)=some o:=by
    split
    ·exact ⟨_,rfl⟩
    ·exact aAA h hN
   rw [u,Option.bind_some]
   cases o with
   | some g=>
    have A:n.probe=false:=by
     cases ao:n.probe with
     | false=>rfl
     | true=>rw [ao] at u;simp at u
    rw [A] at u;simp only [Bool.false_eq_true,if_false] at u;simp only
    cases c with
    | zero=>
     rw [if_pos (by rw [hcl];decide)];exact ⟨_,rfl,Post.none _ _ _ _ _ _⟩
    | succ c=>
     rw [if_neg (by rw [hcl];omega)];obtain ⟨n',g1,g2,g3,g4⟩:=aGi h hn A u;unfold give;rw [g1,Option.map_some,Option.bind_some];have D:(s.nodes.set i n')[i]?=some n':=List.getElem?_set_self hi
     have E:n'.pos=n.pos:=by
      obtain ⟨m,I,J,_⟩:=g3.at' i n hn;rw [D] at I;cases I;exact J
     obtain ⟨x,R,S⟩:=total f ⟨s.nodes.set i n',s.clock-1⟩ i j rho c (by simp only;rw [hcl];omega) (by omega) g2 n' D (by omega) (by omega);exact ⟨x,R,S.mid hi (Mid.set hn E (by omega)) (by omega)⟩
   | none=>
    simp only
    suffices hR:∃ L b,reads (sym f) s i n=some (L,b)/\(b=true->∃ l T,T<c/\L.clock=(T:Int)/\Inv L.nodes l T/\Mid s.nodes rho i L.nodes l/\∃ n',L.nodes[i]?=some n'/\n'.out=n.out) by
     obtain ⟨L,b,r1,r2⟩:=hR;rw [r1,Option.bind_some]
     cases b with
     | false=>exact ⟨_,rfl,Post.none _ _ _ _ _ _⟩
     | true=>
      obtain ⟨l,T,I,J,k3,k4,n',k5,k6⟩:=r2 rfl;simp only [if_true];obtain ⟨x,R,S⟩:=total f L i j l T J (by omega) k3 n' k5 (by rw [k6];omega) (by rw [k4.agree i hi];omega);exact ⟨x,R,S.mid hi k4 (by omega)⟩
    unfold reads
    by_cases H:n.t=[]
    ·rw [if_pos H]
     cases c with
     | zero=>
      -- the clock has run out
      have M:ConOk n:=by
       cases hN.shp with
       | con H ha A hc=>exact hc
       | frac v ht' ha A hv=>rw [H] at ht';cases ht'
       | una v w a ht' ha A=>rw [H] at ht';cases ht'
       | bin a b v w x y ht' ha A=>rw [H] at ht';cases ht'
       | nest a v w x y ht' ha A hn ok=>rw [H] at ht';cases ht'
      have a1:=hN.ku;obtain ⟨m,m1,m2⟩:=aCn M (k:=n.k) (by omega) hN.pb hN.qb
      have ab:Ok {n with part:=n.part.mul m,k:=n.k+1}:=by
       have u:=hN.ok;refine ⟨u.t,u.told,u.had,MBits.mono (aGt hN.partb m2) ?_,u.p,u.q,u.read,u.out,by simp only;omega⟩;have:n.k*18500<=3000*18500:=Nat.mul_le_mul_right _ (by omega);omega
      have N:put s.nodes i {n with part:=n.part.mul m,k:=n.k+1}=some (s.nodes.set i {n with part:=n.part.mul m,k:=n.k+1}):=by
       unfold put;rw [if_pos ⟨ab,hi⟩]
      rw [m1,Option.bind_some,N,Option.map_some];refine ⟨_,_,rfl,fun e=>?_⟩;rw [hcl] at e;exact absurd e (by decide)
     | succ c=>
      obtain ⟨m,n',m1,m2,m3,m4,m5⟩:=aIc h hn H;rw [m1,Option.bind_some,m2,Option.map_some];have D:(s.nodes.set i n')[i]?=some n':=List.getElem?_set_self hi
      have E:n'.pos=n.pos:=by
       obtain ⟨m,I,J,_⟩:=m4.at' i n hn;rw [D] at I;cases I;exact J
      exact ⟨_,_,rfl,fun _=>⟨rho,c,by omega,by simp only;rw [hcl];omega,m3,Mid.set hn E (by rw [m5];exact Nat.le_refl _),n',D,m5⟩⟩
    ·rw [if_neg H]
     -- which side,and the nodes with that argument
     have hS:∃ B F z n1 a r,side s.nodes n=some B/\wide s i n B=some F/\F.clock=(c:Int)/\Inv F.nodes z c/\Mid s.nodes rho i F.nodes z/\F.nodes[i]?=some n1/\n1.args[B]?=some a/\n1.read[B]?=some r/\n1.out=n.out/\(n1.probe=true->B=0):=by
      cases hN.shp with
      | con ht' ha A hc=>exact absurd ht' H
      | frac v ht' ha A hv=>
       rw [A] at u;simp only [Bool.false_eq_true,if_false] at u;exact absurd u (aFI ht' ha hN.fst hv)
      | una v w a ht' ha A=>
       obtain ⟨r,W⟩:∃ r,n.read=[r]:=List.length_eq_one_iff.1 (by rw [hN.len,ha];rfl);refine ⟨0,s,rho,n,a,r,aJO ht',?_,hcl,h,Mid.refl _ _ _,hn,by rw [ha];rfl,by rw [W];rfl,rfl,fun _=>rfl⟩;unfold wide;rw [if_neg (by rw [ha];simp)]
      | bin a b v w x y ht' ha A=>
       obtain ⟨B,C,aj⟩:=aDR h hN
       have hl:B<n.args.length:=by rw [ha];simp;omega
       refine ⟨B,s,rho,n,n.args[B],n.read[B]'(by rw [hN.len];exact hl),C,?_,hcl,h,Mid.refl _ _ _,hn,List.getElem?_eq_getElem _,List.getElem?_eq_getElem _,rfl,fun e=>by rw [A] at e;cases e⟩;unfold wide;rw [if_neg (by omega)]
      | nest a v w x y ht' ha A hne ok=>
       obtain ⟨r,W⟩:∃ r,n.read=[r]:=List.length_eq_one_iff.1 (by rw [hN.len,ha];rfl);obtain ⟨B,C,aj⟩:=aDR h hN
       by_cases hz:B=0
       ·subst hz;refine ⟨0,s,rho,n,a,r,C,?_,hcl,h,Mid.refl _ _ _,hn,by rw [ha];rfl,by rw [W];rfl,rfl,fun _=>rfl⟩;unfold wide;rw [if_neg (by rw [ha];simp)]
       ·have ad:B=1:=by omega
        subst ad
        have ae:¬(n.read=[0]/\n.out=[]):=by
         rintro ⟨I,J⟩;rw [aFS h hN ht' ha hne ok.first ok.pos I J] at C;simp at C
        obtain ⟨ak,l,d,n',w1,w2,w3,w4,X⟩:=aKa (cl:=s.clock) h hc3 hn ht' ha A ok ae;refine ⟨1,⟨ak,s.clock⟩,l,n',d,0,C,w1,hcl,w2,w3,w4,by rw [X];simp [ha],by rw [X];simp [W],by rw [X],fun e=>by rw [X] at e;simp only at e;rw [A] at e;cases e⟩
     obtain ⟨B,F,z,n1,a,r,e1,e2,e3,e4,e5,Y,e7,e8,e9,am⟩:=hS;rw [e1,Option.bind_some,e2,Option.bind_some,Y,Option.bind_some,e7,Option.bind_some,e8,Option.bind_some];have O:=e4.at' i n1 Y;obtain ⟨la,ra⟩:=O.arg B a e7;have P:F.nodes[a]?=some F.nodes[a]:=List.getElem?_eq_getElem la;have a4:z i=rho i:=e5.agree i hi;obtain ⟨x,R,S⟩:=total f F a r z c e3 hc3 e4 _ P (O.rd B a r _ e7 e8 P) (by omega);rw [R,Option.bind_some];obtain ⟨s2,o2⟩:=x
     cases o2 with
     | none=>exact ⟨_,_,rfl,fun e=>by cases e⟩
     | some v=>
      obtain ⟨ax,c2,y1,y2,y3,y4,n',y5,y6⟩:=S.ex v rfl;simp only at y2 y3 y4 y5;have af:s2.nodes[i]?=some n1:=y4.same i n1 Y ra;have ag:i<F.nodes.length:=(List.getElem?_eq_some_iff.1 Y).1;obtain ⟨s3,b,z1,z2⟩:=aEU y2 y3 (by omega) af e7 e8 y5 y6 am;refine ⟨s3,b,z1,fun hb=>?_⟩;obtain ⟨U,c3,q1,q2,q3,q4,n3,q5,q6⟩:=z2 hb;refine ⟨U,c3,by omega,q2,q3,?_,n3,q5,by rw [q6,e9]⟩;exact (e5.trans hi ((y4.up ra).trans ag q4))
end
end Rf
open Go.RowKit
namespace Ab
open Rf (Nd Inv NInv)
inductive Own where
 | nd (i:Nat)
 | gv (i:Nat)
 | pd (i:Nat)
def nilP:Value:=.pointer none
def nilS':Value:=.slice none 0 0
def ptrB (k:Nat):Value:=.pointer (some ⟨k,0,none⟩)
def lArg (n:Nd):Option Nat:=if n.t.length=4 then n.args[0]? else none
def rArg (n:Nd):Option Nat:=if n.t.length=4 then n.args[1]? else if n.t.length=2 then n.args[0]? else none
def lRd (n:Nd):Nat:=if n.t.length=4 then n.read.getD 0 0 else 0
def rRd (n:Nd):Nat:=if n.t.length=4 then n.read.getD 1 0 else if n.t.length=2 then n.read.getD 0 0 else 0
def ptrV (at':Nat->Nat):Option Nat->Value
 | none=>nilP
 | some a=>ptrB (at' a)
def kindZ:Rf.Op->Int
 | .none=>0
 | .pi=>2
 | .e=>3
 | .cf=>4
 | .sqrt=>10
 | .exp=>11
 | .ln1p=>12
 | .atan=>13
def unsZ (n:Nd):Int:=if n.probe then kindZ n.op else 0
def colsZ:List Int->List Rf.V
 | [a,b,c,d,e,f,g,h]=>[(a,b),(c,d),(e,f),(g,h)]
 | _=>[]
def GivOk (w:World)(b0:Nat)(own:Nat->Option Own)(i:Nat)(out:List Int)(gv:Value):Prop:=
 (gv=nilS'/\out=[])\/∃ g cap,∃ rest:List Value,gv=.slice (some ⟨g,0,none⟩) out.length cap/\w.heap[g]?=some (.cells (out.map (fun c=>Value.int .i64 (code c))++rest).toArray 100 (0,0))/\out.length<=cap/\cap<=out.length+rest.length/\own g=some (.gv i)/\b0<=g
structure ConAt (w:World) (n:Nd) (cb:Nat):Prop where
 blk:∃ cs:List Value,w.heap[cb]?=some (.cells cs.toArray 224 (0,0))
 mat:∀ k:Nat,k<=3000->∃ f a b c d:Int,0<f/\Rf.constant n k=some (Pg.msc f ⟨a,b,c,d⟩)/\(∀ z∈[a,b,c,d],Bits 2 z)/\∀ W,On Z.bt w W->Calls Tryz.prog 216 #[ptrB cb,.int .i64 k] W fun e w'=>∃ xs:List Value,e=.returned (.agg xs.toArray)/\Hold true w' [a,b,c,d] xs/\Below W.heap.size W w'
def NstAt (w:World)(b0:Nat)(own:Nat->Option Own)(at':Nat->Nat)(i:Nat)(n:Nd)(nb:Nat)(pl:Int):Prop:=
 ∃ (xs:List Value) (zs:List Int) (fst fur:Value),w.heap[nb]?=some (.cells (.int .i64 (kindZ n.op)::fst::fur::xs).toArray 273 (0,0))/\Hold true w zs xs/\zs.length=8/\(∀ z∈zs,Bits 1 z)/\
  (n.op=.sqrt->∃ a,n.args[0]?=some a/\fst=ptrB (at' a)/\fur=ptrB (at' a)/\Pg.Cof n.t (colsZ zs))/\
  (n.op≠.sqrt->pl=n.k/\∃ x,n.x=some x/\fst=ptrB (at' x)/\(n.op=.ln1p->fur=ptrB (at' x))/\(n.op≠.ln1p->(∀ s,n.square=some s->fur=ptrB (at' s))/\
   (n.square=none->∃ pb,fur=ptrB pb/\own pb=some (.pd i)/\b0<=pb/\NodeAt w pb [1,0,0,0,0,0,0,1] false 0 0 0 0 0 (ptrB (at' x)) (ptrB (at' x)) nilS' nilP nilP)))
def NstOk (w:World)(b0:Nat)(own:Nat->Option Own)(at':Nat->Nat)(i:Nat)(n:Nd)(nv:Value)(pl:Int):Prop:=
 (n.nest=false->nv=nilP)/\(n.nest=true->∃ nb,nv=ptrB nb/\(∃ cs:List Value,w.heap[nb]?=some (.cells cs.toArray 273 (0,0)))/\(n.t.length=4->n.args.length=1->NstAt w b0 own at' i n nb pl))
structure Blk (w:World) (b0:Nat) (own:Nat->Option Own) (at':Nat->Nat) (i:Nat) (n:Nd) (p0 q0 p1 q1 p2 q2 p3 q3 mt pl:Int) (gv cv nv:Value):Prop where
 nd:NodeAt w (at' i) [p0,q0,p1,q1,p2,q2,p3,q3] (!n.pos) (unsZ n) mt (lRd n) (rRd n) pl (ptrV at' (lArg n)) (ptrV at' (rArg n)) gv cv nv
 giv:GivOk w b0 own i n.out gv
 con:n.t=[]->mt=n.k/\∃ cb,cv=ptrB cb/\ConAt w n cb
 nocon:n.t≠[]->cv=nilP
 nst:NstOk w b0 own at' i n nv pl
structure NodeOk (w:World) (b0:Nat) (own:Nat->Option Own) (at':Nat->Nat) (ns:List Nd) (i:Nat) (n:Nd):Prop where
 ex:∃ p0 q0 p1 q1 p2 q2 p3 q3 mt pl gv cv nv,Blk w b0 own at' i n p0 q0 p1 q1 p2 q2 p3 q3 mt pl gv cv nv/\∃ l,Rf.corners ns n=some l/\Pg.Cof l [(p0,q0),(p1,q1),(p2,q2),(p3,q3)]
 hc:Pg.HC n
 own:own (at' i)=some (.nd i)
 lo:b0<=at' i
 prb:n.probe=true->n.t=[(1,0),(0,1)]/\n.nest=false
structure Net (w:World) (b0:Nat) (own:Nat->Option Own) (at':Nat->Nat) (fb:Nat) (s:Rf.St):Prop where
 nd:∀ i n,s.nodes[i]?=some n->NodeOk w b0 own at' s.nodes i n
 fuel:w.heap[fb]?=some (.cells #[.int .i64 s.clock] 195 (0,0))
 fb0:b0<=fb
structure Chg (w w':World) (D:List Nat):Prop where
 on:On Z.bt w w'
 low:∀ k,k<w.heap.size->k∉D->w'.heap[k]?=w.heap[k]?
theorem Chg.refl (w:World):Chg w w []:=⟨On.refl _ _,fun _ _ _=>rfl⟩
theorem Chg.aAi {w w':World}(h:Below w.heap.size w w'):Chg w w' []:=⟨On.below h,fun k hk _=>h.block k hk⟩
theorem Chg.at {w w':World}{D:List Nat}(h:Chg w w' D){k:Nat}{o:Obj}(hk:w.heap[k]?=some o)(hd:k∉D):w'.heap[k]?=some o:=by rw [h.low k (aAf hk) hd];exact hk
theorem Chg.weak {w w':World}{D D':List Nat}(h:Chg w w' D)(hd:∀ k∈D,k∈D'):Chg w w' D':=⟨h.on,fun k hk hn=>h.low k hk fun e=>hn (hd k e)⟩
theorem Chg.trans {w w' w'':World}{D:List Nat}(h:Chg w w' D)(h':Chg w' w'' D):Chg w w'' D:=⟨h.on.trans h'.on,fun k hk hd=>by rw [h'.low k (Nat.lt_of_lt_of_le hk h.on.size) hd,h.low k hk hd]⟩
def IsD (w:World)(own:Nat->Option Own)(i:Nat)(D:List Nat):Prop:=∀ k∈D,∀ cs ty m,w.heap[k]?=some (.cells cs ty m)->(ty=205/\own k=some (.nd i))\/(ty=100/\own k=some (.gv i))\/ty=195
theorem aAm {w w':World}(h:On Z.bt w w'):∀ {zs:List Int} {xs:List Value},Hold true w zs xs->Hold true w' zs xs
 | [],[],_=>trivial
 | _::zs,_::_::xs,⟨h1,h2,h3⟩=>⟨h1,(show Z.dig true w' _ _ from Z.digOn (k:=true) h h2),aAm h h3⟩
 | [],_::_,h=>h.elim
 | _::_,[],h=>h.elim
 | _::_,[_],h=>h.elim
theorem NodeAt.keep {w w':World}{k:Nat}{zs:List Int}{hs:Bool}{uns mt lr rr pl:Int}{lp rp gv cv nv:Value}(h:NodeAt w k zs hs uns mt lr rr pl lp rp gv cv nv)(a:On Z.bt w w')(e:w'.heap[k]?=w.heap[k]?):NodeAt w' k zs hs uns mt lr rr pl lp rp gv cv nv:=by
 obtain ⟨b,c,d⟩:=h.ex;exact ⟨b,by rw [e];exact c,aAm a d⟩
theorem NodeAt.lt {w:World}{k:Nat}{zs:List Int}{hs:Bool}{uns mt lr rr pl:Int}{lp rp gv cv nv:Value}(h:NodeAt w k zs hs uns mt lr rr pl lp rp gv cv nv):k<w.heap.size:=by
 obtain ⟨b,a,c⟩:=h.ex;exact aAf a
section
variable {w w':World} {b0:Nat} {own own':Nat->Option Own} {D:List Nat} {i0:Nat}
theorem NodeAt.notin {k:Nat}{zs:List Int}{hs:Bool}{uns mt lr rr pl:Int}{lp rp gv cv nv:Value}(h:NodeAt w k zs hs uns mt lr rr pl lp rp gv cv nv)(c:IsD w own i0 D)(d:own k≠some (.nd i0)):k∉D:=by
 intro b;obtain ⟨f,a,g⟩:=h.ex
 rcases c k b _ _ _ a with ⟨_,e⟩ | ⟨e,_⟩ | e
 ·exact d e
 ·exact absurd e (by decide)
 ·exact absurd e (by decide)
theorem GivOk.keep {i:Nat}{a:List Int}{gv:Value}(h:GivOk w b0 own i a gv)(d:Chg w w' D)(f:IsD w own i0 D)(j:i≠i0)(b:∀ k o,k<w.heap.size->own k=some o->o≠.pd i0->own' k=some o):GivOk w' b0 own' i a gv:=by
 rcases h with h | ⟨g,cap,rest,h1,h2,h3,h4,h5,h6⟩
 ·exact Or.inl h
 ·refine Or.inr ⟨g,cap,rest,h1,d.at h2 ?_,h3,h4,b _ _ (aAf h2) h5 (by intro e;cases e),h6⟩;intro c
  rcases f g c _ _ _ h2 with ⟨e,_⟩ | ⟨_,e⟩ | e
  ·exact absurd e (by decide)
  ·rw [h5] at e;cases e;exact j rfl
  ·exact absurd e (by decide)
theorem ConAt.keep {n:Nd}{cb:Nat}(h:ConAt w n cb)(g:On Z.bt w w'):ConAt w' n cb:=by
 obtain ⟨l,i⟩:=h.blk;refine ⟨⟨l,?_⟩,fun k hk=>?_⟩
 rotate_left
 ·obtain ⟨f,a,b,c,d,m,o,p,q⟩:=h.mat k hk;exact ⟨f,a,b,c,d,m,o,p,fun W hW=>q W (g.trans hW)⟩
 rcases g.blk cb _ i with e | ⟨e,_⟩
 ·exact e
 ·have j:bt0.contains 224=true:=e;exact absurd j (by decide)
theorem ConAt.of {n n':Nd}{cb:Nat}(h:ConAt w n cb)(a:∀ k,Rf.constant n' k=Rf.constant n k):ConAt w n' cb:=by
 refine ⟨h.blk,fun k hk=>?_⟩;rw [a];exact h.mat k hk
theorem NstAt.keep {at1 at2:Nat->Nat}{i:Nat}{n:Nd}{nb:Nat}{pl:Int}{N:Nat}(h:NstAt w b0 own at1 i n nb pl)(l:Chg w w' D)(A:IsD w own i0 D)(j:∀ k o,k<w.heap.size->own k=some o->o≠.pd i0->own' k=some o)(Y:i=i0->n.square≠none\/∀ k,k<w.heap.size->own k=some (.pd i0)->own' k=some (.pd i0))(c:∀ a,a<N->at2 a=at1 a)(B:∀ a,n.args[0]?=some a->a<N)(hx:n.op≠.sqrt->∀ x,n.x=some x->x<N)(hs:n.op≠.sqrt->∀ s,n.square=some s->s<N):NstAt w' b0 own' at2 i n nb pl:=by
 obtain ⟨C,E,p,q,u,F,H,I,J,L⟩:=h
 have m:nb∉D:=by
  intro X
  rcases A nb X _ _ _ u with ⟨e,_⟩ | ⟨e,_⟩ | e<;>exact absurd e (by decide)
 refine ⟨C,E,p,q,l.at u m,aAm l.on F,H,I,?_,?_⟩
 ·intro b;obtain ⟨a,r,M,O,P⟩:=J b;exact ⟨a,r,by rw [c a (B a r)];exact M,by rw [c a (B a r)];exact O,P⟩
 ·intro b;obtain ⟨R,x,v,S,T,y⟩:=L b;have d:=c x (hx b x v);refine ⟨R,x,v,by rw [d];exact S,by rw [d];exact T,fun hl=>⟨fun s e=>by rw [c s (hs b s e)];exact (y hl).1 s e,fun e=>?_⟩⟩;obtain ⟨z,U,t,W,g⟩:=(y hl).2 e;refine ⟨z,U,?_,W,?_⟩
  ·by_cases f:i=i0
   ·rcases Y f with h | h
    ·exact absurd e h
    ·subst f;exact h _ g.lt t
   ·exact j _ _ g.lt t (by intro e;cases e;exact f rfl)
  ·rw [d];exact g.keep l.on (l.low z g.lt (g.notin A (by rw [t];intro e;cases e)))
theorem NodeOk.keep {at1 at2:Nat->Nat}{ns C:List Nd}{rho:Nat->Nat}{c i:Nat}{n:Nd}(h:NodeOk w b0 own at1 ns i n)(A:Chg w w' D)(F:IsD w own i0 D)(O:i≠i0)(P:i<ns.length)(R:Pg.Go ns C)(f:∀ k o,k<w.heap.size->own k=some o->o≠.pd i0->own' k=some o)(g:∀ a,a<ns.length->at2 a=at1 a)(Y:NInv ns rho c i n):NodeOk w' b0 own' at2 C i n:=by
 obtain ⟨p0,q0,p1,q1,p2,q2,p3,q3,mt,pl,gv,cv,nv,p,l,H,I⟩:=h.ex;have d:=g i P
 have m:∀ a,a∈n.args->a<ns.length:=by
  intro a B;obtain ⟨j,hj,e⟩:=List.getElem_of_mem B;exact (Y.arg j a (by rw [List.getElem?_eq_getElem hj,e])).1
 have hL:ptrV at2 (lArg n)=ptrV at1 (lArg n):=by
  unfold lArg;split
  ·cases e:n.args[0]? with
   | none=>rfl
   | some a=>simp only [ptrV];rw [g a (m a (List.mem_of_getElem? e))]
  ·rfl
 have hR:ptrV at2 (rArg n)=ptrV at1 (rArg n):=by
  unfold rArg;split
  ·cases e:n.args[1]? with
   | none=>rfl
   | some a=>simp only [ptrV];rw [g a (m a (List.mem_of_getElem? e))]
  ·split
   ·cases e:n.args[0]? with
    | none=>rfl
    | some a=>simp only [ptrV];rw [g a (m a (List.mem_of_getElem? e))]
   ·rfl
 refine ⟨⟨p0,q0,p1,q1,p2,q2,p3,q3,mt,pl,gv,cv,nv,⟨?_,p.giv.keep A F O f,?_,p.nocon,?_⟩,l,R.corners H,I⟩,h.hc,by rw [d];exact f _ _ p.nd.lt h.own (by intro e;cases e),by rw [d];exact h.lo,h.prb⟩
 ·rw [d,hL,hR];exact p.nd.keep A.on (A.low _ p.nd.lt (p.nd.notin F (by rw [h.own];intro e;cases e;exact O rfl)))
 ·intro r;obtain ⟨J,cb,E,L⟩:=p.con r;exact ⟨J,cb,E,L.keep A.on⟩
 ·refine ⟨p.nst.1,fun hne=>?_⟩;obtain ⟨S,J,⟨cs,E⟩,L⟩:=p.nst.2 hne;refine ⟨S,J,⟨cs,A.at E ?_⟩,fun r B=>?_⟩
  ·intro hk
   rcases F S hk _ _ _ E with ⟨e,_⟩ | ⟨e,_⟩ | e<;>exact absurd e (by decide)
  ·have t:∃ a,n.args=[a]/\Rf.NestOk ns rho c i n a:=by
    cases Y.shp with
    | con ht' _ _ _=>rw [ht'] at r;simp at r
    | frac v ht' _ _ _=>rw [ht'] at r;simp at r
    | una v u a ht' _ _=>rw [ht'] at r;simp at r
    | bin a b v u x y ht' q _=>rw [q] at B;simp at B
    | nest a v u x y ht' q _ _ M=>exact ⟨a,q,M⟩
   obtain ⟨a,q,M⟩:=t;obtain ⟨T,ck,_,_,_,_,_,U⟩:=M.ex;refine (L r B).keep (N:=ns.length) A F f (fun e=>absurd e O) g (fun a e=>m a (List.mem_of_getElem? e)) ?_ ?_
   ·intro z x e;obtain ⟨x',W,X,_⟩:=U z;rw [W] at e;cases e;exact X
   ·intro z s e;obtain ⟨x',W,X,_,_,g5⟩:=U z;exact (g5 s e).1
end
end Ab
open Go.RowKit
namespace Ab
open Rf (Nd Inv NInv)
def ndW (hs:Bool)(uns mt lr rr pl:Int)(lp rp cst nst gv:AC):Box:=wrt (ndC hs uns mt lr rr pl lp rp cst nst gv) 205
def fuW (c:Int):Box:=wrt [.sint .i64 c] 195
def sWn (ns:List (Int×Nat))(hs:Bool)(uns mt lr rr pl c:Int)(lp rp cst nst gv:AC)(ex:List (Nat×Box))(dirty:List Nat)(tm:List AT):AS:=⟨tm,(0,ndW hs uns mt lr rr pl lp rp cst nst gv)::(6,fuW c)::ex,7,ns,dirty⟩
def sW (zs:List Int)(hs:Bool)(uns mt lr rr pl c:Int)(lp rp cst nst gv:AC)(ex:List (Nat×Box))(tm:List AT):AS:=sWn (zs.map fun z=>(z,10)) hs uns mt lr rr pl c lp rp cst nst gv ex [] tm
def argT (m:Nat):List AT:=.val (.one (.ptr 0 0))::.val (.one (.ptr 6 0))::List.replicate m .und
def slot (l:List (Nat×AT)):Nat->Nat->List AT
 | _,0=>[]
 | i,m+1=>(match l.find? (fun x=>x.1==i) with | some x=>x.2 | none=>.top)::slot l (i+1) m
def sl0 (m:Nat):List AT:=slot [] 0 m
noncomputable def bW:FuncId->Option Func:=fun f=>bif f==198 then some Tryz.f198 else none
theorem aCT:BodiesOk Z bW:=by
 intro f b h;unfold bW at h
 cases a:f==198 with
 | true=>
  rw [a] at h;cases h
  have:f=198:=by simpa using a
  subst this;exact ⟨(aAj Tryz.func198 rfl rfl).at',(aAj Tryz.func198 rfl rfl).en⟩
 | false=>rw [a] at h;cases h
theorem aD5 {φ:Nat->Option (Nat×Nat)}{ν:List (Int×Nat)}{w:World}:∀ (zs:List Int) (i:Nat) (xs:List Value),All2 (relC Z φ ν w) (numCs true i zs.length) xs->(∀ (j:Nat) (z:Int),zs[j]?=some z->∃ b,ν[i+j]?=some (z,b))->Hold true w zs xs
 | [],i,[],_,_=>trivial
 | [],i,_::_,h,_=>h.elim
 | z::zs,i,[],h,_=>by simp [numCs] at h;exact h.elim
 | z::zs,i,[x],h,_=>by simp [numCs] at h;exact h.2.elim
 | z::zs,i,x::y::xs,h,hν=>by
  have h':All2 (relC Z φ ν w) (.sg i::.dg true i::numCs true (i+1) zs.length) (x::y::xs):=h;obtain ⟨⟨z1,n1,e1,e2⟩,⟨z2,n2,f1,f2,f3⟩,h3⟩:=h';obtain ⟨b,hb⟩:=hν 0 z rfl;rw [Nat.add_zero] at hb;rw [hb] at e1 f1;cases e1;cases f1;exact ⟨e2,f2,aD5 zs (i+1) xs h3 fun j y hy=>by rw [show i+1+j=i+(j+1) by omega];exact hν (j+1) y (by simpa using hy)⟩
def phW (k fb:Nat)(ex:Nat->Option (Nat×Nat)):Nat->Option (Nat×Nat):=fun b=>if b=0 then some (k,0) else if b=6 then some (fb,0) else if b<6 then ex b else none
theorem aRg (k fb:Nat)(ex:Nat->Option (Nat×Nat)):phW k fb ex 0=some (k,0):=rfl
theorem aRh (k fb:Nat)(ex:Nat->Option (Nat×Nat)):phW k fb ex 6=some (fb,0):=rfl
theorem aTU (k fb:Nat)(ex:Nat->Option (Nat×Nat)){b:Nat}(h:7<=b):phW k fb ex b=none:=by
 unfold phW;rw [if_neg (by omega),if_neg (by omega),if_neg (by omega)]
theorem aPL {w:World}{k fb:Nat}{exφ:Nat->Option (Nat×Nat)}{ex:List (Nat×Box)}{zs:List Int}{hs:Bool}{uns mt lr rr pl c:Int}{lp rp gv cv nv:Value}{lpC rpC gvC cvC nvC:AC}(P:NodeAt w k zs hs uns mt lr rr pl lp rp gv cv nv)(R:zs.length=8)(y:∀ z∈zs,Bits 10 z)(r:w.heap[fb]?=some (.cells #[.int .i64 c] 195 (0,0)))
  (S:relC Z (phW k fb exφ) (zs.map fun z=>(z,10)) w lpC lp) (T:relC Z (phW k fb exφ) (zs.map fun z=>(z,10)) w rpC rp) (U:relC Z (phW k fb exφ) (zs.map fun z=>(z,10)) w gvC gv) (W:relC Z (phW k fb exφ) (zs.map fun z=>(z,10)) w cvC cv) (X:relC Z (phW k fb exφ) (zs.map fun z=>(z,10)) w nvC nv)
  (f:∀ b B,look ex b=some B->B.own=false/\B.tip=false/\B.ro=true/\∃ k' o,phW k fb exφ b=some (k',o)/\k'≠k/\k'≠fb/\Seg Z (phW k fb exφ) (zs.map fun z=>(z,10)) w k' o B.ty B.cs) (A:∀ b k' o,exφ b=some (k',o)->k'<w.heap.size) (D:List AT):
  RepW Z w (phW k fb exφ) (phW k fb exφ) (sW zs hs uns mt lr rr pl c lpC rpC cvC nvC gvC ex D) w:=by
 obtain ⟨xs,t,I⟩:=P.ex
 have n:k≠fb:=by
  intro e;subst e;rw [t] at r;have:=(Obj.cells.inj (Option.some.inj r)).2.1;exact absurd this (by decide)
 have s:All2 (relC Z (phW k fb exφ) (zs.map fun z=>(z,10)) w) (ndC hs uns mt lr rr pl lpC rpC cvC nvC gvC) (.bool hs::xs++[cv,.int .i64 mt,lp,.int .i64 lr,rp,.int .i64 rr,gv,.int .i64 uns,nv,.int .i64 pl]):=by
  have E:All2 (relC Z (phW k fb exφ) (zs.map fun z=>(z,10)) w) (numCs true 0 8) xs:=by
   rw [<-R]
   exact aBe zs xs 0 _ I y fun j z hz=>by rw [Nat.zero_add,List.getElem?_map,hz];rfl
  exact All2.append (show All2 (relC Z (phW k fb exφ) (zs.map fun z=>(z,10)) w) (.sbool hs::numCs true 0 8) (.bool hs::xs) from ⟨rfl,E⟩) ⟨W,rfl,S,rfl,T,rfl,U,rfl,X,rfl,trivial⟩
 have F:Seg Z (phW k fb exφ) (zs.map fun z=>(z,10)) w k 0 205 (ndC hs uns mt lr rr pl lpC rpC cvC nvC gvC):=⟨[],_,[],by simpa using t,rfl,s⟩
 have H:Seg Z (phW k fb exφ) (zs.map fun z=>(z,10)) w fb 0 195 [.sint .i64 c]:=⟨[],[.int .i64 c],[],by simpa using r,rfl,rfl,trivial⟩
 have d:∀ b B,look (sW zs hs uns mt lr rr pl c lpC rpC cvC nvC gvC ex D).boxes b=some B->(b=0/\B=ndW hs uns mt lr rr pl lpC rpC cvC nvC gvC)\/(b=6/\B=fuW c)\/look ex b=some B:=by
  intro b B h;simp only [sW,sWn,look] at h
  cases v:(0==b) with
  | true=>
   rw [v] at h;simp only [cond_true,Option.some.injEq] at h;exact Or.inl ⟨(show 0=b by simpa using v).symm,h.symm⟩
  | false=>
   rw [v] at h;simp only [cond_false] at h
   cases x:(6==b) with
   | true=>
    rw [x] at h;simp only [cond_true,Option.some.injEq] at h;exact Or.inr (Or.inl ⟨(show 6=b by simpa using x).symm,h.symm⟩)
   | false=>
    rw [x] at h;exact Or.inr (Or.inr h)
 refine aJI rfl ?_ ?_ (fun b y=>aTU k fb exφ y) ?_
 ·intro b B u
  rcases d b B u with ⟨rfl,rfl⟩ | ⟨rfl,rfl⟩ | h
  ·exact ⟨rfl,rfl,k,0,rfl,F⟩
  ·exact ⟨rfl,rfl,fb,0,rfl,H⟩
  ·obtain ⟨J,L,_,k',o,g,_,_,M⟩:=f b B h;exact ⟨J,L,k',o,g,M⟩
 ·intro b l B m C o Y u i q a
  rcases d b B u with ⟨rfl,rfl⟩ | ⟨rfl,rfl⟩ | h
  ·rw [aRg] at q;cases q
   rcases d l m i with ⟨rfl,rfl⟩ | ⟨rfl,rfl⟩ | h'
   ·exact Or.inl rfl
   ·rw [aRh] at a;cases a;exact absurd rfl n
   ·obtain ⟨_,_,_,k',o,g,p,_⟩:=f l m h';rw [a] at g;cases g;exact absurd rfl p
  ·rw [aRh] at q;cases q
   rcases d l m i with ⟨rfl,rfl⟩ | ⟨rfl,rfl⟩ | h'
   ·rw [aRg] at a;cases a;exact absurd rfl n
   ·exact Or.inl rfl
   ·obtain ⟨_,_,_,k',o,g,_,p,_⟩:=f l m h';rw [a] at g;cases g;exact absurd rfl p
  ·obtain ⟨_,_,N,k',o,g,p,O,_⟩:=f b B h;rw [q] at g;cases g
   rcases d l m i with ⟨rfl,rfl⟩ | ⟨rfl,rfl⟩ | h'
   ·rw [aRg] at a;cases a;exact absurd rfl p
   ·rw [aRh] at a;cases a;exact absurd rfl O
   ·exact Or.inr ⟨N,(f l m h').2.2.1⟩
 ·intro b C o h;unfold phW at h;split at h
  ·cases h;exact aAf t
  ·split at h
   ·cases h;exact aAf r
   ·split at h
    ·exact A b C o h
    ·cases h
theorem aM2 {w w':World}{k fb:Nat}{exφ φ':Nat->Option (Nat×Nat)}{zs:List Int}{ns:List (Int×Nat)}{hs:Bool}{uns mt lr rr pl c:Int}{lpC rpC gvC cvC nvC:AC}{s:AS}(q:RepW Z w (phW k fb exφ) φ' s w')(X:look s.boxes 0=some (ndW hs uns mt lr rr pl lpC rpC cvC nvC gvC))(Y:look s.boxes 6=some (fuW c))(hk:w.shape? k=some (205,27))(hf:w.shape? fb=some (195,1))(h8:zs.length=8)(hz:∀ (j:Nat) (z:Int),zs[j]?=some z->∃ b,s.nums[j]?=some (z,b)):
  (∃ lp rp gv cv nv,NodeAt w' k zs hs uns mt lr rr pl lp rp gv cv nv/\relC Z φ' s.nums w' lpC lp/\relC Z φ' s.nums w' rpC rp/\relC Z φ' s.nums w' gvC gv/\relC Z φ' s.nums w' cvC cv/\relC Z φ' s.nums w' nvC nv)/\w'.heap[fb]?=some (.cells #[.int .i64 c] 195 (0,0)):=by
 have L:=q.base 0 (k,0) rfl;have M:=q.base 6 (fb,0) rfl;constructor
 ·obtain ⟨P,o,p,ys,g,v,i,H,A⟩:=q.box 0 _ X;rw [L] at v;cases v;have f:p=[]:=List.length_eq_zero_iff.1 H;subst f;have a:=q.on.shape hk;unfold World.shape? at a;rw [i] at a;simp only [Option.some.injEq,Prod.mk.injEq,List.size_toArray,List.nil_append,List.length_append] at a;have x:=A.len;have r:(ndW hs uns mt lr rr pl lpC rpC cvC nvC gvC).cs.length=27:=rfl;have d:g=[]:=List.length_eq_zero_iff.1 (by omega);subst d;simp only [List.nil_append,List.append_nil] at i;have l:All2 (relC Z φ' s.nums w') (.sbool hs::numCs true 0 8++[cvC,.sint .i64 mt,lpC,.sint .i64 lr,rpC,.sint .i64 rr,gvC,.sint .i64 uns,nvC,.sint .i64 pl]) ys:=A
  match ys,l,x,i with
  | y::ys,⟨n,g5⟩,x,i=>
   have I:ys.length=26:=by rw [r] at x;simp at x;omega
   have e:ys=ys.take 16++ys.drop 16:=(List.take_append_drop 16 ys).symm
   have N:All2 (relC Z φ' s.nums w') (numCs true 0 8) (ys.take 16):=by
    have:=g5.take 16
    simpa [numCs] using this
   have O:=g5.drop 16;have m:All2 (relC Z φ' s.nums w') [cvC,.sint .i64 mt,lpC,.sint .i64 lr,rpC,.sint .i64 rr,gvC,.sint .i64 uns,nvC,.sint .i64 pl] (ys.drop 16):=O;have u:Hold true w' zs (ys.take 16):=aD5 zs 0 _ (by rw [h8];exact N) (by simpa using hz);have n:y=.bool hs:=n
   match hd:ys.drop 16,m with
   | [a0,a1,a2,a3,a4,a5,a6,a7,a8,a9],m=>
    obtain ⟨R,B,S,C,T,D,U,E,W,F,_⟩:=m;have B:a1=.int .i64 mt:=B;have C:a3=.int .i64 lr:=C;have D:a5=.int .i64 rr:=D;have E:a7=.int .i64 uns:=E;have F:a9=.int .i64 pl:=F;refine ⟨a2,a4,a6,a0,a8,⟨ys.take 16,?_,u⟩,S,T,U,R,W⟩
    have J:ys=ys.take 16++[a0,.int .i64 mt,a2,.int .i64 lr,a4,.int .i64 rr,a6,.int .i64 uns,a8,.int .i64 pl]:=by
     rw [<-B,<-C,<-D,<-E,<-F,<-hd];exact e
    rw [i,n];generalize ys.take 16=t at J;subst J;rfl
 ·obtain ⟨P,o,p,ys,g,v,i,H,A⟩:=q.box 6 _ Y;rw [M] at v;cases v;have f:p=[]:=List.length_eq_zero_iff.1 H;subst f;have a:=q.on.shape hf;unfold World.shape? at a;rw [i] at a;simp only [Option.some.injEq,Prod.mk.injEq,List.size_toArray,List.nil_append,List.length_append] at a;have l:All2 (relC Z φ' s.nums w') [.sint .i64 c] ys:=A
  match ys,l with
  | [y],⟨n,_⟩=>
   have n:y=.int .i64 c:=n
   have d:g=[]:=by have:=a.2;simpa using this
   subst d;rw [i,n];rfl
  | _::_::_,⟨_,h⟩=>exact h.elim
theorem NodeAt.shape {w:World}{k:Nat}{zs:List Int}{hs:Bool}{uns mt lr rr pl:Int}{lp rp gv cv nv:Value}(h:NodeAt w k zs hs uns mt lr rr pl lp rp gv cv nv)(d:zs.length=8):w.shape? k=some (205,27):=by
 obtain ⟨a,b,c⟩:=h.ex;have:=aBR zs a c;unfold World.shape?;rw [b];simp;omega
theorem aD8 {w:World}{fb:Nat}{c:Int}(h:w.heap[fb]?=some (.cells #[.int .i64 c] 195 (0,0))):w.shape? fb=some (195,1):=by
 unfold World.shape?;rw [h];rfl
theorem aHK {w w':World}{k fb:Nat}{exφ φ':Nat->Option (Nat×Nat)}{s:AS}(a:RepW Z w (phW k fb exφ) φ' s w')(c:s.dirty.all (fun b=>b==0||b==6)=true):Chg w w' [k,fb]:=by
 refine ⟨a.on,fun j hj hn=>a.low j hj fun b hb o e=>?_⟩;have:=List.all_eq_true.1 c b hb;simp only [Bool.or_eq_true,beq_iff_eq] at this
 rcases this with rfl | rfl
 ·rw [a.base 0 (k,0) rfl] at e;cases e;exact hn (by simp)
 ·rw [a.base 6 (fb,0) rfl] at e;cases e;exact hn (by simp)
theorem Chg.below {w w':World}{D:List Nat}{b0:Nat}(h:Chg w w' D)(hb:b0<=w.heap.size)(hD:∀ k∈D,b0<=k):Below b0 w w':=
 ⟨h.on.os,h.on.tape,h.on.output,h.on.size,fun k hk=>h.low k (by omega) fun e=>by have:=hD k e;omega⟩
end Ab
end Go.Proofs.YteghhlfmcjmnoaaGreatDoor
