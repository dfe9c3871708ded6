import Derived.Test.YteghhlfmcjmnoaaGreatDoorCDe12
import Derived.Test.YteghhlfmcjmnoaaGreatDoorCDe11
set_option linter.unusedSimpArgs false
set_option linter.unusedVariables false
set_option maxRecDepth 100000
set_option maxHeartbeats 2000000
namespace Go.Proofs.YteghhlfmcjmnoaaGreatDoor
namespace Rf
open Nw
section
variable {ns:List Nd} {rho:Nat->Nat} {c i:Nat} {n:Nd}
theorem digits_some (hN:NInv ns rho c i n)(sd:Nat):∃ o,digits ns n sd=some o:=by
 unfold digits
 split
 ·rename_i hlt
  obtain ⟨h1,_⟩:=hN.arg sd _ (List.getElem?_eq_getElem hlt)
  rw [List.getElem?_eq_getElem hlt,Option.bind_some,List.getElem?_eq_getElem h1,Option.bind_some,List.getElem?_eq_getElem (by rw [hN.len];exact hlt)]
  exact ⟨_,rfl⟩
 ·exact ⟨_,rfl⟩
theorem side_two {v w:V}(ht:n.t=[v,w]):side ns n=some 0:=by
 unfold side
 rw [if_pos (by rw [ht];simp)]
theorem side_some (h:Inv ns rho c)(hN:NInv ns rho c i n):∃ sd,side ns n=some sd/\sd<=1:=by
 unfold side
 split
 ·exact ⟨0,rfl,by decide⟩
 ·obtain ⟨a,ha⟩:=digits_some hN 0
  rw [ha,Option.bind_some]
  cases a with
  | none=>exact ⟨0,rfl,by decide⟩
  | some a=>
   obtain ⟨b,hb⟩:=digits_some hN 1
   simp only
   rw [hb,Option.bind_some]
   cases b with
   | none=>exact ⟨1,rfl,by decide⟩
   | some b=>
    obtain ⟨l,hl⟩:=bare_some h hN
    simp only
    unfold corners
    rw [hl]
    refine ⟨_,rfl,?_⟩
    simp only
    generalize (if fits (List.map (vag n.told) l)=true then wider (if n.nest=true then 8 else 1) (List.map (vag n.told) l) else 0)=z
    split
    ·omega
    ·split
     ·omega
     ·split<;>omega
theorem side_first (h:Inv ns rho c)(hN:NInv ns rho c i n){a:Nat}{v w x y:V}(ht:n.t=[v,w,x,y])(ha:n.args=[a])(hn:n.nest=true)(hf:first n.t)(hp:Pos ns a)(hr:n.read=[0])(ho:n.out=[]):side ns n=some 0:=by
 obtain ⟨nx,hx,hpx⟩:=hp
 have h0:=(h.at' a nx hx).had0
 have he:ends ns n 0=some ((1,0),(0,1)):=by
  unfold ends
  rw [ha,hr]
  simp only [List.getElem?_cons_zero,Option.bind_some,hx,h0,Option.map_some]
  rfl
 have hb:bare ns n=some [v,w,x,y]:=by
  unfold bare
  rw [ht]
  simp only [he,ha,Option.bind_some,Option.map_some,List.length_cons,List.length_nil]
  simp [tensor]
 unfold side
 rw [if_neg (by rw [ht];simp)]
 have hd0:digits ns n 0=some (some 0):=by
  unfold digits
  rw [ha,hr]
  simp [hx,hpx]
 have hd1:digits ns n 1=some (some 0):=by
  unfold digits
  rw [ha]
  simp
 rw [hd0,hd1]
 simp only [Option.bind_some]
 unfold corners
 rw [hb,hN.fst ho]
 have e:List.map (vag one) [v,w,x,y]=n.t:=by rw [ht];simp [vag_one]
 simp only [Option.map_some,e,hn,if_true]
 unfold first at hf
 by_cases hft:fits n.t=true
 ·rw [if_pos hft,if_neg (hf hft)]
  simp
 ·rw [if_neg hft]
  simp
theorem cmp_gt' {x y:Int}(h:y<x):Nm.cmp x y=1:=by
 unfold Nm.cmp
 rw [decide_eq_false (by omega),decide_eq_false (by omega)]
 rfl
theorem apart_none (b:V):apart (0,0) b=(0,1):=by unfold apart;simp
theorem apart_ends {c d:Int}(hc:0<c)(hd:0<d):apart (c,0) (0,d)=(2*(c*d),c*d):=by
 unfold apart
 simp only
 rw [if_neg (by omega)]
 have h:0<c*d:=Int.mul_pos hc hd
 have e1:(c-0)*(0+d)-(0-d)*(c+0)=2*(c*d):=by grind
 have e2:(c+0)*(0+d)=c*d:=by grind
 rw [e1,e2]
 ext<;>(simp only;omega)
theorem first_nest {c d:Int}(hc:0<c)(hd:0<d):first [(0,0),(c,0),(0,1),(0,d)]:=by
 intro _
 have h:0<c*d:=Int.mul_pos hc hd
 unfold wider
 simp only [apart_none,apart_ends hc hd]
 have e1:apart (0,1) (0,d)=(0,d):=by
  unfold apart
  simp only
  rw [if_neg (by omega)]
  ext<;>simp<;>omega
 have e2:greater (0,1) (2*(c*d),c*d)=(2*(c*d),c*d):=by
  unfold greater
  rw [if_neg (by simp;omega)]
 have e3:greater (0,1) (0,d)=(0,1):=by
  unfold greater
  rw [if_pos (by simp)]
 rw [e1,e2,e3]
 simp only
 rw [cmp_gt' (by omega)]
 decide
theorem first_root {a b:Int}(ha:0<a)(hb:0<b):first [(0,0),(b,0),(a,b),(0,a)]:=by
 intro _
 have h:0<b*a:=Int.mul_pos hb ha
 have haa:0<a*a:=Int.mul_pos ha ha
 unfold wider
 simp only [apart_none,apart_ends hb ha]
 have e1:apart (a,b) (0,a)=(2*(a*a),a*a+b*a):=by
  unfold apart
  simp only
  rw [if_neg (by omega)]
  have k1:(a-b)*(0+a)-(0-a)*(a+b)=2*(a*a):=by grind
  have k2:(a+b)*(0+a)=a*a+b*a:=by grind
  rw [k1,k2]
  ext<;>(simp only;omega)
 have e2:greater (0,1) (2*(b*a),b*a)=(2*(b*a),b*a):=by
  unfold greater
  rw [if_neg (by simp;omega)]
 have e3:greater (0,1) (2*(a*a),a*a+b*a)=(2*(a*a),a*a+b*a):=by
  unfold greater
  rw [if_neg (by simp;omega)]
 rw [e1,e2,e3]
 simp only
 have k1:8*(2*(b*a))*(a*a+b*a)=16*((b*a)*(a*a))+16*((b*a)*(b*a)):=by grind
 have k2:2*(a*a)*(b*a)=2*((b*a)*(a*a)):=by grind
 have p1:0<(b*a)*(a*a):=Int.mul_pos h haa
 have p2:0<(b*a)*(b*a):=Int.mul_pos h h
 rw [k1,k2,cmp_gt' (by omega)]
 decide
theorem fresh_inv (hc:c<=3000)(h1:n.read=n.args.map (fun _=>0))(h2:n.out=[])(h3:n.told=one)(h4:n.had=[one])(h5:n.part=one)(hk:n.k+c<=3000)(tb:∀ v∈n.t,Bits 13000 v.1/\Bits 13000 v.2)(pb:Bits 6100 n.p)(qb:Bits 6100 n.q)
  (arg:∀ (j a:Nat),n.args[j]?=some a->a<ns.length/\rho a<rho i) (shp:Shp ns rho c i n):NInv ns rho c i n:=by
 have b1:MBits 1 one:=⟨by unfold Bits one;decide,by unfold Bits one;decide,by unfold Bits one;decide,by unfold Bits one;decide⟩
 refine ⟨by rw [h1];simp,arg,?_,by rw [h4,h2];rfl,by rw [h4];rfl,fun _=>h3,by rw [h2];simpa using hc,hk,?_,by rw [h3,h2];exact b1,?_,fun _=>⟨by rw [h3];exact up_one,fun m hm=>?_⟩,tb,pb,qb,?_,shp⟩
 ·intro j a r x ha hr hx
  rw [h1,List.getElem?_map,ha] at hr
  simp at hr
  omega
 ·intro r hr
  rw [h1] at hr
  simp at hr
  omega
 ·intro j m hm
  rw [h4] at hm
  have:j=0:=by
   have:=(List.getElem?_eq_some_iff.1 hm).1
   simp at this
   exact this
  subst this
  simp at hm
  rw [<-hm]
  exact b1
 ·rw [h4] at hm
  simp at hm
  rw [hm]
  exact up_one
 ·rw [h5]
  exact MBits.mono b1 (by omega)
theorem bits0 {m:Nat}:Bits m 0:=by unfold Bits;simp;exact Nat.pow_pos (by decide)
theorem bits1 {m:Nat}(h:1<=m):Bits m 1:=by
 unfold Bits
 exact Nat.lt_of_lt_of_le (show 1<2^1 by decide) (Nat.pow_le_pow_right (by decide) h)
structure Grown (ns:List Nd) (rho:Nat->Nat) (c R:Nat) (ns':List Nd) (rho':Nat->Nat):Prop where
 inv:Inv ns' rho' c
 ext:∃ ms,ns'=ns++ms
 agree:∀ k,k<ns.length->rho' k=rho k
 ranks:∀ k,ns.length<=k->k<ns'.length->rho' k<=R
theorem Grown.le {ns':List Nd}{rho':Nat->Nat}{R:Nat}(h:Grown ns rho c R ns' rho'):Le ns ns':=by
 obtain ⟨ms,rfl⟩:=h.ext
 exact Le.more _ _
theorem Grown.refl (h:Inv ns rho c)(R:Nat):Grown ns rho c R ns rho:=⟨h,⟨[],by simp⟩,fun _ _=>rfl,fun k h1 h2=>by omega⟩
theorem Grown.trans {ns' ns'':List Nd}{rho' rho'':Nat->Nat}{R:Nat}(h:Grown ns rho c R ns' rho')(h':Grown ns' rho' c R ns'' rho''):Grown ns rho c R ns'' rho'':=by
 have hl:=h.le.len
 obtain ⟨ms,e⟩:=h.ext
 obtain ⟨ms',e'⟩:=h'.ext
 refine ⟨h'.inv,⟨ms++ms',by rw [e',e,List.append_assoc]⟩,fun k hk=>by rw [h'.agree k (by omega),h.agree k hk],fun k h1 h2=>?_⟩
 by_cases hk:k<ns'.length
 ·rw [h'.agree k hk];exact h.ranks k h1 hk
 ·exact h'.ranks k (by omega) h2
theorem Grown.weak {ns':List Nd}{rho':Nat->Nat}{R R':Nat}(h:Grown ns rho c R ns' rho')(hR:R<=R'):Grown ns rho c R' ns' rho':=⟨h.inv,h.ext,h.agree,fun k h1 h2=>Nat.le_trans (h.ranks k h1 h2) hR⟩
theorem one_more (h:Inv ns rho c){r:Nat}{n':Nd}(hN:NInv ns (rank rho ns.length r) c ns.length n'):more ns n'=some (ns++[n'])/\Grown ns rho c r (ns++[n']) (rank rho ns.length r)/\rank rho ns.length r ns.length=r:=by
 obtain ⟨h1,h2,h3,h4,h5⟩:=h.more hN
 refine ⟨h1,⟨h2,⟨_,rfl⟩,h4,fun k k1 k2=>?_⟩,h5⟩
 have:k=ns.length:=by simp at k2;omega
 rw [this,h5]
 exact Nat.le_refl _
theorem rank_lt {k r j:Nat}(h:j<k):rank rho k r j=rho j:=by unfold rank;rw [if_neg (by omega)]
theorem rank_self {k r:Nat}:rank rho k r k=r:=by unfold rank;rw [if_pos rfl]
theorem pos_last {n':Nd}(h:n'.pos=true):Pos (ns++[n']) ns.length:=⟨n',by simp,h⟩
theorem nestNd_inv (hc:c<=3000){op:Op}{k a x base:Nat}{sq:Option Nat}(hop:fn op)(hs:op≠.sqrt)(hk:k+c<=3000)(pa:Pos ns a)(px:Pos ns x)(ra:rho a<base)(rx:rho x+1<base)(hsq:∀ s,sq=some s->s<ns.length/\rho s<base/\Pos ns s):
  NInv ns (rank rho ns.length (base+c+1)) c ns.length (nestNd op k a x sq):=by
 obtain ⟨s1,s2,s3,s4⟩:=shape_bits op (k:=k) (by omega)
 refine fresh_inv hc rfl rfl rfl rfl rfl hk ?_ bits0 bits0 ?_ ?_
 ·intro v hv
  simp [nestNd,fresh] at hv
  rcases hv with rfl | rfl | rfl | rfl
  ·exact ⟨bits0,bits0⟩
  ·exact ⟨bits_mono s1 (by decide),bits0⟩
  ·exact ⟨bits0,bits1 (by decide)⟩
  ·exact ⟨bits0,bits_mono s2 (by decide)⟩
 ·intro j b hb
  have:b=a:=by
   simp only [nestNd,fresh] at hb
   cases j with
   | zero=>simpa using hb.symm
   | succ j=>simp at hb
  subst this
  have:=pa.lt
  rw [rank_lt this,rank_self]
  exact ⟨this,by omega⟩
 ·refine .nest a _ _ _ _ rfl rfl rfl rfl ⟨⟨base,c,rank_self,Nat.le_refl _,hk,by rw [rank_lt pa.lt];exact ra,fun e=>absurd ⟨rfl,rfl⟩ e,fun _=>⟨x,rfl,px.lt,by rw [rank_lt px.lt];exact rx,px,fun s hs'=>?_⟩⟩,hop,first_nest s3 s4,pa⟩
  obtain ⟨h1,h2,h3⟩:=hsq s hs'
  exact ⟨h1,by rw [rank_lt h1];exact h2,h3⟩
theorem two_mul_inv (hc:c<=3000){x r:Nat}{p:Bool}(lx:x<ns.length)(rx:rho x<r):NInv ns (rank rho ns.length r) c ns.length (two .mul p p x x):=by
 refine fresh_inv hc rfl rfl rfl rfl rfl (by simpa [two,fresh] using hc) ?_ bits0 bits0 ?_ (.bin x x _ _ _ _ rfl rfl rfl)
 ·intro v hv
  simp [two,fresh,Kind.cols] at hv
  rcases hv with rfl | rfl | rfl
  ·exact ⟨bits1 (by decide),bits0⟩
  ·exact ⟨bits0,bits0⟩
  ·exact ⟨bits0,bits1 (by decide)⟩
 ·intro j b hb
  have:b=x:=by
   simp only [two,fresh] at hb
   cases j with
   | zero=>simpa using hb.symm
   | succ j=>cases j with
    | zero=>simpa using hb.symm
    | succ j=>simp at hb
  subst this
  rw [rank_lt lx,rank_self]
  exact ⟨lx,rx⟩
theorem nest_inv (h:Inv ns rho c)(hc:c<=3000){op:Op}{k x base:Nat}{sq:Option Nat}(hop:fn op)(hs:op≠.sqrt)(hk:k+c<=3000)(px:Pos ns x)(rx:rho x+1<base)(hsq:∀ s,sq=some s->s<ns.length/\rho s<base/\Pos ns s):
  ∃ ns' rho' d,nest ns op k x sq=some (ns',d)/\Grown ns rho c (base+c+1) ns' rho'/\ns.length<=d/\Pos ns' d:=by
 unfold nest
 split
 ·cases sq with
  | some s=>
   obtain ⟨h1,h2,h3⟩:=hsq s rfl
   obtain ⟨k1,k2,k3⟩:=one_more h (nestNd_inv hc hop hs hk (a:=s) h3 px h2 rx (sq:=some s) hsq)
   simp only
   rw [k1]
   exact ⟨_,_,_,rfl,k2,Nat.le_refl _,pos_last rfl⟩
  | none=>
   obtain ⟨nx,hx,hpx⟩:=px
   have px:Pos ns x:=⟨nx,hx,hpx⟩
   obtain ⟨k1,k2,k3⟩:=one_more h (two_mul_inv (p:=nx.pos) hc px.lt (r:=base-1) (by omega))
   simp only
   rw [hx,Option.bind_some,k1,Option.bind_some]
   have ps:Pos (ns++[two .mul nx.pos nx.pos x x]) ns.length:=pos_last (by rw [hpx];rfl)
   obtain ⟨m1,m2,m3⟩:=one_more k2.inv (nestNd_inv (rho:=rank rho ns.length (base-1)) hc hop hs hk (a:=ns.length) (base:=base) ps (px.le k2.le) (by rw [k3];omega) (by rw [rank_lt px.lt];exact rx) (sq:=some ns.length) (fun s e=>by cases e;exact ⟨by simp,by rw [k3];omega,ps⟩))
   rw [m1]
   exact ⟨_,_,_,rfl,(k2.weak (by omega)).trans m2,by simp,by have:=pos_last (ns:=ns++[two .mul nx.pos nx.pos x x]) (n':=nestNd op k ns.length x (some ns.length)) rfl;simpa using this⟩
 ·obtain ⟨k1,k2,k3⟩:=one_more h (nestNd_inv hc hop hs hk (a:=x) px px (by omega) rx (sq:=sq) hsq)
  rw [k1]
  exact ⟨_,_,_,rfl,k2,Nat.le_refl _,pos_last rfl⟩
end
end Rf
namespace Rf
open Nw
section
variable {ns:List Nd} {rho:Nat->Nat} {c i:Nat} {n:Nd}
theorem set_at {k:Nat}{n':Nd}(hk:k≠i):(ns.set i n')[k]?=ns[k]?:=List.getElem?_set_ne (fun e=>hk e.symm)
structure Mid (ns:List Nd) (rho:Nat->Nat) (i:Nat) (ns':List Nd) (rho':Nat->Nat):Prop where
 le:Le ns ns'
 agree:∀ k,k<ns.length->rho' k=rho k
 ranks:∀ k,ns.length<=k->k<ns'.length->rho' k<rho i
 same:∀ (k:Nat) (n:Nd),ns[k]?=some n->rho i<rho k->ns'[k]?=some n
theorem Mid.refl (ns:List Nd)(rho:Nat->Nat)(i:Nat):Mid ns rho i ns rho:=⟨Le.refl _,fun _ _=>rfl,fun k h1 h2=>by omega,fun k n h _=>h⟩
theorem Mid.trans {ns' ns'':List Nd}{rho' rho'':Nat->Nat}(hi:i<ns.length)(h:Mid ns rho i ns' rho')(h':Mid ns' rho' i ns'' rho''):Mid ns rho i ns'' rho'':=by
 have hl:=h.le.len
 refine ⟨h.le.trans h'.le,fun k hk=>by rw [h'.agree k (by omega),h.agree k hk],fun k h1 h2=>?_,fun k n hn hr=>?_⟩
 ·by_cases hk:k<ns'.length
  ·rw [h'.agree k hk];exact h.ranks k h1 hk
  ·have:=h'.ranks k (by omega) h2
   rw [h.agree i hi] at this
   exact this
 ·have hk:=(List.getElem?_eq_some_iff.1 hn).1
  refine h'.same k n (h.same k n hn hr) ?_
  rw [h.agree i hi,h.agree k hk]
  exact hr
theorem Mid.set {n':Nd}(hn:ns[i]?=some n)(hp:n'.pos=n.pos)(ho:n.out.length<=n'.out.length):Mid ns rho i (ns.set i n') rho:=
 ⟨Le.set hn hp ho,fun _ _=>rfl,fun k h1 h2=>by simp at h2;omega,fun k m hm hr=>by rw [set_at (by intro e;subst e;omega)];exact hm⟩
theorem Mid.up {a:Nat}{ns':List Nd}{rho':Nat->Nat}(h:Mid ns rho a ns' rho')(hr:rho a<rho i):Mid ns rho i ns' rho':=
 ⟨h.le,h.agree,fun k h1 h2=>Nat.lt_trans (h.ranks k h1 h2) hr,fun k n hn hk=>h.same k n hn (Nat.lt_trans hr hk)⟩
theorem Mid.grown {ns':List Nd}{rho':Nat->Nat}{R:Nat}(h:Grown ns rho c R ns' rho')(hR:R<rho i):Mid ns rho i ns' rho':=by
 refine ⟨h.le,h.agree,fun k h1 h2=>Nat.lt_of_le_of_lt (h.ranks k h1 h2) hR,fun k n hn _=>?_⟩
 obtain ⟨ms,rfl⟩:=h.ext
 rw [List.getElem?_append_left (List.getElem?_eq_some_iff.1 hn).1]
 exact hn
theorem Grown.at' {ns':List Nd}{rho':Nat->Nat}{R k:Nat}{m:Nd}(h:Grown ns rho c R ns' rho')(hm:ns[k]?=some m):ns'[k]?=some m:=by
 obtain ⟨ms,rfl⟩:=h.ext
 rw [List.getElem?_append_left (List.getElem?_eq_some_iff.1 hm).1]
 exact hm
theorem wide_inv {cl:Int}(h:Inv ns rho c)(hc:c<=3000)(hn:ns[i]?=some n){a:Nat}{v w x y:V}(ht:n.t=[v,w,x,y])(ha:n.args=[a])(hp:n.probe=false)(ok:NestOk ns rho c i n a)(hto:¬(n.read=[0]/\n.out=[])):
  ∃ ns' rho' d n',wide ⟨ns,cl⟩ i n 1=some ⟨ns',cl⟩/\Inv ns' rho' c/\Mid ns rho i ns' rho'/\ns'[i]?=some n'/\n'={n with args:=n.args++[d],read:=n.read++[0]}:=by
 have hN:=h.at' i n hn
 have hi:=(List.getElem?_eq_some_iff.1 hn).1
 obtain ⟨⟨base,ck,h1,h2,h3,h4,h5,h6⟩,h7,h8,h9⟩:=ok
 have hlt:=h5 hto
 have key:∃ ns' rho' d,deeper ns n=some (ns',d)/\Grown ns rho c (base+c+1) ns' rho'/\ns.length<=d/\Pos ns' d:=by
  unfold deeper
  by_cases hs:n.op=.sqrt
  ·rw [if_pos hs,ha]
   simp only [List.getElem?_cons_zero,Option.bind_some]
   obtain ⟨k1,k2,k3⟩:=one_more h (r:=base+c+1) (n':={ fresh true n.t [a] with op:=n.op,nest:=true}) (by
    refine fresh_inv hc rfl rfl rfl rfl rfl (by simpa [fresh] using hc) hN.tb bits0 bits0 ?_ (.nest a v w x y ht rfl rfl rfl ⟨⟨base,c,rank_self,Nat.le_refl _,by simpa [fresh] using hc,by rw [rank_lt h9.lt];exact h4,fun e=>absurd ⟨rfl,rfl⟩ e,fun e=>absurd hs e⟩,h7,h8,h9⟩)
    intro j b hb
    have:b=a:=by
     simp only [fresh] at hb
     cases j with
     | zero=>simpa using hb.symm
     | succ j=>simp at hb
    subst this
    rw [rank_lt h9.lt,rank_self]
    exact ⟨h9.lt,by omega⟩)
   rw [k1]
   exact ⟨_,_,_,rfl,k2,Nat.le_refl _,pos_last rfl⟩
  ·rw [if_neg hs]
   obtain ⟨x',k1,k2,k3,k4,k5⟩:=h6 hs
   rw [k1,Option.bind_some]
   exact nest_inv h hc h7 hs (by omega) k4 k3 k5
 obtain ⟨ns1,rho1,d,e1,g,hd,pd⟩:=key
 have hi1:=g.at' hn
 have hN1:=g.inv.at' i n hi1
 have hr1:rho1 i=rho i:=g.agree i hi
 obtain ⟨r,hr⟩:∃ r,n.read=[r]:=by
  have:=hN.len
  rw [ha] at this
  exact List.length_eq_one_iff.1 this
 have hN':NInv ns1 rho1 c i {n with args:=n.args++[d],read:=n.read++[0]}:=by
  refine ⟨by simp [hN.len],?_,?_,hN1.hadl,hN1.had0,hN1.fst,hN1.outu,hN1.ku,?_,hN1.toldb,hN1.hadb,hN1.up,hN1.tb,hN1.pb,hN1.qb,hN1.partb,.bin a d v w x y ht (by simp [ha]) hp⟩
  ·intro j b hb
   simp only [ha] at hb
   cases j with
   | zero=>exact hN1.arg 0 b (by rw [ha];simpa using hb)
   | succ j=>cases j with
    | zero=>
     have:b=d:=by simpa using hb.symm
     subst this
     have:=g.ranks b hd pd.lt
     exact ⟨pd.lt,by rw [hr1];omega⟩
    | succ j=>simp at hb
  ·intro j b r' x' hb hr' hx'
   simp only [ha,hr] at hb hr'
   cases j with
   | zero=>exact hN1.rd 0 b r' x' (by rw [ha];simpa using hb) (by rw [hr];simpa using hr') hx'
   | succ j=>cases j with
    | zero=>
     have:r'=0:=by simpa using hr'.symm
     omega
    | succ j=>simp at hb
  ·intro r' hr'
   simp only [List.mem_append,List.mem_singleton] at hr'
   rcases hr' with hr' | rfl
   ·exact hN1.readu r' hr'
   ·omega
 obtain ⟨p1,p2,p3⟩:=g.inv.put hi1 (n':={n with args:=n.args++[d],read:=n.read++[0]}) rfl (Nat.le_refl _) hN'
 refine ⟨_,rho1,d,_,?_,p2,?_,by rw [List.getElem?_set_self (by have:=g.le.len;omega)],rfl⟩
 ·unfold wide
  rw [if_pos (by simp [ha]),e1,Option.bind_some,p1]
  rfl
 ·exact (Mid.grown g (by omega)).trans hi (Mid.set hi1 rfl (Nat.le_refl _))
theorem lo_bits {m:Mt}{j:Nat}(hb:MBits (2*j+1) m)(hj:j<=3000):Bits 6100 (vat m (0,1)).1/\Bits 6100 (vat m (0,1)).2:=by
 have e1:(vat m (0,1)).1=m.b:=by simp [vat,Mt.at1]
 have e2:(vat m (0,1)).2=m.d:=by simp [vat,Mt.at2]
 rw [e1,e2]
 exact ⟨bits_mono hb.b (by omega),bits_mono hb.d (by omega)⟩
theorem lo_up {m:Mt}(h:Up m):0<=(vat m (0,1)).1/\0<(vat m (0,1)).2/\(known .sqrt (vat m (0,1)) (vat m (1,0))=true->0<(vat m (0,1)).1):=by
 have e1:vat m (0,1)=(m.b,m.d):=by simp [vat,Mt.at1,Mt.at2]
 have e2:vat m (1,0)=(m.a,m.c):=by simp [vat,Mt.at1,Mt.at2]
 obtain ⟨h1,h2,h3,h4,h5⟩:=h
 have hbc:0<=m.b*m.c:=Int.mul_nonneg h2 h3
 rw [e1,e2]
 refine ⟨h2,?_,?_⟩
 ·show 0<m.d
  rcases Int.lt_or_le 0 m.d with h | h
  ·exact h
  ·have:m.d=0:=by omega
   rw [this] at h5
   omega
 ·intro hk
  unfold known at hk
  simp at hk
  show 0<m.b
  rcases Int.lt_or_le 0 m.b with h | h
  ·exact h
  ·have:m.b=0:=by omega
   rw [this] at h5 hk
   omega
theorem args1 {a b j:Nat}(h:([a]:List Nat)[j]?=some b):b=a:=by
 cases j with
 | zero=>simpa using h.symm
 | succ j=>simp at h
theorem args2 {a b d j:Nat}(h:([a,d]:List Nat)[j]?=some b):b=a\/b=d:=by
 cases j with
 | zero=>exact Or.inl (by simpa using h.symm)
 | succ j=>cases j with
  | zero=>exact Or.inr (by simpa using h.symm)
  | succ j=>simp at h
theorem outright_inv (h:Inv ns rho c)(hc:c<=3000){op:Op}{p q:Int}(hop:fn op)(hp:0<p)(hq:0<q)(pb:Bits 6100 p)(qb:Bits 6100 q):∃ ns' rho' d,outright ns op p q=some (ns',d)/\Grown ns rho c 1 ns' rho'/\ns.length<=d/\Pos ns' d:=by
 unfold outright
 obtain ⟨k1,k2,k3⟩:=one_more h (r:=0) (n':=row op p q) (fresh_inv hc rfl rfl rfl rfl rfl (by simpa [row,fresh] using hc) (fun v hv=>by simp [row,fresh] at hv) pb qb (fun j a ha=>by simp [row,fresh] at ha) (.con rfl rfl rfl (Or.inr (Or.inr (Or.inr ⟨hop,hp,hq⟩)))))
 rw [k1,Option.bind_some]
 split
 ·obtain ⟨m1,m2,m3⟩:=one_more k2.inv (r:=1) (n':=raised ns.length) (by
   refine fresh_inv hc rfl rfl rfl rfl rfl (by simpa [raised,fresh] using hc) ?_ bits0 bits0 ?_ (.una _ _ ns.length rfl rfl (fun e=>by cases e))
   ·intro v hv
    simp [raised,fresh] at hv
    rcases hv with rfl | rfl
    ·exact ⟨bits1 (by decide),bits_neg (bits1 (by decide))⟩
    ·exact ⟨bits1 (by decide),bits1 (by decide)⟩
   ·intro j a ha
    have:=args1 ha
    subst this
    rw [rank_lt (by simp),rank_self,rank_self]
    exact ⟨by simp,by decide⟩)
  rw [m1]
  exact ⟨_,_,_,rfl,(k2.weak (by decide)).trans m2,by simp,by have:=pos_last (ns:=ns++[row op p q]) (n':=raised ns.length) rfl;simpa using this⟩
 ·exact ⟨_,_,_,rfl,k2.weak (by decide),Nat.le_refl _,pos_last rfl⟩
theorem turn_inv (h:Inv ns rho c)(hc:c<=3000)(hn:ns[i]?=some n){v w:V}{x:Nat}(ht:n.t=[v,w])(ha:n.args=[x])(hr:n.read=[0])(hp:n.probe=false)(hpos:n.pos=true)(hop:fn n.op)(ho:n.out=[])(px:Pos ns x)(rx:rho x+3100<=rho i)(hk:n.k=0)
  {lo:V} (b1:Bits 6100 lo.1) (b2:Bits 6100 lo.2) (l1:0<=lo.1) (l2:0<lo.2) (l3:n.op=.sqrt->0<lo.1):
  ∃ ns' rho',turn ns i n lo=some ns'/\Inv ns' rho' c/\Mid ns rho i ns' rho'/\(∃ n',ns'[i]?=some n'/\n'.out=[]):=by
 have hN:=h.at' i n hn
 have hi:=(List.getElem?_eq_some_iff.1 hn).1
 have ha0:n.args[0]?=some x:=by rw [ha];rfl
 unfold turn
 rw [ha0,Option.bind_some]
 by_cases hs:n.op=.sqrt
 ·rw [if_pos hs]
  obtain ⟨a,b,e1,e2,e3,e4,e5⟩:=near_ok (l3 hs) l2 b1 b2
  rw [e1,Option.bind_some]
  have hN':NInv ns rho c i {n with t:=[(0,0),(b,0),(a,b),(0,a)],nest:=true}:=by
   refine ⟨hN.len,hN.arg,hN.rd,hN.hadl,hN.had0,hN.fst,hN.outu,hN.ku,hN.readu,hN.toldb,hN.hadb,hN.up,?_,hN.pb,hN.qb,hN.partb,.nest x _ _ _ _ rfl ha hp rfl ⟨⟨rho i-c-1,c,by omega,Nat.le_refl _,by simp only;omega,by omega,fun e=>absurd ⟨hr,ho⟩ e,fun e=>absurd hs e⟩,hop,first_root (by omega) e3,px⟩⟩
   intro v hv
   simp at hv
   rcases hv with rfl | rfl | rfl | rfl
   ·exact ⟨bits0,bits0⟩
   ·exact ⟨bits_mono e5 (by decide),bits0⟩
   ·exact ⟨bits_mono e4 (by decide),bits_mono e5 (by decide)⟩
   ·exact ⟨bits0,bits_mono e4 (by decide)⟩
  obtain ⟨p1,p2,p3⟩:=h.put hn (n':={n with t:=[(0,0),(b,0),(a,b),(0,a)],nest:=true}) rfl (Nat.le_refl _) hN'
  exact ⟨_,rho,p1,p2,Mid.set hn rfl (Nat.le_refl _),_,List.getElem?_set_self hi,ho⟩
 ·rw [if_neg hs]
  -- z
  have Z:∃ ns1 rho1 z,(if 0<lo.1 then (more ns (fresh true (restCols n.op lo) [x])).map fun ns1=>(ns1,ns.length) else some (ns,x))=some (ns1,z)/\Grown ns rho c (rho x+1) ns1 rho1/\Pos ns1 z/\rho1 z<=rho x+1:=by
   by_cases hl:0<lo.1
   ·rw [if_pos hl]
    obtain ⟨k1,k2,k3⟩:=one_more h (r:=rho x+1) (n':=fresh true (restCols n.op lo) [x]) (by
     refine fresh_inv hc rfl rfl rfl rfl rfl (by simpa [fresh] using hc) ?_ bits0 bits0 ?_ (.una _ _ x rfl rfl (fun e=>by cases e))
     ·intro v hv
      simp [fresh,restCols] at hv
      rcases hv with rfl | rfl
      ·refine ⟨bits_mono b2 (by decide),?_⟩
       simp only
       split
       ·exact bits_mono b1 (by decide)
       ·exact bits0
      ·refine ⟨bits_mono (bits_neg b1) (by decide),?_⟩
       simp only
       split
       ·exact bits_mono (bits_add b1 b2) (by decide)
       ·exact bits_mono b2 (by decide)
     ·intro j b hb
      have:=args1 hb
      subst this
      rw [rank_lt px.lt,rank_self]
      exact ⟨px.lt,by omega⟩)
    rw [k1]
    exact ⟨_,_,_,rfl,k2,pos_last rfl,by rw [k3];exact Nat.le_refl _⟩
   ·rw [if_neg hl]
    exact ⟨_,_,_,rfl,Grown.refl h _,px,by omega⟩
  obtain ⟨ns1,rho1,z,e1,g1,pz,rz⟩:=Z
  rw [e1,Option.bind_some]
  -- the nest
  obtain ⟨ns2,rho2,d,e2,g2,hd,pd⟩:=nest_inv (base:=rho x+3) g1.inv hc (k:=0) (sq:=none) hop hs (by omega) pz (by omega) (fun s e=>by cases e)
  simp only
  rw [e2,Option.bind_some]
  have rd:rho2 d<=rho x+3+c+1:=g2.ranks d hd pd.lt
  have G2:Grown ns rho c (rho x+3+c+1) ns2 rho2:=(g1.weak (by omega)).trans g2
  -- raised
  have T:∃ ns3 rho3 t,(if n.op=.exp then (more ns2 (raised d)).map fun ns3=>(ns3,ns2.length) else some (ns2,d))=some (ns3,t)/\Grown ns rho c (rho x+3+c+2) ns3 rho3/\Pos ns3 t/\rho3 t<=rho x+3+c+2:=by
   by_cases he:n.op=.exp
   ·rw [if_pos he]
    obtain ⟨k1,k2,k3⟩:=one_more G2.inv (r:=rho x+3+c+2) (n':=raised d) (by
     refine fresh_inv hc rfl rfl rfl rfl rfl (by simpa [raised,fresh] using hc) ?_ bits0 bits0 ?_ (.una _ _ d rfl rfl (fun e=>by cases e))
     ·intro v hv
      simp [raised,fresh] at hv
      rcases hv with rfl | rfl
      ·exact ⟨bits1 (by decide),bits_neg (bits1 (by decide))⟩
      ·exact ⟨bits1 (by decide),bits1 (by decide)⟩
     ·intro j b hb
      have:=args1 hb
      subst this
      rw [rank_lt pd.lt,rank_self]
      exact ⟨pd.lt,by omega⟩)
    rw [k1]
    exact ⟨_,_,_,rfl,(G2.weak (by omega)).trans k2,pos_last rfl,by rw [k3];exact Nat.le_refl _⟩
   ·rw [if_neg he]
    exact ⟨_,_,_,rfl,G2.weak (by omega),pd,by omega⟩
  obtain ⟨ns3,rho3,t,e3,g3,pt,rt⟩:=T
  simp only
  rw [e3,Option.bind_some]
  simp only
  have hi3:=g3.at' hn
  have hN3:=g3.inv.at' i n hi3
  have hr3:rho3 i=rho i:=g3.agree i hi
  by_cases hl:lo.1=0
  ·rw [if_pos hl]
   have hN':NInv ns3 rho3 c i {n with args:=[t]}:=by
    refine ⟨by simp [hr],?_,?_,hN3.hadl,hN3.had0,hN3.fst,hN3.outu,hN3.ku,hN3.readu,hN3.toldb,hN3.hadb,hN3.up,hN3.tb,hN3.pb,hN3.qb,hN3.partb,.una v w t ht rfl (fun e=>by simp only at e;rw [hp] at e;cases e)⟩
    ·intro j b hb
     have:=args1 hb
     subst this
     exact ⟨pt.lt,by rw [hr3];omega⟩
    ·intro j b r' x' hb hr' hx'
     simp only [hr] at hr'
     have:=args1 hr'
     omega
   obtain ⟨p1,p2,p3⟩:=g3.inv.put hi3 (n':={n with args:=[t]}) rfl (Nat.le_refl _) hN'
   exact ⟨_,rho3,p1,p2,(Mid.grown g3 (by omega)).trans hi (Mid.set hi3 rfl (Nat.le_refl _)),_,List.getElem?_set_self (List.getElem?_eq_some_iff.1 hi3).1,ho⟩
  ·rw [if_neg hl]
   obtain ⟨ns4,rho4,f,e4,g4,hf,pf⟩:=outright_inv g3.inv hc hop (show 0<lo.1 by omega) l2 b1 b2
   rw [e4,Option.bind_some]
   simp only
   have G4:Grown ns rho c (rho x+3+c+2) ns4 rho4:=g3.trans (g4.weak (by omega))
   have hi4:=G4.at' hn
   have hN4:=G4.inv.at' i n hi4
   have hr4:rho4 i=rho i:=G4.agree i hi
   have rf:rho4 f<=1:=g4.ranks f hf pf.lt
   have rt4:rho4 t=rho3 t:=g4.agree t pt.lt
   have pt4:Pos ns4 t:=pt.le g4.le
   have hN':NInv ns4 rho4 c i {n with t:=(if n.op=.exp then Kind.mul else Kind.add).cols,args:=[f,t],read:=[0,0]}:=by
    refine ⟨rfl,?_,?_,hN4.hadl,hN4.had0,hN4.fst,hN4.outu,hN4.ku,?_,hN4.toldb,hN4.hadb,hN4.up,?_,hN4.pb,hN4.qb,hN4.partb,?_⟩
    ·intro j b hb
     rcases args2 hb with rfl | rfl
     ·exact ⟨pf.lt,by rw [hr4];omega⟩
     ·exact ⟨pt4.lt,by rw [hr4,rt4];omega⟩
    ·intro j b r' x' hb hr' hx'
     rcases args2 hr' with e | e<;>omega
    ·intro r' hr'
     simp at hr'
     omega
    ·intro v hv
     simp only at hv
     split at hv
     ·simp [Kind.cols] at hv
      rcases hv with rfl | rfl | rfl
      ·exact ⟨bits1 (by decide),bits0⟩
      ·exact ⟨bits0,bits0⟩
      ·exact ⟨bits0,bits1 (by decide)⟩
     ·simp [Kind.cols] at hv
      rcases hv with rfl | rfl | rfl
      ·exact ⟨bits0,bits0⟩
      ·exact ⟨bits1 (by decide),bits0⟩
      ·exact ⟨bits0,bits1 (by decide)⟩
    ·by_cases he:n.op=.exp
     ·exact .bin f t _ _ _ _ (by simp only [he,if_true];rfl) rfl hp
     ·exact .bin f t _ _ _ _ (by simp only [he,if_false];rfl) rfl hp
   obtain ⟨p1,p2,p3⟩:=G4.inv.put hi4 (n':={n with t:=(if n.op=.exp then Kind.mul else Kind.add).cols,args:=[f,t],read:=[0,0]}) rfl (Nat.le_refl _) hN'
   exact ⟨_,rho4,p1,p2,(Mid.grown G4 (by omega)).trans hi (Mid.set hi4 rfl (Nat.le_refl _)),_,List.getElem?_set_self (List.getElem?_eq_some_iff.1 hi4).1,ho⟩
end
end Rf
namespace Rf
open Nw
section
variable {ns:List Nd} {rho:Nat->Nat} {c i:Nat} {n:Nd}
theorem bump_len (l:List Nat)(k:Nat):(bump l k).length=l.length:=by
 induction l generalizing k with
 | nil=>rfl
 | cons r rs ih=>cases k with
  | zero=>rfl
  | succ k=>simp [bump,ih]
theorem bump_at (l:List Nat)(k j:Nat):(bump l k)[j]?=(l[j]?).map fun r=>if j=k then r+1 else r:=by
 induction l generalizing k j with
 | nil=>simp [bump]
 | cons r rs ih=>
  cases k with
  | zero=>cases j with
   | zero=>simp [bump]
   | succ j=>simp [bump]
  | succ k=>cases j with
   | zero=>simp [bump]
   | succ j=>simp [bump,ih]
theorem bump_mem {l:List Nat}{k r:Nat}(h:r∈bump l k):r∈l\/∃ r',l[k]?=some r'/\r=r'+1:=by
 obtain ⟨j,hj,e⟩:=List.getElem_of_mem h
 have h':(bump l k)[j]?=some r:=by rw [List.getElem?_eq_getElem hj,e]
 rw [bump_at] at h'
 cases hl:l[j]? with
 | none=>rw [hl] at h';simp at h'
 | some r'=>
  rw [hl] at h'
  simp at h'
  split at h'
  ·rename_i hjk
   subst hjk
   exact Or.inr ⟨r',hl,h'.symm⟩
  ·subst h'
   exact Or.inl (List.mem_of_getElem? hl)
theorem bump_inv (h:Inv ns rho (c+1))(hn:ns[i]?=some n){sd a r:Nat}{x:Nd}(ha:n.args[sd]?=some a)(hr:n.read[sd]?=some r)(hx:ns[a]?=some x)(hlt:r<x.out.length):
  NInv ns rho c i {n with read:=bump n.read sd}:=by
 have hN:=h.at' i n hn
 have hi:=(List.getElem?_eq_some_iff.1 hn).1
 have hM:=hN.mono (c':=c) (Le.refl _) (fun _ _=>rfl) hi (by omega)
 have hxo:=(h.at' a x hx).outu
 refine ⟨by simp [bump_len,hN.len],hM.arg,?_,hM.hadl,hM.had0,hM.fst,hM.outu,hM.ku,?_,hM.toldb,hM.hadb,hM.up,hM.tb,hM.pb,hM.qb,hM.partb,?_⟩
 ·intro j b r' x' hb hr' hx'
  simp only [bump_at] at hr'
  cases hl:n.read[j]? with
  | none=>rw [hl] at hr';simp at hr'
  | some r0=>
   rw [hl] at hr'
   simp at hr'
   have h0:=hN.rd j b r0 x' hb hl hx'
   split at hr'
   ·rename_i e
    subst e
    rw [ha] at hb
    cases hb
    rw [hx] at hx'
    cases hx'
    rw [hr] at hl
    cases hl
    omega
   ·omega
 ·intro r' hr'
  rcases bump_mem hr' with h1 | ⟨r0,h1,h2⟩
  ·exact hM.readu r' h1
  ·rw [hr] at h1
   cases h1
   omega
 ·cases hN.shp with
  | con ht ha' hp hc=>rw [ha'] at ha;simp at ha
  | frac v ht ha' hp hv=>rw [ha'] at ha;simp at ha
  | una v w a' ht ha' hp=>exact .una v w a' ht ha' hp
  | bin a' b v w x y ht ha' hp=>exact .bin a' b v w x y ht ha' hp
  | nest a' v w x y ht ha' hp hn' ok=>
   obtain ⟨⟨base,ck,h1,h2,h3,h4,h5,h6⟩,h7,h8,h9⟩:=ok
   exact .nest a' v w x y ht ha' hp hn' ⟨⟨base,ck,h1,by omega,h3,h4,fun _=>by omega,h6⟩,h7,h8,h9⟩
theorem bump_ok (h:Inv ns rho c)(hn:ns[i]?=some n){sd:Nat}:Ok {n with read:=bump n.read sd}:=by
 have hN:=h.at' i n hn
 have ho:=hN.ok
 refine ⟨ho.t,ho.told,ho.had,ho.part,ho.p,ho.q,?_,ho.out,ho.k⟩
 intro r hr
 rcases bump_mem hr with h1 | ⟨r0,h1,h2⟩
 ·exact ho.read r h1
 ·have:=hN.readu r0 (List.mem_of_getElem? h1)
  omega
theorem after_inv {s:St}(hcl:s.clock=(c:Int))(h:Inv s.nodes rho c)(hc:c<=3000)(hn:s.nodes[i]?=some n){sd a r:Nat}{x:Nd}(ha:n.args[sd]?=some a)(hr:n.read[sd]?=some r)(hx:s.nodes[a]?=some x)(hlt:r<x.out.length)(hsd:n.probe=true->sd=0):
  ∃ s' b,after s i sd=some (s',b)/\(b=true->∃ rho' c',c'<c/\s'.clock=(c':Int)/\Inv s'.nodes rho' c'/\Mid s.nodes rho i s'.nodes rho'/\∃ n',s'.nodes[i]?=some n'/\n'.out=n.out):=by
 have hi:=(List.getElem?_eq_some_iff.1 hn).1
 unfold after
 rw [hn,Option.bind_some]
 cases c with
 | zero=>
  have hp:put s.nodes i {n with read:=bump n.read sd}=some (s.nodes.set i {n with read:=bump n.read sd}):=by
   unfold put
   rw [if_pos ⟨bump_ok h hn,hi⟩]
  rw [hp,Option.bind_some,if_pos (by rw [hcl];decide)]
  exact ⟨_,_,rfl,fun e=>by cases e⟩
 | succ c=>
  have hB:=bump_inv h hn ha hr hx hlt
  obtain ⟨p1,p2,p3⟩:=(h.tick (show c<=c+1 by omega)).put hn (n':={n with read:=bump n.read sd}) rfl (Nat.le_refl _) hB
  rw [p1,Option.bind_some,if_neg (by rw [hcl];omega)]
  have hcl':s.clock-1=(c:Int):=by rw [hcl];omega
  have M1:Mid s.nodes rho i (s.nodes.set i {n with read:=bump n.read sd}) rho:=Mid.set hn rfl (Nat.le_refl _)
  have hn1:(s.nodes.set i {n with read:=bump n.read sd})[i]?=some {n with read:=bump n.read sd}:=List.getElem?_set_self hi
  have hN1:=p2.at' i _ hn1
  unfold settle
  by_cases hpr:n.probe=true
  ·rw [if_pos hpr]
   have hsh:=hN1.shp
   have hS:∃ v w a',n.t=[v,w]/\n.args=[a']/\n.pos=true/\fn n.op/\n.out=[]/\Pos (s.nodes.set i {n with read:=bump n.read sd}) a'/\rho a'+3100<=rho i/\n.k=0:=by
    cases hsh with
    | con ht ha' hp hc=>simp only at hp;rw [hpr] at hp;cases hp
    | frac v ht ha' hp hv=>simp only at hp;rw [hpr] at hp;cases hp
    | una v w a' ht ha' hp=>
     obtain ⟨k1,k2,k3,k4,k5,k6⟩:=hp hpr
     exact ⟨v,w,a',ht,ha',k1,k2,k3,k4,k5,k6⟩
    | bin a' b v w x y ht ha' hp=>simp only at hp;rw [hpr] at hp;cases hp
    | nest a' v w x y ht ha' hp hn' ok=>simp only at hp;rw [hpr] at hp;cases hp
   obtain ⟨v,w,a',ht,ha',hpos,hop,ho,pa,ra,hk⟩:=hS
   obtain ⟨m,x',r',e1,e2,e3,e4⟩:=ends_some p2 hN1 (sd:=0) (a:=a') (by show n.args[0]?=_;rw [ha'];rfl)
   rw [e4,Option.bind_some]
   simp only
   obtain ⟨y',q1,q2⟩:=pa
   rw [q1] at e1
   cases e1
   have hNx:=p2.at' a' x' q1
   have hup:Up m:=(hNx.up q2).2 m (List.mem_of_getElem? e3)
   have hmb:=hNx.hadb r' m e3
   have hr'l:r'<=3000:=by have:=hNx.outu;have:=hNx.hadl;have:=(List.getElem?_eq_some_iff.1 e3).1;omega
   obtain ⟨b1,b2⟩:=lo_bits hmb hr'l
   obtain ⟨l1,l2,l3⟩:=lo_up hup
   by_cases hkn:known n.op (vat m (0,1)) (vat m (1,0))=true
   ·rw [if_pos hkn]
    obtain ⟨r0,hr0⟩:∃ r0,n.read=[r0]:=by
     have:=(h.at' i n hn).len
     rw [ha'] at this
     exact List.length_eq_one_iff.1 this
    have hset:((bump n.read sd).set 0 0)=[0]:=by
     rw [hsd hpr,hr0];rfl
    have hN2:NInv (s.nodes.set i {n with read:=bump n.read sd}) rho c i {n with read:=(bump n.read sd).set 0 0,probe:=false}:=by
     refine ⟨by simp [bump_len,(h.at' i n hn).len],hN1.arg,?_,hN1.hadl,hN1.had0,hN1.fst,hN1.outu,hN1.ku,?_,hN1.toldb,hN1.hadb,hN1.up,hN1.tb,hN1.pb,hN1.qb,hN1.partb,.una v w a' ht ha' (fun e=>by cases e)⟩
     ·intro j b r' x' hb hr' hx'
      simp only [hset] at hr'
      have:=args1 hr'
      omega
     ·intro r' hr'
      simp only [hset,List.mem_singleton] at hr'
      omega
    obtain ⟨t1,t2,t3⟩:=p2.put hn1 (n':={n with read:=(bump n.read sd).set 0 0,probe:=false}) rfl (Nat.le_refl _) hN2
    simp only [List.set_set] at t1 t2 t3 ⊢
    have M2:Mid s.nodes rho i (s.nodes.set i {n with read:=(bump n.read sd).set 0 0,probe:=false}) rho:=Mid.set hn rfl (Nat.le_refl _)
    have hn2:(s.nodes.set i {n with read:=(bump n.read sd).set 0 0,probe:=false})[i]?=some {n with read:=(bump n.read sd).set 0 0,probe:=false}:=List.getElem?_set_self hi
    obtain ⟨ns',rho',u1,u2,u3,n',u4,u5⟩:=turn_inv t2 (by omega) hn2 (v:=v) (w:=w) (x:=a') ht ha' hset rfl hpos hop ho (Pos.le ⟨_,q1,q2⟩ t3) ra hk b1 b2 l1 l2 (fun e=>l3 (by rw [<-e];exact hkn))
    rw [t1,Option.bind_some,u1]
    refine ⟨_,_,rfl,fun _=>⟨rho',c,by omega,hcl',u2,M2.trans hi u3,n',u4,by rw [u5,ho]⟩⟩
   ·rw [if_neg hkn]
    exact ⟨_,_,rfl,fun _=>⟨rho,c,by omega,hcl',p2,M1,_,hn1,rfl⟩⟩
  ·rw [if_neg hpr]
   exact ⟨_,_,rfl,fun _=>⟨rho,c,by omega,hcl',p2,M1,_,hn1,rfl⟩⟩
structure Post (s:St) (rho:Nat->Nat) (c i j:Nat) (x:St×Option Int):Prop where
 ex:∀ v,x.2=some v->∃ rho' c',c'<=c/\x.1.clock=(c':Int)/\Inv x.1.nodes rho' c'/\Mid s.nodes rho i x.1.nodes rho'/\∃ n',x.1.nodes[i]?=some n'/\j<n'.out.length
theorem Post.none (s:St)(rho:Nat->Nat)(c i j:Nat)(s':St):Post s rho c i j (s',none):=⟨fun v e=>by cases e⟩
theorem Post.mid {s s1:St}{rho rho1:Nat->Nat}{c c1 i j:Nat}{x:St×Option Int}(hi:i<s.nodes.length)(h:Mid s.nodes rho i s1.nodes rho1)(hc:c1<=c)(hp:Post s1 rho1 c1 i j x):Post s rho c i j x:=by
 refine ⟨fun v e=>?_⟩
 obtain ⟨rho',c',h1,h2,h3,h4,h5⟩:=hp.ex v e
 exact ⟨rho',c',by omega,h2,h3,h.trans hi h4,h5⟩
theorem total:∀ (f:Nat) (s:St) (i j:Nat) (rho:Nat->Nat) (c:Nat),s.clock=(c:Int)->c<=3000->Inv s.nodes rho c->∀ n,s.nodes[i]?=some n->j<=n.out.length->c+rho i+2<=f->∃ x,sym f s i j=some x/\Post s rho c i j x
 | 0,s,i,j,rho,c,hcl,hc3,h,n,hn,hj,hf=>by omega
 | f+1,s,i,j,rho,c,hcl,hc3,h,n,hn,hj,hf=>by
  have hi:=(List.getElem?_eq_some_iff.1 hn).1
  have hN:=h.at' i n hn
  unfold sym
  rw [hn,Option.bind_some]
  cases hout:n.out[j]? with
  | some v=>
   refine ⟨_,rfl,⟨fun v' e=>⟨rho,c,Nat.le_refl _,hcl,h,Mid.refl _ _ _,n,hn,(List.getElem?_eq_some_iff.1 hout).1⟩⟩⟩
  | none=>
   have hjl:n.out.length=j:=by
    have:=List.getElem?_eq_none_iff.1 hout
    omega
   simp only
   obtain ⟨o,ho⟩:∃ o,(if n.probe=true then some none else next s.nodes n)=some o:=by
    split
    ·exact ⟨_,rfl⟩
    ·exact next_some h hN
   rw [ho,Option.bind_some]
   cases o with
   | some g=>
    have hp:n.probe=false:=by
     cases hpr:n.probe with
     | false=>rfl
     | true=>rw [hpr] at ho;simp at ho
    rw [hp] at ho
    simp only [Bool.false_eq_true,if_false] at ho
    simp only
    cases c with
    | zero=>
     rw [if_pos (by rw [hcl];decide)]
     exact ⟨_,rfl,Post.none _ _ _ _ _ _⟩
    | succ c=>
     rw [if_neg (by rw [hcl];omega)]
     obtain ⟨n',g1,g2,g3,g4⟩:=give_inv h hn hp ho
     unfold give
     rw [g1,Option.map_some,Option.bind_some]
     have hn':(s.nodes.set i n')[i]?=some n':=List.getElem?_set_self hi
     have hpos:n'.pos=n.pos:=by
      obtain ⟨m,k1,k2,_⟩:=g3.at' i n hn
      rw [hn'] at k1
      cases k1
      exact k2
     obtain ⟨x,x1,x2⟩:=total f ⟨s.nodes.set i n',s.clock-1⟩ i j rho c (by simp only;rw [hcl];omega) (by omega) g2 n' hn' (by omega) (by omega)
     exact ⟨x,x1,x2.mid hi (Mid.set hn hpos (by omega)) (by omega)⟩
   | none=>
    simp only
    suffices hR:∃ s' b,reads (sym f) s i n=some (s',b)/\(b=true->∃ rho' c',c'<c/\s'.clock=(c':Int)/\Inv s'.nodes rho' c'/\Mid s.nodes rho i s'.nodes rho'/\∃ n',s'.nodes[i]?=some n'/\n'.out=n.out) by
     obtain ⟨s',b,r1,r2⟩:=hR
     rw [r1,Option.bind_some]
     cases b with
     | false=>exact ⟨_,rfl,Post.none _ _ _ _ _ _⟩
     | true=>
      obtain ⟨rho',c',k1,k2,k3,k4,n',k5,k6⟩:=r2 rfl
      simp only [if_true]
      obtain ⟨x,x1,x2⟩:=total f s' i j rho' c' k2 (by omega) k3 n' k5 (by rw [k6];omega) (by rw [k4.agree i hi];omega)
      exact ⟨x,x1,x2.mid hi k4 (by omega)⟩
    unfold reads
    by_cases ht:n.t=[]
    ·rw [if_pos ht]
     cases c with
     | zero=>
      -- the clock has run out
      have hcon:ConOk n:=by
       cases hN.shp with
       | con ht ha hp hc=>exact hc
       | frac v ht' ha hp hv=>rw [ht] at ht';cases ht'
       | una v w a ht' ha hp=>rw [ht] at ht';cases ht'
       | bin a b v w x y ht' ha hp=>rw [ht] at ht';cases ht'
       | nest a v w x y ht' ha hp hn ok=>rw [ht] at ht';cases ht'
      have hku:=hN.ku
      obtain ⟨m,m1,m2⟩:=const_ok hcon (k:=n.k) (by omega) hN.pb hN.qb
      have hok:Ok {n with part:=n.part.mul m,k:=n.k+1}:=by
       have ho:=hN.ok
       refine ⟨ho.t,ho.told,ho.had,MBits.mono (mul_bits hN.partb m2) ?_,ho.p,ho.q,ho.read,ho.out,by simp only;omega⟩
       have:n.k*18500<=3000*18500:=Nat.mul_le_mul_right _ (by omega)
       omega
      have hput:put s.nodes i {n with part:=n.part.mul m,k:=n.k+1}=some (s.nodes.set i {n with part:=n.part.mul m,k:=n.k+1}):=by
       unfold put
       rw [if_pos ⟨hok,hi⟩]
      rw [m1,Option.bind_some,hput,Option.map_some]
      refine ⟨_,_,rfl,fun e=>?_⟩
      rw [hcl] at e
      exact absurd e (by decide)
     | succ c=>
      obtain ⟨m,n',m1,m2,m3,m4,m5⟩:=con_inv h hn ht
      rw [m1,Option.bind_some,m2,Option.map_some]
      have hn':(s.nodes.set i n')[i]?=some n':=List.getElem?_set_self hi
      have hpos:n'.pos=n.pos:=by
       obtain ⟨m,k1,k2,_⟩:=m4.at' i n hn
       rw [hn'] at k1
       cases k1
       exact k2
      exact ⟨_,_,rfl,fun _=>⟨rho,c,by omega,by simp only;rw [hcl];omega,m3,Mid.set hn hpos (by rw [m5];exact Nat.le_refl _),n',hn',m5⟩⟩
    ·rw [if_neg ht]
     -- which side,and the nodes with that argument
     have hS:∃ sd s1 rho1 n1 a r,side s.nodes n=some sd/\wide s i n sd=some s1/\s1.clock=(c:Int)/\Inv s1.nodes rho1 c/\Mid s.nodes rho i s1.nodes rho1/\s1.nodes[i]?=some n1/\n1.args[sd]?=some a/\n1.read[sd]?=some r/\n1.out=n.out/\(n1.probe=true->sd=0):=by
      cases hN.shp with
      | con ht' ha hp hc=>exact absurd ht' ht
      | frac v ht' ha hp hv=>
       rw [hp] at ho
       simp only [Bool.false_eq_true,if_false] at ho
       exact absurd ho (frac_gives ht' ha hN.fst hv)
      | una v w a ht' ha hp=>
       obtain ⟨r,hr⟩:∃ r,n.read=[r]:=List.length_eq_one_iff.1 (by rw [hN.len,ha];rfl)
       refine ⟨0,s,rho,n,a,r,side_two ht',?_,hcl,h,Mid.refl _ _ _,hn,by rw [ha];rfl,by rw [hr];rfl,rfl,fun _=>rfl⟩
       unfold wide
       rw [if_neg (by rw [ha];simp)]
      | bin a b v w x y ht' ha hp=>
       obtain ⟨sd,hsd,hle⟩:=side_some h hN
       have hl:sd<n.args.length:=by rw [ha];simp;omega
       refine ⟨sd,s,rho,n,n.args[sd],n.read[sd]'(by rw [hN.len];exact hl),hsd,?_,hcl,h,Mid.refl _ _ _,hn,List.getElem?_eq_getElem _,List.getElem?_eq_getElem _,rfl,fun e=>by rw [hp] at e;cases e⟩
       unfold wide
       rw [if_neg (by omega)]
      | nest a v w x y ht' ha hp hne ok=>
       obtain ⟨r,hr⟩:∃ r,n.read=[r]:=List.length_eq_one_iff.1 (by rw [hN.len,ha];rfl)
       obtain ⟨sd,hsd,hle⟩:=side_some h hN
       by_cases hz:sd=0
       ·subst hz
        refine ⟨0,s,rho,n,a,r,hsd,?_,hcl,h,Mid.refl _ _ _,hn,by rw [ha];rfl,by rw [hr];rfl,rfl,fun _=>rfl⟩
        unfold wide
        rw [if_neg (by rw [ha];simp)]
       ·have hz1:sd=1:=by omega
        subst hz1
        have hto:¬(n.read=[0]/\n.out=[]):=by
         rintro ⟨k1,k2⟩
         rw [side_first h hN ht' ha hne ok.first ok.pos k1 k2] at hsd
         simp at hsd
        obtain ⟨ns',rho',d,n',w1,w2,w3,w4,w5⟩:=wide_inv (cl:=s.clock) h hc3 hn ht' ha hp ok hto
        refine ⟨1,⟨ns',s.clock⟩,rho',n',d,0,hsd,w1,hcl,w2,w3,w4,by rw [w5];simp [ha],by rw [w5];simp [hr],by rw [w5],fun e=>by rw [w5] at e;simp only at e;rw [hp] at e;cases e⟩
     obtain ⟨sd,s1,rho1,n1,a,r,e1,e2,e3,e4,e5,e6,e7,e8,e9,e10⟩:=hS
     rw [e1,Option.bind_some,e2,Option.bind_some,e6,Option.bind_some,e7,Option.bind_some,e8,Option.bind_some]
     have hN1:=e4.at' i n1 e6
     obtain ⟨la,ra⟩:=hN1.arg sd a e7
     have hxa:s1.nodes[a]?=some s1.nodes[a]:=List.getElem?_eq_getElem la
     have hr1:rho1 i=rho i:=e5.agree i hi
     obtain ⟨x,x1,x2⟩:=total f s1 a r rho1 c e3 hc3 e4 _ hxa (hN1.rd sd a r _ e7 e8 hxa) (by omega)
     rw [x1,Option.bind_some]
     obtain ⟨s2,o2⟩:=x
     cases o2 with
     | none=>exact ⟨_,_,rfl,fun e=>by cases e⟩
     | some v=>
      obtain ⟨rho2,c2,y1,y2,y3,y4,n',y5,y6⟩:=x2.ex v rfl
      simp only at y2 y3 y4 y5
      have hn2:s2.nodes[i]?=some n1:=y4.same i n1 e6 ra
      have hi1:i<s1.nodes.length:=(List.getElem?_eq_some_iff.1 e6).1
      obtain ⟨s3,b,z1,z2⟩:=after_inv y2 y3 (by omega) hn2 e7 e8 y5 y6 e10
      refine ⟨s3,b,z1,fun hb=>?_⟩
      obtain ⟨rho3,c3,q1,q2,q3,q4,n3,q5,q6⟩:=z2 hb
      refine ⟨rho3,c3,by omega,q2,q3,?_,n3,q5,by rw [q6,e9]⟩
      exact (e5.trans hi ((y4.up ra).trans hi1 q4))
end
end Rf
open Go.RowKit
namespace Ab
open Rf (Nd Inv NInv)
inductive Own where
 | nd (i:Nat)
 | gv (i:Nat)
 | pd (i:Nat)
def nilP:Value:=.pointer none
def nilS':Value:=.slice none 0 0
def ptrB (k:Nat):Value:=.pointer (some ⟨k,0,none⟩)
def lArg (n:Nd):Option Nat:=if n.t.length=4 then n.args[0]? else none
def rArg (n:Nd):Option Nat:=if n.t.length=4 then n.args[1]? else if n.t.length=2 then n.args[0]? else none
def lRd (n:Nd):Nat:=if n.t.length=4 then n.read.getD 0 0 else 0
def rRd (n:Nd):Nat:=if n.t.length=4 then n.read.getD 1 0 else if n.t.length=2 then n.read.getD 0 0 else 0
def ptrV (at':Nat->Nat):Option Nat->Value
 | none=>nilP
 | some a=>ptrB (at' a)
def kindZ:Rf.Op->Int
 | .none=>0
 | .pi=>2
 | .e=>3
 | .cf=>4
 | .sqrt=>10
 | .exp=>11
 | .ln1p=>12
 | .atan=>13
def unsZ (n:Nd):Int:=if n.probe then kindZ n.op else 0
def colsZ:List Int->List Rf.V
 | [a,b,c,d,e,f,g,h]=>[(a,b),(c,d),(e,f),(g,h)]
 | _=>[]
def GivOk (w:World)(b0:Nat)(own:Nat->Option Own)(i:Nat)(out:List Int)(gv:Value):Prop:=
 (gv=nilS'/\out=[])\/∃ g cap,∃ rest:List Value,gv=.slice (some ⟨g,0,none⟩) out.length cap/\w.heap[g]?=some (.cells (out.map (fun c=>Value.int .i64 (code c))++rest).toArray 100 (0,0))/\out.length<=cap/\cap<=out.length+rest.length/\own g=some (.gv i)/\b0<=g
structure ConAt (w:World) (n:Nd) (cb:Nat):Prop where
 blk:∃ cs:List Value,w.heap[cb]?=some (.cells cs.toArray 224 (0,0))
 mat:∀ k:Nat,k<=3000->∃ f a b c d:Int,0<f/\Rf.constant n k=some (Pg.msc f ⟨a,b,c,d⟩)/\(∀ z∈[a,b,c,d],Bits 2 z)/\∀ W,On Z.bt w W->Calls Tryz.prog 216 #[ptrB cb,.int .i64 k] W fun e w'=>∃ xs:List Value,e=.returned (.agg xs.toArray)/\Hold true w' [a,b,c,d] xs/\Below W.heap.size W w'
def NstAt (w:World)(b0:Nat)(own:Nat->Option Own)(at':Nat->Nat)(i:Nat)(n:Nd)(nb:Nat)(pl:Int):Prop:=
 ∃ (xs:List Value) (zs:List Int) (fst fur:Value),w.heap[nb]?=some (.cells (.int .i64 (kindZ n.op)::fst::fur::xs).toArray 273 (0,0))/\Hold true w zs xs/\zs.length=8/\(∀ z∈zs,Bits 1 z)/\
  (n.op=.sqrt->∃ a,n.args[0]?=some a/\fst=ptrB (at' a)/\fur=ptrB (at' a)/\Pg.Cof n.t (colsZ zs))/\
  (n.op≠.sqrt->pl=n.k/\∃ x,n.x=some x/\fst=ptrB (at' x)/\(n.op=.ln1p->fur=ptrB (at' x))/\(n.op≠.ln1p->(∀ s,n.square=some s->fur=ptrB (at' s))/\
   (n.square=none->∃ pb,fur=ptrB pb/\own pb=some (.pd i)/\b0<=pb/\NodeAt w pb [1,0,0,0,0,0,0,1] false 0 0 0 0 0 (ptrB (at' x)) (ptrB (at' x)) nilS' nilP nilP)))
def NstOk (w:World)(b0:Nat)(own:Nat->Option Own)(at':Nat->Nat)(i:Nat)(n:Nd)(nv:Value)(pl:Int):Prop:=
 (n.nest=false->nv=nilP)/\(n.nest=true->∃ nb,nv=ptrB nb/\(∃ cs:List Value,w.heap[nb]?=some (.cells cs.toArray 273 (0,0)))/\(n.t.length=4->n.args.length=1->NstAt w b0 own at' i n nb pl))
structure Blk (w:World) (b0:Nat) (own:Nat->Option Own) (at':Nat->Nat) (i:Nat) (n:Nd) (p0 q0 p1 q1 p2 q2 p3 q3 mt pl:Int) (gv cv nv:Value):Prop where
 nd:NodeAt w (at' i) [p0,q0,p1,q1,p2,q2,p3,q3] (!n.pos) (unsZ n) mt (lRd n) (rRd n) pl (ptrV at' (lArg n)) (ptrV at' (rArg n)) gv cv nv
 giv:GivOk w b0 own i n.out gv
 con:n.t=[]->mt=n.k/\∃ cb,cv=ptrB cb/\ConAt w n cb
 nocon:n.t≠[]->cv=nilP
 nst:NstOk w b0 own at' i n nv pl
structure NodeOk (w:World) (b0:Nat) (own:Nat->Option Own) (at':Nat->Nat) (ns:List Nd) (i:Nat) (n:Nd):Prop where
 ex:∃ p0 q0 p1 q1 p2 q2 p3 q3 mt pl gv cv nv,Blk w b0 own at' i n p0 q0 p1 q1 p2 q2 p3 q3 mt pl gv cv nv/\∃ l,Rf.corners ns n=some l/\Pg.Cof l [(p0,q0),(p1,q1),(p2,q2),(p3,q3)]
 hc:Pg.HC n
 own:own (at' i)=some (.nd i)
 lo:b0<=at' i
 prb:n.probe=true->n.t=[(1,0),(0,1)]/\n.nest=false
structure Net (w:World) (b0:Nat) (own:Nat->Option Own) (at':Nat->Nat) (fb:Nat) (s:Rf.St):Prop where
 nd:∀ i n,s.nodes[i]?=some n->NodeOk w b0 own at' s.nodes i n
 fuel:w.heap[fb]?=some (.cells #[.int .i64 s.clock] 195 (0,0))
 fb0:b0<=fb
structure Chg (w w':World) (D:List Nat):Prop where
 on:On Z.bt w w'
 low:∀ k,k<w.heap.size->k∉D->w'.heap[k]?=w.heap[k]?
theorem Chg.refl (w:World):Chg w w []:=⟨On.refl _ _,fun _ _ _=>rfl⟩
theorem Chg.of_below {w w':World}(h:Below w.heap.size w w'):Chg w w' []:=⟨On.below h,fun k hk _=>h.block k hk⟩
theorem Chg.at {w w':World}{D:List Nat}(h:Chg w w' D){k:Nat}{o:Obj}(hk:w.heap[k]?=some o)(hd:k∉D):w'.heap[k]?=some o:=by rw [h.low k (lt_of_heap hk) hd];exact hk
theorem Chg.weak {w w':World}{D D':List Nat}(h:Chg w w' D)(hd:∀ k∈D,k∈D'):Chg w w' D':=⟨h.on,fun k hk hn=>h.low k hk fun e=>hn (hd k e)⟩
theorem Chg.trans {w w' w'':World}{D:List Nat}(h:Chg w w' D)(h':Chg w' w'' D):Chg w w'' D:=⟨h.on.trans h'.on,fun k hk hd=>by rw [h'.low k (Nat.lt_of_lt_of_le hk h.on.size) hd,h.low k hk hd]⟩
def IsD (w:World)(own:Nat->Option Own)(i:Nat)(D:List Nat):Prop:=∀ k∈D,∀ cs ty m,w.heap[k]?=some (.cells cs ty m)->(ty=205/\own k=some (.nd i))\/(ty=100/\own k=some (.gv i))\/ty=195
theorem hold_on {w w':World}(h:On Z.bt w w'):∀ {zs:List Int} {xs:List Value},Hold true w zs xs->Hold true w' zs xs
 | [],[],_=>trivial
 | _::zs,_::_::xs,⟨h1,h2,h3⟩=>⟨h1,(show Z.dig true w' _ _ from Z.digOn (k:=true) h h2),hold_on h h3⟩
 | [],_::_,h=>h.elim
 | _::_,[],h=>h.elim
 | _::_,[_],h=>h.elim
theorem NodeAt.keep {w w':World}{k:Nat}{zs:List Int}{hs:Bool}{uns mt lr rr pl:Int}{lp rp gv cv nv:Value}(h:NodeAt w k zs hs uns mt lr rr pl lp rp gv cv nv)(hon:On Z.bt w w')(hk:w'.heap[k]?=w.heap[k]?):NodeAt w' k zs hs uns mt lr rr pl lp rp gv cv nv:=by
 obtain ⟨xs,h1,h2⟩:=h.ex
 exact ⟨xs,by rw [hk];exact h1,hold_on hon h2⟩
theorem NodeAt.lt {w:World}{k:Nat}{zs:List Int}{hs:Bool}{uns mt lr rr pl:Int}{lp rp gv cv nv:Value}(h:NodeAt w k zs hs uns mt lr rr pl lp rp gv cv nv):k<w.heap.size:=by
 obtain ⟨xs,h1,h2⟩:=h.ex
 exact lt_of_heap h1
section
variable {w w':World} {b0:Nat} {own own':Nat->Option Own} {D:List Nat} {i0:Nat}
theorem NodeAt.notin {k:Nat}{zs:List Int}{hs:Bool}{uns mt lr rr pl:Int}{lp rp gv cv nv:Value}(h:NodeAt w k zs hs uns mt lr rr pl lp rp gv cv nv)(hD:IsD w own i0 D)(ho:own k≠some (.nd i0)):k∉D:=by
 intro hk
 obtain ⟨xs,h1,h2⟩:=h.ex
 rcases hD k hk _ _ _ h1 with ⟨_,e⟩ | ⟨e,_⟩ | e
 ·exact ho e
 ·exact absurd e (by decide)
 ·exact absurd e (by decide)
theorem GivOk.keep {i:Nat}{out:List Int}{gv:Value}(h:GivOk w b0 own i out gv)(hc:Chg w w' D)(hD:IsD w own i0 D)(hi:i≠i0)(hown:∀ k o,k<w.heap.size->own k=some o->o≠.pd i0->own' k=some o):GivOk w' b0 own' i out gv:=by
 rcases h with h | ⟨g,cap,rest,h1,h2,h3,h4,h5,h6⟩
 ·exact Or.inl h
 ·refine Or.inr ⟨g,cap,rest,h1,hc.at h2 ?_,h3,h4,hown _ _ (lt_of_heap h2) h5 (by intro e;cases e),h6⟩
  intro hk
  rcases hD g hk _ _ _ h2 with ⟨e,_⟩ | ⟨_,e⟩ | e
  ·exact absurd e (by decide)
  ·rw [h5] at e;cases e;exact hi rfl
  ·exact absurd e (by decide)
theorem ConAt.keep {n:Nd}{cb:Nat}(h:ConAt w n cb)(hon:On Z.bt w w'):ConAt w' n cb:=by
 obtain ⟨cs,hcs⟩:=h.blk
 refine ⟨⟨cs,?_⟩,fun k hk=>?_⟩
 rotate_left
 ·obtain ⟨f,a,b,c,d,h1,h2,h3,h4⟩:=h.mat k hk
  exact ⟨f,a,b,c,d,h1,h2,h3,fun W hW=>h4 W (hon.trans hW)⟩
 rcases hon.blk cb _ hcs with e | ⟨e,_⟩
 ·exact e
 ·have e':bt0.contains 224=true:=e
  exact absurd e' (by decide)
theorem ConAt.of {n n':Nd}{cb:Nat}(h:ConAt w n cb)(h1:∀ k,Rf.constant n' k=Rf.constant n k):ConAt w n' cb:=by
 refine ⟨h.blk,fun k hk=>?_⟩
 rw [h1]
 exact h.mat k hk
theorem NstAt.keep {at1 at2:Nat->Nat}{i:Nat}{n:Nd}{nb:Nat}{pl:Int}{N:Nat}(h:NstAt w b0 own at1 i n nb pl)(hc:Chg w w' D)(hD:IsD w own i0 D)(hown:∀ k o,k<w.heap.size->own k=some o->o≠.pd i0->own' k=some o)(hi:i=i0->n.square≠none\/∀ k,k<w.heap.size->own k=some (.pd i0)->own' k=some (.pd i0))(hat:∀ a,a<N->at2 a=at1 a)(ha:∀ a,n.args[0]?=some a->a<N)(hx:n.op≠.sqrt->∀ x,n.x=some x->x<N)(hs:n.op≠.sqrt->∀ s,n.square=some s->s<N):NstAt w' b0 own' at2 i n nb pl:=by
 obtain ⟨xs,zs,fst,fur,h1,h2,h3,h4,h5,h6⟩:=h
 have hnb:nb∉D:=by
  intro hk
  rcases hD nb hk _ _ _ h1 with ⟨e,_⟩ | ⟨e,_⟩ | e<;>exact absurd e (by decide)
 refine ⟨xs,zs,fst,fur,hc.at h1 hnb,hold_on hc.on h2,h3,h4,?_,?_⟩
 ·intro hop
  obtain ⟨a,a1,a2,a3,a4⟩:=h5 hop
  exact ⟨a,a1,by rw [hat a (ha a a1)];exact a2,by rw [hat a (ha a a1)];exact a3,a4⟩
 ·intro hop
  obtain ⟨k1,x,k2,k3,k4,k5⟩:=h6 hop
  have hx':=hat x (hx hop x k2)
  refine ⟨k1,x,k2,by rw [hx'];exact k3,by rw [hx'];exact k4,fun hl=>⟨fun s e=>by rw [hat s (hs hop s e)];exact (k5 hl).1 s e,fun e=>?_⟩⟩
  obtain ⟨pb,m1,m2,m3,m4⟩:=(k5 hl).2 e
  refine ⟨pb,m1,?_,m3,?_⟩
  ·by_cases hii:i=i0
   ·rcases hi hii with h | h
    ·exact absurd e h
    ·subst hii;exact h _ m4.lt m2
   ·exact hown _ _ m4.lt m2 (by intro e;cases e;exact hii rfl)
  ·rw [hx']
   exact m4.keep hc.on (hc.low pb m4.lt (m4.notin hD (by rw [m2];intro e;cases e)))
theorem NodeOk.keep {at1 at2:Nat->Nat}{ns ns':List Nd}{rho:Nat->Nat}{c i:Nat}{n:Nd}(h:NodeOk w b0 own at1 ns i n)(hc:Chg w w' D)(hD:IsD w own i0 D)(hi:i≠i0)(hil:i<ns.length)(hgo:Pg.Go ns ns')(hown:∀ k o,k<w.heap.size->own k=some o->o≠.pd i0->own' k=some o)(hat:∀ a,a<ns.length->at2 a=at1 a)(hN:NInv ns rho c i n):NodeOk w' b0 own' at2 ns' i n:=by
 obtain ⟨p0,q0,p1,q1,p2,q2,p3,q3,mt,pl,gv,cv,nv,hb,l,hl1,hl2⟩:=h.ex
 have hati:=hat i hil
 have hlt:∀ a,a∈n.args->a<ns.length:=by
  intro a ha
  obtain ⟨j,hj,e⟩:=List.getElem_of_mem ha
  exact (hN.arg j a (by rw [List.getElem?_eq_getElem hj,e])).1
 have hL:ptrV at2 (lArg n)=ptrV at1 (lArg n):=by
  unfold lArg
  split
  ·cases e:n.args[0]? with
   | none=>rfl
   | some a=>simp only [ptrV];rw [hat a (hlt a (List.mem_of_getElem? e))]
  ·rfl
 have hR:ptrV at2 (rArg n)=ptrV at1 (rArg n):=by
  unfold rArg
  split
  ·cases e:n.args[1]? with
   | none=>rfl
   | some a=>simp only [ptrV];rw [hat a (hlt a (List.mem_of_getElem? e))]
  ·split
   ·cases e:n.args[0]? with
    | none=>rfl
    | some a=>simp only [ptrV];rw [hat a (hlt a (List.mem_of_getElem? e))]
   ·rfl
 refine ⟨⟨p0,q0,p1,q1,p2,q2,p3,q3,mt,pl,gv,cv,nv,⟨?_,hb.giv.keep hc hD hi hown,?_,hb.nocon,?_⟩,l,hgo.corners hl1,hl2⟩,h.hc,by rw [hati];exact hown _ _ hb.nd.lt h.own (by intro e;cases e),by rw [hati];exact h.lo,h.prb⟩
 ·rw [hati,hL,hR]
  exact hb.nd.keep hc.on (hc.low _ hb.nd.lt (hb.nd.notin hD (by rw [h.own];intro e;cases e;exact hi rfl)))
 ·intro ht
  obtain ⟨h1,cb,h2,h3⟩:=hb.con ht
  exact ⟨h1,cb,h2,h3.keep hc.on⟩
 ·refine ⟨hb.nst.1,fun hne=>?_⟩
  obtain ⟨nb,h1,⟨cs,h2⟩,h3⟩:=hb.nst.2 hne
  refine ⟨nb,h1,⟨cs,hc.at h2 ?_⟩,fun ht ha=>?_⟩
  ·intro hk
   rcases hD nb hk _ _ _ h2 with ⟨e,_⟩ | ⟨e,_⟩ | e<;>exact absurd e (by decide)
  ·have hNest:∃ a,n.args=[a]/\Rf.NestOk ns rho c i n a:=by
    cases hN.shp with
    | con ht' _ _ _=>rw [ht'] at ht;simp at ht
    | frac v ht' _ _ _=>rw [ht'] at ht;simp at ht
    | una v u a ht' _ _=>rw [ht'] at ht;simp at ht
    | bin a b v u x y ht' ha' _=>rw [ha'] at ha;simp at ha
    | nest a v u x y ht' ha' _ _ ok=>exact ⟨a,ha',ok⟩
   obtain ⟨a,ha',ok⟩:=hNest
   obtain ⟨base,ck,_,_,_,_,_,hx⟩:=ok.ex
   refine (h3 ht ha).keep (N:=ns.length) hc hD hown (fun e=>absurd e hi) hat (fun a e=>hlt a (List.mem_of_getElem? e)) ?_ ?_
   ·intro hop x e
    obtain ⟨x',g1,g2,_⟩:=hx hop
    rw [g1] at e
    cases e
    exact g2
   ·intro hop s e
    obtain ⟨x',g1,g2,_,_,g5⟩:=hx hop
    exact (g5 s e).1
end
end Ab
end Go.Proofs.YteghhlfmcjmnoaaGreatDoor
