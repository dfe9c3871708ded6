import Derived.Test.YteghhlfmcjmnoaaGreatDoorCDe16
import Derived.Test.YteghhlfmcjmnoaaGreatDoorCDe05
set_option linter.unusedSimpArgs false
set_option linter.unusedVariables false
set_option maxRecDepth 100000
set_option maxHeartbeats 2000000
namespace Go.Proofs.YteghhlfmcjmnoaaGreatDoor
open Go.RowKit
namespace Ab
open Rf (Nd Inv NInv)
section
variable {w w1:World} {b0 fb m nb:Nat} {own own':Nat->Option Own} {at1 at2:Nat->Nat} {i:Nat} {n n1 mN:Nd} {s:Rf.St} {rho:Nat->Nat} {c:Nat}
theorem nest_nodeOk {ns1:List Nd}{N a:Nat}{xa:Nd}{zs:List Int}{pl:Int}{v u x y:Rf.V}(hnode:NodeAt w1 (at2 N) zs false 0 0 0 0 pl (ptrB (at2 a)) nilP nilS' nilP (ptrB nb))(h8:zs.length=8)(f1:mN.pos=true)(f2:mN.probe=false)(f3:mN.t=[v,u,x,y])(f4:mN.args=[a])(f5:mN.read=[0])(f6:mN.out=[])(f7:mN.told=Rf.one)(f8:mN.had=[Rf.one])(f9:mN.nest=true)(hxa:ns1[a]?=some xa)(hx0:xa.had[0]?=some Rf.one)(hblk:∃ cs:List Value,w1.heap[nb]?=some (.cells cs.toArray 273 (0,0)))(hnst:NstAt w1 b0 own' at2 N mN nb pl)(hcof:Pg.Cof mN.t (colsZ zs))(how:own' (at2 N)=some (.nd N))(hlo:b0<=at2 N):NodeOk w1 b0 own' at2 ns1 N mN:=by
 obtain ⟨r0,s0,r1,s1,r2,s2,r3,s3,rfl⟩:=eight h8
 refine ⟨⟨r0,s0,r1,s1,r2,s2,r3,s3,0,pl,nilS',nilP,ptrB nb,⟨?_,Or.inl ⟨rfl,f6⟩,fun e=>?_,fun _=>rfl,fun e=>?_,fun _=>⟨nb,rfl,hblk,fun _ _=>hnst⟩⟩,mN.t,?_,hcof⟩,⟨by rw [f8,f6];rfl,by rw [f8];rfl,by rw [f8,f6,f7];rfl,fun r cc mm h=>by rw [f6] at h;simp at h⟩,how,hlo,fun e=>by rw [f2] at e;cases e⟩
 ·have e1:lArg mN=some a:=by unfold lArg;rw [f3,f4];rfl
  have e2:rArg mN=none:=by unfold rArg;rw [f3,f4];rfl
  have e3:lRd mN=0:=by unfold lRd;rw [f3,f5];rfl
  have e4:rRd mN=0:=by unfold rRd;rw [f3,f5];rfl
  have e5:unsZ mN=0:=by unfold unsZ;rw [f2];rfl
  rw [e1,e2,e3,e4,e5,f1]
  exact hnode
 ·rw [f3] at e;cases e
 ·rw [f9] at e;cases e
 ·rw [f3]
  exact Pg.corners_nest f3 f4 f5 hxa hx0 f7
theorem two_nodeOk {ns1:List Nd}{N x:Nat}{xa:Nd}{p:Bool}(hp:p=true)(hnode:NodeAt w1 (at2 N) [1,0,0,0,0,0,0,1] false 0 0 0 0 0 (ptrB (at2 x)) (ptrB (at2 x)) nilS' nilP nilP)(hxa:ns1[x]?=some xa)(hx0:xa.had[0]?=some Rf.one)(how:own' (at2 N)=some (.nd N))(hlo:b0<=at2 N):NodeOk w1 b0 own' at2 ns1 N (Rf.two .mul p p x x):=by
 subst hp
 refine ⟨⟨1,0,0,0,0,0,0,1,0,0,nilS',nilP,nilP,⟨hnode,Or.inl ⟨rfl,rfl⟩,fun e=>(by cases e),fun _=>rfl,fun _=>rfl,fun e=>(by cases e)⟩,Rf.Kind.mul.cols,Pg.corners_new4 rfl rfl rfl hxa hx0 hxa hx0 rfl,?_⟩,Pg.HC.fresh _ _ _,how,hlo,fun e=>by cases e⟩
 exact .mk4 (e:=1) (by decide) (Pg.sc_one _).symm (Pg.sc_one _).symm (Pg.sc_one _).symm (Pg.sc_one _).symm
theorem wide_gen (h:Net w b0 own at1 fb s)(hI:Inv s.nodes rho c)(hn:s.nodes[i]?=some n){a0 r0:Nat}{v u x y:Rf.V}(ht:n.t=[v,u,x,y])(ha:n.args=[a0])(hr:n.read=[r0])(hne:n.nest=true){dd:Nat}{new ns1:List Nd}(e1:n1={n with args:=n.args++[dd],read:=n.read++[0]})(hns:ns1=(s.nodes++new).set i n1){p0 q0 p1 q1 p2 q2 p3 q3 mt pl:Int}{gv cv nv:Value}{l:List Rf.V}{g:Option (Nat×Nat)}{cc nn:Option Nat}(hs:Seen w b0 own at1 s.nodes i n p0 q0 p1 q1 p2 q2 p3 q3 mt pl gv cv nv l g cc nn)(hch:Chg w w1 [at1 i])(hp1:Pos2 w1 (at1 i) fb [p0,q0,p1,q1,p2,q2,p3,q3] (!n.pos) (unsZ n) mt (lRd n) (rRd n) pl s.clock (ptrV at1 (lArg n)) (ptrB m) gv cv nv)
  (hat:∀ a,a<s.nodes.length->at2 a=at1 a) (hatd:at2 dd=m) {xd:Nd} (hdd:ns1[dd]?=some xd) (hd0:xd.had[0]?=some Rf.one) (hown:∀ k o,k<w.heap.size->own k=some o->o≠.pd i->own' k=some o) (hownN:∀ k,k<w.heap.size->own k=none->own' k=none) (hnew:∀ j mm,(s.nodes++new)[j]?=some mm->s.nodes.length<=j->NodeOk w1 b0 own' at2 ns1 j mm):
  Kept w w1 own own' fb/\Net w1 b0 own' at2 fb ⟨ns1,s.clock⟩:=by
 have hi:=(List.getElem?_eq_some_iff.1 hn).1
 have hN:=hI.at' i n hn
 have hgo1:Pg.Go s.nodes (s.nodes++new):=Pg.Go.more _ _
 have hn':(s.nodes++new)[i]?=some n:=by rw [List.getElem?_append_left hi];exact hn
 have hgo:Pg.Go s.nodes ns1:=by
  rw [hns]
  exact hgo1.trans (go_same hn' (by rw [e1]) (by rw [e1]) (by rw [e1]))
 have hoi:=(h.nd i n hn).own
 have hIs:IsD w own i [at1 i]:=by
  intro k hk cs ty mm hcs
  simp at hk
  subst hk
  obtain ⟨xs,h1,_⟩:=hs.blk.nd.ex
  rw [hcs] at h1
  exact Or.inl ⟨(Obj.cells.inj (Option.some.inj h1)).2.1,hoi⟩
 have hati:=hat i hi
 refine ⟨Kept.of_chg hch (fun k hk hlt hno=>?_) hownN,h.step (i:=i) hI (fun j hj hne=>?_) hgo hch hIs hown hat (hp1.fu) fun j mm hj hor=>?_⟩
 ·simp at hk
  subst hk
  rw [hoi] at hno
  cases hno
 ·rw [hns,List.getElem?_set_ne (fun e=>hne e.symm),List.getElem?_append_left hj]
 ·by_cases hji:j=i
  ·subst hji
   rw [hns,List.getElem?_set_self (by simp;omega)] at hj
   cases hj
   have hnb:∀ nb:Nat,(∃ cs:List Value,w.heap[nb]?=some (.cells cs.toArray 273 (0,0)))->∃ cs:List Value,w1.heap[nb]?=some (.cells cs.toArray 273 (0,0)):=by
    rintro nb ⟨cs,hcs⟩
    refine ⟨cs,hch.at hcs ?_⟩
    intro hk
    rcases hIs nb hk _ _ _ hcs with ⟨e,_⟩ | ⟨e,_⟩ | e<;>exact absurd e (by decide)
   refine ⟨⟨p0,q0,p1,q1,p2,q2,p3,q3,mt,pl,gv,cv,nv,⟨?_,?_,fun e=>?_,fun _=>hs.blk.nocon (by rw [ht];simp),?_⟩,l,?_,hs.cof⟩,(h.nd j n hn).hc.of (by rw [e1]) (by rw [e1]) (by rw [e1]),by rw [hati];exact hown _ _ hs.blk.nd.lt hoi (by intro e;cases e),by rw [hati];exact (h.nd j n hn).lo,by rw [e1];exact (h.nd j n hn).prb⟩
   ·have f1:lArg n1=lArg n:=by unfold lArg;rw [e1,ha];simp [ht]
    have f2:rArg n1=some dd:=by unfold rArg;rw [e1,ha];simp [ht]
    have f3:lRd n1=lRd n:=by unfold lRd;rw [e1,hr];simp [ht]
    have f4:rRd n1=rRd n:=by unfold rRd;rw [e1,hr];simp [ht]
    have f5:unsZ n1=unsZ n:=by rw [e1];rfl
    have f6:n1.pos=n.pos:=by rw [e1]
    have f7:ptrV at2 (lArg n)=ptrV at1 (lArg n):=by
     cases e:lArg n with
     | none=>rfl
     | some a=>simp only [ptrV];rw [hat a (lArg_lt hN a e)]
    rw [f1,f2,f3,f4,f5,f6,f7,hati]
    show NodeAt w1 (at1 j) _ _ _ _ _ _ _ _ (ptrB (at2 dd)) _ _ _
    rw [hatd]
    exact hp1.nd
   ·rw [e1]
    rcases hs.blk.giv with ⟨g1,g2⟩ | ⟨g',cap,rest,g1,g2,g3,g4,g5,g6⟩
    ·exact Or.inl ⟨g1,g2⟩
    ·refine Or.inr ⟨g',cap,rest,g1,hch.at g2 ?_,g3,g4,hown _ _ (lt_of_heap g2) g5 (by intro e;cases e),g6⟩
     intro hm
     simp at hm
     subst hm
     rw [hoi] at g5
     cases g5
   ·rw [e1] at e
    simp only at e
    rw [ht] at e
    cases e
   ·refine ⟨fun e=>?_,fun e=>?_⟩
    ·rw [e1] at e
     simp only at e
     rw [hne] at e
     cases e
    ·obtain ⟨nb,k1,k2,_⟩:=hs.blk.nst.2 hne
     refine ⟨nb,k1,hnb nb k2,fun _ hl=>?_⟩
     rw [e1,ha] at hl
     simp at hl
   ·rw [e1]
    exact Pg.corners_wide ht ha hr (hgo.corners hs.cor) hdd hd0
  ·rcases hor with e | e
   ·exact absurd e hji
   ·refine hnew j mm ?_ e
    rw [hns,List.getElem?_set_ne (fun e=>hji e.symm)] at hj
    exact hj
end
end Ab
open Go.RowKit
namespace Ab
open Rf (Nd Inv NInv)
theorem more_eq {ns ns':List Nd}{n:Nd}(h:Rf.more ns n=some ns'):ns'=ns++[n]:=by
 unfold Rf.more at h
 split at h
 ·cases h;rfl
 ·cases h
def atA (len m:Nat)(at1:Nat->Nat):Nat->Nat:=fun j=>if j<len then at1 j else m
def atB (len pb m:Nat)(at1:Nat->Nat):Nat->Nat:=fun j=>if j<len then at1 j else if j=len then pb else m
def ownA (m:Nat)(o:Own)(own:Nat->Option Own):Nat->Option Own:=fun k=>if k=m then some o else own k
theorem atA_lt {len m a:Nat}{at1:Nat->Nat}(h:a<len):atA len m at1 a=at1 a:=by unfold atA;rw [if_pos h]
theorem atA_ge {len m a:Nat}{at1:Nat->Nat}(h:len<=a):atA len m at1 a=m:=by unfold atA;rw [if_neg (by omega)]
theorem atB_lt {len pb m a:Nat}{at1:Nat->Nat}(h:a<len):atB len pb m at1 a=at1 a:=by unfold atB;rw [if_pos h]
theorem atB_eq {len pb m:Nat}{at1:Nat->Nat}:atB len pb m at1 len=pb:=by unfold atB;rw [if_neg (by omega),if_pos rfl]
theorem atB_gt {len pb m a:Nat}{at1:Nat->Nat}(h:len<a):atB len pb m at1 a=m:=by unfold atB;rw [if_neg (by omega),if_neg (by omega)]
theorem ownA_eq {m:Nat}{o:Own}{own:Nat->Option Own}:ownA m o own m=some o:=by unfold ownA;rw [if_pos rfl]
theorem ownA_ne {m k:Nat}{o:Own}{own:Nat->Option Own}(h:k≠m):ownA m o own k=own k:=by unfold ownA;rw [if_neg h]
structure Nst (w:World) (b0:Nat) (own:Nat->Option Own) (at':Nat->Nat) (i:Nat) (n:Nd) (nb:Nat) (pl:Int) (xs:List Value) (zs:List Int) (fst fur:Value):Prop where
 blk:w.heap[nb]?=some (.cells (.int .i64 (kindZ n.op)::fst::fur::xs).toArray 273 (0,0))
 hold:Hold true w zs xs
 len:zs.length=8
 bits:∀ z∈zs,Bits 1 z
 root:n.op=.sqrt->∃ a,n.args[0]?=some a/\fst=ptrB (at' a)/\fur=ptrB (at' a)/\Pg.Cof n.t (colsZ zs)
 fn:n.op≠.sqrt->pl=n.k/\∃ x,n.x=some x/\fst=ptrB (at' x)/\(n.op=.ln1p->fur=ptrB (at' x))/\(n.op≠.ln1p->(∀ s,n.square=some s->fur=ptrB (at' s))/\
   (n.square=none->∃ pb,fur=ptrB pb/\own pb=some (.pd i)/\b0<=pb/\NodeAt w pb [1,0,0,0,0,0,0,1] false 0 0 0 0 0 (ptrB (at' x)) (ptrB (at' x)) nilS' nilP nilP))
theorem Nst.of {w:World}{b0:Nat}{own:Nat->Option Own}{at':Nat->Nat}{i:Nat}{n:Nd}{nb:Nat}{pl:Int}(h:NstAt w b0 own at' i n nb pl):∃ xs zs fst fur,Nst w b0 own at' i n nb pl xs zs fst fur:=by
 obtain ⟨xs,zs,fst,fur,h1,h2,h3,h4,h5,h6⟩:=h
 exact ⟨xs,zs,fst,fur,h1,h2,h3,h4,h5,h6⟩
theorem Nst.ones {w:World}{b0:Nat}{own:Nat->Option Own}{at':Nat->Nat}{i:Nat}{n:Nd}{nb:Nat}{pl:Int}{xs:List Value}{zs:List Int}{fst fur:Value}(h:Nst w b0 own at' i n nb pl xs zs fst fur):One fst/\One fur:=by
 by_cases hs:n.op=.sqrt
 ·obtain ⟨a,_,h1,h2,_⟩:=h.root hs
  rw [h1,h2]
  exact ⟨rfl,rfl⟩
 ·obtain ⟨_,x,_,h1,h2,h3⟩:=h.fn hs
  refine ⟨by rw [h1];rfl,?_⟩
  by_cases hl:n.op=.ln1p
  ·rw [h2 hl];rfl
  ·cases hq:n.square with
   | none=>obtain ⟨pb,e,_⟩:=(h3 hl).2 hq;rw [e];rfl
   | some sq=>rw [(h3 hl).1 sq hq];rfl
theorem kind_fn {op:Rf.Op}(h:Rf.fn op)(hs:op≠.sqrt):kindZ op≠10/\((kindZ op=11/\op=.exp)\/(kindZ op=12/\op=.ln1p)\/(kindZ op=13/\op=.atan)):=by
 rcases h with e | e | e | e
 ·exact absurd e hs
 ·subst e;exact ⟨by decide,Or.inl ⟨rfl,rfl⟩⟩
 ·subst e;exact ⟨by decide,Or.inr (Or.inl ⟨rfl,rfl⟩)⟩
 ·subst e;exact ⟨by decide,Or.inr (Or.inr ⟨rfl,rfl⟩)⟩
theorem cols_fn {op:Rf.Op}(h:Rf.fn op)(hs:op≠.sqrt){k:Nat}(hk:k<=3001):colsZ (nsC (kindZ op) (k:Int))=[(0,0),((Rf.shape op k).1,0),(0,1),(0,(Rf.shape op k).2)]/\(fac1 (kindZ op) k).natAbs<1000000000000000000/\(fac2 (kindZ op) k).natAbs<1000000000000000000:=by
 obtain ⟨_,h2⟩:=kind_fn h hs
 obtain ⟨e1,e2⟩:=fac_eq (k:=k) (by omega) h2
 obtain ⟨b1,b2,_,_⟩:=Rf.shape_bits op hk
 unfold nsC colsZ
 rw [e1,e2]
 refine ⟨rfl,?_,?_⟩
 ·exact Nat.lt_trans (show _<2^24 from b1) (by decide)
 ·exact Nat.lt_trans (show _<2^24 from b2) (by decide)
section
variable {w w1:World} {b0 fb m nb:Nat} {own:Nat->Option Own} {at1:Nat->Nat} {i:Nat} {n n1 mN:Nd} {s:Rf.St} {rho:Nat->Nat} {c:Nat}
theorem wideA (h:Net w b0 own at1 fb s)(hb0:b0<=w.heap.size)(hI:Inv s.nodes rho c)(hn:s.nodes[i]?=some n){a0 r0:Nat}{v u x y:Rf.V}(ht:n.t=[v,u,x,y])(ha:n.args=[a0])(hr:n.read=[r0])(hne:n.nest=true){ns1:List Nd}(e1:n1={n with args:=n.args++[s.nodes.length],read:=n.read++[0]})(hns:ns1=(s.nodes++[mN]).set i n1){p0 q0 p1 q1 p2 q2 p3 q3 mt pl:Int}{gv cv nv:Value}{l:List Rf.V}{g:Option (Nat×Nat)}{cc nn:Option Nat}(hs:Seen w b0 own at1 s.nodes i n p0 q0 p1 q1 p2 q2 p3 q3 mt pl gv cv nv l g cc nn)(hch:Chg w w1 [at1 i])(hm:w.heap.size<=m)(hp1:Pos2 w1 (at1 i) fb [p0,q0,p1,q1,p2,q2,p3,q3] (!n.pos) (unsZ n) mt (lRd n) (rRd n) pl s.clock (ptrV at1 (lArg n)) (ptrB m) gv cv nv)
  {a:Nat} (hla:a<s.nodes.length) {zs:List Int} {pl':Int} {v' u' x' y':Rf.V} (hnode:NodeAt w1 m zs false 0 0 0 0 pl' (ptrB (at1 a)) nilP nilS' nilP (ptrB nb)) (h8:zs.length=8) (f1:mN.pos=true) (f2:mN.probe=false) (f3:mN.t=[v',u',x',y']) (f4:mN.args=[a]) (f5:mN.read=[0]) (f6:mN.out=[]) (f7:mN.told=Rf.one) (f8:mN.had=[Rf.one]) (f9:mN.nest=true) (hblk:∃ cs:List Value,w1.heap[nb]?=some (.cells cs.toArray 273 (0,0))) (hnst:NstAt w1 b0 (ownA m (.nd s.nodes.length) own) (atA s.nodes.length m at1) s.nodes.length mN nb pl') (hcof:Pg.Cof mN.t (colsZ zs)):
  ∃ own' at2,Kept w w1 own own' fb/\Net w1 b0 own' at2 fb ⟨ns1,s.clock⟩/\(∀ a,a<s.nodes.length->at2 a=at1 a)/\at2 s.nodes.length=m:=by
 have hi:=(List.getElem?_eq_some_iff.1 hn).1
 have hn':(s.nodes++[mN])[i]?=some n:=by rw [List.getElem?_append_left hi];exact hn
 have hgo:Pg.Go s.nodes ns1:=by
  rw [hns]
  exact (Pg.Go.more _ _).trans (go_same hn' (by rw [e1]) (by rw [e1]) (by rw [e1]))
 have hdd:ns1[s.nodes.length]?=some mN:=by
  rw [hns,List.getElem?_set_ne (by omega),List.getElem?_append_right (Nat.le_refl _)]
  simp
 obtain ⟨xa,g1,_,g3,_⟩:=hgo.at' a _ (List.getElem?_eq_getElem hla)
 have hx0:=g3 0 _ (h.nd a _ (List.getElem?_eq_getElem hla)).hc.fst
 obtain ⟨k1,k2⟩:=wide_gen h hI hn ht ha hr hne e1 hns hs hch hp1 (at2:=atA s.nodes.length m at1) (own':=ownA m (.nd s.nodes.length) own) (fun a ha=>atA_lt ha) (atA_ge (Nat.le_refl _)) hdd (by rw [f8];rfl) (fun k o hk ho _=>by rw [ownA_ne (by omega)];exact ho) (fun k hk ho=>by rw [ownA_ne (by omega)];exact ho) (by
  intro j mm hj hge
  have hjl:=(List.getElem?_eq_some_iff.1 hj).1
  have hje:j=s.nodes.length:=by simp at hjl;omega
  subst hje
  rw [List.getElem?_append_right (Nat.le_refl _)] at hj
  simp at hj
  subst hj
  refine nest_nodeOk (a:=a) ?_ h8 f1 f2 f3 f4 f5 f6 f7 f8 f9 g1 hx0 hblk hnst hcof ?_ ?_
  ·rw [atA_ge (Nat.le_refl _),atA_lt hla];exact hnode
  ·rw [atA_ge (Nat.le_refl _)];exact ownA_eq
  ·rw [atA_ge (Nat.le_refl _)];omega)
 exact ⟨_,_,k1,k2,fun a ha=>atA_lt ha,atA_ge (Nat.le_refl _)⟩
theorem wideB (h:Net w b0 own at1 fb s)(hb0:b0<=w.heap.size)(hI:Inv s.nodes rho c)(hn:s.nodes[i]?=some n){a0 r0:Nat}{v u x y:Rf.V}(ht:n.t=[v,u,x,y])(ha:n.args=[a0])(hr:n.read=[r0])(hne:n.nest=true){ns1:List Nd}{xx pb:Nat}{px:Bool}(hpx:px=true)(e1:n1={n with args:=n.args++[s.nodes.length+1],read:=n.read++[0]})(hns:ns1=(s.nodes++[Rf.two .mul px px xx xx]++[mN]).set i n1){p0 q0 p1 q1 p2 q2 p3 q3 mt pl:Int}{gv cv nv:Value}{l:List Rf.V}{g:Option (Nat×Nat)}{cc nn:Option Nat}(hs:Seen w b0 own at1 s.nodes i n p0 q0 p1 q1 p2 q2 p3 q3 mt pl gv cv nv l g cc nn)(hch:Chg w w1 [at1 i])(hm:w.heap.size<=m)(hp1:Pos2 w1 (at1 i) fb [p0,q0,p1,q1,p2,q2,p3,q3] (!n.pos) (unsZ n) mt (lRd n) (rRd n) pl s.clock (ptrV at1 (lArg n)) (ptrB m) gv cv nv)
  (hlx:xx<s.nodes.length) (hpb:own pb=some (.pd i)) (hpb0:b0<=pb) (hpbn:NodeAt w pb [1,0,0,0,0,0,0,1] false 0 0 0 0 0 (ptrB (at1 xx)) (ptrB (at1 xx)) nilS' nilP nilP) {zs:List Int} {pl':Int} {v' u' x' y':Rf.V} (hnode:NodeAt w1 m zs false 0 0 0 0 pl' (ptrB pb) nilP nilS' nilP (ptrB nb)) (h8:zs.length=8) (f1:mN.pos=true) (f2:mN.probe=false) (f3:mN.t=[v',u',x',y']) (f4:mN.args=[s.nodes.length]) (f5:mN.read=[0]) (f6:mN.out=[]) (f7:mN.told=Rf.one) (f8:mN.had=[Rf.one]) (f9:mN.nest=true) (hblk:∃ cs:List Value,w1.heap[nb]?=some (.cells cs.toArray 273 (0,0))) (hnst:NstAt w1 b0 (ownA m (.nd (s.nodes.length+1)) (ownA pb (.nd s.nodes.length) own)) (atB s.nodes.length pb m at1) (s.nodes.length+1) mN nb pl') (hcof:Pg.Cof mN.t (colsZ zs)):
  ∃ own' at2,Kept w w1 own own' fb/\Net w1 b0 own' at2 fb ⟨ns1,s.clock⟩/\(∀ a,a<s.nodes.length->at2 a=at1 a)/\at2 (s.nodes.length+1)=m:=by
 have hi:=(List.getElem?_eq_some_iff.1 hn).1
 have hns':ns1=(s.nodes++[Rf.two .mul px px xx xx,mN]).set i n1:=by rw [hns];simp
 have hn':(s.nodes++[Rf.two .mul px px xx xx,mN])[i]?=some n:=by rw [List.getElem?_append_left hi];exact hn
 have hgo:Pg.Go s.nodes ns1:=by
  rw [hns']
  exact (Pg.Go.more _ _).trans (go_same hn' (by rw [e1]) (by rw [e1]) (by rw [e1]))
 have hd1:ns1[s.nodes.length]?=some (Rf.two .mul px px xx xx):=by
  rw [hns',List.getElem?_set_ne (by omega),List.getElem?_append_right (Nat.le_refl _)]
  simp
 have hd2:ns1[s.nodes.length+1]?=some mN:=by
  rw [hns',List.getElem?_set_ne (by omega),List.getElem?_append_right (by omega)]
  simp
 obtain ⟨xa,g1,_,g3,_⟩:=hgo.at' xx _ (List.getElem?_eq_getElem hlx)
 have hx0:=g3 0 _ (h.nd xx _ (List.getElem?_eq_getElem hlx)).hc.fst
 have hpblt:=hpbn.lt
 have hpi:pb ∉ [at1 i]:=by
  intro e
  simp at e
  subst e
  rw [(h.nd i n hn).own] at hpb
  cases hpb
 have hpb1:NodeAt w1 pb [1,0,0,0,0,0,0,1] false 0 0 0 0 0 (ptrB (at1 xx)) (ptrB (at1 xx)) nilS' nilP nilP:=hpbn.keep hch.on (hch.low pb hpblt hpi)
 obtain ⟨k1,k2⟩:=wide_gen h hI hn ht ha hr hne e1 hns' hs hch hp1 (at2:=atB s.nodes.length pb m at1) (own':=ownA m (.nd (s.nodes.length+1)) (ownA pb (.nd s.nodes.length) own)) (fun a ha=>atB_lt ha) (atB_gt (by omega)) hd2 (by rw [f8];rfl)
  (fun k o hk ho hnp=>by
   rw [ownA_ne (by omega),ownA_ne (fun e=>by rw [e,hpb] at ho;cases ho;exact hnp rfl)];exact ho)
  (fun k hk ho=>by rw [ownA_ne (by omega),ownA_ne (fun e=>by rw [e,hpb] at ho;cases ho)];exact ho) (by
  intro j mm hj hge
  have hjl:=(List.getElem?_eq_some_iff.1 hj).1
  have hje:j=s.nodes.length\/j=s.nodes.length+1:=by simp at hjl;omega
  rcases hje with rfl | rfl
  ·rw [List.getElem?_append_right (Nat.le_refl _)] at hj
   simp at hj
   subst hj
   refine two_nodeOk hpx ?_ g1 hx0 ?_ ?_
   ·rw [atB_eq,atB_lt hlx];exact hpb1
   ·rw [atB_eq,ownA_ne (by omega)];exact ownA_eq
   ·rw [atB_eq];exact hpb0
  ·rw [List.getElem?_append_right (by omega)] at hj
   simp at hj
   subst hj
   refine nest_nodeOk (a:=s.nodes.length) ?_ h8 f1 f2 f3 f4 f5 f6 f7 f8 f9 hd1 rfl hblk hnst hcof ?_ ?_
   ·rw [atB_gt (by omega),atB_eq];exact hnode
   ·rw [atB_gt (by omega)];exact ownA_eq
   ·rw [atB_gt (by omega)];omega)
 exact ⟨_,_,k1,k2,fun a ha=>atB_lt ha,atB_gt (by omega)⟩
end
end Ab
open Go.RowKit
namespace Ab
open Rf (Nd Inv NInv)
section
variable {w w1:World} {b0 fb m nb:Nat} {own:Nat->Option Own} {at1:Nat->Nat} {i:Nat} {n n1:Nd} {s:Rf.St} {rho:Nat->Nat} {c:Nat}
theorem wrap_k {k:Nat}(h:k<=3000):IntKind.i64.wrap ((k:Int)+1)=((k+1:Nat):Int):=by
 rw [wrap_inc (by omega) (by omega)]
 simp
theorem wide_net (h:Net w b0 own at1 fb s)(hb0:b0<=w.heap.size)(hc3:c<=3000)(hI:Inv s.nodes rho c)(hn:s.nodes[i]?=some n){a0 r0:Nat}{v u x y:Rf.V}(ht:n.t=[v,u,x,y])(ha:n.args=[a0])(hr:n.read=[r0])(hne:n.nest=true)(ok:Rf.NestOk s.nodes rho c i n a0){d:List Nd×Nat}(hd:Rf.deeper s.nodes n=some d)(e1:n1={n with args:=n.args++[d.2],read:=n.read++[0]}){ns1:List Nd}(hput:Rf.put d.1 i n1=some ns1){p0 q0 p1 q1 p2 q2 p3 q3 mt pl:Int}{gv cv nv:Value}{l:List Rf.V}{g:Option (Nat×Nat)}{cc nn:Option Nat}(hs:Seen w b0 own at1 s.nodes i n p0 q0 p1 q1 p2 q2 p3 q3 mt pl gv cv nv l g cc nn)
  {xs:List Value} {zs:List Int} {fst fur:Value} (hnst:Nst w b0 own at1 i n nb pl xs zs fst fur) (hch:Chg w w1 [at1 i]) (hm:w.heap.size<=m) (hp1:Pos2 w1 (at1 i) fb [p0,q0,p1,q1,p2,q2,p3,q3] (!n.pos) (unsZ n) mt (lRd n) (rRd n) pl s.clock (ptrV at1 (lArg n)) (ptrB m) gv cv nv)
  (hnode:NodeAt w1 m (if kindZ n.op=10 then zs else nsC (kindZ n.op) (IntKind.i64.wrap (pl+1))) false 0 0 0 0 (IntKind.i64.wrap (pl+1)) (if 0<IntKind.i64.wrap (pl+1) then fur else fst) nilP nilS' nilP (ptrB nb)):
  ∃ own' at2,Kept w w1 own own' fb/\Net w1 b0 own' at2 fb ⟨ns1,s.clock⟩/\(∀ a,a<s.nodes.length->at2 a=at1 a)/\at2 d.2=m:=by
 have hN:=hI.at' i n hn
 have hns:=(put_eq hput).1
 have hnbi:nb ∉ [at1 i]:=by
  intro e
  simp at e
  subst e
  obtain ⟨ys,h1,_⟩:=hs.blk.nd.ex
  rw [hnst.blk] at h1
  exact absurd (Obj.cells.inj (Option.some.inj h1)).2.1 (by decide)
 have hblk1:=hch.at hnst.blk hnbi
 have hold1:=hold_on hch.on hnst.hold
 have hla0:a0<s.nodes.length:=(hN.arg 0 a0 (by rw [ha];rfl)).1
 unfold Rf.deeper at hd
 by_cases hsq:n.op=.sqrt
 ·rw [if_pos hsq,ha] at hd
  simp only [List.getElem?_cons_zero,Option.bind_some] at hd
  obtain ⟨nsm,hmore,hd2⟩:=Option.map_eq_some_iff.1 hd
  have hnsm:=more_eq hmore
  subst hnsm
  subst hd2
  obtain ⟨a,ha2,hfst,hfur,hcof⟩:=hnst.root hsq
  rw [ha] at ha2
  simp at ha2
  subst ha2
  rw [if_pos (by rw [hsq];rfl),show (if 0<IntKind.i64.wrap (pl+1) then fur else fst)=ptrB (at1 a0) by split;exact hfur;exact hfst] at hnode
  refine wideA h hb0 hI hn ht ha hr hne e1 hns hs hch hm hp1 hla0 hnode hnst.len rfl rfl ht rfl rfl rfl rfl rfl rfl ⟨_,hblk1⟩ ?_ hcof
  refine ⟨xs,zs,fst,fur,hblk1,hold1,hnst.len,hnst.bits,fun _=>⟨a0,rfl,by rw [atA_lt hla0];exact hfst,by rw [atA_lt hla0];exact hfur,hcof⟩,fun e=>absurd hsq e⟩
 ·rw [if_neg hsq] at hd
  obtain ⟨hpl,xx,hx,hfst,hln,hsquare⟩:=hnst.fn hsq
  obtain ⟨base,ck,r1,r2,r3,r4,r5,r6⟩:=ok.ex
  obtain ⟨xx',g1,g2,g3,g4,g5⟩:=r6 hsq
  rw [hx] at g1
  cases g1
  have hk:=hN.ku
  have hfn:=ok.op
  obtain ⟨k10,_⟩:=kind_fn hfn hsq
  rw [hpl,wrap_k (by omega),if_neg k10,if_pos (by omega)] at hnode
  obtain ⟨hcols,_,_⟩:=cols_fn hfn hsq (k:=n.k+1) (by omega)
  have hcof:∀ (a x:Nat) (sq:Option Nat),Pg.Cof (Rf.nestNd n.op (n.k+1) a x sq).t (colsZ (nsC (kindZ n.op) ((n.k+1:Nat):Int))):=by
   intro a x sq
   rw [hcols]
   exact .mk4 (e:=1) (by decide) (Pg.sc_one _).symm (Pg.sc_one _).symm (Pg.sc_one _).symm (Pg.sc_one _).symm
  rw [hx,Option.bind_some] at hd
  unfold Rf.nest at hd
  by_cases hl:n.op=.ln1p
  ·rw [if_neg (by rw [hl];simp)] at hd
   obtain ⟨nsm,hmore,hd2⟩:=Option.map_eq_some_iff.1 hd
   have hnsm:=more_eq hmore
   subst hnsm
   subst hd2
   rw [hln hl] at hnode
   refine wideA h hb0 hI hn ht ha hr hne e1 hns hs hch hm hp1 g2 hnode rfl rfl rfl rfl rfl rfl rfl rfl rfl rfl ⟨_,hblk1⟩ ?_ (hcof _ _ _)
   refine ⟨xs,zs,fst,fur,hblk1,hold1,hnst.len,hnst.bits,fun e=>absurd e hsq,fun _=>⟨rfl,xx,rfl,by rw [atA_lt g2];exact hfst,fun _=>by rw [atA_lt g2];exact hln hl,fun e=>absurd hl e⟩⟩
  ·rw [if_pos ⟨by omega,hl⟩] at hd
   cases hq:n.square with
   | some sq=>
    rw [hq] at hd
    simp only at hd
    obtain ⟨nsm,hmore,hd2⟩:=Option.map_eq_some_iff.1 hd
    have hnsm:=more_eq hmore
    subst hnsm
    subst hd2
    have hsl:=(g5 sq hq).1
    rw [(hsquare hl).1 sq hq] at hnode
    refine wideA h hb0 hI hn ht ha hr hne e1 hns hs hch hm hp1 hsl hnode rfl rfl rfl rfl rfl rfl rfl rfl rfl rfl ⟨_,hblk1⟩ ?_ (hcof _ _ _)
    refine ⟨xs,zs,fst,fur,hblk1,hold1,hnst.len,hnst.bits,fun e=>absurd e hsq,fun _=>⟨rfl,xx,rfl,by rw [atA_lt g2];exact hfst,fun e=>absurd e hl,fun _=>⟨fun s' e=>?_,fun e=>(by cases e)⟩⟩⟩
    cases e
    rw [atA_lt hsl]
    exact (hsquare hl).1 sq hq
   | none=>
    rw [hq] at hd
    simp only at hd
    obtain ⟨nx,hnx,hd⟩:=Option.bind_eq_some_iff.1 hd
    obtain ⟨nsm,hmore,hd⟩:=Option.bind_eq_some_iff.1 hd
    obtain ⟨nsm2,hmore2,hd2⟩:=Option.map_eq_some_iff.1 hd
    have hnsm:=more_eq hmore
    subst hnsm
    have hnsm2:=more_eq hmore2
    subst hnsm2
    subst hd2
    obtain ⟨pb,hfur,hpb1,hpb2,hpb3⟩:=(hsquare hl).2 hq
    rw [hfur] at hnode
    have hpx:nx.pos=true:=by
     obtain ⟨z,z1,z2⟩:=g4
     rw [hnx] at z1
     cases z1
     exact z2
    refine wideB h hb0 hI hn ht ha hr hne hpx e1 hns hs hch hm hp1 g2 hpb1 hpb2 hpb3 hnode rfl rfl rfl rfl rfl rfl rfl rfl rfl rfl ⟨_,hblk1⟩ ?_ (hcof _ _ _)
    refine ⟨xs,zs,fst,fur,hblk1,hold1,hnst.len,hnst.bits,fun e=>absurd e hsq,fun _=>⟨rfl,xx,rfl,by rw [atB_lt g2];exact hfst,fun e=>absurd e hl,fun _=>⟨fun s' e=>?_,fun e=>(by cases e)⟩⟩⟩
    cases e
    rw [atB_eq]
    exact hfur
theorem arg_blk (h:Net w b0 own at1 fb s){a:Nat}{x:Nd}(hx:s.nodes[a]?=some x):∃ cs:List Value,w.heap[at1 a]?=some (.cells cs.toArray 205 (0,0)):=by
 obtain ⟨p0,q0,p1,q1,p2,q2,p3,q3,mt,pl,gv,cv,nv,hb,_⟩:=(h.nd a x hx).ex
 obtain ⟨xs,h1,_⟩:=hb.nd.ex
 exact ⟨_,h1⟩
theorem right_ok {f:Nat}(hS:SymOk f)(hSt:SettleOk)(h:Net w b0 own at1 fb s)(hb0:b0<=w.heap.size)(hcl:s.clock=(c:Int))(hc3:c<=3000)(hI:Inv s.nodes rho c)(hn:s.nodes[i]?=some n)(hf:c+rho i+1<=f){a r sd:Nat}(ha:n.args[sd]?=some a)(hr:n.read[sd]?=some r)(hsh:(∃ v u,n.t=[v,u]/\sd=0)\/(∃ v u x y,n.t=[v,u,x,y]/\n.args.length=2/\sd=1))(hpr:n.probe=true->sd=0){x:Rf.St×Option Int}(hx:Rf.sym f s a r=some x){y:Rf.St×Bool}(hy:(match x.2 with | none=>some (x.1,false) | some _=>Rf.after x.1 i sd)=some y):
  Calls Tryz.prog 210 #[ptrB (at1 i),ptrB fb] w fun e w'=>∃ b,e=.returned (.bool b)/\RdR w b0 own at1 fb s.nodes.length y (.returned (.bool b)) w':=by
 have hN:=hI.at' i n hn
 obtain ⟨la,ra⟩:=hN.arg sd a ha
 have hxa:s.nodes[a]?=some s.nodes[a]:=List.getElem?_eq_getElem la
 obtain ⟨x0,hx0,hpost⟩:=Rf.total f s a r rho c hcl hc3 hI _ hxa (hN.rd sd a r _ ha hr hxa) (by omega)
 rw [hx] at hx0
 cases hx0
 have hsym:∀ v,x.2=some v->∃ n',x.1.nodes[a]?=some n'/\n'.out[r]?=some v:=fun v e=>Rf.sym_out f s a r x.1 v (by rw [hx];cases x;simp only at e;rw [e])
 obtain ⟨p0,q0,p1,q1,p2,q2,p3,q3,mt,pl,gv,cv,nv,l,g,cc,nn,hs⟩:=h.seen hI hn
 obtain ⟨hrA,hrR⟩:rArg n=some a/\rRd n=r:=by
  rcases hsh with ⟨v,u,ht,rfl⟩ | ⟨v,u,x',y',ht,hl,rfl⟩
  ·exact ⟨by unfold rArg;rw [ht];exact ha,by unfold rRd;rw [ht];simp [List.getD_eq_getElem?_getD,hr]⟩
  ·exact ⟨by unfold rArg;rw [ht];exact ha,by unfold rRd;rw [ht];simp [List.getD_eq_getElem?_getD,hr]⟩
 have hun:∀ w1,Chg w w1 []->Calls Tryz.prog 125 #[.agg #[ptrV at1 (rArg n),.int .i64 (rRd n)],ptrB fb] w1 fun e w2=>∃ cd,e=.returned (.int .i64 cd)/\RrA w2 (at1 i) fb cd fun e w'=>∃ b,e=.returned (.bool b)/\RdR w b0 own at1 fb s.nodes.length y (.returned (.bool b)) w':=by
  intro w1 c1
  rw [hrA,hrR]
  refine (sym_unread hS h hb0 hcl hc3 hI hxa (hN.rd sd a r _ ha hr hxa) (by omega) hx w1 c1).mono ?_
  rintro e w2 ⟨cd,rfl,rfl,hres⟩
  exact ⟨_,rfl,right_aft (f:=f) hSt h hb0 hc3 hn ha hr ra hsh hpr hy hres hpost hsym⟩
 have hpos:=h.pos2 hs
 cases hne:n.nest with
 | false=>exact readRight_nil hpos (hs.blk.nst.1 hne) hun
 | true=>
  obtain ⟨nb,hnv,hnb,_⟩:=hs.blk.nst.2 hne
  have hrp:ptrV at1 (rArg n)=ptrB (at1 a):=by rw [hrA];rfl
  exact readRight_ptr hpos hnv hrp hnb (arg_blk h hxa) (at_ne h hn hxa (fun e=>by rw [e] at ra;omega)) hun
theorem nest_ok {f:Nat}(hS:SymOk f)(hSt:SettleOk)(h:Net w b0 own at1 fb s)(hb0:b0<=w.heap.size)(hcl:s.clock=(c:Int))(hc3:c<=3000)(hI:Inv s.nodes rho c)(hn:s.nodes[i]?=some n){a0 r0:Nat}{v u x' y':Rf.V}(ht:n.t=[v,u,x',y'])(ha0:n.args=[a0])(hr0:n.read=[r0])(hne:n.nest=true)(hpr:n.probe=false)(ok:Rf.NestOk s.nodes rho c i n a0){d:List Nd×Nat}(hd:Rf.deeper s.nodes n=some d)(e1:n1={n with args:=n.args++[d.2],read:=n.read++[0]}){s1:Rf.St}(hput:Rf.put d.1 i n1=some s1.nodes)(hcl1:s1.clock=(c:Int)){rho1:Nat->Nat}(hI1:Inv s1.nodes rho1 c)(hmid:Rf.Mid s.nodes rho i s1.nodes rho1)(hn1:s1.nodes[i]?=some n1)(hf:c+rho i+1<=f){x:Rf.St×Option Int}(hx:Rf.sym f s1 d.2 0=some x){y:Rf.St×Bool}(hy:(match x.2 with | none=>some (x.1,false) | some _=>Rf.after x.1 i 1)=some y):
  Calls Tryz.prog 210 #[ptrB (at1 i),ptrB fb] w fun e w'=>∃ b,e=.returned (.bool b)/\RdR w b0 own at1 fb s.nodes.length y (.returned (.bool b)) w':=by
 have hN:=hI.at' i n hn
 have hi:=(List.getElem?_eq_some_iff.1 hn).1
 have hN1:=hI1.at' i n1 hn1
 have ha:n1.args[1]?=some d.2:=by rw [e1,ha0];rfl
 have hr:n1.read[1]?=some 0:=by rw [e1,hr0];rfl
 obtain ⟨la,ra⟩:=hN1.arg 1 d.2 ha
 have hxa:s1.nodes[d.2]?=some s1.nodes[d.2]:=List.getElem?_eq_getElem la
 have hrho:rho1 i=rho i:=hmid.agree i hi
 obtain ⟨xo,hxo,hpost⟩:=Rf.total f s1 d.2 0 rho1 c hcl1 hc3 hI1 _ hxa (Nat.zero_le _) (by omega)
 rw [hx] at hxo
 cases hxo
 have hsym:∀ v,x.2=some v->∃ n',x.1.nodes[d.2]?=some n'/\n'.out[0]?=some v:=fun v e=>Rf.sym_out f s1 d.2 0 x.1 v (by rw [hx];cases x;simp only at e;rw [e])
 obtain ⟨p0,q0,p1,q1,p2,q2,p3,q3,mt,pl,gv,cv,nv,l,g,cc,nn,hs⟩:=h.seen hI hn
 obtain ⟨nb,hnv,_,hnst⟩:=hs.blk.nst.2 hne
 obtain ⟨xs,zs,fst,fur,hN2⟩:=Nst.of (hnst (by rw [ht];rfl) (by rw [ha0];rfl))
 obtain ⟨o1,o2⟩:=hN2.ones
 have hrA:rArg n=none:=by unfold rArg;rw [ht,ha0];rfl
 have hrR:rRd n=0:=by unfold rRd;rw [ht,hr0];rfl
 have hpos:=h.pos2 hs
 have hpos':=hpos
 rw [hrA] at hpos'
 have hku:=hN.ku
 refine readRight_nest (nb:=nb) hpos' hnv hN2.blk hN2.hold hN2.len hN2.bits o1 o2 ?_ ?_
 ·intro hk10
  have hsq:n.op≠.sqrt:=fun e=>hk10 (by rw [e];rfl)
  rw [(hN2.fn hsq).1,wrap_k (by omega)]
  exact (cols_fn ok.op hsq (by omega)).2
 ·intro w1 m hch hm hp1 hnode
  obtain ⟨own',at2,hk,hnet,hat,hatd⟩:=wide_net h hb0 hc3 hI hn ht ha0 hr0 hne ok hd e1 hput hs hN2 hch hm hp1 hnode
  have hs1:(⟨s1.nodes,s.clock⟩:Rf.St)=s1:=by
   cases s1
   simp only at hcl1 ⊢
   rw [hcl,hcl1]
  rw [hs1] at hnet
  rw [<-hatd,hrR]
  have hb1:b0<=w1.heap.size:=Nat.le_trans hb0 hk.on.size
  refine (sym_unread hS hnet hb1 hcl1 hc3 hI1 hxa (Nat.zero_le _) (by omega) hx w1 (Chg.refl w1)).mono ?_
  rintro e w2 ⟨cd,rfl,rfl,hres⟩
  refine ⟨_,rfl,?_⟩
  have hA:=right_aft (f:=f) hSt hnet hb1 hc3 hn1 ha hr ra (Or.inr ⟨v,u,x',y',by rw [e1];exact ht,by rw [e1,ha0];rfl,rfl⟩) (fun e=>by rw [e1] at e;simp only at e;rw [hpr] at e;cases e) hy hres hpost hsym
  rw [hat i hi] at hA
  have conv:∀ {e:Ending} {w':World},(∃ b,e=.returned (.bool b)/\RdR w1 b0 own' at2 fb s1.nodes.length y (.returned (.bool b)) w')->∃ b,e=.returned (.bool b)/\RdR w b0 own at1 fb s.nodes.length y (.returned (.bool b)) w':=by
   rintro e w' ⟨b,he,hb,hres⟩
   exact ⟨b,he,hb,Res.after hk hat hmid.le.len hres⟩
  refine ⟨fun hcd w3 c3=>conv (hA.none hcd w3 c3),fun hcd=>?_⟩
  obtain ⟨p0,q0,p1,q1,p2,q2,p3,q3,hs',uns,mt,lr,rr,pl,c',lp,rp,gv,cv,nv,t1,t2,t3,t4,t5,t6,t7,t8⟩:=hA.some hcd
  refine ⟨p0,q0,p1,q1,p2,q2,p3,q3,hs',uns,mt,lr,rr,pl,c',lp,rp,gv,cv,nv,t1,t2,t3,t4,t5,t6,fun hlt w3 c3=>conv (t7 hlt w3 c3),fun hge=>?_⟩
  obtain ⟨z1,z2⟩:=t8 hge
  refine ⟨z1,fun w3 c3 hp3=>(z2 w3 c3 hp3).mono ?_⟩
  rintro e w4 ⟨vv,rfl,hF⟩
  exact ⟨vv,rfl,fun w5 c5=>conv (hF w5 c5)⟩
end
end Ab
open Go.RowKit
namespace Ab
open Rf (Nd Inv NInv)
section
variable {w:World} {b0 fb:Nat} {own:Nat->Option Own} {at1:Nat->Nat} {i:Nat} {n:Nd} {s:Rf.St} {rho:Nat->Nat} {c:Nat}
theorem more_ok {f:Nat}(hS:SymOk f)(hSt:SettleOk)(h:Net w b0 own at1 fb s)(hb0:b0<=w.heap.size)(hcl:s.clock=(c:Int))(hc3:c<=3000)(hI:Inv s.nodes rho c)(hn:s.nodes[i]?=some n)(hf:c+rho i+1<=f)(ho:Rf.nextP s.nodes n=some none){y:Rf.St×Bool}(hy:Rf.reads (Rf.sym f) s i n=some y):
  ∀ w1,Chg w w1 []->Calls Tryz.prog 197 #[ptrB (at1 i),ptrB fb] w1 (RdR w b0 own at1 fb s.nodes.length y):=by
 intro w1 c1
 have h1:=h.still hI c1
 have hN:=hI.at' i n hn
 have conv:∀ {w2:World} {e:Ending} {w':World},Chg w w2 []->RdR w2 b0 own at1 fb s.nodes.length y e w'->RdR w b0 own at1 fb s.nodes.length y e w':=by
  rintro w2 e w' c2 ⟨he,hres⟩
  exact ⟨he,Res.after (Kept.still c2) (fun _ _=>rfl) (Nat.le_refl _) hres⟩
 by_cases ht:n.t=[]
 ·exact (con_ok h1 hcl hc3 hI hn ht hy).mono fun e w' hr=>conv c1 hr
 ·obtain ⟨sd,s1,rho1,n1,a,r,e1,e2,e3,e4,e5,e6,e7,e8,e9,e10,hcase⟩:=Rf.reads_split hcl hc3 hI hn ht ho
  have hN1:=e4.at' i n1 e6
  obtain ⟨la,ra⟩:=hN1.arg sd a e7
  have hxa:s1.nodes[a]?=some s1.nodes[a]:=List.getElem?_eq_getElem la
  have hrho:rho1 i=rho i:=e5.agree i (List.getElem?_eq_some_iff.1 hn).1
  obtain ⟨x,hx,_⟩:=Rf.total f s1 a r rho1 c e3 hc3 e4 _ hxa (hN1.rd sd a r _ e7 e8 hxa) (by omega)
  unfold Rf.reads at hy
  rw [if_neg ht,e1,Option.bind_some,e2,Option.bind_some,e6,Option.bind_some,e7,Option.bind_some,e8,Option.bind_some,hx,Option.bind_some] at hy
  obtain ⟨p0,q0,p1,q1,p2,q2,p3,q3,mt,pl,gv,cv,nv,l,g,cc,nn,hs⟩:=h1.seen hI hn
  refine readMore_arg (b:=decide (n.t.length=4/\sd=0)) (by rw [<-hs.blk.nocon ht];exact (hs.blk.nd.cell rfl).1) ?_
  refine (hs.reads hN e1).mono ?_
  rintro e w2 ⟨rfl,c2⟩
  have c12:=c1.trans c2
  have h2:=h.still hI c12
  have hb2:b0<=w2.heap.size:=Nat.le_trans hb0 c12.on.size
  have fin:∀ {e:Ending} {w':World},(∃ b,e=.returned (.bool b)/\RdR w2 b0 own at1 fb s.nodes.length y (.returned (.bool b)) w')->∃ b,e=.returned (.bool b)/\RdR w b0 own at1 fb s.nodes.length y (.returned (.bool b)) w':=by
   rintro e w' ⟨b,he,hb⟩
   exact ⟨b,he,conv c12 hb⟩
  refine ⟨rfl,fun hb=>?_,fun hb=>?_⟩
  ·obtain ⟨h4,hz⟩:=of_decide_eq_true hb
   subst hz
   rcases hcase with ⟨v,u,ht2,_⟩ | ⟨v,u,x',y',ht4,hlt,_,rfl,rfl,hp⟩ | ⟨a0,v,u,x',y',_,_,hz,_⟩
   ·rw [ht2] at h4;cases h4
   ·exact (left_ok hS h2 hb2 hcl hc3 hI hn hf ht4 hp e7 e8 hx hy).mono fun e w' hr=>fin hr
   ·cases hz
  ·have hb':=of_decide_eq_false hb
   rcases hcase with ⟨v,u,ht2,ha,hz,rfl,rfl⟩ | ⟨v,u,x',y',ht4,hlt,hle,rfl,rfl,hp⟩ | ⟨a0,v,u,x',y',ht4,ha0,hz,hr0,hp,ok,hne,r0,d,hr,hd,had,hn1,hput⟩
   ·subst hz
    exact (right_ok hS hSt h2 hb2 hcl hc3 hI hn hf e7 e8 (Or.inl ⟨v,u,ht2,rfl⟩) e10 hx hy).mono fun e w' hr=>fin hr
   ·have hsd:sd=1:=by
     rw [ht4] at hb'
     simp at hb'
     omega
    subst hsd
    have hl2:n1.args.length=2:=by
     cases hN.shp with
     | con ht' ha' _ _=>rw [ha'] at hlt;simp at hlt
     | frac v ht' ha' _ _=>rw [ha'] at hlt;simp at hlt
     | una v u a ht' ha' _=>rw [ha'] at hlt;simp at hlt
     | bin a b v u x y ht' ha' _=>rw [ha'];rfl
     | nest a v u x y ht' ha' _ _ _=>rw [ha'] at hlt;simp at hlt
    exact (right_ok hS hSt h2 hb2 hcl hc3 hI hn hf e7 e8 (Or.inr ⟨v,u,x',y',ht4,hl2,rfl⟩) e10 hx hy).mono fun e w' hr=>fin hr
   ·subst hz hr0 had
    exact (nest_ok hS hSt h2 hb2 hcl hc3 hI hn ht4 ha0 hr hne hp ok hd hn1 hput e3 e4 e5 e6 hf hx hy).mono fun e w' hr=>fin hr
theorem sym_ok (hSt:SettleOk)(f:Nat):SymOk f:=by
 induction f using Nat.strongRecOn with
 | ind f ih=>
  intro w b0 fb own at1 s rho c i j n x h hb0 hcl hc3 hI hn hj hf hx
  have hi:=(List.getElem?_eq_some_iff.1 hn).1
  have hju:j<=3000:=by have:=(hI.at' i n hn).outu;omega
  refine symbol_calls (m:=f) (J:=fun (m:Nat) (w':World)=>∃ (own':Nat->Option Own) (at2:Nat->Nat) (s':Rf.St) (rho':Nat->Nat) (c':Nat) (n':Nd),Kept w w' own own' fb/\Net w' b0 own' at2 fb s'/\(∀ a,a<s.nodes.length->at2 a=at1 a)/\s'.clock=(c':Int)/\c'<=c/\Inv s'.nodes rho' c'/\s'.nodes[i]?=some n'/\j<=n'.out.length/\s.nodes.length<=s'.nodes.length/\c'+rho' i+2<=m/\m<=f/\Rf.sym m s' i j=some x) (by omega) ⟨?_⟩ ⟨own,at1,s,rho,c,n,Kept.still (Chg.refl w),h,fun _ _=>rfl,hcl,Nat.le_refl _,hI,hn,hj,Nat.le_refl _,hf,Nat.le_refl _,hx⟩
  rintro m w' ⟨own',at2,s',rho',c',n',hk,hnet,hat,hcl',hc',hI',hn',hj',hlen,hm1,hm2,hsym⟩
  obtain ⟨m0,rfl⟩:∃ m0,m=m0+1:=⟨m-1,by omega⟩
  have hN':=hI'.at' i n' hn'
  obtain ⟨p0,q0,p1,q1,p2,q2,p3,q3,mt,pl,gv,cv,nv,l,g,cc,nn,hs⟩:=hnet.seen hI' hn'
  have hati:=hat i hi
  have hcell:=(hs.blk.nd.cell rfl).2
  rw [hati] at hcell
  have hou:=hN'.outu
  rw [Rf.sym_step,hn',Option.bind_some] at hsym
  cases hout:n'.out[j]? with
  | some v=>
   rw [hout] at hsym
   simp only at hsym
   cases hsym
   have hlt:=(List.getElem?_eq_some_iff.1 hout).1
   rcases hs.blk.giv with ⟨g1,g2⟩ | ⟨g',cap,rest,g1,g2,g3,g4,g5,g6⟩
   ·rw [g2] at hlt;simp at hlt
   ·refine ⟨_,n'.out.length,cap,⟨gv,hcell,g1⟩,by omega,Or.inr ⟨hlt,g',code v,rfl,?_,rfl,?_⟩⟩
    ·refine cell_of_block g2 ?_
     rw [List.getElem?_toArray,List.getElem?_append_left (by simpa using hlt),List.getElem?_map,hout]
     rfl
    ·exact ⟨own',hk,fun _=>⟨at2,hnet,hat⟩⟩
  | none=>
   rw [hout] at hsym
   simp only at hsym
   obtain ⟨y,hy,hsym⟩:=Option.bind_eq_some_iff.1 hsym
   obtain ⟨s2,b2,hy2,hyI⟩:=Rf.step_inv (f:=m0) hcl' (by omega) hI' hn' (by omega)
   rw [hy] at hy2
   cases hy2
   have hjl:n'.out.length<=j:=List.getElem?_eq_none_iff.1 hout
   have hlenG:∃ gb cap,gv=.slice gb n'.out.length cap:=by
    rcases hs.blk.giv with ⟨g1,g2⟩ | ⟨g',cap,rest,g1,_⟩
    ·exact ⟨none,0,by rw [g1,g2];rfl⟩
    ·exact ⟨_,cap,g1⟩
   obtain ⟨gb,cap,hgv⟩:=hlenG
   refine ⟨gb,n'.out.length,cap,⟨gv,hcell,hgv⟩,by omega,Or.inl ⟨hjl,?_⟩⟩
   have hb0':b0<=w'.heap.size:=Nat.le_trans hb0 hk.on.size
   rw [<-hati]
   refine (goOn_ok (f:=m0) hnet hb0' hcl' (by omega) hI' hn' hy (fun e=>?_) (fun hnx w1 c1=>?_)).mono ?_
   ·obtain ⟨rho2,c2,_,_,hI2,_⟩:=hyI e
    exact ⟨rho2,c2,hI2⟩
   ·have hrd:Rf.reads (Rf.sym m0) s' i n'=some (s2,b2):=by
     unfold Rf.step1 at hy
     rw [hnx,Option.bind_some] at hy
     exact hy
    exact more_ok (ih m0 (by omega)) hSt hnet hb0' hcl' (by omega) hI' hn' (by omega) hnx hrd w1 c1
   ·rintro e w2 ⟨rfl,hres⟩
    refine ⟨b2,rfl,fun hb=>?_,fun hb=>?_⟩
    ·subst hb
     obtain ⟨rho2,c2,k1,k2,k3,k4,n2,k5,k6⟩:=hyI rfl
     obtain ⟨own2,hk2,hnet2⟩:=hres
     obtain ⟨at3,hnet3,hat3⟩:=hnet2 rfl
     simp only [if_true] at hsym
     have hrho:rho2 i=rho' i:=k4.agree i (by omega)
     exact ⟨m0,by omega,own2,at3,s2,rho2,c2,n2,hk.trans hk2,hnet3,fun a ha=>(hat3 a (by omega)).trans (hat a ha),k2,by omega,k3,k5,by omega,Nat.le_trans hlen k4.le.len,by omega,by omega,hsym⟩
    ·subst hb
     simp only [Bool.false_eq_true,if_false,Option.some.injEq] at hsym
     subst hsym
     obtain ⟨own2,hk2,_⟩:=hres
     exact ⟨rfl,Res.no (hk.trans hk2)⟩
end
end Ab
open Go.RowKit
namespace Ab
theorem wp_weak {P:Program}{o:Oper}{a:Act}{w:World}{K K':Act->World->Prop}{Q Q':Exit->Act->World->Prop}(hK:∀ a w,K a w->K' a w)(hQ:∀ e a w,e≠.normal->Q e a w->Q' e a w)(h:o.wp P a w K Q):o.wp P a w K' Q':=by
 unfold Oper.wp at*
 generalize (execOp a.eval o).run P w=r at*
 cases r with
 | ok n w'=>
  cases n<;>simp only [Oper.upon] at h ⊢
  case value v=>exact hK _ _ h
  case skip=>exact hK _ _ h
  case defer d=>exact hK _ _ h
  case enter f args=>
   refine Calls.mono h fun e w'' he=>?_
   cases e with
   | returned v=>exact hK _ _ he
   | panicked c=>exact hQ _ _ _ (by simp) he
   | outgrown=>
    obtain ⟨a2,w2,h2⟩:=he
    exact ⟨a2,w2,hQ _ _ _ (by simp) h2⟩
  case row row args=>exact Rows.mono h fun _ _ he=>hK _ _ he
 | halt x w'=>
  cases x<;>simp only [Oper.upon] at h ⊢
  case panic v=>exact hQ _ _ _ (by simp) h
def barB (ops:Array Oper)(j:Nat):Bool:=
 let M:=masks [] ops.toList
 (List.range j).all (fun i=>(M.getD j 0).testBit i)&&(List.range ops.size).all (fun i=>Nat.ble i j||(M.getD i 0).testBit (i-1))&&ops.toList.all (fun o=>o.guard.isNone)&&ops.toList.zipIdx.all (fun x=>x.1.after.toList.all fun e=>Nat.blt e.on x.2)
def ups (n m:Nat):Array Bool:=(Array.range n).map fun i=>decide (i<m)
theorem ups_getD (n m i:Nat)(d:Bool)(hi:i<n):(ups n m).getD i d=decide (i<m):=by
 unfold ups
 simp [Array.getD_eq_getD_getElem?,hi]
theorem closed_ups {ops:Array Oper}{m:Nat}(h:∀ (i:Nat) (o:Oper),ops[i]?=some o->∀ e∈o.after,e.on<i):Closed ops fun i=>(ups ops.size m).getD i false:=by
 intro i o hi ho e he _
 have hin:=(Array.getElem?_eq_some_iff.1 ho).1
 have hon:=h i o ho e he
 simp only at hi ⊢
 rw [ups_getD _ _ _ _ hin] at hi
 rw [ups_getD _ _ _ _ (by omega)]
 simp at hi ⊢
 omega
theorem bar_tail {P:Program}{ops:Array Oper}{j:Nat}{Q:Exit->Act->World->Prop}(hM:∀ i,i<ops.size->j<i->((masks [] ops.toList).getD i 0).testBit (i-1)=true)(hE:∀ (i:Nat) (o:Oper),ops[i]?=some o->∀ e∈o.after,e.on<i):∀ (fuel m:Nat) (a:Act) (w:World),m+fuel=ops.size->j<=m->wpOps P ops Q ((List.range ops.size).drop m) a w->wpAny P .any ops Q fuel (ups ops.size m) a w
 | 0,m,a,w,hm,hj,h=>by
  have e:(List.range ops.size).drop m=[]:=by simp;omega
  rw [e] at h
  refine ⟨?_,h⟩
  apply List.eq_nil_iff_forall_not_mem.2
  intro i hi
  obtain ⟨h1,o,h3,_⟩:=mem_ready.1 hi
  have hin:=(Array.getElem?_eq_some_iff.1 h3).1
  rw [ups_getD _ _ _ _ hin] at h1
  simp at h1
  omega
 | fuel+1,m,a,w,hm,hj,h=>by
  have hmn:m<ops.size:=by omega
  have hmem:m∈Region.ready .any ops (ups ops.size m):=by
   refine mem_ready.2 ⟨by rw [ups_getD _ _ _ _ hmn];simp,ops[m],Array.getElem?_eq_getElem hmn,fun e he _=>?_⟩
   have:=hE m ops[m] (Array.getElem?_eq_getElem hmn) e he
   rw [ups_getD _ _ _ _ (by omega)]
   simpa using this
  refine ⟨fun hnil=>(by rw [hnil] at hmem;cases hmem),fun i hi=>?_⟩
  obtain ⟨h1,o,h3,h4⟩:=mem_ready.1 hi
  have hin:=(Array.getElem?_eq_some_iff.1 h3).1
  rw [ups_getD _ _ _ _ hin] at h1
  have him:i=m:=by
   by_cases hlt:m<i
   ·have:=before_listed (closed_ups (m:=m) hE) i o h3 h4 (i-1) (hM i hin (by omega))
    rw [ups_getD _ _ _ _ (by omega)] at this
    simp at this
    omega
   ·simp at h1
    omega
  subst him
  have e:(List.range ops.size).drop i=i::(List.range ops.size).drop (i+1):=by
   rw [List.drop_eq_getElem_cons (by simpa using hin)]
   simp
  rw [e,wpOps_cons] at h
  refine wpOp_mono ?_ h
  intro a' w' h'
  have hs:(ups ops.size i).setIfInBounds i true=ups ops.size (i+1):=by
   apply Array.ext_getElem?
   intro x
   rw [Array.getElem?_setIfInBounds]
   unfold ups
   by_cases hx:i=x
   ·subst hx
    simp [hin]
   ·rw [if_neg hx]
    by_cases hxn:x<ops.size
    ·simp [hxn]
     omega
    ·rw [Array.getElem?_eq_none (by simp;omega),Array.getElem?_eq_none (by simp;omega)]
  rw [hs]
  exact bar_tail hM hE fuel (i+1) a' w' (by omega) (by omega) h'
theorem ext_get {ops:Array Oper}{j i:Nat}(hi:i<j):(ops.extract 0 j)[i]?=ops[i]?:=by
 rw [Array.getElem?_extract]
 simp
 omega
theorem bar_head {P:Program}{ops:Array Oper}{j:Nat}{Q Q':Exit->Act->World->Prop}(hjn:j<ops.size)(hM0:∀ i,i<j->((masks [] ops.toList).getD j 0).testBit i=true)(hM:∀ i,i<ops.size->j<i->((masks [] ops.toList).getD i 0).testBit (i-1)=true)(hE:∀ (i:Nat) (o:Oper),ops[i]?=some o->∀ e∈o.after,e.on<i)(hG:∀ (i:Nat) (o:Oper),ops[i]?=some o->o.guard=none)
  (hQ:∀ e a w,e≠.normal->Q' e a w->Q e a w) (hT:∀ a w,Q' .normal a w->wpAny P .any ops Q (ops.size-j) (ups ops.size j) a w):
  ∀ (fuel:Nat) (lA l:Array Bool) (a:Act) (w:World),lA.size=j->l.size=ops.size->(∀ i,i<j->l.getD i false=lA.getD i false)->(∀ i,j<=i->i<ops.size->l.getD i false=false)->((List.range j).filter fun i=>!lA.getD i false).length=fuel->Closed ops (fun i=>l.getD i false)->wpAny P .any (ops.extract 0 j) Q' fuel lA a w->wpAny P .any ops Q (fuel+(ops.size-j)) l a w:=by
 intro fuel
 induction fuel with
 | zero=>
  intro lA l a w hsA hs hag hrest hf hcl h
  have hall:∀ i,i<j->lA.getD i false=true:=by
   intro i hi
   cases hv:lA.getD i false with
   | true=>rfl
   | false=>
    have:i∈(List.range j).filter fun i=>!lA.getD i false:=by simp [hi,<-Array.getD_eq_getD_getElem?,hv]
    rw [List.length_eq_zero_iff.1 hf] at this
    cases this
  have hl:l=ups ops.size j:=by
   apply Array.ext
   ·simp [ups,hs]
   ·intro i h1 h2
    have hin:i<ops.size:=by omega
    have e1:l[i]=l.getD i false:=by simp [Array.getD_eq_getD_getElem?,h1]
    rw [e1]
    by_cases hi:i<j
    ·rw [hag i hi,hall i hi];simp [ups,hi]
    ·rw [hrest i (by omega) hin];simp [ups,hi]
  rw [hl,Nat.zero_add]
  exact hT a w h.2
 | succ fuel ih=>
  intro lA l a w hsA hs hag hrest hf hcl h
  have hsome:∃ i,i<j/\lA.getD i false=false:=by
   have hne:((List.range j).filter fun i=>!lA.getD i false)≠[]:=by intro e;rw [e] at hf;simp at hf
   obtain ⟨i,r,e⟩:=List.exists_cons_of_ne_nil hne
   have hi:i∈(List.range j).filter fun i=>!lA.getD i false:=by rw [e];simp
   rw [List.mem_filter,List.mem_range] at hi
   exact ⟨i,hi.1,by simpa using hi.2⟩
  have hgetT:∀ (x:Array Bool) (i:Nat),i<x.size->x.getD i true=x.getD i false:=by
   intro x i hi
   simp [Array.getD_eq_getD_getElem?,hi]
  have hrd:∀ i,i∈Region.ready .any ops l->i<j/\i∈Region.ready .any (ops.extract 0 j) lA:=by
   intro i hi
   obtain ⟨h1,o,h3,h4⟩:=mem_ready.1 hi
   have hin:=(Array.getElem?_eq_some_iff.1 h3).1
   have hij:i<j:=by
    by_cases hlt:i<j
    ·exact hlt
    ·exfalso
     by_cases he:i=j
     ·subst he
      obtain ⟨x,hx1,hx2⟩:=hsome
      have:=before_listed hcl i o h3 h4 x (hM0 x hx1)
      rw [hag x hx1,hx2] at this
      cases this
     ·have:=before_listed hcl i o h3 h4 (i-1) (hM i hin (by omega))
      rw [hrest (i-1) (by omega) (by omega)] at this
      cases this
   refine ⟨hij,mem_ready.2 ⟨?_,o,by rw [ext_get hij];exact h3,fun e he hb=>?_⟩⟩
   ·rw [hgetT lA i (by omega),<-hag i hij,<-hgetT l i (by omega)];exact h1
   ·have:=h4 e he hb
    have hon:=hE i o h3 e he
    rw [<-hag e.on (by omega)]
    exact this
  have hrd2:∀ i,i∈Region.ready .any (ops.extract 0 j) lA->i∈Region.ready .any ops l:=by
   intro i hi
   obtain ⟨h1,o,h3,h4⟩:=mem_ready.1 hi
   have hij:i<j:=by
    have:=(Array.getElem?_eq_some_iff.1 h3).1
    simp at this
    omega
   rw [ext_get hij] at h3
   refine mem_ready.2 ⟨?_,o,h3,fun e he hb=>?_⟩
   ·rw [hgetT l i (by omega),hag i hij,<-hgetT lA i (by omega)];exact h1
   ·have hon:=hE i o h3 e he
    rw [hag e.on (by omega)]
    exact h4 e he hb
  rw [show fuel+1+(ops.size-j)=(fuel+(ops.size-j))+1 by omega]
  refine ⟨fun hnil=>?_,fun i hi=>?_⟩
  ·exfalso
   have least:∀ n,n<j->lA.getD n false=false->False:=by
    intro n
    induction n using Nat.strongRecOn with
    | ind n ihn=>
     intro hn1 hn2
     have ho:ops[n]?=some (ops[n]'(by omega)):=Array.getElem?_eq_getElem (by omega)
     have hmem:n∈Region.ready .any ops l:=by
      refine mem_ready.2 ⟨?_,_,ho,fun e he hb=>?_⟩
      ·rw [hgetT l n (by omega),hag n hn1];exact hn2
      ·have hon:=hE n _ ho e he
       cases hv:l.getD e.on false with
       | true=>rfl
       | false=>
        rw [hag e.on (by omega)] at hv
        exact (ihn e.on hon (by omega) hv).elim
     rw [hnil] at hmem
     cases hmem
   obtain ⟨x,hx1,hx2⟩:=hsome
   exact least x hx1 hx2
  ·obtain ⟨hij,hiA⟩:=hrd i hi
   have hop:=h.2 i hiA
   obtain ⟨h1,o,h3,h4⟩:=mem_ready.1 hi
   have hLi:lA.getD i false=false:=by
    rw [<-hag i hij,<-hgetT l i (by omega)];exact h1
   have hnext:∀ a w,wpAny P .any (ops.extract 0 j) Q' fuel (lA.setIfInBounds i true) a w->wpAny P .any ops Q (fuel+(ops.size-j)) (l.setIfInBounds i true) a w:=by
    intro a' w' h'
    have hset:∀ (x:Array Bool),i<x.size->(fun m=>(x.setIfInBounds i true).getD m false)=fun m=>x.getD m false||m==i:=by
     intro x hx
     funext m
     by_cases hm:m=i
     ·subst hm
      simp [hx,Array.getElem?_setIfInBounds]
     ·rw [getD_set_ne false (Ne.symm hm)]
      simp [hm]
    have sA:=hset lA (by omega)
    have sl:=hset l (by omega)
    refine ih (lA.setIfInBounds i true) (l.setIfInBounds i true) a' w' (by simpa using hsA) (by simpa using hs) ?_ ?_ ?_ ?_ h'
    ·intro m hm
     have e1:=congrFun sA m
     have e2:=congrFun sl m
     rw [e1,e2,hag m hm]
    ·intro m hm hmn
     have e2:=congrFun sl m
     rw [e2,hrest m hm hmn]
     simp
     omega
    ·have:=filter_one (fun m=>lA.getD m false) i hLi (List.range j) List.nodup_range (by simpa using hij)
     have e:(fun m=>!(lA.setIfInBounds i true).getD m false)=fun m=>!(lA.getD m false||m==i):=by
      funext m
      exact congrArg Bool.not (congrFun sA m)
     rw [e]
     omega
    ·rw [sl]
     intro x o' hx ho' e he hb
     simp only [Bool.or_eq_true,beq_iff_eq] at hx ⊢
     rcases hx with hx | hx
     ·exact Or.inl (hcl x o' hx ho' e he hb)
     ·subst hx
      rw [h3] at ho'
      cases ho'
      exact Or.inl (h4 e he hb)
   unfold wpOp at hop ⊢
   rw [ext_get hij,h3] at hop
   rw [h3]
   simp only at hop ⊢
   have hw:∀ y,Region.wanted o y=true:=by
    intro y
    unfold Region.wanted
    rw [hG i o h3]
   rw [if_pos (hw _)] at hop ⊢
   rcases hop with hop | ⟨q1,q2⟩
   ·exact Or.inl (wp_weak hnext hQ hop)
   ·obtain ⟨a2,w2,h2⟩:=q2
    exact Or.inr ⟨q1,a2,w2,hQ _ _ _ (by simp) h2⟩
theorem draw_bar {C:Cfg}{sp:Spec}{w0:World}{ψ:Nat->Option (Nat×Nat)}(hm:C.P.follows .mixedOrders=true)(hsp:SpecOk C w0 ψ sp){ops:Array Oper}{j:Nat}(hjn:j<ops.size)(hbar:barB ops j=true){s s':AS}{p:List Prop}(hd:drawA C sp (ops.extract 0 j) s=some (s',p))(hp:Holds p){φ:Nat->Option (Nat×Nat)}{a:Act}{w:World}{id:Nat}{Q:Exit->Act->World->Prop}(hr:Rep C w0 ψ φ s a w)
  (hQ:∀ φ' a' w',Rep C w0 ψ φ' s' a' w'->wpOps C.P ops Q ((List.range ops.size).drop j) a' w'):(Code.region id ops true).wp C.P Q a w:=by
 unfold barB at hbar
 simp only [Bool.and_eq_true] at hbar
 obtain ⟨⟨⟨b1,b2⟩,b3⟩,b4⟩:=hbar
 have hM0:∀ i,i<j->((masks [] ops.toList).getD j 0).testBit i=true:=fun i hi=>List.all_eq_true.1 b1 i (List.mem_range.2 hi)
 have hM:∀ i,i<ops.size->j<i->((masks [] ops.toList).getD i 0).testBit (i-1)=true:=by
  intro i hi hji
  have:=List.all_eq_true.1 b2 i (List.mem_range.2 hi)
  rcases Bool.or_eq_true _ _ ▸ this with h | h
  ·have:=Nat.le_of_ble_eq_true h;omega
  ·exact h
 have hG:∀ (i:Nat) (o:Oper),ops[i]?=some o->o.guard=none:=by
  intro i o ho
  have hmem:o∈ops.toList:=by rw [<-Array.getElem?_toList] at ho;exact List.mem_of_getElem? ho
  have:=List.all_eq_true.1 b3 o hmem
  simpa using this
 have hE:∀ (i:Nat) (o:Oper),ops[i]?=some o->∀ e∈o.after,e.on<i:=by
  intro i o ho e he
  have:=List.all_eq_true.1 b4 (o,i) (mem_zipIdx (by rw [Array.getElem?_toList];exact ho))
  simp only [List.all_eq_true] at this
  exact Nat.blt_eq ▸ this e (by simpa using he)
 refine wp_region_any hm ?_
 have hA:=drawA_any (Q:=fun e a' w'=>e=.normal/\wpOps C.P ops Q ((List.range ops.size).drop j) a' w') hsp hd hp hr fun φ' a' w' _ hr'=>⟨rfl,hQ φ' a' w' hr'⟩
 have hsz:(ops.extract 0 j).size=j:=by simp;omega
 rw [hsz] at hA
 have hrep:∀ n i,(Array.replicate n false).getD i false=false:=by
  intro n i
  rw [Array.getD_eq_getD_getElem?]
  by_cases hi:i<n
  ·simp [hi]
  ·rw [Array.getElem?_eq_none (by simp;omega)];rfl
 have:=bar_head (P:=C.P) (Q:=Q) (Q':=fun e a' w'=>e=.normal/\wpOps C.P ops Q ((List.range ops.size).drop j) a' w') hjn hM0 hM hE hG (fun e a w he h=>absurd h.1 he) (fun a' w' h=>bar_tail hM hE (ops.size-j) j a' w' (by omega) (Nat.le_refl _) h.2) j (Array.replicate j false) (Array.replicate ops.size false) a _ (by simp) (by simp) (fun i _=>by rw [hrep,hrep]) (fun i _ _=>hrep _ _) ?_ ?_ hA
 ·rw [show j+(ops.size-j)=ops.size by omega] at this
  exact this
 ·have:((List.range j).filter fun i=>!(Array.replicate j false).getD i false)=List.range j:=by
   apply List.filter_eq_self.2
   intro i _
   rw [hrep]
   rfl
  rw [this]
  simp
 ·intro i o hi
  have hi:(Array.replicate ops.size false).getD i false=true:=hi
  rw [hrep] at hi
  cases hi
end Ab
end Go.Proofs.YteghhlfmcjmnoaaGreatDoor
