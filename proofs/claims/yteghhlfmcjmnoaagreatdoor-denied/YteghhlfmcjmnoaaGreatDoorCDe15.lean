import Derived.Test.YteghhlfmcjmnoaaGreatDoorCDe14
set_option linter.unusedSimpArgs false
set_option linter.unusedVariables false
set_option maxRecDepth 100000
set_option maxHeartbeats 2000000
namespace Go.Proofs.YteghhlfmcjmnoaaGreatDoor
open Go.RowKit
namespace Ab
open Rf (Nd Inv NInv)
section
variable {w w':World} {b0 fb:Nat} {own own':Nat->Option Own} {at1 at2:Nat->Nat} {D:List Nat} {i:Nat} {n n':Nd} {s:Rf.St} {rho:Nat->Nat} {c:Nat}
theorem bits_up {N u:Nat}(hN:N<=10000000*u){z:Int}(h:z.natAbs<2^N):Bits u z:=Nat.lt_of_lt_of_le h (Nat.pow_le_pow_right (by decide) hN)
theorem bits10 {p0 q0 p1 q1 p2 q2 p3 q3:Int}{l:List Rf.V}(hI:Inv s.nodes rho c)(hn:s.nodes[i]?=some n)(hl:Rf.corners s.nodes n=some l)(hc:Pg.Cof l [(p0,q0),(p1,q1),(p2,q2),(p3,q3)]):∀ z∈[p0,q0,p1,q1,p2,q2,p3,q3],Bits 10 z:=by
 have h:=hc.bits (Rf.corner_bits hI (hI.at' i n hn) hl)
 have key:∀ z:Int,z.natAbs<2^70000000->Bits 10 z:=fun z hz=>bits_up (N:=70000000) (by decide) hz
 have h0:=h (p0,q0) (by simp)
 have h1:=h (p1,q1) (by simp)
 have h2:=h (p2,q2) (by simp)
 have h3:=h (p3,q3) (by simp)
 intro z hz
 simp at hz
 rcases hz with rfl | rfl | rfl | rfl | rfl | rfl | rfl | rfl
 ·exact key _ h0.1
 ·exact key _ h0.2
 ·exact key _ h1.1
 ·exact key _ h1.2
 ·exact key _ h2.1
 ·exact key _ h2.2
 ·exact key _ h3.1
 ·exact key _ h3.2
theorem one_ptrV (o:Option Nat):One (ptrV at1 o):=by cases o<;>rfl
theorem GivOk.one {out:List Int}{gv:Value}(h:GivOk w b0 own i out gv):One gv:=by
 rcases h with ⟨rfl,_⟩ | ⟨g,cap,rest,rfl,_⟩<;>rfl
theorem Blk.ones {p0 q0 p1 q1 p2 q2 p3 q3 mt pl:Int}{gv cv nv:Value}(h:Blk w b0 own at1 i n p0 q0 p1 q1 p2 q2 p3 q3 mt pl gv cv nv):One gv/\One cv/\One nv:=by
 refine ⟨h.giv.one,?_,?_⟩
 ·by_cases ht:n.t=[]
  ·obtain ⟨_,cb,rfl,_⟩:=h.con ht
   rfl
  ·rw [h.nocon ht];rfl
 ·cases hne:n.nest with
  | false=>rw [h.nst.1 hne];rfl
  | true=>obtain ⟨nb,rfl,_⟩:=h.nst.2 hne;rfl
theorem NodeAt.arg {k:Nat}{zs:List Int}{hs:Bool}{uns mt lr rr pl:Int}{lp rp gv cv nv:Value}(h:NodeAt w k zs hs uns mt lr rr pl lp rp gv cv nv)(h8:zs.length=8)(hb:∀ z∈zs,Bits 10 z)(o1:One lp)(o2:One rp)(o3:One gv)(o4:One cv)(o5:One nv):ArgAt w (some (k,hs)) (ptrB k):=by
 obtain ⟨xs,h1,h2⟩:=h.ex
 have hl:=hold_len zs xs h2
 refine ⟨rfl,xs++[cv,.int .i64 mt,lp,.int .i64 lr,rp,.int .i64 rr,gv,.int .i64 uns,nv,.int .i64 pl],by simpa using h1,by simp;omega,?_⟩
 have hx:∀ y∈xs,One y:=all_ones (C:=Z) (φ:=fun _=>none) (ν:=zs.map fun z=>(z,10)) (w:=w) (hold_cs zs xs 0 _ h2 hb fun j z hz=>by rw [Nat.zero_add,List.getElem?_map,hz];rfl)
 intro y hy
 rw [List.mem_append] at hy
 rcases hy with hy | hy
 ·exact hx y hy
 ·simp only [List.mem_cons,List.not_mem_nil,or_false] at hy
  rcases hy with rfl | rfl | rfl | rfl | rfl | rfl | rfl | rfl | rfl | rfl<;>first | assumption | rfl
def sgO (ns:List Nd)(o:Option Nat):Option Bool:=o.map fun a=>match ns[a]? with | some x=>!x.pos | none=>false
def argO (ns:List Nd)(at':Nat->Nat)(o:Option Nat):Option (Nat×Bool):=o.map fun a=>(at' a,match ns[a]? with | some x=>!x.pos | none=>false)
theorem argO_sg (ns:List Nd)(at':Nat->Nat)(o:Option Nat):(argO ns at' o).map (·.2)=sgO ns o:=by cases o<;>rfl
theorem Net.argAt (h:Net w b0 own at1 fb s)(hI:Inv s.nodes rho c){o:Option Nat}(ho:∀ a,o=some a->a<s.nodes.length):ArgAt w (argO s.nodes at1 o) (ptrV at1 o):=by
 cases o with
 | none=>rfl
 | some a=>
  have ha:=ho a rfl
  have hx:s.nodes[a]?=some s.nodes[a]:=List.getElem?_eq_getElem ha
  obtain ⟨p0,q0,p1,q1,p2,q2,p3,q3,mt,pl,gv,cv,nv,hb,l,hl1,hl2⟩:=(h.nd a _ hx).ex
  obtain ⟨o1,o2,o3⟩:=hb.ones
  have e:argO s.nodes at1 (some a)=some (at1 a,!(s.nodes[a]).pos):=by unfold argO;simp [hx]
  rw [e]
  exact hb.nd.arg rfl (bits10 hI hx hl1 hl2) (one_ptrV _) (one_ptrV _) o1 o2 o3
theorem lArg_lt (hN:NInv s.nodes rho c i n):∀ a,lArg n=some a->a<s.nodes.length:=by
 intro a h
 unfold lArg at h
 split at h
 ·exact (hN.arg 0 a h).1
 ·cases h
theorem rArg_lt (hN:NInv s.nodes rho c i n):∀ a,rArg n=some a->a<s.nodes.length:=by
 intro a h
 unfold rArg at h
 split at h
 ·exact (hN.arg 1 a h).1
 ·split at h
  ·exact (hN.arg 0 a h).1
  ·cases h
structure Seen (w:World) (b0:Nat) (own:Nat->Option Own) (at1:Nat->Nat) (ns:List Nd) (i:Nat) (n:Nd) (p0 q0 p1 q1 p2 q2 p3 q3 mt pl:Int) (gv cv nv:Value) (l:List Rf.V) (g:Option (Nat×Nat)) (cc nn:Option Nat):Prop where
 blk:Blk w b0 own at1 i n p0 q0 p1 q1 p2 q2 p3 q3 mt pl gv cv nv
 cor:Rf.corners ns n=some l
 cof:Pg.Cof l [(p0,q0),(p1,q1),(p2,q2),(p3,q3)]
 bits:∀ z∈[p0,q0,p1,q1,p2,q2,p3,q3],Bits 10 z
 la:ArgAt w (argO ns at1 (lArg n)) (ptrV at1 (lArg n))
 ra:ArgAt w (argO ns at1 (rArg n)) (ptrV at1 (rArg n))
 gat:GivAt w g gv
 glen:(g.map (·.2)).getD 0=n.out.length
 cat:ExtAt w 224 cc cv
 nat:ExtAt w 273 nn nv
 nsm:nn.isSome=n.nest
theorem Net.seen (h:Net w b0 own at1 fb s)(hI:Inv s.nodes rho c)(hn:s.nodes[i]?=some n):∃ p0 q0 p1 q1 p2 q2 p3 q3 mt pl gv cv nv l g cc nn,Seen w b0 own at1 s.nodes i n p0 q0 p1 q1 p2 q2 p3 q3 mt pl gv cv nv l g cc nn:=by
 obtain ⟨p0,q0,p1,q1,p2,q2,p3,q3,mt,pl,gv,cv,nv,hb,l,hl1,hl2⟩:=(h.nd i n hn).ex
 have hN:=hI.at' i n hn
 obtain ⟨g,hg,hgl⟩:∃ g,GivAt w g gv/\(g.map (·.2)).getD 0=n.out.length:=by
  rcases hb.giv with ⟨rfl,h2⟩ | ⟨g,cap,rest,rfl,h2,h3,h4,h5,h6⟩
  ·exact ⟨none,rfl,by rw [h2];rfl⟩
  ·exact ⟨some (g,n.out.length),⟨cap,rfl,_,h2⟩,rfl⟩
 obtain ⟨cc,hcc⟩:∃ cc,ExtAt w 224 cc cv:=by
  by_cases ht:n.t=[]
  ·obtain ⟨_,cb,rfl,h2⟩:=hb.con ht
   exact ⟨some cb,rfl,h2.blk⟩
  ·exact ⟨none,hb.nocon ht⟩
 obtain ⟨nn,hnn,hns⟩:∃ nn,ExtAt w 273 nn nv/\nn.isSome=n.nest:=by
  cases hne:n.nest with
  | false=>exact ⟨none,hb.nst.1 hne,rfl⟩
  | true=>
   obtain ⟨nb,rfl,h2,_⟩:=hb.nst.2 hne
   exact ⟨some nb,⟨rfl,h2⟩,rfl⟩
 exact ⟨p0,q0,p1,q1,p2,q2,p3,q3,mt,pl,gv,cv,nv,l,g,cc,nn,hb,hl1,hl2,bits10 hI hn hl1 hl2,h.argAt hI (lArg_lt hN),h.argAt hI (rArg_lt hN),hg,hgl,hcc,hnn,hns⟩
theorem waits_eq (hN:NInv s.nodes rho c i n):(argWants (sgO s.nodes (lArg n)) (lRd n)||argWants (sgO s.nodes (rArg n)) (rRd n))=Rf.waits s.nodes n.args n.read:=by
 have hx:∀ a,a∈n.args->∃ x,s.nodes[a]?=some x:=by
  intro a ha
  obtain ⟨j,hj,e⟩:=List.getElem_of_mem ha
  exact ⟨_,List.getElem?_eq_getElem (hN.arg j a (by rw [List.getElem?_eq_getElem hj,e])).1⟩
 have key:∀ (a r:Nat) (x:Nd),s.nodes[a]?=some x->argWants (sgO s.nodes (some a)) (r:Int)=(!x.pos&&r==0):=by
  intro a r x e
  unfold sgO argWants
  simp only [Option.map_some,e]
  congr 1
  rw [Bool.eq_iff_iff]
  simp
 cases hN.shp with
 | con ht ha _ _=>
  unfold lArg rArg lRd rRd
  rw [ht,ha]
  simp [sgO,argWants,Rf.waits]
 | frac v ht ha _ _=>
  unfold lArg rArg lRd rRd
  rw [ht,ha]
  simp [sgO,argWants,Rf.waits]
 | una v u a ht ha _=>
  obtain ⟨r,hr⟩:∃ r,n.read=[r]:=List.length_eq_one_iff.1 (by rw [hN.len,ha];rfl)
  obtain ⟨x,e⟩:=hx a (by rw [ha];simp)
  have h1:lArg n=none:=by unfold lArg;rw [ht];rfl
  have h2:rArg n=some a:=by unfold rArg;rw [ht,ha];rfl
  have h3:rRd n=r:=by unfold rRd;rw [ht,hr];rfl
  rw [h1,h2,h3,key a r x e,ha,hr]
  simp [sgO,argWants,Rf.waits,e]
 | bin a b v u x y ht ha _=>
  obtain ⟨r,r',hr⟩:∃ r r',n.read=[r,r']:=by
   have:=hN.len
   rw [ha] at this
   match hh:n.read,this with
   | [r,r'],_=>exact ⟨r,r',rfl⟩
  obtain ⟨x1,e1⟩:=hx a (by rw [ha];simp)
  obtain ⟨x2,e2⟩:=hx b (by rw [ha];simp)
  have h1:lArg n=some a:=by unfold lArg;rw [ht,ha];rfl
  have h2:rArg n=some b:=by unfold rArg;rw [ht,ha];rfl
  have h3:lRd n=r:=by unfold lRd;rw [ht,hr];rfl
  have h4:rRd n=r':=by unfold rRd;rw [ht,hr];rfl
  rw [h1,h2,h3,h4,key a r x1 e1,key b r' x2 e2,ha,hr]
  simp [Rf.waits,e1,e2]
 | nest a v u x y ht ha _ _ _=>
  obtain ⟨r,hr⟩:∃ r,n.read=[r]:=List.length_eq_one_iff.1 (by rw [hN.len,ha];rfl)
  obtain ⟨x1,e1⟩:=hx a (by rw [ha];simp)
  have h1:lArg n=some a:=by unfold lArg;rw [ht,ha];rfl
  have h2:rArg n=none:=by unfold rArg;rw [ht,ha];rfl
  have h3:lRd n=r:=by unfold lRd;rw [ht,hr];rfl
  rw [h1,h2,h3,key a r x1 e1,ha,hr]
  simp [sgO,argWants,Rf.waits,e1]
theorem Seen.next {p0 q0 p1 q1 p2 q2 p3 q3 mt pl:Int}{gv cv nv:Value}{l:List Rf.V}{g:Option (Nat×Nat)}{cc nn:Option Nat}(h:Seen w b0 own at1 s.nodes i n p0 q0 p1 q1 p2 q2 p3 q3 mt pl gv cv nv l g cc nn)(hN:NInv s.nodes rho c i n){o:Option Int}(ho:Rf.nextP s.nodes n=some o):Calls Tryz.prog 196 #[ptrB (at1 i)] w fun e w'=>e=.returned (.int .i64 (codeO o))/\Chg w w' []:=by
 refine (next_calls h.blk.nd h.bits h.la h.ra h.gat h.cat h.nat).mono ?_
 rintro e w' ⟨rfl,hb⟩
 refine ⟨?_,Chg.of_below hb⟩
 congr 2
 unfold Rf.nextP at ho
 cases hp:n.probe with
 | true=>
  rw [hp] at ho
  simp only [if_true,Option.some.injEq] at ho
  subst ho
  have hu:unsZ n≠0:=by
   unfold unsZ
   rw [hp,if_pos rfl]
   have hop:Rf.fn n.op:=by
    cases hN.shp with
    | con ht ha hp' hc=>rw [hp] at hp';cases hp'
    | frac v ht ha hp' hv=>rw [hp] at hp';cases hp'
    | una v w a' ht ha' hp'=>exact (hp' hp).2.1
    | bin a' b v w x y ht ha' hp'=>rw [hp] at hp';cases hp'
    | nest a' v w x y ht ha' hp' hn' ok=>rw [hp] at hp';cases hp'
   rcases hop with e | e | e | e<;>rw [e]<;>decide
  unfold nextZ
  rw [show (unsZ n != 0)=true from by simpa using hu]
  rfl
 | false=>
  rw [hp] at ho
  simp only [Bool.false_eq_true,if_false] at ho
  have hu:unsZ n=0:=by unfold unsZ;rw [hp];rfl
  rw [hu,argO_sg,argO_sg]
  exact next_eq h.cor h.cof (by simp) h.glen (waits_eq hN) ho
theorem digits_eq {sd:Nat}{o:Option Nat}{r:Nat}(h1:n.args[sd]?=o)(h2:o=none->r=0)(h3:∀ a,o=some a->n.read[sd]?=some r/\∃ x,s.nodes[a]?=some x):Rf.digits s.nodes n sd=some (dgR (sgO s.nodes o) r):=by
 unfold Rf.digits
 cases o with
 | none=>
  rw [if_neg (by have:=List.getElem?_eq_none_iff.1 h1;omega)]
  rfl
 | some a=>
  obtain ⟨g1,x,g2⟩:=h3 a rfl
  rw [if_pos (List.getElem?_eq_some_iff.1 h1).1,h1]
  simp only [Option.bind_some,g2,g1,Option.map_some,sgO,dgR]
  cases x.pos<;>simp
theorem Seen.reads {p0 q0 p1 q1 p2 q2 p3 q3 mt pl:Int}{gv cv nv:Value}{l:List Rf.V}{g:Option (Nat×Nat)}{cc nn:Option Nat}(h:Seen w b0 own at1 s.nodes i n p0 q0 p1 q1 p2 q2 p3 q3 mt pl gv cv nv l g cc nn)(hN:NInv s.nodes rho c i n){sd:Nat}(hsd:Rf.side s.nodes n=some sd):Calls Tryz.prog 208 #[ptrB (at1 i)] w fun e w'=>e=.returned (.bool (decide (n.t.length=4/\sd=0)))/\Chg w w' []:=by
 refine (reads_calls h.blk.nd h.bits h.la h.ra h.gat h.cat h.nat).mono ?_
 rintro e w' ⟨rfl,hb⟩
 refine ⟨?_,Chg.of_below hb⟩
 congr 2
 rw [argO_sg,argO_sg,h.nsm]
 by_cases h4:n.t.length=4
 ·have hx:∀ a,a∈n.args->∃ x,s.nodes[a]?=some x:=by
   intro a ha
   obtain ⟨j,hj,e⟩:=List.getElem_of_mem ha
   exact ⟨_,List.getElem?_eq_getElem (hN.arg j a (by rw [List.getElem?_eq_getElem hj,e])).1⟩
  have hl:lArg n=n.args[0]?:=by unfold lArg;rw [if_pos h4]
  have hr:rArg n=n.args[1]?:=by unfold rArg;rw [if_pos h4]
  have hlr:lRd n=n.read.getD 0 0:=by unfold lRd;rw [if_pos h4]
  have hrr:rRd n=n.read.getD 1 0:=by unfold rRd;rw [if_pos h4]
  have hu:∀ j,n.read.getD j 0<=1000000:=by
   intro j
   rw [List.getD_eq_getElem?_getD]
   cases e:n.read[j]? with
   | none=>simp
   | some r=>have:=hN.readu r (List.mem_of_getElem? e);simp;omega
  have hget:∀ (j a:Nat),n.args[j]?=some a->n.read[j]?=some (n.read.getD j 0):=by
   intro j a e
   have hj:=(List.getElem?_eq_some_iff.1 e).1
   rw [List.getD_eq_getElem?_getD,List.getElem?_eq_getElem (by rw [hN.len];exact hj)]
   rfl
  obtain ⟨a0,ha0⟩:∃ a0,n.args[0]?=some a0:=by
   cases hN.shp with
   | con ht ha _ _=>rw [ht] at h4;simp at h4
   | frac v ht ha _ _=>rw [ht] at h4;simp at h4
   | una v u a ht ha _=>rw [ht] at h4;simp at h4
   | bin a b v u x y ht ha _=>exact ⟨a,by rw [ha];rfl⟩
   | nest a v u x y ht ha _ _ _=>exact ⟨a,by rw [ha];rfl⟩
  have hnone:n.args[1]?=none->n.read.getD 1 0=0:=by
   intro e
   have:=List.getElem?_eq_none_iff.1 e
   rw [List.getD_eq_getElem?_getD,List.getElem?_eq_none_iff.2 (by rw [hN.len];exact this)]
   rfl
  have d0:=digits_eq (s:=s) (n:=n) (sd:=0) (o:=some a0) (r:=n.read.getD 0 0) ha0 (fun e=>by cases e) fun a e=>⟨hget 0 a0 ha0,hx a (by cases e;exact List.mem_of_getElem? ha0)⟩
  have d1:=digits_eq (s:=s) (n:=n) (sd:=1) (o:=n.args[1]?) (r:=n.read.getD 1 0) rfl hnone fun a e=>⟨hget 1 a e,hx a (List.mem_of_getElem? e)⟩
  have hs0:∃ ls,sgO s.nodes (some a0)=some ls:=⟨_,rfl⟩
  obtain ⟨ls,hls⟩:=hs0
  rw [hl,hr,hlr,hrr,ha0,hls]
  rw [hls] at d0
  rw [reads_eq h4 h.cor (Pg.corners_len4 h4 h.cor) h.cof (hu 0) (hu 1) ?_ d0 d1 hsd]
  ·simp [h4]
  ·intro e
   refine hnone ?_
   cases e2:n.args[1]? with
   | none=>rfl
   | some a=>rw [e2] at e;simp [sgO] at e
 ·have hl:lArg n=none:=by unfold lArg;rw [if_neg h4]
  rw [hl]
  simp [h4,sgO,readsZ]
end
end Ab
open Go.RowKit
namespace Ab
noncomputable def hvL:List Int->List Int
 | [a,b,c,d,e,f,g,h]=>let t:=tw8 a b c d e f g h
  [hv t a,hv t b,hv t c,hv t d,hv t e,hv t f,hv t g,hv t h]
 | _=>[]
noncomputable def givL (cd p0 q0 p1 q1 p2 q2 p3 q3:Int):List Int:=[symD cd*p0-symB cd*q0,symA cd*q0-symC cd*p0,symD cd*p1-symB cd*q1,symA cd*q1-symC cd*p1,symD cd*p2-symB cd*q2,symA cd*q2-symC cd*p2,symD cd*p3-symB cd*q3,symA cd*q3-symC cd*p3]
section
variable (p0 q0 p1 q1 p2 q2 p3 q3:Int) (hs:Bool) (uns mt lr rr pl c cd:Int) (lp rp cst nst gv gv2:Value)
def goS (tm:List AT):AS:=sW [p0,q0,p1,q1,p2,q2,p3,q3] hs uns mt lr rr pl c (.lit lp) (.lit rp) (.lit cst) (.lit nst) (.lit gv) [] tm
noncomputable def goS3:AS:=⟨slot [(27,P0),(31,litT gv),(33,.val (.one (.slc 19 0 1 1)))] 0 37,[(0,ndW hs uns mt lr rr pl (.lit lp) (.lit rp) (.lit cst) (.lit nst) (.lit gv)),(6,fuW (IntKind.i64.wrap (c-1))),(19,⟨[.sint .i64 cd],100,true,true,true⟩)],20,(hvL (givL cd p0 q0 p1 q1 p2 q2 p3 q3)).map fun z=>(z,19),[6,0]⟩
theorem goOn_1:(run Z (tabSp tN) bW (drawA Z (tabSp tN)) (atOp (opCalls 196)) 400 [.code (bodyOf Tryz.f182),.top Tryz.f182] (goS p0 q0 p1 q1 p2 q2 p3 q3 hs uns mt lr rr pl c lp rp cst nst gv (argT 35))).bind (outX (nrm [0,6] [] 7 []) (nrm [0,6] [0,1,6] 7 []))
  = some (.stp (bef (opCalls 196) Tryz.f182) (goS p0 q0 p1 q1 p2 q2 p3 q3 hs uns mt lr rr pl c lp rp cst nst gv (slot [(0,P0),(1,P6),(6,P0)] 0 37))):=by kernel_rfl
theorem goOn_2:(run Z (tabSp tN) bW (drawA Z (tabSp tN)) (atOp (fun o=>opCalls 197 o||opApp o)) 400 (aft (opCalls 196) Tryz.f182) (goS p0 q0 p1 q1 p2 q2 p3 q3 hs uns mt lr rr pl c lp rp cst nst gv (slot [(0,P0),(1,P6),(7,sintT cd)] 0 37))).bind (outX (nrm [0,6] [] 7 []) (nrmE [0,6,19] [27,31,33] 20 [0,6] [10,11] 7))
  = some (.br (decide (cd=0)) (.stp (bef (opCalls 197) Tryz.f182) (goS p0 q0 p1 q1 p2 q2 p3 q3 hs uns mt lr rr pl c lp rp cst nst gv (slot [(10,P0),(11,P6)] 0 37))) (.br (decide (c<1)) (.ret (.val (.one (.bool false))) (goS p0 q0 p1 q1 p2 q2 p3 q3 hs uns mt lr rr pl c lp rp cst nst gv (slot [] 0 37))) (.stp (bef opApp Tryz.f182) (goS3 p0 q0 p1 q1 p2 q2 p3 q3 hs uns mt lr rr pl c cd lp rp cst nst gv)))):=by kernel_rfl
theorem goOn_3:(run Z (tabSp tN) bW (drawA Z (tabSp tN)) (fun _=>false) 400 (aft opApp Tryz.f182) (goS p0 q0 p1 q1 p2 q2 p3 q3 hs uns mt lr rr pl c lp rp cst nst gv (slot [(27,P0),(34,litT gv2)] 0 37))).bind (outX (nrm [0,6] [] 7 []) (nrm [0,6] [] 7 []))
  = some (.ret (.val (.one (.bool true))) ⟨slot [] 0 37,[(0,ndW hs uns mt lr rr pl (.lit lp) (.lit rp) (.lit cst) (.lit nst) (.lit gv2)),(6,fuW c)],7,[(p0,10),(q0,10),(p1,10),(q1,10),(p2,10),(q2,10),(p3,10),(q3,10)],[0]⟩):=by kernel_rfl
theorem goOn_4 (b:Bool):(run Z (tabSp tN) bW (drawA Z (tabSp tN)) (fun _=>false) 400 (aft (opCalls 197) Tryz.f182) ⟨slot [(12,.val (.one (.sbool b)))] 0 37,[],0,[],[]⟩).bind (outX (nrm [] [] 0 []) (nrm [] [] 0 []))
  = some (.ret (.val (.one (.sbool b))) ⟨slot [] 0 37,[],0,[],[]⟩):=by kernel_rfl
end
theorem phN_kb {k fb:Nat}{kb:List Nat}(h0:kb.contains 0=true)(h6:kb.contains 6=true):∀ b x,phW k fb (fun _=>none) b=some x->kb.contains b=true:=by
 intro b x h
 unfold phW at h
 split at h
 ·subst_vars;exact h0
 ·split at h
  ·subst_vars;exact h6
  ·split at h<;>cases h
theorem rep_chg0 {w w':World}{ψ φ':Nat->Option (Nat×Nat)}{s:AS}(hw:RepW Z w ψ φ' s w')(hd:s.dirty=[]):Chg w w' []:=⟨hw.on,fun j hj _=>hw.low j hj fun b hb=>by rw [hd] at hb;cases hb⟩
theorem rep_none {w:World}(tm:List AT):RepW Z w (fun _=>none) (fun _=>none) ⟨tm,[],0,[],[]⟩ w:=
 rep_wr rfl (fun b B h=>by simp [look] at h) (fun b b' B B' k o o' h=>by simp [look] at h) (fun _ _=>rfl) (fun b k o h=>by cases h)
structure Pos2 (w:World) (k fb:Nat) (zs:List Int) (hs:Bool) (uns mt lr rr pl c:Int) (lp rp gv cv nv:Value):Prop where
 nd:NodeAt w k zs hs uns mt lr rr pl lp rp gv cv nv
 fu:w.heap[fb]?=some (.cells #[.int .i64 c] 195 (0,0))
 bits:∀ z∈zs,Bits 10 z
 h8:zs.length=8
 o1:One lp
 o2:One rp
 o3:One gv
 o4:One cv
 o5:One nv
section
variable {w w':World} {k fb:Nat} {zs:List Int} {hs:Bool} {uns mt lr rr pl c:Int} {lp rp gv cv nv:Value}
theorem Pos2.rep (h:Pos2 w k fb zs hs uns mt lr rr pl c lp rp gv cv nv)(tm:List AT):RepW Z w (phW k fb fun _=>none) (phW k fb fun _=>none) (sW zs hs uns mt lr rr pl c (.lit lp) (.lit rp) (.lit cv) (.lit nv) (.lit gv) [] tm) w:=
 sW_rep (lpC:=.lit lp) (rpC:=.lit rp) (gvC:=.lit gv) (cvC:=.lit cv) (nvC:=.lit nv) h.nd h.h8 h.bits h.fu ⟨rfl,h.o1⟩ ⟨rfl,h.o2⟩ ⟨rfl,h.o3⟩ ⟨rfl,h.o4⟩ ⟨rfl,h.o5⟩ (fun b B e=>by simp [look] at e) (fun b k' o e=>by cases e) tm
theorem Pos2.keep (h:Pos2 w k fb zs hs uns mt lr rr pl c lp rp gv cv nv)(hc:Chg w w' []):Pos2 w' k fb zs hs uns mt lr rr pl c lp rp gv cv nv:=
 ⟨h.nd.keep hc.on (hc.low _ h.nd.lt (by simp)),hc.at h.fu (by simp),h.bits,h.h8,h.o1,h.o2,h.o3,h.o4,h.o5⟩
theorem Pos2.out (h:Pos2 w k fb zs hs uns mt lr rr pl c lp rp gv cv nv){φ':Nat->Option (Nat×Nat)}{s:AS}(hw:RepW Z w (phW k fb fun _=>none) φ' s w'){zs':List Int}{hs':Bool}{uns' mt' lr' rr' pl' c':Int}{lp' rp' gv' cv' nv':Value}(h0:look s.boxes 0=some (ndW hs' uns' mt' lr' rr' pl' (.lit lp') (.lit rp') (.lit cv') (.lit nv') (.lit gv')))(h6:look s.boxes 6=some (fuW c'))(h8:zs'.length=8)(hz:∀ (j:Nat) (z:Int),zs'[j]?=some z->∃ b,s.nums[j]?=some (z,b))(hb:∀ z∈zs',Bits 10 z):Pos2 w' k fb zs' hs' uns' mt' lr' rr' pl' c' lp' rp' gv' cv' nv':=by
 obtain ⟨⟨lp2,rp2,gv2,cv2,nv2,g1,⟨rfl,g2⟩,⟨rfl,g3⟩,⟨rfl,g4⟩,⟨rfl,g5⟩,⟨rfl,g6⟩⟩,g7⟩:=sW_out (ns:=[]) hw h0 h6 (h.nd.shape h.h8) (fuel_shape h.fu) h8 hz
 exact ⟨g1,g7,hb,h8,g2,g3,g4,g5,g6⟩
end
theorem map_nums {zs:List Int}{u:Nat}:∀ (j:Nat) (z:Int),zs[j]?=some z->∃ b,(zs.map fun z=>(z,u))[j]?=some (z,b):=fun j z h=>⟨u,by rw [List.getElem?_map,h];rfl⟩
theorem RowOf.keep {w w':World}{e:TypeId}{xs:List Value}{v:Value}{g:Option Nat}{D:List Nat}(h:RowOf w e xs v g)(hc:Chg w w' D)(hD:∀ b,g=some b->b∉D):RowOf w' e xs v g:=by
 rcases h with h | ⟨b,cap,rest,h1,h2,h3,h4,h5⟩
 ·exact Or.inl h
 ·exact Or.inr ⟨b,cap,rest,h1,h2,hc.at h3 (hD b h1),h4,h5⟩
theorem RowOf.ty {w:World}{e:TypeId}{xs:List Value}{v:Value}{b:Nat}(h:RowOf w e xs v (some b)):∃ cs:List Value,w.heap[b]?=some (.cells cs.toArray e (0,0)):=by
 rcases h with ⟨_,_,e⟩ | ⟨b',cap,rest,h1,h2,h3,h4,h5⟩
 ·cases e
 ·cases h1
  exact ⟨_,h3⟩
theorem RowOf.one {w:World}{e:TypeId}{xs:List Value}{v:Value}{g:Option Nat}(h:RowOf w e xs v g):One v:=by
 rcases h with ⟨rfl,_⟩ | ⟨b',cap,rest,h1,rfl,h3,h4,h5⟩<;>rfl
theorem sym_info:∃ i zv,Z.P.info? 100=some i/\i.bytes<=1000000/\(∀ w,(zeroValue 100).run Z.P w=.ok zv w)/\zv.cells.size=1:=by
 have h:(Z.P.info? 100).map (fun i=>(i.bytes,i.zero))=some (8,some (.int .i64 0)):=by kernel_rfl
 obtain ⟨i,h1,h'⟩:=Option.map_eq_some_iff.1 h
 simp only [Prod.mk.injEq] at h'
 obtain ⟨h2,h3⟩:=h'
 exact ⟨i,.int .i64 0,h1,by rw [h2];decide,fun w=>by simp [zeroValue,typeInfo,h1,h3],rfl⟩
theorem goOn_calls {w:World}{k fb:Nat}{p0 q0 p1 q1 p2 q2 p3 q3:Int}{hs:Bool}{uns mt lr rr pl c cd:Int}{lp rp gv cv nv:Value}{xs:List Value}{g:Option Nat}{R:Ending->World->Prop}(h:Pos2 w k fb [p0,q0,p1,q1,p2,q2,p3,q3] hs uns mt lr rr pl c lp rp gv cv nv)(hc3:c<=3000)(hrow:RowOf w 100 xs gv g)(hlen:xs.length<=99999)
  (hnext:∀ w1,Chg w w1 []->Calls Tryz.prog 196 #[ptrB k] w1 fun e w'=>e=.returned (.int .i64 cd)/\Chg w1 w' [])
  (hmore:cd=0->∀ w1,Chg w w1 []->Calls Tryz.prog 197 #[ptrB k,ptrB fb] w1 fun e w'=>∃ b,e=.returned (.bool b)/\∀ w2,Chg w' w2 []->R (.returned (.bool b)) w2)
  (hno:cd≠0->c<1->∀ w1,Chg w w1 []->R (.returned (.bool false)) w1)
  (hbits:cd≠0->1<=c->∀ z∈hvL (givL cd p0 q0 p1 q1 p2 q2 p3 q3),Bits 10 z)
  (hyes:cd≠0->1<=c->∀ w1 gv' b,Chg w w1 [k,fb,b]->Pos2 w1 k fb (hvL (givL cd p0 q0 p1 q1 p2 q2 p3 q3)) hs uns mt lr rr pl (c-1) lp rp gv' cv nv->RowOf w1 100 (xs++[.int .i64 cd]) gv' (some b)->(g=some b\/w.heap.size<=b)->R (.returned (.bool true)) w1):
  Calls Tryz.prog 182 #[ptrB k,ptrB fb] w R:=by
 have F:=fn_of Tryz.func182 rfl rfl
 refine calls_x F (φ:=phW k fb fun _=>none) (vs:=[.one (.ptr 0 0),.one (.ptr 6 0)]) (args:=[ptrB k,ptrB fb]) (s:=goS p0 q0 p1 q1 p2 q2 p3 q3 hs uns mt lr rr pl c lp rp cv nv gv (argT 35)) (by kernel_rfl) ⟨⟨k,0,rfl,rfl⟩,⟨fb,0,rfl,rfl⟩,trivial⟩ (h.rep _) ?_
 refine xrun' (tabSp_ok tN_ok) bW_ok (phN_kb rfl rfl) (nrm_R (phN_kb rfl rfl)) (goOn_1 p0 q0 p1 q1 p2 q2 p3 q3 hs uns mt lr rr pl c lp rp cv nv gv) (fun _ _=>False) (fun ks s=>ks=bef (opCalls 196) Tryz.f182/\s=goS p0 q0 p1 q1 p2 q2 p3 q3 hs uns mt lr rr pl c lp rp cv nv gv (slot [(0,P0),(1,P6),(6,P0)] 0 37)) ⟨rfl,rfl⟩ (fun _ _ _ _ _ h=>h.elim) ?_
 rintro ks s ⟨rfl,rfl⟩
 refine ⟨by kernel_rfl,fun kcs φ1 a1 w1 hsr1 hr1=>?_⟩
 have c1:=rep_chg0 hr1.wd rfl
 refine callAt_ok (f:=196) (vs:=[.one (.ptr 0 0)]) (dst:=some 7) (ks2:=aft (opCalls 196) Tryz.f182) (by kernel_rfl) (fn_of Tryz.func196 rfl rfl).en (by kernel_rfl) (hsr1 φ1 [] w1) hr1 ?_
 intro ys hys
 match ys,hys with
 | [y],⟨hy,_⟩=>
 rw [ptr_val (hr1.wd.base 0 (k,0) rfl) hy]
 refine (hnext w1 c1).mono ?_
 rintro e w2 ⟨rfl,c2⟩
 refine ⟨_,rfl,fun kcs2 hf2 hsr2=>?_⟩
 have c12:=c1.trans c2
 have h2:=h.keep c12
 have hr2:Rep Z w2 (phW k fb fun _=>none) (phW k fb fun _=>none) (goS p0 q0 p1 q1 p2 q2 p3 q3 hs uns mt lr rr pl c lp rp cv nv gv (slot [(0,P0),(1,P6),(7,sintT cd)] 0 37)) (a1.put (some 7) (.int .i64 cd)) w2:=by
  refine rep_aft (kb:=[0,6]) (kt:=[0,1]) (dst:=some 7) (r:=sintT cd) hr1 (h2.rep _) (by kernel_rfl) ?_ rfl
  intro b hb
  have hb':b=0\/b=6:=by simpa using hb
  rcases hb' with rfl | rfl
  ·rw [hr1.wd.base 0 (k,0) rfl];rfl
  ·rw [hr1.wd.base 6 (fb,0) rfl];rfl
 refine xrun' (tabSp_ok tN_ok) bW_ok (phN_kb rfl rfl) (nrmE_R (phN_kb rfl rfl) (phN_kb rfl rfl)) (goOn_2 p0 q0 p1 q1 p2 q2 p3 q3 hs uns mt lr rr pl c cd lp rp cv nv gv)
  (fun r s=>r=.val (.one (.bool false))/\s.dirty=[]/\cd≠0/\c<1)
  (fun ks s=>(cd=0/\ks=bef (opCalls 197) Tryz.f182/\s=goS p0 q0 p1 q1 p2 q2 p3 q3 hs uns mt lr rr pl c lp rp cv nv gv (slot [(10,P0),(11,P6)] 0 37))\/(cd≠0/\¬c<1/\ks=bef opApp Tryz.f182/\s=goS3 p0 q0 p1 q1 p2 q2 p3 q3 hs uns mt lr rr pl c cd lp rp cv nv gv))
  ⟨fun e=>Or.inl ⟨of_decide_eq_true e,rfl,rfl⟩,fun e=>⟨fun e2=>⟨rfl,rfl,of_decide_eq_false e,of_decide_eq_true e2⟩,fun e2=>Or.inr ⟨of_decide_eq_false e,of_decide_eq_false e2,rfl,rfl⟩⟩⟩ ?_ ?_ kcs2 _ _ _ (hsr2 _ _ _) hr2
 ·rintro r s φ3 v w3 ⟨rfl,hd,h0,h1⟩ hv _ hw3
  rw [hv false (Or.inl rfl)]
  exact hno h0 h1 w3 (c12.trans (rep_chg0 hw3 hd))
 ·rintro ks s (⟨h0,rfl,rfl⟩ | ⟨h0,h1,rfl,rfl⟩)
  ·refine ⟨by kernel_rfl,fun kcs3 φ3 a3 w3 hsr3 hr3=>?_⟩
   have c3:=c12.trans (rep_chg0 hr3.wd rfl)
   refine callAt_ok (f:=197) (vs:=[.one (.ptr 0 0),.one (.ptr 6 0)]) (dst:=some 12) (ks2:=aft (opCalls 197) Tryz.f182) (by kernel_rfl) (fn_of Tryz.func197 rfl rfl).en (by kernel_rfl) (hsr3 φ3 [] w3) hr3 ?_
   intro ys hys
   match ys,hys with
   | [y,z],⟨hy,hz,_⟩=>
   rw [ptr_val (hr3.wd.base 0 (k,0) rfl) hy,ptr_val (hr3.wd.base 6 (fb,0) rfl) hz]
   refine (hmore h0 w3 c3).mono ?_
   rintro e w4 ⟨b,rfl,hR⟩
   refine ⟨_,rfl,fun kcs4 hf4 hsr4=>?_⟩
   have hr4:Rep Z w4 (fun _=>none) (fun _=>none) ⟨slot [(12,.val (.one (.sbool b)))] 0 37,[],0,[],[]⟩ (a3.put (some 12) (.bool b)) w4:=rep_aft (kb:=[]) (kt:=[]) (dst:=some 12) (r:=.val (.one (.sbool b))) hr3 (rep_none _) (by kernel_rfl) (fun b hb=>by simp at hb) rfl
   refine xrun' (tabSp_ok tN_ok) bW_ok (fun b x e=>by cases e) (nrm_R (fun b x e=>by cases e)) (goOn_4 b) (fun r s=>r=.val (.one (.sbool b))/\s.dirty=[]) (fun _ _=>False) ⟨rfl,rfl⟩ ?_ (fun _ _ h=>h.elim) kcs4 _ _ _ (hsr4 _ _ _) hr4
   rintro r s φ5 v w5 ⟨rfl,hd⟩ hv _ hw5
   rw [hv b (Or.inr rfl)]
   exact hR w5 (rep_chg0 hw5 hd)
  ·refine ⟨by kernel_rfl,fun kcs3 φ3 a3 w3 hsr3 hr3=>?_⟩
   have hc1:1<=c:=by omega
   have hB:=hbits h0 hc1
   have hwr:IntKind.i64.wrap (c-1)=c-1:=by
    unfold IntKind.wrap
    simp [IntKind.bits,IntKind.signed]
    omega
   have hc23:Chg w2 w3 [k,fb]:=sW_chg hr3.wd rfl
   have hp3:Pos2 w3 k fb (hvL (givL cd p0 q0 p1 q1 p2 q2 p3 q3)) hs uns mt lr rr pl (c-1) lp rp gv cv nv:=by
    have:=h2.out hr3.wd (zs':=hvL (givL cd p0 q0 p1 q1 p2 q2 p3 q3)) (hs':=hs) (uns':=uns) (mt':=mt) (lr':=lr) (rr':=rr) (pl':=pl) (c':=IntKind.i64.wrap (c-1)) (lp':=lp) (rp':=rp) (gv':=gv) (cv':=cv) (nv':=nv) rfl rfl rfl map_nums hB
    rw [hwr] at this
    exact this
   have hkn:∀ b,g=some b->b ∉ [k,fb]:=by
    intro b hb hm
    subst hb
    obtain ⟨cs,hcs⟩:=hrow.ty
    simp at hm
    rcases hm with rfl | rfl
    ·obtain ⟨ys,hy,_⟩:=h.nd.ex
     rw [hcs] at hy
     exact absurd (Obj.cells.inj (Option.some.inj hy)).2.1 (by decide)
    ·have hy:=h.fu
     rw [hcs] at hy
     exact absurd (Obj.cells.inj (Option.some.inj hy)).2.1 (by decide)
   have hrow3:RowOf w3 100 xs gv g:=(hrow.keep c12 (fun _ _=>by simp)).keep hc23 hkn
   refine appAt_ok (t:=97) (t':=97) (ty:=97) (sv:=litT gv) (xv:=.val (.one (.slc 19 0 1 1))) (dst:=some 34) (ks2:=aft opApp Tryz.f182) (by kernel_rfl) (by kernel_rfl) (hsr3 φ3 [] w3) hr3 ?_
   rintro v1 v2 ⟨hv1,_⟩ ⟨k',o,cap,e',m,x1,x2,x3,x4,x5⟩
   rw [hv1]
   obtain ⟨k2,o2,pre,ys,post,y1,y2,y3,y4⟩:=hr3.wd.box 19 ⟨[.sint .i64 cd],100,true,true,true⟩ rfl
   rw [x1] at y1
   cases y1
   subst y3
   match ys,y4 with
   | [y],⟨hy,_⟩=>
   have hy:y=.int .i64 cd:=hy
   subst hy
   obtain ⟨i,zv,i1,i2,i3,i4⟩:=sym_info
   obtain ⟨v',w4,b,a1,a2,a3',a4,a5⟩:=app_row (bt:=Z.bt) (P:=Z.P) (t:=97) (t':=97) (ty:=97) (e:=100) rfl rfl (by kernel_rfl) i1 i2 i3 i4 (by decide) hrow3 (xv:=v2) (xc:=cap) y2 (by rw [x2];simp) rfl hlen
   refine ⟨v',w4,a1,fun kcs4 hf4 hsr4=>?_⟩
   have hbk:b ∉ [k,fb]:=by
    rcases a3' with e | e
    ·exact hkn b e
    ·intro hm
     simp at hm
     have l1:=hp3.nd.lt
     have l2:=lt_of_heap hp3.fu
     rcases hm with rfl | rfl<;>omega
   have hc34:Chg w3 w4 [b]:=⟨a4,fun j hj hn=>a5 j hj (by simpa using hn)⟩
   have hp4:Pos2 w4 k fb (hvL (givL cd p0 q0 p1 q1 p2 q2 p3 q3)) hs uns mt lr rr pl (c-1) lp rp gv cv nv:=by
    refine ⟨hp3.nd.keep a4 (hc34.low _ hp3.nd.lt ?_),hc34.at hp3.fu ?_,hp3.bits,hp3.h8,hp3.o1,hp3.o2,hp3.o3,hp3.o4,hp3.o5⟩
    ·intro hm;simp at hm;exact hbk (by simp [hm])
    ·intro hm;simp at hm;exact hbk (by simp [hm])
   have hr4:Rep Z w4 (phW k fb fun _=>none) (phW k fb fun _=>none) (sW (hvL (givL cd p0 q0 p1 q1 p2 q2 p3 q3)) hs uns mt lr rr pl (c-1) (.lit lp) (.lit rp) (.lit cv) (.lit nv) (.lit gv) [] (slot [(27,P0),(34,litT v')] 0 37)) (a3.put (some 34) v') w4:=by
    refine rep_aft (kb:=[0,6]) (kt:=[27]) (dst:=some 34) (r:=litT v') hr3 (hp4.rep _) (by kernel_rfl) ?_ ⟨rfl,a2.one⟩
    intro b hb
    have hb':b=0\/b=6:=by simpa using hb
    rcases hb' with rfl | rfl
    ·rw [hr3.wd.base 0 (k,0) rfl];rfl
    ·rw [hr3.wd.base 6 (fb,0) rfl];rfl
   refine xrun' (tabSp_ok tN_ok) bW_ok (phN_kb rfl rfl) (nrm_R (phN_kb rfl rfl)) (goOn_3 _ _ _ _ _ _ _ _ hs uns mt lr rr pl (c-1) lp rp cv nv gv v') (fun r s=>r=.val (.one (.bool true))/\s.dirty=[0]/\look s.boxes 0=some (ndW hs uns mt lr rr pl (.lit lp) (.lit rp) (.lit cv) (.lit nv) (.lit v'))/\look s.boxes 6=some (fuW (c-1))/\s.nums=(hvL (givL cd p0 q0 p1 q1 p2 q2 p3 q3)).map fun z=>(z,10)) (fun _ _=>False) ⟨rfl,rfl,rfl,rfl,rfl⟩ ?_ (fun _ _ h=>h.elim) kcs4 _ _ _ (hsr4 _ _ _) hr4
   rintro r s φ5 v w5 ⟨rfl,hd,l0,l6,ln⟩ hv _ hw5
   rw [hv true (Or.inl rfl)]
   have hc45:Chg w4 w5 [k,fb]:=sW_chg hw5 (by rw [hd];rfl)
   have hp5:=hp4.out hw5 l0 l6 rfl (by rw [ln];exact map_nums) hB
   have wk:∀ {u v:World} {D:List Nat},Chg u v D->(∀ x∈D,x∈[k,fb,b])->Chg u v [k,fb,b]:=fun h hh=>h.weak hh
   refine hyes h0 hc1 w5 v' b ((((wk c12 (by simp)).trans (wk hc23 (by simp)))).trans ((wk hc34 (by simp)).trans (wk hc45 (by simp)))) hp5 (a2.keep hc45 ?_) ?_
   ·intro b' e
    cases e
    exact hbk
   ·rcases a3' with e | e
    ·exact Or.inl e
    ·exact Or.inr (Nat.le_trans (Nat.le_trans c12.on.size hc23.on.size) e)
end Ab
open Go.RowKit
namespace Ab
noncomputable def rdLL (a b c d p0 q0 p1 q1 p2 q2 p3 q3:Int):List Int:=[p0*a+p2*c,q0*a+q2*c,p1*a+p3*c,q1*a+q3*c,p0*b+p2*d,q0*b+q2*d,p1*b+p3*d,q1*b+q3*d]
noncomputable def rdRL (a b c d p0 q0 p1 q1 p2 q2 p3 q3:Int):List Int:=[p0*a+p1*c,q0*a+q1*c,p0*b+p1*d,q0*b+q1*d,p2*a+p3*c,q2*a+q3*c,p2*b+p3*d,q2*b+q3*d]
def spC (a b c d mt:Int):Spec:=fun f _ ν _ _ vs=>bif f==216 then (match vs with
 | [.one (.ptr 4 0),.one (.sint .i64 n)]=>some ([(a,2),(b,2),(c,2),(d,2)],.val (.agg (numCs true ν.length 4)),[n=mt],none)
 | _=>none) else none
section
variable (p0 q0 p1 q1 p2 q2 p3 q3:Int) (hs:Bool) (uns mt lr rr pl c cd:Int) (lp rp cst nst gv gv2:Value)
noncomputable def wrS (zs:List Int)(u:Nat)(lr rr mt c:Int)(m:Nat):AS:=⟨slot [] 0 m,[(0,ndW hs uns mt lr rr pl (.lit lp) (.lit rp) (.lit cst) (.lit nst) (.lit gv)),(6,fuW c)],7,zs.map fun z=>(z,u),[0,6,0]⟩
theorem rl_1:(run Z (tabSp tN) bW (drawA Z (tabSp tN)) (atOp (opCalls 125)) 400 [.code (bodyOf Tryz.f209),.top Tryz.f209] (goS p0 q0 p1 q1 p2 q2 p3 q3 hs uns mt lr rr pl c lp rp cst nst gv (argT 37))).bind (outX (nrm [0,6] [] 7 []) (nrm [0,6] [0,1,9,10] 7 []))
  = some (.stp (bef (opCalls 125) Tryz.f209) (goS p0 q0 p1 q1 p2 q2 p3 q3 hs uns mt lr rr pl c lp rp cst nst gv (slot [(0,P0),(1,P6),(9,.val (.agg [.lit lp,.sint .i64 lr])),(10,P6)] 0 39))):=by kernel_rfl
theorem rl_2:(run Z (tabSp tN) bW (drawA Z (tabSp tN)) (fun _=>false) 400 (aft (opCalls 125) Tryz.f209) (goS p0 q0 p1 q1 p2 q2 p3 q3 hs uns mt lr rr pl c lp rp cst nst gv (slot [(0,P0),(1,P6),(11,sintT cd)] 0 39))).bind (outX (nrm [0,6] [] 7 []) (nrm [0,6] [] 7 []))
  = some (.br (decide (cd=0)) (.ret (.val (.one (.bool false))) (goS p0 q0 p1 q1 p2 q2 p3 q3 hs uns mt lr rr pl c lp rp cst nst gv (slot [] 0 39))) (.br (decide (c<1)) (.ret (.val (.one (.bool false))) (goS p0 q0 p1 q1 p2 q2 p3 q3 hs uns mt lr rr pl c lp rp cst nst gv (slot [] 0 39))) (.ret (.val (.one (.bool true))) (wrS hs uns pl lp rp cst nst gv (hvL (rdLL (symA cd) (symB cd) (symC cd) (symD cd) p0 q0 p1 q1 p2 q2 p3 q3)) 19 (IntKind.i64.wrap (lr+1)) rr mt (IntKind.i64.wrap (c-1)) 39)))):=by kernel_rfl
theorem rl_3:(run Z (tabSp tN) bW (drawA Z (tabSp tN)) (fun _=>false) 400 (aft (opCalls 125) Tryz.f209) ⟨slot [(11,.val (.one (.int .i64 0)))] 0 39,[],0,[],[]⟩).bind (outX (nrm [] [] 0 []) (nrm [] [] 0 []))=some (.ret (.val (.one (.bool false))) ⟨slot [] 0 39,[],0,[],[]⟩):=by kernel_rfl
theorem rc_1 (ma mb mc md:Int):(run Z (orSp (spC ma mb mc md mt) (tabSp tN)) bW (drawA Z (orSp (spC ma mb mc md mt) (tabSp tN))) (fun _=>false) 400 [.code (bodyOf Tryz.f207),.top Tryz.f207] (sW [p0,q0,p1,q1,p2,q2,p3,q3] hs uns mt lr rr pl c (.lit lp) (.lit rp) (.ptr 4 0) (.lit nst) (.lit gv) [(4,ext [] 224)] (argT 33))).bind (outX (nrm [0,6,4] [] 7 []) (nrm [0,6,4] [] 7 []))
  = some (.br (decide (c<1)) (.ret (.val (.one (.bool false))) (sW [p0,q0,p1,q1,p2,q2,p3,q3] hs uns mt lr rr pl c (.lit lp) (.lit rp) (.ptr 4 0) (.lit nst) (.lit gv) [(4,ext [] 224)] (slot [] 0 35))) (.need [mt=mt] (.ret (.val (.one (.bool true))) ⟨slot [] 0 35,[(0,ndW hs uns (IntKind.i64.wrap (mt+1)) lr rr pl (.lit lp) (.lit rp) (.ptr 4 0) (.lit nst) (.lit gv)),(6,fuW (IntKind.i64.wrap (c-1))),(4,ext [] 224)],7,(hvL (rdRL ma mb mc md p0 q0 p1 q1 p2 q2 p3 q3)).map fun z=>(z,19),[0,6,0]⟩))):=by kernel_rfl
end
theorem wrap_dec {c:Int}(h1:1<=c)(h2:c<=3000):IntKind.i64.wrap (c-1)=c-1:=by
 unfold IntKind.wrap
 simp [IntKind.bits,IntKind.signed]
 omega
theorem wrap_inc {c:Int}(h1:0<=c)(h2:c<=1000000):IntKind.i64.wrap (c+1)=c+1:=by
 unfold IntKind.wrap
 simp [IntKind.bits,IntKind.signed]
 omega
structure AftRd (w2:World) (k fb:Nat) (cd:Int) (R:Ending->World->Prop) (K:Int->Int->Int->Int->Int->Int->Int->Int->Bool->Int->Int->Int->Int->Int->Int->Value->Value->Value->Value->Value->Prop):Prop where
 none:cd=0->∀ w3,Chg w2 w3 []->R (.returned (.bool false)) w3
 some:cd≠0->∃ p0 q0 p1 q1 p2 q2 p3 q3 hs uns mt lr rr pl c lp rp gv cv nv,Pos2 w2 k fb [p0,q0,p1,q1,p2,q2,p3,q3] hs uns mt lr rr pl c lp rp gv cv nv/\c<=3000/\0<=lr/\lr<=1000000/\0<=rr/\rr<=1000000/\(c<1->∀ w3,Chg w2 w3 []->R (.returned (.bool false)) w3)/\(1<=c->K p0 q0 p1 q1 p2 q2 p3 q3 hs uns mt lr rr pl c lp rp gv cv nv)
section
variable {w:World} {k fb:Nat} {p0 q0 p1 q1 p2 q2 p3 q3:Int} {hs:Bool} {uns mt lr rr pl c:Int} {lp rp gv cv nv:Value} {R:Ending->World->Prop}
theorem readLeft_calls (h:Pos2 w k fb [p0,q0,p1,q1,p2,q2,p3,q3] hs uns mt lr rr pl c lp rp gv cv nv)
  (hun:∀ w1,Chg w w1 []->Calls Tryz.prog 125 #[.agg #[lp,.int .i64 lr],ptrB fb] w1 fun e w2=>∃ cd,e=.returned (.int .i64 cd)/\
   AftRd w2 k fb cd R fun p0 q0 p1 q1 p2 q2 p3 q3 hs uns mt lr rr pl c lp rp gv cv nv=>(∀ z∈hvL (rdLL (symA cd) (symB cd) (symC cd) (symD cd) p0 q0 p1 q1 p2 q2 p3 q3),Bits 10 z)/\∀ w3,Chg w2 w3 [k,fb]->Pos2 w3 k fb (hvL (rdLL (symA cd) (symB cd) (symC cd) (symD cd) p0 q0 p1 q1 p2 q2 p3 q3)) hs uns mt (lr+1) rr pl (c-1) lp rp gv cv nv->R (.returned (.bool true)) w3):
  Calls Tryz.prog 209 #[ptrB k,ptrB fb] w R:=by
 have F:=fn_of Tryz.func209 rfl rfl
 refine calls_x F (φ:=phW k fb fun _=>none) (vs:=[.one (.ptr 0 0),.one (.ptr 6 0)]) (args:=[ptrB k,ptrB fb]) (s:=goS p0 q0 p1 q1 p2 q2 p3 q3 hs uns mt lr rr pl c lp rp cv nv gv (argT 37)) (by kernel_rfl) ⟨⟨k,0,rfl,rfl⟩,⟨fb,0,rfl,rfl⟩,trivial⟩ (h.rep _) ?_
 refine xrun' (tabSp_ok tN_ok) bW_ok (phN_kb rfl rfl) (nrm_R (phN_kb rfl rfl)) (rl_1 p0 q0 p1 q1 p2 q2 p3 q3 hs uns mt lr rr pl c lp rp cv nv gv) (fun _ _=>False) (fun ks s=>ks=bef (opCalls 125) Tryz.f209/\s=goS p0 q0 p1 q1 p2 q2 p3 q3 hs uns mt lr rr pl c lp rp cv nv gv (slot [(0,P0),(1,P6),(9,.val (.agg [.lit lp,.sint .i64 lr])),(10,P6)] 0 39)) ⟨rfl,rfl⟩ (fun _ _ _ _ _ h=>h.elim) ?_
 rintro ks s ⟨rfl,rfl⟩
 refine ⟨by kernel_rfl,fun kcs φ1 a1 w1 hsr1 hr1=>?_⟩
 have c1:=rep_chg0 hr1.wd rfl
 refine callAt_ok (f:=125) (vs:=[.agg [.lit lp,.sint .i64 lr],.one (.ptr 6 0)]) (dst:=some 11) (ks2:=aft (opCalls 125) Tryz.f209) (by kernel_rfl) (fn_of Tryz.func125 rfl rfl).en (by kernel_rfl) (hsr1 φ1 [] w1) hr1 ?_
 intro ys hys
 match ys,hys with
 | [y,y2],⟨⟨zs,hy,hz⟩,hy2,_⟩=>
 match zs,hz with
 | [z1,z2],⟨hz1,hz2,_⟩=>
 have hz1:z1=lp:=hz1.1
 have hz2:z2=.int .i64 lr:=hz2
 rw [ptr_val (hr1.wd.base 6 (fb,0) rfl) hy2,hy,hz1,hz2]
 refine (hun w1 c1).mono ?_
 rintro e w2 ⟨cd,rfl,hA⟩
 refine ⟨_,rfl,fun kcs2 hf2 hsr2=>?_⟩
 by_cases hcd:cd=0
 ·subst hcd
  have hr2:Rep Z w2 (fun _=>none) (fun _=>none) ⟨slot [(11,.val (.one (.int .i64 0)))] 0 39,[],0,[],[]⟩ (a1.put (some 11) (.int .i64 0)) w2:=rep_aft (kb:=[]) (kt:=[]) (dst:=some 11) (r:=.val (.one (.int .i64 0))) hr1 (rep_none _) (by kernel_rfl) (fun b hb=>by simp at hb) rfl
  refine xrun' (tabSp_ok tN_ok) bW_ok (fun b x e=>by cases e) (nrm_R (fun b x e=>by cases e)) rl_3 (fun r s=>r=.val (.one (.bool false))/\s.dirty=[]) (fun _ _=>False) ⟨rfl,rfl⟩ ?_ (fun _ _ h=>h.elim) kcs2 _ _ _ (hsr2 _ _ _) hr2
  rintro r s φ5 v w5 ⟨rfl,hd⟩ hv _ hw5
  rw [hv false (Or.inl rfl)]
  exact hA.none rfl w5 (rep_chg0 hw5 hd)
 ·obtain ⟨p0,q0,p1,q1,p2,q2,p3,q3,hs,uns,mt,lr,rr,pl,c,lp,rp,gv,cv,nv,h2,hc3,l1,l2,_,_,hno,hyes⟩:=hA.some hcd
  have hr2:Rep Z w2 (phW k fb fun _=>none) (phW k fb fun _=>none) (goS p0 q0 p1 q1 p2 q2 p3 q3 hs uns mt lr rr pl c lp rp cv nv gv (slot [(0,P0),(1,P6),(11,sintT cd)] 0 39)) (a1.put (some 11) (.int .i64 cd)) w2:=by
   refine rep_aft (kb:=[0,6]) (kt:=[0,1]) (dst:=some 11) (r:=sintT cd) hr1 (h2.rep _) (by kernel_rfl) ?_ rfl
   intro b hb
   have hb':b=0\/b=6:=by simpa using hb
   rcases hb' with rfl | rfl
   ·rw [hr1.wd.base 0 (k,0) rfl];rfl
   ·rw [hr1.wd.base 6 (fb,0) rfl];rfl
  refine xrun' (tabSp_ok tN_ok) bW_ok (phN_kb rfl rfl) (nrm_R (phN_kb rfl rfl)) (rl_2 p0 q0 p1 q1 p2 q2 p3 q3 hs uns mt lr rr pl c cd lp rp cv nv gv)
   (fun r s=>(r=.val (.one (.bool false))/\s.dirty=[]/\c<1)\/(r=.val (.one (.bool true))/\¬c<1/\s=wrS hs uns pl lp rp cv nv gv (hvL (rdLL (symA cd) (symB cd) (symC cd) (symD cd) p0 q0 p1 q1 p2 q2 p3 q3)) 19 (IntKind.i64.wrap (lr+1)) rr mt (IntKind.i64.wrap (c-1)) 39))
   (fun _ _=>False) ⟨fun e=>absurd (of_decide_eq_true e) hcd,fun _=>⟨fun e2=>Or.inl ⟨rfl,rfl,of_decide_eq_true e2⟩,fun e2=>Or.inr ⟨rfl,of_decide_eq_false e2,rfl⟩⟩⟩ ?_ (fun _ _ h=>h.elim) kcs2 _ _ _ (hsr2 _ _ _) hr2
  rintro r s φ3 v w3 (⟨rfl,hd,h1⟩ | ⟨rfl,h1,rfl⟩) hv _ hw3
  ·rw [hv false (Or.inl rfl)]
   exact hno h1 w3 (rep_chg0 hw3 hd)
  ·rw [hv true (Or.inl rfl)]
   obtain ⟨hB,hR⟩:=hyes (by omega)
   have hc23:Chg w2 w3 [k,fb]:=sW_chg hw3 rfl
   have:=h2.out hw3 (zs':=hvL (rdLL (symA cd) (symB cd) (symC cd) (symD cd) p0 q0 p1 q1 p2 q2 p3 q3)) (hs':=hs) (uns':=uns) (mt':=mt) (lr':=IntKind.i64.wrap (lr+1)) (rr':=rr) (pl':=pl) (c':=IntKind.i64.wrap (c-1)) (lp':=lp) (rp':=rp) (gv':=gv) (cv':=cv) (nv':=nv) rfl rfl rfl map_nums hB
   rw [wrap_dec (by omega) hc3,wrap_inc l1 l2] at this
   exact hR w3 hc23 this
end
end Ab
open Go.RowKit
namespace Ab
theorem spC_ok {w:World}{ψ:Nat->Option (Nat×Nat)}{cb:Nat}{a b c d mt:Int}(hψ:ψ 4=some (cb,0))(hb:∀ z∈[a,b,c,d],Bits 2 z)(hcon:∀ W,On Z.bt w W->Calls Tryz.prog 216 #[ptrB cb,.int .i64 mt] W fun e w'=>∃ xs:List Value,e=.returned (.agg xs.toArray)/\Hold true w' [a,b,c,d] xs/\Below W.heap.size W w'):SpecOk Z w ψ (spC a b c d mt):=by
 intro f dd ν id bx vs ν' r p nbx h
 unfold spC at h
 cases hf:f==216 with
 | false=>rw [hf] at h;cases h
 | true=>
  rw [hf] at h
  have:f=216:=by simpa using hf
  subst this
  refine ⟨(fn_of Tryz.func216 rfl rfl).en,fun hp μ hμ φ w1 xs hφ _ hon hbx hxs=>?_⟩
  simp only [cond_true] at h
  split at h
  ·rename_i n
   cases h
   match xs,hxs with
   | [x1,x2],⟨h1,h2,_⟩=>
   have hn:n=mt:=hp (n=mt) (by simp)
   have h2:x2=.int .i64 n:=h2
   rw [ptr_val (hφ 4 _ hψ) h1,h2,hn]
   refine (hcon w1 hon).mono ?_
   rintro e w' ⟨ys,rfl,g1,g2⟩
   refine ⟨_,rfl,g2,ys,rfl,?_⟩
   refine hold_cs [a,b,c,d] ys ν.length μ g1 hb fun j z hz=>?_
   refine hμ _ _ ?_
   rw [List.getElem?_append_right (by omega),show ν.length+j-ν.length=j by omega]
   match j,hz with
   | 0,hz=>cases hz;rfl
   | 1,hz=>cases hz;rfl
   | 2,hz=>cases hz;rfl
   | 3,hz=>cases hz;rfl
   | j+4,hz=>simp at hz
  ·cases h
section
variable {w w':World} {k fb:Nat} {zs:List Int} {p0 q0 p1 q1 p2 q2 p3 q3:Int} {hs:Bool} {uns mt lr rr pl c:Int} {lp rp gv cv nv:Value} {R:Ending->World->Prop}
theorem Pos2.repX (h:Pos2 w k fb zs hs uns mt lr rr pl c lp rp gv cv nv){exφ:Nat->Option (Nat×Nat)}{ex:List (Nat×Box)}{rpC cvC nvC:AC}(hr:relC Z (phW k fb exφ) (zs.map fun z=>(z,10)) w rpC rp)(hc:relC Z (phW k fb exφ) (zs.map fun z=>(z,10)) w cvC cv)(hm:relC Z (phW k fb exφ) (zs.map fun z=>(z,10)) w nvC nv)
  (hex:∀ b B,look ex b=some B->B.own=false/\B.tip=false/\B.ro=true/\∃ k' o,phW k fb exφ b=some (k',o)/\k'≠k/\k'≠fb/\Seg Z (phW k fb exφ) (zs.map fun z=>(z,10)) w k' o B.ty B.cs) (hlt:∀ b k' o,exφ b=some (k',o)->k'<w.heap.size) (tm:List AT):RepW Z w (phW k fb exφ) (phW k fb exφ) (sW zs hs uns mt lr rr pl c (.lit lp) rpC cvC nvC (.lit gv) ex tm) w:=
 sW_rep (lpC:=.lit lp) (gvC:=.lit gv) h.nd h.h8 h.bits h.fu ⟨rfl,h.o1⟩ hr ⟨rfl,h.o3⟩ hc hm hex hlt tm
theorem phX_kb {exφ:Nat->Option (Nat×Nat)}{kb:List Nat}(h0:kb.contains 0=true)(h6:kb.contains 6=true)(hx:∀ b x,exφ b=some x->kb.contains b=true):∀ b x,phW k fb exφ b=some x->kb.contains b=true:=by
 intro b x h
 unfold phW at h
 split at h
 ·subst_vars;exact h0
 ·split at h
  ·subst_vars;exact h6
  ·split at h
   ·exact hx b x h
   ·cases h
def ph1 (i k:Nat):Nat->Option (Nat×Nat):=fun b=>if b=i then some (k,0) else none
def ph2 (i k j m:Nat):Nat->Option (Nat×Nat):=fun b=>if b=i then some (k,0) else if b=j then some (m,0) else none
theorem Pos2.ty_ne (h:Pos2 w k fb zs hs uns mt lr rr pl c lp rp gv cv nv){b:Nat}{cs:List Value}{ty:TypeId}(hb:w.heap[b]?=some (.cells cs.toArray ty (0,0)))(h1:ty≠205)(h2:ty≠195):b≠k/\b≠fb:=by
 constructor
 ·rintro rfl
  obtain ⟨ys,hy,_⟩:=h.nd.ex
  rw [hb] at hy
  exact h1 (Obj.cells.inj (Option.some.inj hy)).2.1
 ·rintro rfl
  have hy:=h.fu
  rw [hb] at hy
  exact h2 (Obj.cells.inj (Option.some.inj hy)).2.1
theorem readConstant_calls (h:Pos2 w k fb [p0,q0,p1,q1,p2,q2,p3,q3] hs uns mt lr rr pl c lp rp gv cv nv){cb:Nat}(hcv:cv=ptrB cb)(hblk:∃ cs:List Value,w.heap[cb]?=some (.cells cs.toArray 224 (0,0)))(hc3:c<=3000)(hm0:0<=mt)(hm1:mt<=1000000)
  {ma mb mc md:Int} (hb:∀ z∈[ma,mb,mc,md],Bits 2 z) (hcon:∀ W,On Z.bt w W->Calls Tryz.prog 216 #[ptrB cb,.int .i64 mt] W fun e w'=>∃ xs:List Value,e=.returned (.agg xs.toArray)/\Hold true w' [ma,mb,mc,md] xs/\Below W.heap.size W w')
  (hno:c<1->∀ w1,Chg w w1 []->R (.returned (.bool false)) w1)
  (hbits:1<=c->∀ z∈hvL (rdRL ma mb mc md p0 q0 p1 q1 p2 q2 p3 q3),Bits 10 z)
  (hyes:1<=c->∀ w1,Chg w w1 [k,fb]->Pos2 w1 k fb (hvL (rdRL ma mb mc md p0 q0 p1 q1 p2 q2 p3 q3)) hs uns (mt+1) lr rr pl (c-1) lp rp gv cv nv->R (.returned (.bool true)) w1):
  Calls Tryz.prog 207 #[ptrB k,ptrB fb] w R:=by
 obtain ⟨cs,hcs⟩:=hblk
 obtain ⟨n1,n2⟩:=h.ty_ne hcs (by decide) (by decide)
 have F:=fn_of Tryz.func207 rfl rfl
 have hrep:=h.repX (exφ:=ph1 4 cb) (ex:=[(4,ext [] 224)]) (rpC:=.lit rp) (cvC:=.ptr 4 0) (nvC:=.lit nv) ⟨rfl,h.o2⟩ ⟨cb,0,rfl,hcv⟩ ⟨rfl,h.o5⟩ (by
  intro b B hB
  have:=look_mem hB
  simp at this
  obtain ⟨rfl,rfl⟩:=this
  exact ⟨rfl,rfl,rfl,cb,0,rfl,n1,n2,[],[],cs,hcs,rfl,trivial⟩) (by
  intro b k' o hb'
  unfold ph1 at hb'
  split at hb'
  ·cases hb';exact lt_of_heap hcs
  ·cases hb') (argT 33)
 have hkb:∀ b x,phW k fb (ph1 4 cb) b=some x->[0,6,4].contains b=true:=phX_kb rfl rfl fun b x e=>by
  unfold ph1 at e
  split at e
  ·subst_vars;rfl
  ·cases e
 refine calls_x F (φ:=phW k fb (ph1 4 cb)) (vs:=[.one (.ptr 0 0),.one (.ptr 6 0)]) (args:=[ptrB k,ptrB fb]) (by kernel_rfl) ⟨⟨k,0,rfl,rfl⟩,⟨fb,0,rfl,rfl⟩,trivial⟩ hrep ?_
 refine xrun' (orSp_ok (spC_ok (cb:=cb) rfl hb hcon) (tabSp_ok tN_ok)) bW_ok hkb (nrm_R hkb) (rc_1 p0 q0 p1 q1 p2 q2 p3 q3 hs uns mt lr rr pl c lp rp nv gv ma mb mc md)
  (fun r s=>(r=.val (.one (.bool false))/\s.dirty=[]/\c<1)\/(r=.val (.one (.bool true))/\¬c<1/\s.dirty=[0,6,0]/\look s.boxes 0=some (ndW hs uns (IntKind.i64.wrap (mt+1)) lr rr pl (.lit lp) (.lit rp) (.ptr 4 0) (.lit nv) (.lit gv))/\look s.boxes 6=some (fuW (IntKind.i64.wrap (c-1)))/\s.nums=(hvL (rdRL ma mb mc md p0 q0 p1 q1 p2 q2 p3 q3)).map fun z=>(z,19)))
  (fun _ _=>False) ⟨fun e=>Or.inl ⟨rfl,rfl,of_decide_eq_true e⟩,fun e=>⟨fun x hx=>by simp at hx;exact hx,Or.inr ⟨rfl,of_decide_eq_false e,rfl,rfl,rfl,rfl⟩⟩⟩ ?_ (fun _ _ h=>h.elim)
 rintro r s φ3 v w3 (⟨rfl,hd,h1⟩ | ⟨rfl,h1,hd,l0,l6,ln⟩) hv _ hw3
 ·rw [hv false (Or.inl rfl)]
  exact hno h1 w3 (rep_chg0 hw3 hd)
 ·rw [hv true (Or.inl rfl)]
  have hB:=hbits (by omega)
  obtain ⟨⟨lp2,rp2,gv2,cv2,nv2,g1,⟨e1,g2⟩,⟨e2,g3⟩,⟨e3,g4⟩,⟨k4,o4,e4,g5⟩,⟨e5,g6⟩⟩,g7⟩:=sW_out (ns:=[]) hw3 l0 l6 (h.nd.shape h.h8) (fuel_shape h.fu) (zs:=hvL (rdRL ma mb mc md p0 q0 p1 q1 p2 q2 p3 q3)) rfl (by rw [ln];exact map_nums)
  rw [hw3.base 4 (cb,0) rfl] at e4
  cases e4
  have g5':cv2=cv:=by rw [g5,hcv];rfl
  rw [e1,e2,e3,e5,g5',wrap_inc hm0 hm1] at g1
  rw [wrap_dec (by omega) hc3] at g7
  exact hyes (by omega) w3 (sW_chg hw3 (by rw [hd];rfl)) ⟨g1,g7,hB,rfl,h.o1,h.o2,h.o3,h.o4,h.o5⟩
end
end Ab
open Go.RowKit
namespace Ab
section
variable (p0 q0 p1 q1 p2 q2 p3 q3:Int) (hs:Bool) (uns mt lr rr pl c cd:Int) (lp rp cst nst gv gv2:Value)
def rrS (tm:List AT):AS:=sW [p0,q0,p1,q1,p2,q2,p3,q3] hs uns mt lr rr pl c (.lit lp) (.ptr 2 0) (.lit cst) (.ptr 5 0) (.lit gv) [(2,ext [] 205),(5,ext [] 273)] tm
theorem rr_1:(run Z (tabSp tN) bW (drawA Z (tabSp tN)) (atOp (opCalls 125)) 400 [.code (bodyOf Tryz.f210),.top Tryz.f210] (goS p0 q0 p1 q1 p2 q2 p3 q3 hs uns mt lr rr pl c lp rp cst nilP gv (argT 66))).bind (outX (nrm [0,6] [] 7 []) (nrm [0,6] [0,1,36,37] 7 []))
  = some (.stp (bef (opCalls 125) Tryz.f210) (goS p0 q0 p1 q1 p2 q2 p3 q3 hs uns mt lr rr pl c lp rp cst nilP gv (slot [(0,P0),(1,P6),(36,.val (.agg [.lit rp,.sint .i64 rr])),(37,P6)] 0 68))):=by kernel_rfl
theorem rr_2:(run Z (tabSp tN) bW (drawA Z (tabSp tN)) (atOp (opCalls 125)) 400 [.code (bodyOf Tryz.f210),.top Tryz.f210] (rrS p0 q0 p1 q1 p2 q2 p3 q3 hs uns mt lr rr pl c lp cst gv (argT 66))).bind (outX (nrm [0,6,2,5] [] 7 []) (nrm [0,6,2,5] [0,1,36,37] 7 []))
  = some (.stp (bef (opCalls 125) Tryz.f210) (rrS p0 q0 p1 q1 p2 q2 p3 q3 hs uns mt lr rr pl c lp cst gv (slot [(0,P0),(1,P6),(36,.val (.agg [.ptr 2 0,.sint .i64 rr])),(37,P6)] 0 68))):=by kernel_rfl
theorem rr_3:(run Z (tabSp tN) bW (drawA Z (tabSp tN)) (atOp (opCalls 224)) 400 (aft (opCalls 125) Tryz.f210) (goS p0 q0 p1 q1 p2 q2 p3 q3 hs uns mt lr rr pl c lp rp cst nst gv (slot [(0,P0),(1,P6),(38,sintT cd)] 0 68))).bind (outX (nrm [0,6] [] 7 []) (nrm [0,6] [66] 7 []))
  = some (.br (decide (cd=0)) (.ret (.val (.one (.bool false))) (goS p0 q0 p1 q1 p2 q2 p3 q3 hs uns mt lr rr pl c lp rp cst nst gv (slot [] 0 68))) (.br (decide (c<1)) (.ret (.val (.one (.bool false))) (goS p0 q0 p1 q1 p2 q2 p3 q3 hs uns mt lr rr pl c lp rp cst nst gv (slot [] 0 68))) (.stp (bef (opCalls 224) Tryz.f210) ⟨slot [(66,P0)] 0 68,[(0,ndW hs uns mt lr (IntKind.i64.wrap (rr+1)) pl (.lit lp) (.lit rp) (.lit cst) (.lit nst) (.lit gv)),(6,fuW (IntKind.i64.wrap (c-1)))],7,(hvL (rdRL (symA cd) (symB cd) (symC cd) (symD cd) p0 q0 p1 q1 p2 q2 p3 q3)).map fun z=>(z,19),[0,6,0]⟩))):=by kernel_rfl
theorem rr_4:(run Z (tabSp tN) bW (drawA Z (tabSp tN)) (fun _=>false) 400 (aft (opCalls 224) Tryz.f210) ⟨slot [] 0 68,[],0,[],[]⟩).bind (outX (nrm [] [] 0 []) (nrm [] [] 0 []))=some (.ret (.val (.one (.bool true))) ⟨slot [] 0 68,[],0,[],[]⟩):=by kernel_rfl
theorem rr_5:(run Z (tabSp tN) bW (drawA Z (tabSp tN)) (fun _=>false) 400 (aft (opCalls 125) Tryz.f210) ⟨slot [(38,.val (.one (.int .i64 0)))] 0 68,[],0,[],[]⟩).bind (outX (nrm [] [] 0 []) (nrm [] [] 0 []))=some (.ret (.val (.one (.bool false))) ⟨slot [] 0 68,[],0,[],[]⟩):=by kernel_rfl
end
section
variable {w:World} {k fb:Nat} {p0 q0 p1 q1 p2 q2 p3 q3:Int} {hs:Bool} {uns mt lr rr pl c:Int} {lp rp gv cv nv:Value} {R:Ending->World->Prop}
abbrev RrA (w2:World)(k fb:Nat)(cd:Int)(R:Ending->World->Prop):Prop:=AftRd w2 k fb cd R fun p0 q0 p1 q1 p2 q2 p3 q3 hs uns mt lr rr pl c lp rp gv cv nv=>(∀ z∈hvL (rdRL (symA cd) (symB cd) (symC cd) (symD cd) p0 q0 p1 q1 p2 q2 p3 q3),Bits 10 z)/\∀ w3,Chg w2 w3 [k,fb]->Pos2 w3 k fb (hvL (rdRL (symA cd) (symB cd) (symC cd) (symD cd) p0 q0 p1 q1 p2 q2 p3 q3)) hs uns mt lr (rr+1) pl (c-1) lp rp gv cv nv->Calls Tryz.prog 224 #[ptrB k] w3 fun e w4=>∃ v,e=.returned v/\∀ w5,Chg w4 w5 []->R (.returned (.bool true)) w5
theorem rr_tail {w0:World}{ψ φ1:Nat->Option (Nat×Nat)}{s1:AS}{a1:Act}{w1 w2:World}{cd:Int}(hr1:Rep Z w0 ψ φ1 s1 a1 w1)(hk0:putT (keepT [] [] 0 s1.tmps) (some 38) (.val (.one (.int .i64 0)))=slot [(38,.val (.one (.int .i64 0)))] 0 68)(hk1:putT (keepT [0,6] [0,1] 0 s1.tmps) (some 38) (sintT cd)=slot [(0,P0),(1,P6),(38,sintT cd)] 0 68)(hp0:φ1 0=some (k,0))(hp6:φ1 6=some (fb,0))(hA:RrA w2 k fb cd R):
  ∀ kcs2:List (K Act),(∀ φ' ν' w'',SR Z φ' ν' w'' (aft (opCalls 125) Tryz.f210) kcs2)->sem Z.P R kcs2 .normal (a1.put (some 38) (.int .i64 cd)) w2:=by
 intro kcs2 hsr2
 by_cases hcd:cd=0
 ·subst hcd
  have hr2:Rep Z w2 (fun _=>none) (fun _=>none) ⟨slot [(38,.val (.one (.int .i64 0)))] 0 68,[],0,[],[]⟩ (a1.put (some 38) (.int .i64 0)) w2:=rep_aft (kb:=[]) (kt:=[]) (dst:=some 38) (r:=.val (.one (.int .i64 0))) hr1 (rep_none _) hk0.symm (fun b hb=>by simp at hb) rfl
  refine xrun' (tabSp_ok tN_ok) bW_ok (fun b x e=>by cases e) (nrm_R (fun b x e=>by cases e)) rr_5 (fun r s=>r=.val (.one (.bool false))/\s.dirty=[]) (fun _ _=>False) ⟨rfl,rfl⟩ ?_ (fun _ _ h=>h.elim) kcs2 _ _ _ (hsr2 _ _ _) hr2
  rintro r s φ5 v w5 ⟨rfl,hd⟩ hv _ hw5
  rw [hv false (Or.inl rfl)]
  exact hA.none rfl w5 (rep_chg0 hw5 hd)
 ·obtain ⟨p0,q0,p1,q1,p2,q2,p3,q3,hs,uns,mt,lr,rr,pl,c,lp,rp,gv,cv,nv,h2,hc3,_,_,l1,l2,hno,hyes⟩:=hA.some hcd
  have hr2:Rep Z w2 (phW k fb fun _=>none) (phW k fb fun _=>none) (goS p0 q0 p1 q1 p2 q2 p3 q3 hs uns mt lr rr pl c lp rp cv nv gv (slot [(0,P0),(1,P6),(38,sintT cd)] 0 68)) (a1.put (some 38) (.int .i64 cd)) w2:=by
   refine rep_aft (kb:=[0,6]) (kt:=[0,1]) (dst:=some 38) (r:=sintT cd) hr1 (h2.rep _) hk1.symm ?_ rfl
   intro b hb
   have hb':b=0\/b=6:=by simpa using hb
   rcases hb' with rfl | rfl
   ·rw [hp0];rfl
   ·rw [hp6];rfl
  refine xrun' (tabSp_ok tN_ok) bW_ok (phN_kb rfl rfl) (nrm_R (phN_kb rfl rfl)) (rr_3 p0 q0 p1 q1 p2 q2 p3 q3 hs uns mt lr rr pl c cd lp rp cv nv gv)
   (fun r s=>r=.val (.one (.bool false))/\s.dirty=[]/\c<1)
   (fun ks s=>¬c<1/\ks=bef (opCalls 224) Tryz.f210/\s=⟨slot [(66,P0)] 0 68,[(0,ndW hs uns mt lr (IntKind.i64.wrap (rr+1)) pl (.lit lp) (.lit rp) (.lit cv) (.lit nv) (.lit gv)),(6,fuW (IntKind.i64.wrap (c-1)))],7,(hvL (rdRL (symA cd) (symB cd) (symC cd) (symD cd) p0 q0 p1 q1 p2 q2 p3 q3)).map fun z=>(z,19),[0,6,0]⟩)
   ⟨fun e=>absurd (of_decide_eq_true e) hcd,fun _=>⟨fun e2=>⟨rfl,rfl,of_decide_eq_true e2⟩,fun e2=>⟨of_decide_eq_false e2,rfl,rfl⟩⟩⟩ ?_ ?_ kcs2 _ _ _ (hsr2 _ _ _) hr2
  ·rintro r s φ3 v w3 ⟨rfl,hd,h1⟩ hv _ hw3
   rw [hv false (Or.inl rfl)]
   exact hno h1 w3 (rep_chg0 hw3 hd)
  ·rintro ks s ⟨h1,rfl,rfl⟩
   refine ⟨by kernel_rfl,fun kcs3 φ3 a3 w3 hsr3 hr3=>?_⟩
   obtain ⟨hB,hR⟩:=hyes (by omega)
   have hc23:Chg w2 w3 [k,fb]:=sW_chg hr3.wd rfl
   have hp:=h2.out hr3.wd (zs':=hvL (rdRL (symA cd) (symB cd) (symC cd) (symD cd) p0 q0 p1 q1 p2 q2 p3 q3)) (hs':=hs) (uns':=uns) (mt':=mt) (lr':=lr) (rr':=IntKind.i64.wrap (rr+1)) (pl':=pl) (c':=IntKind.i64.wrap (c-1)) (lp':=lp) (rp':=rp) (gv':=gv) (cv':=cv) (nv':=nv) rfl rfl rfl map_nums hB
   rw [wrap_dec (by omega) hc3,wrap_inc l1 l2] at hp
   refine callAt_ok (f:=224) (vs:=[.one (.ptr 0 0)]) (dst:=some 67) (ks2:=aft (opCalls 224) Tryz.f210) (by kernel_rfl) (fn_of Tryz.func224 rfl rfl).en (by kernel_rfl) (hsr3 φ3 [] w3) hr3 ?_
   intro ys hys
   match ys,hys with
   | [y],⟨hy,_⟩=>
   rw [ptr_val (hr3.wd.base 0 (k,0) rfl) hy]
   refine (hR w3 hc23 hp).mono ?_
   rintro e w4 ⟨v,rfl,hF⟩
   refine ⟨_,rfl,fun kcs4 hf4 hsr4=>?_⟩
   have hr4:Rep Z w4 (fun _=>none) (fun _=>none) ⟨slot [] 0 68,[],0,[],[]⟩ (a3.put (some 67) v) w4:=rep_aft (kb:=[]) (kt:=[]) (dst:=some 67) (r:=.top) hr3 (rep_none _) (by kernel_rfl) (fun b hb=>by simp at hb) trivial
   refine xrun' (tabSp_ok tN_ok) bW_ok (fun b x e=>by cases e) (nrm_R (fun b x e=>by cases e)) rr_4 (fun r s=>r=.val (.one (.bool true))/\s.dirty=[]) (fun _ _=>False) ⟨rfl,rfl⟩ ?_ (fun _ _ h=>h.elim) kcs4 _ _ _ (hsr4 _ _ _) hr4
   rintro r s φ5 v w5 ⟨rfl,hd⟩ hv _ hw5
   rw [hv true (Or.inl rfl)]
   exact hF w5 (rep_chg0 hw5 hd)
theorem readRight_nil (h:Pos2 w k fb [p0,q0,p1,q1,p2,q2,p3,q3] hs uns mt lr rr pl c lp rp gv cv nv)(hnv:nv=nilP)
  (hun:∀ w1,Chg w w1 []->Calls Tryz.prog 125 #[.agg #[rp,.int .i64 rr],ptrB fb] w1 fun e w2=>∃ cd,e=.returned (.int .i64 cd)/\RrA w2 k fb cd R):
  Calls Tryz.prog 210 #[ptrB k,ptrB fb] w R:=by
 subst hnv
 have F:=fn_of Tryz.func210 rfl rfl
 refine calls_x F (φ:=phW k fb fun _=>none) (vs:=[.one (.ptr 0 0),.one (.ptr 6 0)]) (args:=[ptrB k,ptrB fb]) (s:=goS p0 q0 p1 q1 p2 q2 p3 q3 hs uns mt lr rr pl c lp rp cv nilP gv (argT 66)) (by kernel_rfl) ⟨⟨k,0,rfl,rfl⟩,⟨fb,0,rfl,rfl⟩,trivial⟩ (h.rep _) ?_
 refine xrun' (tabSp_ok tN_ok) bW_ok (phN_kb rfl rfl) (nrm_R (phN_kb rfl rfl)) (rr_1 p0 q0 p1 q1 p2 q2 p3 q3 hs uns mt lr rr pl c lp rp cv gv) (fun _ _=>False) (fun ks s=>ks=bef (opCalls 125) Tryz.f210/\s=goS p0 q0 p1 q1 p2 q2 p3 q3 hs uns mt lr rr pl c lp rp cv nilP gv (slot [(0,P0),(1,P6),(36,.val (.agg [.lit rp,.sint .i64 rr])),(37,P6)] 0 68)) ⟨rfl,rfl⟩ (fun _ _ _ _ _ h=>h.elim) ?_
 rintro ks s ⟨rfl,rfl⟩
 refine ⟨by kernel_rfl,fun kcs φ1 a1 w1 hsr1 hr1=>?_⟩
 have c1:=rep_chg0 hr1.wd rfl
 refine callAt_ok (f:=125) (vs:=[.agg [.lit rp,.sint .i64 rr],.one (.ptr 6 0)]) (dst:=some 38) (ks2:=aft (opCalls 125) Tryz.f210) (by kernel_rfl) (fn_of Tryz.func125 rfl rfl).en (by kernel_rfl) (hsr1 φ1 [] w1) hr1 ?_
 intro ys hys
 match ys,hys with
 | [y,y2],⟨⟨zs,hy,hz⟩,hy2,_⟩=>
 match zs,hz with
 | [z1,z2],⟨hz1,hz2,_⟩=>
 have hz1:z1=rp:=hz1.1
 have hz2:z2=.int .i64 rr:=hz2
 rw [ptr_val (hr1.wd.base 6 (fb,0) rfl) hy2,hy,hz1,hz2]
 refine (hun w1 c1).mono ?_
 rintro e w2 ⟨cd,rfl,hA⟩
 exact ⟨_,rfl,fun kcs2 hf2 hsr2=>rr_tail hr1 (by kernel_rfl) (by kernel_rfl) (hr1.wd.base 0 (k,0) rfl) (hr1.wd.base 6 (fb,0) rfl) hA kcs2 hsr2⟩
theorem ph2_kb {i a j b:Nat}{kb:List Nat}(h1:kb.contains i=true)(h2:kb.contains j=true):∀ x y,ph2 i a j b x=some y->kb.contains x=true:=by
 intro x y e
 unfold ph2 at e
 split at e
 ·subst_vars;exact h1
 ·split at e
  ·subst_vars;exact h2
  ·cases e
theorem readRight_ptr (h:Pos2 w k fb [p0,q0,p1,q1,p2,q2,p3,q3] hs uns mt lr rr pl c lp rp gv cv nv){nb r:Nat}(hnv:nv=ptrB nb)(hrp:rp=ptrB r)(hnb:∃ cs:List Value,w.heap[nb]?=some (.cells cs.toArray 273 (0,0)))(hrb:∃ cs:List Value,w.heap[r]?=some (.cells cs.toArray 205 (0,0)))(hrk:r≠k)
  (hun:∀ w1,Chg w w1 []->Calls Tryz.prog 125 #[.agg #[rp,.int .i64 rr],ptrB fb] w1 fun e w2=>∃ cd,e=.returned (.int .i64 cd)/\RrA w2 k fb cd R):
  Calls Tryz.prog 210 #[ptrB k,ptrB fb] w R:=by
 obtain ⟨cs,hcs⟩:=hnb
 obtain ⟨ds,hds⟩:=hrb
 obtain ⟨n1,n2⟩:=h.ty_ne hcs (by decide) (by decide)
 have hrf:r≠fb:=by
  rintro rfl
  have hy:=h.fu
  rw [hds] at hy
  exact absurd (Obj.cells.inj (Option.some.inj hy)).2.1 (by decide)
 have F:=fn_of Tryz.func210 rfl rfl
 have hrep:=h.repX (exφ:=ph2 2 r 5 nb) (ex:=[(2,ext [] 205),(5,ext [] 273)]) (rpC:=.ptr 2 0) (cvC:=.lit cv) (nvC:=.ptr 5 0) ⟨r,0,rfl,hrp⟩ ⟨rfl,h.o4⟩ ⟨nb,0,rfl,hnv⟩ (by
  intro b B hB
  have:=look_mem hB
  simp at this
  rcases this with ⟨rfl,rfl⟩ | ⟨rfl,rfl⟩
  ·exact ⟨rfl,rfl,rfl,r,0,rfl,hrk,hrf,[],[],ds,hds,rfl,trivial⟩
  ·exact ⟨rfl,rfl,rfl,nb,0,rfl,n1,n2,[],[],cs,hcs,rfl,trivial⟩) (by
  intro b k' o hb'
  unfold ph2 at hb'
  split at hb'
  ·cases hb';exact lt_of_heap hds
  ·split at hb'
   ·cases hb';exact lt_of_heap hcs
   ·cases hb') (argT 66)
 have hkb:∀ b x,phW k fb (ph2 2 r 5 nb) b=some x->[0,6,2,5].contains b=true:=phX_kb rfl rfl (ph2_kb rfl rfl)
 refine calls_x F (φ:=phW k fb (ph2 2 r 5 nb)) (vs:=[.one (.ptr 0 0),.one (.ptr 6 0)]) (args:=[ptrB k,ptrB fb]) (by kernel_rfl) ⟨⟨k,0,rfl,rfl⟩,⟨fb,0,rfl,rfl⟩,trivial⟩ hrep ?_
 refine xrun' (tabSp_ok tN_ok) bW_ok hkb (nrm_R hkb) (rr_2 p0 q0 p1 q1 p2 q2 p3 q3 hs uns mt lr rr pl c lp cv gv) (fun _ _=>False) (fun ks s=>ks=bef (opCalls 125) Tryz.f210/\s=rrS p0 q0 p1 q1 p2 q2 p3 q3 hs uns mt lr rr pl c lp cv gv (slot [(0,P0),(1,P6),(36,.val (.agg [.ptr 2 0,.sint .i64 rr])),(37,P6)] 0 68)) ⟨rfl,rfl⟩ (fun _ _ _ _ _ h=>h.elim) ?_
 rintro ks s ⟨rfl,rfl⟩
 refine ⟨by kernel_rfl,fun kcs φ1 a1 w1 hsr1 hr1=>?_⟩
 have c1:=rep_chg0 hr1.wd rfl
 refine callAt_ok (f:=125) (vs:=[.agg [.ptr 2 0,.sint .i64 rr],.one (.ptr 6 0)]) (dst:=some 38) (ks2:=aft (opCalls 125) Tryz.f210) (by kernel_rfl) (fn_of Tryz.func125 rfl rfl).en (by kernel_rfl) (hsr1 φ1 [] w1) hr1 ?_
 intro ys hys
 match ys,hys with
 | [y,y2],⟨⟨zs,hy,hz⟩,hy2,_⟩=>
 match zs,hz with
 | [z1,z2],⟨hz1,hz2,_⟩=>
 have hz1:z1=rp:=(ptr_val (ν:=[]) (w:=w1) (hr1.wd.base 2 (r,0) rfl) hz1).trans hrp.symm
 have hz2:z2=.int .i64 rr:=hz2
 rw [ptr_val (hr1.wd.base 6 (fb,0) rfl) hy2,hy,hz1,hz2]
 refine (hun w1 c1).mono ?_
 rintro e w2 ⟨cd,rfl,hA⟩
 exact ⟨_,rfl,fun kcs2 hf2 hsr2=>rr_tail hr1 (by kernel_rfl) (by kernel_rfl) (hr1.wd.base 0 (k,0) rfl) (hr1.wd.base 6 (fb,0) rfl) hA kcs2 hsr2⟩
end
end Ab
end Go.Proofs.YteghhlfmcjmnoaaGreatDoor
