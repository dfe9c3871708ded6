import Derived.Test.YteghhlfmcjmnoaaGreatDoorCDe15
set_option linter.unusedSimpArgs false
set_option linter.unusedVariables false
set_option maxRecDepth 100000
set_option maxHeartbeats 2000000
namespace Go.Proofs.YteghhlfmcjmnoaaGreatDoor
open Go.RowKit
namespace Ab
open Rf (Nd Inv NInv)
structure Kept (w w':World) (own own':Nat->Option Own) (fb:Nat):Prop where
 on:On Z.bt w w'
 low:∀ k,k<w.heap.size->own k=none->k≠fb->w'.heap[k]?=w.heap[k]?
 own:∀ k,k<w.heap.size->own k=none->own' k=none
theorem Kept.trans {a b c:World}{o1 o2 o3:Nat->Option Own}{fb:Nat}(h:Kept a b o1 o2 fb)(g:Kept b c o2 o3 fb):Kept a c o1 o3 fb:=by
 refine ⟨h.on.trans g.on,fun k hk ho hf=>?_,fun k hk ho=>g.own k (Nat.lt_of_lt_of_le hk h.on.size) (h.own k hk ho)⟩
 rw [g.low k (Nat.lt_of_lt_of_le hk h.on.size) (h.own k hk ho) hf,h.low k hk ho hf]
theorem Kept.of_chg {w w':World}{own own':Nat->Option Own}{fb:Nat}{D:List Nat}(h:Chg w w' D)(hD:∀ k∈D,k<w.heap.size->own k=none->k=fb)(ho:∀ k,k<w.heap.size->own k=none->own' k=none):Kept w w' own own' fb:=
 ⟨h.on,fun k hk hn hf=>h.low k hk fun hm=>hf (hD k hm hk hn),ho⟩
theorem Kept.still {w w':World}{own:Nat->Option Own}{fb:Nat}(h:Chg w w' []):Kept w w' own own fb:=Kept.of_chg h (fun k hk=>by cases hk) fun _ _ e=>e
section
variable {w w' w'':World} {b0 fb:Nat} {own own':Nat->Option Own} {at1 at2:Nat->Nat} {D:List Nat} {i:Nat} {n n':Nd} {s:Rf.St} {rho:Nat->Nat} {c:Nat}
theorem isD_nil:IsD w own i []:=fun k hk=>by cases hk
theorem Net.still (h:Net w b0 own at1 fb s)(hI:Inv s.nodes rho c)(hc:Chg w w' []):Net w' b0 own at1 fb s:=by
 refine h.step (i:=s.nodes.length) hI (fun _ _ _=>rfl) (Pg.Go.refl _) hc isD_nil (fun _ _ _ e _=>e) (fun _ _=>rfl) (hc.at h.fuel (by simp)) ?_
 intro j m hj hor
 have:=(List.getElem?_eq_some_iff.1 hj).1
 omega
def Res (w:World)(b0:Nat)(own:Nat->Option Own)(at1:Nat->Nat)(fb len:Nat)(ok:Bool)(s':Rf.St)(w':World):Prop:=∃ own',Kept w w' own own' fb/\(ok=true->∃ at2,Net w' b0 own' at2 fb s'/\∀ a,a<len->at2 a=at1 a)
theorem Res.no {len:Nat}{s':Rf.St}(h:Kept w w' own own' fb):Res w b0 own at1 fb len false s' w':=⟨own',h,fun e=>by cases e⟩
theorem Res.still {len:Nat}{ok:Bool}{s':Rf.St}(h:Res w b0 own at1 fb len ok s' w')(hI:ok=true->∃ rho c,Inv s'.nodes rho c)(hc:Chg w' w'' []):Res w b0 own at1 fb len ok s' w'':=by
 obtain ⟨own',h1,h2⟩:=h
 refine ⟨own',h1.trans (Kept.still hc),fun e=>?_⟩
 obtain ⟨at2,h3,h4⟩:=h2 e
 obtain ⟨rho,c,hI⟩:=hI e
 exact ⟨at2,h3.still hI hc,h4⟩
theorem Res.after {len len1:Nat}{ok:Bool}{s':Rf.St}{own1:Nat->Option Own}{at':Nat->Nat}(hk:Kept w w' own own1 fb)(hat:∀ a,a<len->at' a=at1 a)(hl:len<=len1)(h:Res w' b0 own1 at' fb len1 ok s' w''):Res w b0 own at1 fb len ok s' w'':=by
 obtain ⟨own',h1,h2⟩:=h
 refine ⟨own',hk.trans h1,fun e=>?_⟩
 obtain ⟨at2,h3,h4⟩:=h2 e
 exact ⟨at2,h3,fun a ha=>(h4 a (by omega)).trans (hat a ha)⟩
def SymOk (f:Nat):Prop:=∀ (w:World) (b0 fb:Nat) (own:Nat->Option Own) (at1:Nat->Nat) (s:Rf.St) (rho:Nat->Nat) (c i j:Nat) (n:Nd) (x:Rf.St×Option Int),Net w b0 own at1 fb s->b0<=w.heap.size->s.clock=(c:Int)->c<=3000->Inv s.nodes rho c->s.nodes[i]?=some n->j<=n.out.length->c+rho i+2<=f->Rf.sym f s i j=some x->
 Calls Tryz.prog 161 #[ptrB (at1 i),.int .i64 j,ptrB fb] w fun e w'=>e=.returned (.int .i64 (codeO x.2))/\Res w b0 own at1 fb s.nodes.length x.2.isSome x.1 w'
theorem Net.pos2 (h:Net w b0 own at1 fb s){p0 q0 p1 q1 p2 q2 p3 q3 mt pl:Int}{gv cv nv:Value}{l:List Rf.V}{g:Option (Nat×Nat)}{cc nn:Option Nat}(hs:Seen w b0 own at1 s.nodes i n p0 q0 p1 q1 p2 q2 p3 q3 mt pl gv cv nv l g cc nn):Pos2 w (at1 i) fb [p0,q0,p1,q1,p2,q2,p3,q3] (!n.pos) (unsZ n) mt (lRd n) (rRd n) pl s.clock (ptrV at1 (lArg n)) (ptrV at1 (rArg n)) gv cv nv:=by
 obtain ⟨o1,o2,o3⟩:=hs.blk.ones
 exact ⟨hs.blk.nd,h.fuel,hs.bits,rfl,one_ptrV _,one_ptrV _,o1,o2,o3⟩
theorem eight {zs:List Int}(h:zs.length=8):∃ a b c d e f g h,zs=[a,b,c,d,e,f,g,h]:=by
 match zs,h with
 | [a,b,c,d,e,f,g,h],_=>exact ⟨a,b,c,d,e,f,g,h,rfl⟩
theorem cof_hv {l:List Rf.V}{zs:List Int}(h8:zs.length=8)(h:Pg.Cof l (colsZ zs)):Pg.Cof l (colsZ (hvL zs)):=by
 obtain ⟨p0,q0,p1,q1,p2,q2,p3,q3,rfl⟩:=eight h8
 obtain ⟨t,ht,e⟩:=halved_sc p0 q0 p1 q1 p2 q2 p3 q3
 exact Pg.Cof.over h ht e
theorem hv_len {zs:List Int}(h8:zs.length=8):(hvL zs).length=8:=by
 obtain ⟨p0,q0,p1,q1,p2,q2,p3,q3,rfl⟩:=eight h8
 rfl
theorem readL_eq (a b c d p0 q0 p1 q1 p2 q2 p3 q3:Int):Pg.readL [(p0,q0),(p1,q1),(p2,q2),(p3,q3)] ⟨a,b,c,d⟩=colsZ (rdLL a b c d p0 q0 p1 q1 p2 q2 p3 q3):=by
 unfold Pg.readL rdLL colsZ Pg.rd1 Pg.rd2 Pg.sc Pg.vadd
 simp [Int.mul_comm]
theorem readR_eq (a b c d p0 q0 p1 q1 p2 q2 p3 q3:Int):Pg.readR [(p0,q0),(p1,q1),(p2,q2),(p3,q3)] ⟨a,b,c,d⟩=colsZ (rdRL a b c d p0 q0 p1 q1 p2 q2 p3 q3):=by
 unfold Pg.readR rdRL colsZ Pg.rd1 Pg.rd2 Pg.sc Pg.vadd
 simp [Int.mul_comm]
theorem give_eq (v p0 q0 p1 q1 p2 q2 p3 q3:Int):[(p0,q0),(p1,q1),(p2,q2),(p3,q3)].map (Rf.vag (Mt.sym v))=colsZ (givL (code v) p0 q0 p1 q1 p2 q2 p3 q3):=by
 obtain ⟨h1,h2,h3,h4⟩:=sym_code v
 unfold givL colsZ Rf.vag Mt.ag1 Mt.ag2
 rw [h1,h2,h3,h4]
 simp
 have k:∀ a b x y:Int,a*x+-b*y=a*x-b*y:=fun a b x y=>by rw [Int.neg_mul];omega
 simp only [k,and_self]
theorem code_ne (v:Int):code v≠0:=by
 unfold code
 split
 ·decide
 ·split
  ·decide
  ·split
   ·decide
   ·split
    ·decide
    ·split
     ·decide
     ·split<;>decide
theorem Net.upd (h:Net w b0 own at1 fb s)(hI:Inv s.nodes rho c)(hn:s.nodes[i]?=some n)(hs:SameN n n')(hhc:Pg.HC n')(hgo:Pg.Go s.nodes (s.nodes.set i n'))(hc:Chg w w' D)(hD:∀ k∈D,k=at1 i\/k=fb\/(own k=some (.gv i)/\∀ cs ty m,w.heap[k]?=some (.cells cs ty m)->ty=100)\/w.heap.size<=k)(hown:∀ k o,k<w.heap.size->own k=some o->own' k=some o)
  {p0 q0 p1 q1 p2 q2 p3 q3 mt mt' pl cl:Int} {gv gv' cv nv:Value} {zs':List Int} (hb:Blk w b0 own at1 i n p0 q0 p1 q1 p2 q2 p3 q3 mt pl gv cv nv) (hk:n'.k=n.k/\mt'=mt\/n.t=[]/\n'.k=n.k+1/\mt'=mt+1)
  (hp:Pos2 w' (at1 i) fb zs' (!n'.pos) (unsZ n') mt' (lRd n') (rRd n') pl cl (ptrV at1 (lArg n')) (ptrV at1 (rArg n')) gv' cv nv) (hg:GivOk w' b0 own' i n'.out gv') {l':List Rf.V} (hcor:Rf.corners s.nodes n'=some l') (hcof:Pg.Cof l' (colsZ zs')):Net w' b0 own' at1 fb ⟨s.nodes.set i n',cl⟩:=by
 have hIs:IsD w own i D:=by
  intro k hk cs ty m hcs
  rcases hD k hk with rfl | rfl | ⟨e,e'⟩ | e
  ·obtain ⟨xs,h1,_⟩:=hb.nd.ex
   rw [hcs] at h1
   exact Or.inl ⟨(Obj.cells.inj (Option.some.inj h1)).2.1,(h.nd i n hn).own⟩
  ·have h1:=h.fuel
   rw [hcs] at h1
   exact Or.inr (Or.inr (Obj.cells.inj (Option.some.inj h1)).2.1)
  ·exact Or.inr (Or.inl ⟨e' cs ty m hcs,e⟩)
  ·have:=lt_of_heap hcs
   omega
 obtain ⟨r0,s0,r1,s1,r2,s2,r3,s3,rfl⟩:=eight hp.h8
 refine h.put hI hn hgo hc hIs hown hp.fu ⟨⟨r0,s0,r1,s1,r2,s2,r3,s3,mt',pl,gv',cv,nv,hb.upd hown hs hc hIs hI hn hk hp.nd hg,l',hgo.corners hcor,hcof⟩,hhc,hown _ _ hb.nd.lt (h.nd i n hn).own,(h.nd i n hn).lo,by rw [hs.probe,hs.t,hs.nest];exact (h.nd i n hn).prb⟩
end
end Ab
open Go.RowKit
namespace Ab
open Rf (Nd Inv NInv)
section
variable {w w' w'':World} {b0 fb:Nat} {own own':Nat->Option Own} {at1 at2:Nat->Nat} {D:List Nat} {i:Nat} {n n':Nd} {s:Rf.St} {rho:Nat->Nat} {c:Nat}
theorem put_eq {ns ns':List Nd}{m:Nd}(h:Rf.put ns i m=some ns'):ns'=ns.set i m/\i<ns.length:=by
 unfold Rf.put at h
 split at h
 ·rename_i hh;cases h;exact ⟨rfl,hh.2⟩
 ·cases h
theorem GivOk.row {out:List Int}{gv:Value}(h:GivOk w b0 own i out gv):∃ g,RowOf w 100 (out.map fun c=>Value.int .i64 (code c)) gv g/\∀ b,g=some b->own b=some (.gv i)/\b0<=b:=by
 rcases h with ⟨h1,h2⟩ | ⟨g,cap,rest,h1,h2,h3,h4,h5,h6⟩
 ·exact ⟨none,Or.inl ⟨h1,by rw [h2];rfl,rfl⟩,fun b e=>by cases e⟩
 ·exact ⟨some g,Or.inr ⟨g,cap,rest,rfl,by rw [h1];simp,h2,by simpa using h3,by simpa using h4⟩,fun b e=>by cases e;exact ⟨h5,h6⟩⟩
theorem GivOk.of_row {out:List Int}{gv:Value}{b:Nat}(h:RowOf w 100 (out.map fun c=>Value.int .i64 (code c)) gv (some b))(ho:own b=some (.gv i))(hb:b0<=b):GivOk w b0 own i out gv:=by
 rcases h with ⟨_,_,e⟩ | ⟨g,cap,rest,h1,h2,h3,h4,h5⟩
 ·cases e
 ·cases h1
  exact Or.inr ⟨b,cap,rest,by rw [h2];simp,h3,by simpa using h4,by simpa using h5,ho,hb⟩
theorem goOn_ok {f:Nat}(h:Net w b0 own at1 fb s)(hb0:b0<=w.heap.size)(hcl:s.clock=(c:Int))(hc3:c<=3000)(hI:Inv s.nodes rho c)(hn:s.nodes[i]?=some n){y:Rf.St×Bool}(hy:Rf.step1 f s i n=some y)(hyI:y.2=true->∃ rho c,Inv y.1.nodes rho c)
  (hR:Rf.nextP s.nodes n=some none->∀ w1,Chg w w1 []->Calls Tryz.prog 197 #[ptrB (at1 i),ptrB fb] w1 fun e w'=>e=.returned (.bool y.2)/\Res w b0 own at1 fb s.nodes.length y.2 y.1 w'):
  Calls Tryz.prog 182 #[ptrB (at1 i),ptrB fb] w fun e w'=>e=.returned (.bool y.2)/\Res w b0 own at1 fb s.nodes.length y.2 y.1 w':=by
 have hN:=hI.at' i n hn
 obtain ⟨p0,q0,p1,q1,p2,q2,p3,q3,mt,pl,gv,cv,nv,l,g,cc,nn,hs⟩:=h.seen hI hn
 obtain ⟨o,ho⟩:∃ o,Rf.nextP s.nodes n=some o:=by
  unfold Rf.nextP
  split
  ·exact ⟨_,rfl⟩
  ·exact Rf.next_some hI hN
 obtain ⟨gO,hrow,hgO⟩:=hs.blk.giv.row
 have hpos:=h.pos2 hs
 have hout:=hN.outu
 have hy0:=hy
 unfold Rf.step1 at hy
 rw [ho,Option.bind_some] at hy
 -- what is given
 have hgive:∀ v,o=some v->1<=c->∃ n',n'={n with out:=n.out++[v],told:=n.told.mul (Mt.sym v),had:=n.had++[n.told.mul (Mt.sym v)]}/\y=(⟨s.nodes.set i n',s.clock-1⟩,true)/\(∃ rho' c',Inv (s.nodes.set i n') rho' c')/\Rf.corners s.nodes n'=some (l.map (Rf.vag (Mt.sym v)))/\Pg.Cof (l.map (Rf.vag (Mt.sym v))) (colsZ (givL (code v) p0 q0 p1 q1 p2 q2 p3 q3)):=by
  intro v hv hc1
  subst hv
  simp only at hy
  have hp:n.probe=false:=by
   unfold Rf.nextP at ho
   cases hpr:n.probe with
   | false=>rfl
   | true=>rw [hpr] at ho;simp at ho
  unfold Rf.nextP at ho
  rw [hp] at ho
  simp only [Bool.false_eq_true,if_false] at ho
  obtain ⟨c0,rfl⟩:∃ c0,c=c0+1:=⟨c-1,by omega⟩
  rw [if_neg (by rw [hcl];omega)] at hy
  obtain ⟨n',g1,g2,g3,g4⟩:=Rf.give_inv hI hn hp ho
  unfold Rf.give at hy
  rw [g1,Option.map_some,Option.map_some] at hy
  have e1:=(put_eq g1).1
  have hi:=(put_eq g1).2
  have e2:n'={n with out:=n.out++[v],told:=n.told.mul (Mt.sym v),had:=n.had++[n.told.mul (Mt.sym v)]}:=by
   have:=congrArg (fun x=>x[i]?) e1
   simp only [List.getElem?_set_self hi] at this
   exact Option.some.inj this
  refine ⟨n',e2,(Option.some.inj hy).symm,⟨rho,c0,g2⟩,?_,?_⟩
  ·rw [e2]
   exact Pg.corners_give hs.cor v _ _
  ·rw [<-give_eq]
   exact hs.cof.vag _
 have hbits:codeO o≠0->1<=s.clock->∀ z∈hvL (givL (codeO o) p0 q0 p1 q1 p2 q2 p3 q3),Bits 10 z:=by
  intro ho0 hc1
  cases o with
  | none=>exact absurd rfl ho0
  | some v=>
   obtain ⟨n',e1,e2,⟨rho',c',hI'⟩,e4,e5⟩:=hgive v rfl (by omega)
   have hi:=(List.getElem?_eq_some_iff.1 hn).1
   have hgo:Pg.Go s.nodes (s.nodes.set i n'):=Pg.Go.set hn (by rw [e1]) (by
    intro r m hm
    rw [e1]
    simp only
    rw [List.getElem?_append_left (List.getElem?_eq_some_iff.1 hm).1];exact hm) (by
    intro r m hm
    rw [e1]
    simp only
    rw [List.getElem?_append_left (List.getElem?_eq_some_iff.1 hm).1];exact hm)
   have hn':(s.nodes.set i n')[i]?=some n':=List.getElem?_set_self hi
   have hcof:=cof_hv rfl e5
   obtain ⟨r0,s0,r1,s1,r2,s2,r3,s3,e8⟩:=eight (hv_len (zs:=givL (code v) p0 q0 p1 q1 p2 q2 p3 q3) rfl)
   have e9:codeO (some v)=code v:=rfl
   rw [e9,e8]
   rw [e8] at hcof
   exact bits10 (s:=⟨s.nodes.set i n',0⟩) hI' hn' (hgo.corners e4) hcof
 refine goOn_calls (cd:=codeO o) (xs:=n.out.map fun c=>Value.int .i64 (code c)) (g:=gO) hpos (by rw [hcl];omega) hrow (by simp;omega) ?_ ?_ ?_ hbits ?_
 ·intro w1 c1
  obtain ⟨_,_,_,_,_,_,_,_,_,_,_,_,_,_,_,_,_,hs1⟩:=(h.still hI c1).seen hI hn
  exact hs1.next hN ho
 ·intro ho0 w1 c1
  have hon:o=none:=by
   cases o with
   | none=>rfl
   | some v=>exact absurd ho0 (code_ne v)
  subst hon
  refine (hR ho w1 c1).mono ?_
  rintro e w2 ⟨rfl,hres⟩
  exact ⟨_,rfl,fun w3 c3=>⟨rfl,hres.still hyI c3⟩⟩
 ·intro ho0 hlt w1 c1
  cases o with
  | none=>exact absurd rfl ho0
  | some v=>
   simp only at hy
   rw [if_pos (by omega)] at hy
   cases hy
   exact ⟨rfl,Res.no (own':=own) (Kept.still c1)⟩
 ·intro ho0 hc1 w1 gv' b hchg hp1 hrow1 hb
  cases o with
  | none=>exact absurd rfl ho0
  | some v=>
   obtain ⟨n',e1,e2,⟨rho',c',hI'⟩,e4,e5⟩:=hgive v rfl (by omega)
   subst e2
   have hi:=(List.getElem?_eq_some_iff.1 hn).1
   have hbd:gO=some b\/w.heap.size<=b:=hb
   have hown:∀ k o,k<w.heap.size->own k=some o->(fun k=>if k=b then some (Own.gv i) else own k) k=some o:=by
    intro k o hk hko
    simp only
    by_cases hkb:k=b
    ·subst hkb
     rw [if_pos rfl]
     rcases hbd with e | e
     ·rw [(hgO k e).1] at hko;exact hko
     ·omega
    ·rw [if_neg hkb];exact hko
   have hat:own (at1 i)=some (.nd i):=(h.nd i n hn).own
   refine ⟨rfl,fun k=>if k=b then some (Own.gv i) else own k,Kept.of_chg hchg ?_ ?_,fun _=>⟨at1,?_,fun _ _=>rfl⟩⟩
   ·intro k hk hlt hno
    simp at hk
    rcases hk with rfl | rfl | rfl
    ·rw [hat] at hno;cases hno
    ·rfl
    ·rcases hbd with e | e
     ·rw [(hgO k e).1] at hno;cases hno
     ·omega
   ·intro k hk hno
    show (if k=b then some (Own.gv i) else own k)=none
    rw [if_neg]
    ·exact hno
    ·rintro rfl
     rcases hbd with e | e
     ·rw [(hgO k e).1] at hno;cases hno
     ·omega
   ·have hgo:Pg.Go s.nodes (s.nodes.set i n'):=Pg.Go.set hn (by rw [e1]) (by
     intro r m hm
     rw [e1]
     simp only
     rw [List.getElem?_append_left (List.getElem?_eq_some_iff.1 hm).1];exact hm) (by
     intro r m hm
     rw [e1]
     simp only
     rw [List.getElem?_append_left (List.getElem?_eq_some_iff.1 hm).1];exact hm)
    refine h.upd hI hn (n':=n') (by rw [e1];exact ⟨rfl,rfl,rfl,rfl,rfl,rfl,rfl,rfl,rfl,rfl,rfl⟩) (by rw [e1];exact (h.nd i n hn).hc.give v) hgo hchg ?_ hown hs.blk (Or.inl ⟨by rw [e1],rfl⟩) (zs':=hvL (givL (code v) p0 q0 p1 q1 p2 q2 p3 q3)) (gv':=gv') (by rw [e1];exact hp1) ?_ e4 (cof_hv rfl e5)
    ·intro k hk
     simp at hk
     rcases hk with rfl | rfl | rfl
     ·exact Or.inl rfl
     ·exact Or.inr (Or.inl rfl)
     ·rcases hbd with e | e
      ·refine Or.inr (Or.inr (Or.inl ⟨(hgO k e).1,fun cs ty m hcs=>?_⟩))
       subst e
       obtain ⟨ds,hds⟩:=hrow.ty
       rw [hcs] at hds
       exact (Obj.cells.inj (Option.some.inj hds)).2.1
      ·exact Or.inr (Or.inr (Or.inr e))
    ·rw [e1]
     simp only
     refine GivOk.of_row (b:=b) (by rw [List.map_append];exact hrow1) (by simp) ?_
     rcases hbd with e | e
     ·exact (hgO b e).2
     ·omega
end
end Ab
open Go.RowKit
namespace Ab
open Rf (Nd Inv NInv)
section
variable {w w' w'':World} {b0 fb:Nat} {own own':Nat->Option Own} {at1 at2:Nat->Nat} {D:List Nat} {i:Nat} {n n':Nd} {s:Rf.St} {rho:Nat->Nat} {c:Nat}
abbrev RdR (w:World)(b0:Nat)(own:Nat->Option Own)(at1:Nat->Nat)(fb len:Nat)(y:Rf.St×Bool)(e:Ending)(w':World):Prop:=e=.returned (.bool y.2)/\Res w b0 own at1 fb len y.2 y.1 w'
theorem go_same {ns:List Nd}(hn:ns[i]?=some n)(h1:n'.pos=n.pos)(h2:n'.had=n.had)(h3:n'.out=n.out):Pg.Go ns (ns.set i n'):=Pg.Go.set hn h1 (fun r m h=>by rw [h2];exact h) (fun r m h=>by rw [h3];exact h)
theorem at_chg (h:Net w b0 own at1 fb s)(hn:s.nodes[i]?=some n)(hc:Chg w w' [at1 i,fb]):Kept w w' own own fb:=by
 refine Kept.of_chg hc ?_ fun _ _ e=>e
 intro k hk hlt hno
 simp at hk
 rcases hk with rfl | rfl
 ·rw [(h.nd i n hn).own] at hno;cases hno
 ·rfl
theorem con_ok {f:Nat}(h:Net w b0 own at1 fb s)(hcl:s.clock=(c:Int))(hc3:c<=3000)(hI:Inv s.nodes rho c)(hn:s.nodes[i]?=some n)(ht:n.t=[]){y:Rf.St×Bool}(hy:Rf.reads (Rf.sym f) s i n=some y):
  Calls Tryz.prog 197 #[ptrB (at1 i),ptrB fb] w (RdR w b0 own at1 fb s.nodes.length y):=by
 have hN:=hI.at' i n hn
 have hi:=(List.getElem?_eq_some_iff.1 hn).1
 obtain ⟨p0,q0,p1,q1,p2,q2,p3,q3,mt,pl,gv,cv,nv,l,g,cc,nn,hs⟩:=h.seen hI hn
 obtain ⟨hmt,cb,hcv,hcon⟩:=hs.blk.con ht
 have hku:=hN.ku
 obtain ⟨fac,ma,mb,mc,md,hfac,hcst,hmb,hcal⟩:=hcon.mat n.k (by omega)
 unfold Rf.reads at hy
 rw [if_pos ht,hcst,Option.bind_some] at hy
 obtain ⟨ns1,hput,hy2⟩:=Option.map_eq_some_iff.1 hy
 have hns:=(put_eq hput).1
 subst hns
 have hpos:=h.pos2 hs
 have hyes:1<=s.clock->∃ n',n'={n with part:=n.part.mul (Pg.msc fac ⟨ma,mb,mc,md⟩),k:=n.k+1}/\y=(⟨s.nodes.set i n',s.clock-1⟩,true)/\(∃ rho' c',Inv (s.nodes.set i n') rho' c')/\∃ l',Rf.corners s.nodes n'=some l'/\Pg.Cof l' (colsZ (rdRL ma mb mc md p0 q0 p1 q1 p2 q2 p3 q3)):=by
  intro hc1
  obtain ⟨c0,rfl⟩:∃ c0,c=c0+1:=⟨c-1,by omega⟩
  obtain ⟨m,n2,m1,m2,m3,m4,m5⟩:=Rf.con_inv hI hn ht
  rw [hcst] at m1
  cases m1
  rw [hput] at m2
  have hI2:=m3
  rw [<-(Option.some.inj m2)] at hI2
  obtain ⟨pp,qq,hl,hcor⟩:=Pg.corners_part (ns:=s.nodes) ht hs.cor (Pg.msc fac ⟨ma,mb,mc,md⟩) (n.k+1)
  refine ⟨_,rfl,?_,⟨rho,c0,hI2⟩,_,hcor,?_⟩
  ·rw [<-hy2]
   congr 1
   exact decide_eq_true (by omega)
  ·rw [<-readR_eq]
   have hcof:=hs.cof
   rw [hl] at hcof
   exact hcof.readRm _ hfac
 refine readMore_con (cb:=cb) (by rw [<-hcv];exact (hs.blk.nd.cell rfl).1) ?_
 refine (readConstant_calls (R:=fun e w'=>∃ b,e=.returned (.bool b)/\RdR w b0 own at1 fb s.nodes.length y (.returned (.bool b)) w') hpos hcv hcon.blk (by rw [hcl];omega) (by rw [hmt];omega) (by rw [hmt];omega) hmb (by rw [hmt];exact hcal) ?_ ?_ ?_)
 ·intro hc1 w1 c1
  refine ⟨false,rfl,?_,?_⟩
  ·rw [<-hy2]
   simp only
   rw [decide_eq_false (by omega)]
  ·have:y.2=false:=by
    rw [<-hy2]
    exact decide_eq_false (by omega)
   rw [this]
   exact Res.no (Kept.still (own:=own) c1)
 ·intro hc1
  obtain ⟨n',e1,e2,⟨rho',c',hI'⟩,l',e4,e5⟩:=hyes hc1
  have hn':(s.nodes.set i n')[i]?=some n':=List.getElem?_set_self hi
  have hcof:=cof_hv rfl e5
  obtain ⟨r0,s0,r1,s1,r2,s2,r3,s3,e8⟩:=eight (hv_len (zs:=rdRL ma mb mc md p0 q0 p1 q1 p2 q2 p3 q3) rfl)
  rw [e8]
  rw [e8] at hcof
  exact bits10 (s:=⟨s.nodes.set i n',0⟩) hI' hn' ((go_same (n':=n') hn (by rw [e1]) (by rw [e1]) (by rw [e1])).corners e4) hcof
 ·intro hc1 w1 c1 hp1
  obtain ⟨n',e1,e2,⟨rho',c',hI'⟩,l',e4,e5⟩:=hyes hc1
  subst e2
  refine ⟨true,rfl,rfl,own,at_chg h hn c1,fun _=>⟨at1,?_,fun _ _=>rfl⟩⟩
  refine h.upd hI hn (n':=n') (own':=own) (by rw [e1];exact ⟨rfl,rfl,rfl,rfl,rfl,rfl,rfl,rfl,rfl,rfl,rfl⟩) ((h.nd i n hn).hc.of (by rw [e1]) (by rw [e1]) (by rw [e1])) (go_same hn (by rw [e1]) (by rw [e1]) (by rw [e1])) c1 ?_ (fun _ _ _ e=>e) hs.blk (Or.inr ⟨ht,by rw [e1],rfl⟩) (zs':=hvL (rdRL ma mb mc md p0 q0 p1 q1 p2 q2 p3 q3)) (gv':=gv) (by rw [e1];exact hp1) ?_ e4 (cof_hv rfl e5)
  ·intro k hk
   simp at hk
   rcases hk with rfl | rfl
   ·exact Or.inl rfl
   ·exact Or.inr (Or.inl rfl)
  ·rw [e1]
   obtain ⟨gO,hrow,hgO⟩:=hs.blk.giv.row
   rcases hs.blk.giv with ⟨g1,g2⟩ | ⟨g',cap,rest,g1,g2,g3,g4,g5,g6⟩
   ·exact Or.inl ⟨g1,g2⟩
   ·refine Or.inr ⟨g',cap,rest,g1,c1.at g2 ?_,g3,g4,g5,g6⟩
    intro hm
    simp at hm
    rcases hm with rfl | rfl
    ·rw [(h.nd i n hn).own] at g5;cases g5
    ·have:=h.fuel
     rw [g2] at this
     exact absurd (Obj.cells.inj (Option.some.inj this)).2.1 (by decide)
theorem sym_unread {f:Nat}(hS:SymOk f)(h:Net w b0 own at1 fb s)(hb0:b0<=w.heap.size)(hcl:s.clock=(c:Int))(hc3:c<=3000)(hI:Inv s.nodes rho c){a r:Nat}{xn:Nd}(hxn:s.nodes[a]?=some xn)(hr:r<=xn.out.length)(hf:c+rho a+2<=f){x:Rf.St×Option Int}(hx:Rf.sym f s a r=some x):
  ∀ w1,Chg w w1 []->Calls Tryz.prog 125 #[.agg #[ptrB (at1 a),.int .i64 r],ptrB fb] w1 fun e w2=>∃ cd,e=.returned (.int .i64 cd)/\cd=codeO x.2/\Res w b0 own at1 fb s.nodes.length x.2.isSome x.1 w2:=by
 intro w1 c1
 refine unread_calls fun w2 c2=>?_
 have c12:=c1.trans c2
 refine (hS w2 b0 fb own at1 s rho c a r xn x (h.still hI c12) (Nat.le_trans hb0 c12.on.size) hcl hc3 hI hxn hr hf hx).mono ?_
 rintro e w3 ⟨rfl,hres⟩
 exact ⟨_,rfl,_,rfl,rfl,Res.after (Kept.still c12) (fun _ _=>rfl) (Nat.le_refl _) hres⟩
theorem aft_ok {w2:World}{a r sd:Nat}{x:Rf.St×Option Int}{y:Rf.St×Bool}(h:Net w b0 own at1 fb s)(hn:s.nodes[i]?=some n)(hc3:c<=3000)(hres:Res w b0 own at1 fb s.nodes.length x.2.isSome x.1 w2)(hpost:Rf.Post s rho c a r x)(ra:rho a<rho i)(hsym:∀ v,x.2=some v->∃ n',x.1.nodes[a]?=some n'/\n'.out[r]?=some v)
  (hy:(match x.2 with | none=>some (x.1,false) | some _=>Rf.after x.1 i sd)=some y)
  {K:Int->Int->Int->Int->Int->Int->Int->Int->Bool->Int->Int->Int->Int->Int->Int->Value->Value->Value->Value->Value->Prop}
  (hK:∀ v own2 at2 rho2 c2 xa p0 q0 p1 q1 p2 q2 p3 q3 mt pl gv cv nv l g cc nn,x.2=some v->Kept w w2 own own2 fb->Net w2 b0 own2 at2 fb x.1->(∀ a,a<s.nodes.length->at2 a=at1 a)->x.1.clock=((c2+1:Nat):Int)->c2+1<=c->Inv x.1.nodes rho2 (c2+1)->x.1.nodes[i]?=some n->x.1.nodes[a]?=some xa->xa.out[r]?=some v->Seen w2 b0 own2 at2 x.1.nodes i n p0 q0 p1 q1 p2 q2 p3 q3 mt pl gv cv nv l g cc nn->Rf.Mid s.nodes rho a x.1.nodes rho2->K p0 q0 p1 q1 p2 q2 p3 q3 (!n.pos) (unsZ n) mt (lRd n) (rRd n) pl x.1.clock (ptrV at2 (lArg n)) (ptrV at2 (rArg n)) gv cv nv):
  AftRd w2 (at1 i) fb (codeO x.2) (fun e w'=>∃ b,e=.returned (.bool b)/\RdR w b0 own at1 fb s.nodes.length y (.returned (.bool b)) w') K:=by
 obtain ⟨own2,hkept,hnet⟩:=hres
 refine ⟨fun hcd w3 c3=>?_,fun hcd=>?_⟩
 ·have hx:x.2=none:=by
   cases hx:x.2 with
   | none=>rfl
   | some v=>rw [hx] at hcd;exact absurd hcd (code_ne v)
  rw [hx] at hy
  cases hy
  exact ⟨false,rfl,rfl,Res.no (hkept.trans (Kept.still c3))⟩
 ·obtain ⟨v,hx⟩:∃ v,x.2=some v:=by
   cases hx:x.2 with
   | none=>rw [hx] at hcd;exact absurd rfl hcd
   | some v=>exact ⟨v,rfl⟩
  obtain ⟨at2,hnet2,hat⟩:=hnet (by rw [hx];rfl)
  obtain ⟨rho2,c2,y1,y2,y3,y4,n',y5,y6⟩:=hpost.ex v hx
  obtain ⟨xa,k1,k2⟩:=hsym v hx
  have hi:=(List.getElem?_eq_some_iff.1 hn).1
  have hn2:x.1.nodes[i]?=some n:=y4.same i n hn ra
  have hN2:=y3.at' i n hn2
  obtain ⟨p0,q0,p1,q1,p2,q2,p3,q3,mt,pl,gv,cv,nv,l,g,cc,nn,hs⟩:=hnet2.seen y3 hn2
  rw [hx] at hy
  obtain ⟨hno,hyes⟩:=Rf.after_split hn2 hy
  have hu:∀ j,n.read.getD j 0<=1000000:=by
   intro j
   rw [List.getD_eq_getElem?_getD]
   cases e:n.read[j]? with
   | none=>simp
   | some r=>have:=hN2.readu r (List.mem_of_getElem? e);simp;omega
  have hlr:lRd n<=1000000:=by unfold lRd;split;exact hu 0;omega
  have hrr:rRd n<=1000000:=by
   unfold rRd
   split
   ·exact hu 1
   ·split
    ·exact hu 0
    ·omega
  have hpos:=hnet2.pos2 hs
  rw [hat i hi] at hpos
  refine ⟨p0,q0,p1,q1,p2,q2,p3,q3,_,_,mt,_,_,pl,_,_,_,gv,cv,nv,hpos,by rw [y2];omega,by omega,by omega,by omega,by omega,fun hlt w3 c3=>?_,fun hge=>?_⟩
  ·have:=hno hlt
   refine ⟨false,rfl,by rw [this],?_⟩
   rw [this]
   exact Res.no (hkept.trans (Kept.still c3))
  ·obtain ⟨c3,rfl⟩:∃ c3,c2=c3+1:=⟨c2-1,by omega⟩
   exact hK v own2 at2 rho2 c3 xa p0 q0 p1 q1 p2 q2 p3 q3 mt pl gv cv nv l g cc nn hx hkept hnet2 hat y2 y1 y3 hn2 k1 k2 hs y4
end
end Ab
open Go.RowKit
namespace Ab
open Rf (Nd Inv NInv)
section
variable {w w2:World} {b0 fb:Nat} {own own2:Nat->Option Own} {at1 at2:Nat->Nat} {i:Nat} {n:Nd} {s s2:Rf.St} {rho rho2:Nat->Nat} {c c2:Nat}
theorem GivOk.at_chg {out:List Int}{gv:Value}(h:GivOk w b0 own i out gv)(hnet:Net w b0 own at1 fb s)(hn:s.nodes[i]?=some n)(c1:Chg w w2 [at1 i,fb]):GivOk w2 b0 own i out gv:=by
 rcases h with ⟨g1,g2⟩ | ⟨g',cap,rest,g1,g2,g3,g4,g5,g6⟩
 ·exact Or.inl ⟨g1,g2⟩
 ·refine Or.inr ⟨g',cap,rest,g1,c1.at g2 ?_,g3,g4,g5,g6⟩
  intro hm
  simp at hm
  rcases hm with rfl | rfl
  ·rw [(hnet.nd i n hn).own] at g5;cases g5
  ·have:=hnet.fuel
   rw [g2] at this
   exact absurd (Obj.cells.inj (Option.some.inj this)).2.1 (by decide)
theorem read_net {sd a r:Nat}{xa:Nd}{v:Int}(hnet:Net w2 b0 own2 at2 fb s2)(hI:Inv s2.nodes rho2 (c2+1))(hn:s2.nodes[i]?=some n){p0 q0 p1 q1 p2 q2 p3 q3 mt pl:Int}{gv cv nv:Value}{l:List Rf.V}{g:Option (Nat×Nat)}{cc nn:Option Nat}(hs:Seen w2 b0 own2 at2 s2.nodes i n p0 q0 p1 q1 p2 q2 p3 q3 mt pl gv cv nv l g cc nn)(ha:n.args[sd]?=some a)(hr:n.read[sd]?=some r)(hxa:s2.nodes[a]?=some xa)(hv:xa.out[r]?=some v){zs:List Int}{l':List Rf.V}(h8:zs.length=8)(hcor:Rf.corners s2.nodes {n with read:=Rf.bump n.read sd}=some l')(hcof:Pg.Cof l' (colsZ zs)):
  (∀ z∈hvL zs,Bits 10 z)/\Inv (s2.nodes.set i {n with read:=Rf.bump n.read sd}) rho2 c2/\∀ w3,Chg w2 w3 [at2 i,fb]->Pos2 w3 (at2 i) fb (hvL zs) (!n.pos) (unsZ n) mt (lRd {n with read:=Rf.bump n.read sd}) (rRd {n with read:=Rf.bump n.read sd}) pl (s2.clock-1) (ptrV at2 (lArg n)) (ptrV at2 (rArg n)) gv cv nv->Net w3 b0 own2 at2 fb ⟨s2.nodes.set i {n with read:=Rf.bump n.read sd},s2.clock-1⟩:=by
 have hi:=(List.getElem?_eq_some_iff.1 hn).1
 have hI':=Rf.read_inv hI hn ha hr hxa (List.getElem?_eq_some_iff.1 hv).1
 have hgo:Pg.Go s2.nodes (s2.nodes.set i {n with read:=Rf.bump n.read sd}):=go_same hn rfl rfl rfl
 refine ⟨?_,hI',fun w3 c3 hp=>?_⟩
 ·have hcof:=cof_hv h8 hcof
  obtain ⟨r0,s0,r1,s1,r2,s2',r3,s3,e8⟩:=eight (hv_len h8)
  rw [e8]
  rw [e8] at hcof
  exact bits10 (s:=⟨s2.nodes.set i {n with read:=Rf.bump n.read sd},0⟩) hI' (List.getElem?_set_self hi) (hgo.corners hcor) hcof
 ·refine hnet.upd hI hn (n':={n with read:=Rf.bump n.read sd}) (own':=own2) ⟨rfl,rfl,rfl,rfl,rfl,rfl,rfl,rfl,rfl,rfl,rfl⟩ ((hnet.nd i n hn).hc.of rfl rfl rfl) hgo c3 ?_ (fun _ _ _ e=>e) hs.blk (Or.inl ⟨rfl,rfl⟩) (zs':=hvL zs) (gv':=gv) hp (hs.blk.giv.at_chg hnet hn c3) hcor (cof_hv h8 hcof)
  intro k hk
  simp at hk
  rcases hk with rfl | rfl
  ·exact Or.inl rfl
  ·exact Or.inr (Or.inl rfl)
theorem lRd_bump {v u x y:Rf.V}{r:Nat}(ht:n.t=[v,u,x,y])(hr:n.read[0]?=some r):(lRd {n with read:=Rf.bump n.read 0}:Int)=lRd n+1/\rRd {n with read:=Rf.bump n.read 0}=rRd n:=by
 unfold lRd rRd
 simp only [ht]
 cases hd:n.read with
 | nil=>rw [hd] at hr;simp at hr
 | cons r0 rs=>simp [Rf.bump]
theorem rRd_bump {v u x y:Rf.V}{r:Nat}(ht:n.t=[v,u,x,y])(hr:n.read[1]?=some r):(rRd {n with read:=Rf.bump n.read 1}:Int)=rRd n+1/\lRd {n with read:=Rf.bump n.read 1}=lRd n:=by
 unfold lRd rRd
 simp only [ht]
 match hd:n.read with
 | []=>rw [hd] at hr;simp at hr
 | [_]=>rw [hd] at hr;simp at hr
 | r0::r1::rs=>simp [Rf.bump]
theorem uRd_bump {v u:Rf.V}{r:Nat}(ht:n.t=[v,u])(hr:n.read[0]?=some r):(rRd {n with read:=Rf.bump n.read 0}:Int)=rRd n+1/\lRd {n with read:=Rf.bump n.read 0}=lRd n:=by
 unfold lRd rRd
 simp only [ht]
 cases hd:n.read with
 | nil=>rw [hd] at hr;simp at hr
 | cons r0 rs=>simp [Rf.bump]
theorem left_ok {f:Nat}(hS:SymOk f)(h:Net w b0 own at1 fb s)(hb0:b0<=w.heap.size)(hcl:s.clock=(c:Int))(hc3:c<=3000)(hI:Inv s.nodes rho c)(hn:s.nodes[i]?=some n)(hf:c+rho i+1<=f){v u x' y':Rf.V}(ht:n.t=[v,u,x',y'])(hp:n.probe=false){a r:Nat}(ha:n.args[0]?=some a)(hr:n.read[0]?=some r){x:Rf.St×Option Int}(hx:Rf.sym f s a r=some x){y:Rf.St×Bool}(hy:(match x.2 with | none=>some (x.1,false) | some _=>Rf.after x.1 i 0)=some y):
  Calls Tryz.prog 209 #[ptrB (at1 i),ptrB fb] w fun e w'=>∃ b,e=.returned (.bool b)/\RdR w b0 own at1 fb s.nodes.length y (.returned (.bool b)) w':=by
 have hN:=hI.at' i n hn
 have hi:=(List.getElem?_eq_some_iff.1 hn).1
 obtain ⟨la,ra⟩:=hN.arg 0 a ha
 have hxa:s.nodes[a]?=some s.nodes[a]:=List.getElem?_eq_getElem la
 obtain ⟨x0,hx0,hpost⟩:=Rf.total f s a r rho c hcl hc3 hI _ hxa (hN.rd 0 a r _ ha hr hxa) (by omega)
 rw [hx] at hx0
 cases hx0
 have hsym:∀ v,x.2=some v->∃ n',x.1.nodes[a]?=some n'/\n'.out[r]?=some v:=fun v e=>Rf.sym_out f s a r x.1 v (by rw [hx];cases x;simp only at e;rw [e])
 obtain ⟨p0,q0,p1,q1,p2,q2,p3,q3,mt,pl,gv,cv,nv,l,g,cc,nn,hs⟩:=h.seen hI hn
 have hlA:lArg n=some a:=by unfold lArg;rw [ht];exact ha
 have hlR:lRd n=r:=by unfold lRd;rw [ht];simp [List.getD_eq_getElem?_getD,hr]
 refine readLeft_calls (h.pos2 hs) fun w1 c1=>?_
 rw [hlA,hlR]
 refine (sym_unread hS h hb0 hcl hc3 hI hxa (hN.rd 0 a r _ ha hr hxa) (by omega) hx w1 c1).mono ?_
 rintro e w2 ⟨cd,rfl,rfl,hres⟩
 refine ⟨_,rfl,aft_ok h hn hc3 hres hpost ra hsym hy ?_⟩
 intro v own2 at2 rho2 c2 xa p0 q0 p1 q1 p2 q2 p3 q3 mt pl gv cv nv l g cc nn hv hk hnet hat hcl2 hc2 hI2 hn2 hxa2 hout hs2 hmid
 have hx2:=(hnet.nd a xa hxa2).hc
 obtain ⟨pp,qq,ss,tt,hl,hcor⟩:=Pg.corners_left ht hs2.cor ha hxa2 hr hout hx2
 have hcof:=hs2.cof
 rw [hl] at hcof
 have hcof2:=hcof.readL (Mt.sym v)
 obtain ⟨h1,h2,h3,h4⟩:=sym_code v
 have e0:Mt.sym v=⟨symA (code v),symB (code v),symC (code v),symD (code v)⟩:=by rw [h1,h2,h3,h4]
 rw [e0,readL_eq,<-e0] at hcof2
 obtain ⟨k1,k2,k3⟩:=read_net hnet hI2 hn2 hs2 ha hr hxa2 hout rfl hcor hcof2
 have ecd:codeO x.2=code v:=by rw [hv];rfl
 rw [ecd]
 refine ⟨k1,fun w3 c3 hp3=>?_⟩
 rw [hv] at hy
 obtain ⟨ns1,t1,t2⟩:=(Rf.after_split hn2 hy).2 (by rw [hcl2];omega)
 unfold Rf.settle at t1
 rw [if_neg (by simp [hp])] at t1
 cases t1
 subst t2
 have hai:=hat i hi
 rw [<-hai] at c3 hp3
 obtain ⟨b1,b2⟩:=lRd_bump ht hr
 refine ⟨true,rfl,rfl,own2,hk.trans (at_chg hnet hn2 c3),fun _=>⟨at2,k3 w3 c3 ?_,hat⟩⟩
 rw [b1,b2]
 exact hp3
def SettleOk:Prop:=∀ (w:World) (b0 fb:Nat) (own:Nat->Option Own) (at1:Nat->Nat) (s:Rf.St) (rho:Nat->Nat) (c i:Nat) (n:Nd) (ns':List Nd),Net w b0 own at1 fb s->b0<=w.heap.size->c<=3000->Inv s.nodes rho c->s.nodes[i]?=some n->Rf.settle s.nodes i n=some ns'->
 Calls Tryz.prog 224 #[ptrB (at1 i)] w fun e w'=>∃ v,e=.returned v/\Res w b0 own at1 fb s.nodes.length true ⟨ns',s.clock⟩ w'
theorem at_ne (h:Net w b0 own at1 fb s){a:Nat}{x:Nd}(hn:s.nodes[i]?=some n)(hx:s.nodes[a]?=some x)(hne:a≠i):at1 a≠at1 i:=by
 intro e
 have h1:=(h.nd a x hx).own
 rw [e,(h.nd i n hn).own] at h1
 cases h1
 exact hne rfl
theorem right_aft {f:Nat}(hSt:SettleOk)(h:Net w b0 own at1 fb s)(hb0:b0<=w.heap.size)(hc3:c<=3000)(hn:s.nodes[i]?=some n){a r sd:Nat}(ha:n.args[sd]?=some a)(hr:n.read[sd]?=some r)(ra:rho a<rho i)(hsh:(∃ v u,n.t=[v,u]/\sd=0)\/(∃ v u x y,n.t=[v,u,x,y]/\n.args.length=2/\sd=1))(hpr:n.probe=true->sd=0){x:Rf.St×Option Int}{y:Rf.St×Bool}(hy:(match x.2 with | none=>some (x.1,false) | some _=>Rf.after x.1 i sd)=some y)(hres:Res w b0 own at1 fb s.nodes.length x.2.isSome x.1 w2)(hpost:Rf.Post s rho c a r x)(hsym:∀ v,x.2=some v->∃ n',x.1.nodes[a]?=some n'/\n'.out[r]?=some v):
  RrA w2 (at1 i) fb (codeO x.2) fun e w'=>∃ b,e=.returned (.bool b)/\RdR w b0 own at1 fb s.nodes.length y (.returned (.bool b)) w':=by
 have hi:=(List.getElem?_eq_some_iff.1 hn).1
 refine aft_ok h hn hc3 hres hpost ra hsym hy ?_
 intro v own2 at2 rho2 c2 xa p0 q0 p1 q1 p2 q2 p3 q3 mt pl gv cv nv l g cc nn hv hk hnet hat hcl2 hc2 hI2 hn2 hxa2 hout hs2 hmid
 have hx2:=(hnet.nd a xa hxa2).hc
 obtain ⟨h1,h2,h3,h4⟩:=sym_code v
 have e0:Mt.sym v=⟨symA (code v),symB (code v),symC (code v),symD (code v)⟩:=by rw [h1,h2,h3,h4]
 have ecd:codeO x.2=code v:=by rw [hv];rfl
 rw [ecd]
 obtain ⟨l',hcor,hcof,b1,b2⟩:∃ l',Rf.corners x.1.nodes {n with read:=Rf.bump n.read sd}=some l'/\Pg.Cof l' (colsZ (rdRL (symA (code v)) (symB (code v)) (symC (code v)) (symD (code v)) p0 q0 p1 q1 p2 q2 p3 q3))/\(rRd {n with read:=Rf.bump n.read sd}:Int)=rRd n+1/\lRd {n with read:=Rf.bump n.read sd}=lRd n:=by
  have hcof:=hs2.cof
  rcases hsh with ⟨v',u',ht,rfl⟩ | ⟨v',u',x',y',ht,hl2,rfl⟩
  ·obtain ⟨pp,qq,hl,hcor⟩:=Pg.corners_una ht hs2.cor ha hxa2 hr hout hx2
   rw [hl] at hcof
   have hcof2:=hcof.readR2 (Mt.sym v)
   rw [e0,readR_eq,<-e0] at hcof2
   exact ⟨_,hcor,hcof2,uRd_bump ht hr⟩
  ·obtain ⟨pp,qq,ss,tt,hl,hcor⟩:=Pg.corners_right ht hl2 hs2.cor ha hxa2 hr hout hx2
   rw [hl] at hcof
   have hcof2:=hcof.readR (Mt.sym v)
   rw [e0,readR_eq,<-e0] at hcof2
   exact ⟨_,hcor,hcof2,rRd_bump ht hr⟩
 obtain ⟨k1,k2,k3⟩:=read_net hnet hI2 hn2 hs2 ha hr hxa2 hout rfl hcor hcof
 refine ⟨k1,fun w3 c3 hp3=>?_⟩
 rw [hv] at hy
 obtain ⟨ns1,t1,t2⟩:=(Rf.after_split hn2 hy).2 (by rw [hcl2];omega)
 have hai:=hat i hi
 rw [<-hai] at c3 hp3
 have hnet3:=k3 w3 c3 (by rw [b1,b2];exact hp3)
 have hl2:x.1.nodes.length=(x.1.nodes.set i {n with read:=Rf.bump n.read sd}).length:=by simp
 have hkept:=hk.trans (at_chg hnet hn2 c3)
 rw [<-hai]
 refine (hSt w3 b0 fb own2 at2 _ rho2 c2 i {n with read:=Rf.bump n.read sd} ns1 hnet3 (Nat.le_trans hb0 hkept.on.size) (by omega) k2 (List.getElem?_set_self (List.getElem?_eq_some_iff.1 hn2).1) t1).mono ?_
 rintro e w4 ⟨vv,rfl,hres4⟩
 refine ⟨vv,rfl,fun w5 c5=>⟨true,rfl,by rw [t2],?_⟩⟩
 obtain ⟨s3,b3,z1,z2⟩:=Rf.after_inv hcl2 hI2 (by omega) hn2 ha hr hxa2 (List.getElem?_eq_some_iff.1 hout).1 hpr
 simp only at hy
 rw [hy] at z1
 cases z1
 have hI5:b3=true->∃ rho c,Inv s3.nodes rho c:=fun e=>by
  obtain ⟨rho',c',_,_,h',_⟩:=z2 e
  exact ⟨rho',c',h'⟩
 cases t2
 have hlen:s.nodes.length<=(x.1.nodes.set i {n with read:=Rf.bump n.read sd}).length:=by
  rw [<-hl2]
  exact hmid.le.len
 exact (Res.after hkept hat hlen hres4).still hI5 c5
end
end Ab
open Go.RowKit
namespace Ab
theorem own_blk {w0 w:World}{ψ φ:Nat->Option (Nat×Nat)}{s:AS}(hw:RepW Z w0 ψ φ s w){b:Nat}{B:Box}(hB:look s.boxes b=some B)(ho:B.own=true)(hr:B.ro=false):∃ k,∃ ys:List Value,φ b=some (k,0)/\w.heap[k]?=some (.cells ys.toArray B.ty (0,0))/\All2 (relC Z φ s.nums w) B.cs ys/\w0.heap.size<=k:=by
 obtain ⟨k,o,pre,ys,post,h1,h2,h3,h4⟩:=hw.box b B hB
 obtain ⟨e1,e2⟩:=hw.exa b B k o hB ho hr h1
 subst e1
 have hpre:pre=[]:=List.length_eq_zero_iff.1 h3
 subst hpre
 unfold World.shape? at e2
 rw [h2] at e2
 simp only [Option.some.injEq,Prod.mk.injEq,List.size_toArray,List.nil_append,List.length_append,true_and] at e2
 have hl:=h4.len
 have hpost:post=[]:=List.length_eq_zero_iff.1 (by omega)
 subst hpost
 exact ⟨k,ys,h1,by simpa using h2,h4,hw.own b B k 0 hB ho h1⟩
theorem node_at {φ:Nat->Option (Nat×Nat)}{ν:List (Int×Nat)}{w:World}{k j:Nat}{c0 c1 c2 c3 c4 c5 c6 c7 c8 c9 c10:AC}{ys:List Value}{zs:List Int}{hs:Bool}{uns mt lr rr pl:Int}{lp rp gv cv nv:Value}(h:All2 (relC Z φ ν w) (c0::numCs true j 8++[c1,c2,c3,c4,c5,c6,c7,c8,c9,c10]) ys)(hk:w.heap[k]?=some (.cells ys.toArray 205 (0,0)))(h8:zs.length=8)(hz:∀ (i:Nat) (z:Int),zs[i]?=some z->∃ b,ν[j+i]?=some (z,b))
  (e0:∀ x,relC Z φ ν w c0 x->x=.bool hs) (e1:∀ x,relC Z φ ν w c1 x->x=cv) (e2:∀ x,relC Z φ ν w c2 x->x=.int .i64 mt) (e3:∀ x,relC Z φ ν w c3 x->x=lp) (e4:∀ x,relC Z φ ν w c4 x->x=.int .i64 lr) (e5:∀ x,relC Z φ ν w c5 x->x=rp) (e6:∀ x,relC Z φ ν w c6 x->x=.int .i64 rr) (e7:∀ x,relC Z φ ν w c7 x->x=gv) (e8:∀ x,relC Z φ ν w c8 x->x=.int .i64 uns) (e9:∀ x,relC Z φ ν w c9 x->x=nv) (e10:∀ x,relC Z φ ν w c10 x->x=.int .i64 pl):NodeAt w k zs hs uns mt lr rr pl lp rp gv cv nv:=by
 have hl:=h.len
 match ys,h,hk,hl with
 | y::ys,⟨hy,g5⟩,hk,hl=>
  have hlen:ys.length=26:=by simp [numCs] at hl;omega
  have e:ys=ys.take 16++ys.drop 16:=(List.take_append_drop 16 ys).symm
  have ga:All2 (relC Z φ ν w) (numCs true j 8) (ys.take 16):=by
   have:=g5.take 16
   simpa [numCs] using this
  have gb':All2 (relC Z φ ν w) [c1,c2,c3,c4,c5,c6,c7,c8,c9,c10] (ys.drop 16):=g5.drop 16
  have hold:Hold true w zs (ys.take 16):=cs_hold zs j _ (by rw [h8];exact ga) hz
  match hd:ys.drop 16,gb' with
  | [a0,a1,a2,a3,a4,a5,a6,a7,a8,a9],gb'=>
   obtain ⟨b0,b1,b2,b3,b4,b5,b6,b7,b8,b9,_⟩:=gb'
   refine ⟨ys.take 16,?_,hold⟩
   have e2:ys=ys.take 16++[cv,.int .i64 mt,lp,.int .i64 lr,rp,.int .i64 rr,gv,.int .i64 uns,nv,.int .i64 pl]:=by
    rw [<-e1 _ b0,<-e2 _ b1,<-e3 _ b2,<-e4 _ b3,<-e5 _ b4,<-e6 _ b5,<-e7 _ b6,<-e8 _ b7,<-e9 _ b8,<-e10 _ b9,<-hd]
    exact e
   rw [hk,e0 _ hy]
   generalize ys.take 16=t at e2
   subst e2
   rfl
theorem xrunP {w0:World}{ψ:Nat->Option (Nat×Nat)}{sp:Spec}{bodies:FuncId->Option Func}{R:Ending->World->Prop}(hsp:SpecOk Z w0 ψ sp)(hbo:BodiesOk Z bodies){kb:List Nat}{nx:Nat}{rb:List Nat}(hψ:∀ b x,ψ b=some x->kb.contains b=true){n:Nat}{ks:List (K (List AT))}{s:AS}{xt:XT}
  (ht:(run Z sp bodies (drawA Z sp) (fun _=>false) n ks s).bind (outX (nrm kb [] nx rb) (nrm kb [] nx rb))=some xt) (G:AT->AS->Prop) (hok:xt.ok G fun _ _=>False)
  (hG:∀ r s' φ' v w',G r s'->(∀ b off,r=.val (.one (.ptr b off))->kb.contains b=true->∃ k o,φ' b=some (k,o)/\v=.pointer (some ⟨k,o+off,none⟩))->RepW Z w0 ψ φ' s' w'->R (.returned v) w'):
  ∀ (kcs:List (K Act)) (φ:Nat->Option (Nat×Nat)) (a:Act) (w:World),SR Z φ s.nums w ks kcs->Rep Z w0 ψ φ s a w->sem Z.P R kcs .normal a w:=by
 intro kcs φ a w hsr hr
 obtain ⟨tr,h1,h2⟩:=bnd ht
 refine run_ok hsp hbo (drawA_ok mixed hsp) _ _ ?_ ?_ n ks s tr h1 (outX_ok h2 hok) kcs φ a w hsr hr
 ·rintro ks' s' ⟨s2,p,g1,g2,g3⟩
  exact g3.elim
 ·rintro r s' φ' v w' ⟨s2,p,g1,g2,g3⟩ hv hw'
  refine hG r s2 _ v w' g3 ?_ (nrmW_ok g1 g2 hψ hw')
  rintro b off rfl hk
  obtain ⟨k,o,e1,e2⟩:=hv
  refine ⟨k,o,?_,e2⟩
  unfold rst
  rw [hk]
  exact e1
noncomputable def bX:FuncId->Option Func:=fun f=>bif f==234 then some Tryz.f234 else none
theorem bX_ok:BodiesOk Z bX:=by
 intro f fn h
 unfold bX at h
 cases h1:f==234 with
 | true=>
  rw [h1] at h
  cases h
  have:f=234:=by simpa using h1
  subst this
  exact ⟨(fn_of Tryz.func234 rfl rfl).at',(fn_of Tryz.func234 rfl rfl).en⟩
 | false=>rw [h1] at h;cases h
section
variable (p0 q0 p1 q1 p2 q2 p3 q3 kd k:Int) (fst fur:Value)
def nsS (cs zs:List Int)(lv:Value):AS:=⟨slot [] 0 25,[(7,⟨.bool false::numCs true 0 8++[.lit nilP,.int .i64 0,.lit lv,.int .i64 0,.lit nilP,.int .i64 0,.lit nilS',.int .i64 0,.ptr 5 0,.sint .i64 k],205,true,false,false⟩),(5,ext (.sint .i64 kd::.lit fst::.lit fur::numCs true 8 8) 273)],8,(cs++zs).map fun z=>(z,1),[]⟩
def nsC (kd k:Int):List Int:=[0,0,fac1 kd k,0,0,1,0,fac2 kd k]
theorem nest_run:(run Z (tabSp tN) bX (drawA Z (tabSp tN)) (fun _=>false) 400 [.code (bodyOf Tryz.f223),.top Tryz.f223] ⟨.val (.one (.ptr 5 0))::.val (.one (.sint .i64 k))::List.replicate 23 .und,[(5,ext (.sint .i64 kd::.lit fst::.lit fur::numCs true 0 8) 273)],6,[p0,q0,p1,q1,p2,q2,p3,q3].map fun z=>(z,1),[]⟩).bind (outX (nrm [7,5] [] 8 []) (nrm [7,5] [] 8 []))
  = some (.br (decide (0<k)) (.br (decide (kd=10)) (.ret (.val (.one (.ptr 7 0))) (nsS kd k fst fur [p0,q0,p1,q1,p2,q2,p3,q3] [p0,q0,p1,q1,p2,q2,p3,q3] fur)) (.need [(fac1 kd k).natAbs<1000000000000000000] (.need [(fac2 kd k).natAbs<1000000000000000000] (.ret (.val (.one (.ptr 7 0))) (nsS kd k fst fur (nsC kd k) [p0,q0,p1,q1,p2,q2,p3,q3] fur)))))
   (.br (decide (kd=10)) (.ret (.val (.one (.ptr 7 0))) (nsS kd k fst fur [p0,q0,p1,q1,p2,q2,p3,q3] [p0,q0,p1,q1,p2,q2,p3,q3] fst)) (.need [(fac1 kd k).natAbs<1000000000000000000] (.need [(fac2 kd k).natAbs<1000000000000000000] (.ret (.val (.one (.ptr 7 0))) (nsS kd k fst fur (nsC kd k) [p0,q0,p1,q1,p2,q2,p3,q3] fst)))))):=by kernel_rfl
end
theorem nest_calls {w:World}{nb:Nat}{kd k:Int}{fst fur:Value}{xs post:List Value}{zs:List Int}(hblk:w.heap[nb]?=some (.cells (.int .i64 kd::fst::fur::xs++post).toArray 273 (0,0)))(hx:Hold true w zs xs)(h8:zs.length=8)(hb:∀ z∈zs,Bits 1 z)(o1:One fst)(o2:One fur)(hf:kd≠10->(fac1 kd k).natAbs<1000000000000000000/\(fac2 kd k).natAbs<1000000000000000000):
  Calls Tryz.prog 223 #[ptrB nb,.int .i64 k] w fun e w'=>∃ m,e=.returned (ptrB m)/\Below w.heap.size w w'/\w.heap.size<=m/\NodeAt w' m (if kd=10 then zs else nsC kd k) false 0 0 0 0 k (if 0<k then fur else fst) nilP nilS' nilP (ptrB nb):=by
 obtain ⟨p0,q0,p1,q1,p2,q2,p3,q3,rfl⟩:=eight h8
 have F:=fn_of Tryz.func223 rfl rfl
 have hrep:RepW Z w (ph1 5 nb) (ph1 5 nb) ⟨.val (.one (.ptr 5 0))::.val (.one (.sint .i64 k))::List.replicate 23 .und,[(5,ext (.sint .i64 kd::.lit fst::.lit fur::numCs true 0 8) 273)],6,[p0,q0,p1,q1,p2,q2,p3,q3].map fun z=>(z,1),[]⟩ w:=by
  refine rep_ext rfl ?_ ?_ ?_
  ·intro b B hB
   have:=look_mem hB
   simp at this
   obtain ⟨rfl,rfl⟩:=this
   refine ⟨rfl,rfl,rfl,nb,0,rfl,[],.int .i64 kd::fst::fur::xs,post,hblk,rfl,rfl,⟨rfl,o1⟩,⟨rfl,o2⟩,?_⟩
   exact hold_cs [p0,q0,p1,q1,p2,q2,p3,q3] xs 0 _ hx hb fun j z hz=>by rw [Nat.zero_add,List.getElem?_map,hz];rfl
  ·intro b hb
   have:6<=b:=hb
   unfold ph1
   rw [if_neg (by omega)]
  ·intro b k' o hb'
   unfold ph1 at hb'
   split at hb'
   ·cases hb';exact lt_of_heap hblk
   ·cases hb'
 have hkb:∀ b x,ph1 5 nb b=some x->[7,5].contains b=true:=fun b x e=>by
  unfold ph1 at e
  split at e
  ·subst_vars;rfl
  ·cases e
 refine calls_x F (φ:=ph1 5 nb) (vs:=[.one (.ptr 5 0),.one (.sint .i64 k)]) (args:=[ptrB nb,.int .i64 k]) (by kernel_rfl) ⟨⟨nb,0,rfl,rfl⟩,rfl,trivial⟩ hrep ?_
 refine xrunP (tabSp_ok tN_ok) bX_ok hkb (nest_run p0 q0 p1 q1 p2 q2 p3 q3 kd k fst fur) (fun r s=>r=.val (.one (.ptr 7 0))/\s=nsS kd k fst fur (if kd=10 then [p0,q0,p1,q1,p2,q2,p3,q3] else nsC kd k) [p0,q0,p1,q1,p2,q2,p3,q3] (if 0<k then fur else fst)) ?_ ?_
 ·have hh:∀ {a:Prop},a->Holds [a]:=fun ha x hx=>by simp at hx;rw [hx];exact ha
  refine ⟨fun e1=>⟨fun e2=>⟨rfl,?_⟩,fun e2=>⟨hh (hf (of_decide_eq_false e2)).1,hh (hf (of_decide_eq_false e2)).2,rfl,?_⟩⟩,fun e1=>⟨fun e2=>⟨rfl,?_⟩,fun e2=>⟨hh (hf (of_decide_eq_false e2)).1,hh (hf (of_decide_eq_false e2)).2,rfl,?_⟩⟩⟩
  ·rw [if_pos (of_decide_eq_true e1),if_pos (of_decide_eq_true e2)]
  ·rw [if_pos (of_decide_eq_true e1),if_neg (of_decide_eq_false e2)]
  ·rw [if_neg (of_decide_eq_false e1),if_pos (of_decide_eq_true e2)]
  ·rw [if_neg (of_decide_eq_false e1),if_neg (of_decide_eq_false e2)]
 ·rintro r s φ v w' ⟨rfl,rfl⟩ hv hw
  obtain ⟨m,o,hm1,hm2⟩:=hv 7 0 rfl rfl
  obtain ⟨m',ys,k1,k2,k3,k4⟩:=own_blk hw (b:=7) rfl rfl rfl
  rw [hm1] at k1
  cases k1
  refine ⟨m,by rw [hm2];rfl,RepF.below hw rfl,k4,?_⟩
  have hl:(if kd=10 then [p0,q0,p1,q1,p2,q2,p3,q3] else nsC kd k).length=8:=by split<;>rfl
  refine node_at k3 k2 hl ?_ (fun x hx=>hx) (fun x hx=>hx.1) (fun x hx=>hx) (fun x hx=>hx.1) (fun x hx=>hx) (fun x hx=>hx.1) (fun x hx=>hx) (fun x hx=>hx.1) (fun x hx=>hx) ?_ (fun x hx=>hx)
  ·intro i z hz
   refine ⟨1,?_⟩
   rw [Nat.zero_add]
   show (((if kd=10 then [p0,q0,p1,q1,p2,q2,p3,q3] else nsC kd k)++[p0,q0,p1,q1,p2,q2,p3,q3]).map fun z=>(z,1))[i]?=_
   rw [List.getElem?_map,List.getElem?_append_left (List.getElem?_eq_some_iff.1 hz).1,hz]
   rfl
  ·intro x hx
   exact ptr_val (ν:=[]) (w:=w') (hw.base 5 (nb,0) rfl) hx
end Ab
open Go.RowKit
namespace Ab
def b5 (kd:Int)(fst fur:Value)(xs:List Value):Box:=ext (.sint .i64 kd::.lit fst::.lit fur::xs.map .lit) 273
def spN (cols:List Int)(lv nv:Value)(k:Int)(B5:Box):Spec:=fun f _ ν id bx vs=>bif f==223 then (match vs with
 | [.one (.ptr 5 0),.one (.sint .i64 m)]=>(bx 5).map fun B=>(cols.map (fun z=>(z,1)),.val (.one (.ptr id 0)),[m=k,B=B5],some ⟨.sbool false::numCs true ν.length 8++[.lit nilP,.sint .i64 0,.lit lv,.sint .i64 0,.lit nilP,.sint .i64 0,.lit nilS',.sint .i64 0,.lit nv,.sint .i64 k],205,true,false,false⟩)
 | _=>none) else none
theorem lits_eq {φ:Nat->Option (Nat×Nat)}{ν:List (Int×Nat)}{w:World}:∀ (xs ys:List Value),All2 (relC Z φ ν w) (xs.map .lit) ys->ys=xs
 | [],[],_=>rfl
 | [],_::_,h=>h.elim
 | _::_,[],h=>h.elim
 | x::xs,y::ys,⟨h1,h2⟩=>by rw [lits_eq xs ys h2,h1.1]
theorem lits_of {φ:Nat->Option (Nat×Nat)}{ν:List (Int×Nat)}{w:World}:∀ (xs:List Value),(∀ x∈xs,One x)->All2 (relC Z φ ν w) (xs.map .lit) xs
 | [],_=>trivial
 | x::xs,h=>⟨⟨rfl,h x (by simp)⟩,lits_of xs fun y hy=>h y (by simp [hy])⟩
theorem spN_ok {w:World}{ψ:Nat->Option (Nat×Nat)}{nb:Nat}{kd k:Int}{fst fur:Value}{xs:List Value}{zs:List Int}(hψ:ψ 5=some (nb,0))(hx:Hold true w zs xs)(h8:zs.length=8)(hb:∀ z∈zs,Bits 1 z)(o1:One fst)(o2:One fur)(hf:kd≠10->(fac1 kd k).natAbs<1000000000000000000/\(fac2 kd k).natAbs<1000000000000000000):SpecOk Z w ψ (spN (if kd=10 then zs else nsC kd k) (if 0<k then fur else fst) (ptrB nb) k (b5 kd fst fur xs)):=by
 intro f dd ν id bx vs ν' r p nbx h
 unfold spN at h
 cases hf':f==223 with
 | false=>rw [hf'] at h;cases h
 | true=>
  rw [hf'] at h
  have:f=223:=by simpa using hf'
  subst this
  refine ⟨(fn_of Tryz.func223 rfl rfl).en,fun hp μ hμ φ w1 ys hφ _ hon hbx hys=>?_⟩
  simp only [cond_true] at h
  split at h
  ·rename_i m
   obtain ⟨B,hB,h⟩:=mpd h
   cases h
   match ys,hys with
   | [y1,y2],⟨h1,h2,_⟩=>
   have hm:m=k:=hp (m=k) (by simp)
   have hBe:B=b5 kd fst fur xs:=hp (B=b5 kd fst fur xs) (by simp)
   have h2:y2=.int .i64 m:=h2
   rw [ptr_val (hφ 5 _ hψ) h1,h2,hm]
   obtain ⟨k',o,pre,us,post,g1,g2,g3,g4⟩:=hbx 5 B hB
   rw [hφ 5 _ hψ] at g1
   cases g1
   have hpre:pre=[]:=List.length_eq_zero_iff.1 g3
   subst hpre
   rw [hBe] at g4 g2
   match us,g4 with
   | u1::u2::u3::us,⟨e1,e2,e3,e4⟩=>
   have e1:u1=.int .i64 kd:=e1
   have e2:u2=fst:=e2.1
   have e3:u3=fur:=e3.1
   have e4:=lits_eq xs us e4
   subst e1 e2 e3 e4
   refine (nest_calls (w:=w1) (nb:=nb) (kd:=kd) (k:=k) (post:=post) g2 (hold_on hon hx) h8 hb o1 o2 hf).mono ?_
   rintro e w' ⟨mm,rfl,hbel,hge,hnd⟩
   obtain ⟨xs2,n1,n2⟩:=hnd.ex
   have hcl:(if kd=10 then zs else nsC kd k).length=8:=by split;exact h8;rfl
   refine ⟨_,rfl,hbel,rfl,fun e=>(by cases e),mm,0,[],_,[],hge,by simpa using n1,rfl,?_,⟨mm,0,upd_same _ _ _,rfl⟩,fun _=>⟨rfl,rfl⟩⟩
   have hbits:∀ z∈(if kd=10 then zs else nsC kd k),Bits 1 z:=by
    split
    ·exact hb
    ·rename_i hkd
     obtain ⟨f1,f2⟩:=hf hkd
     have big:∀ z:Int,z.natAbs<1000000000000000000->Bits 1 z:=fun z hz=>bits_up (N:=60) (by decide) (Nat.lt_trans hz (by decide))
     intro z hz
     simp only [nsC,List.mem_cons,List.not_mem_nil,or_false] at hz
     rcases hz with rfl | rfl | rfl | rfl | rfl | rfl | rfl | rfl
     all_goals first | exact big _ f1 | exact big _ f2 | exact big _ (by decide)
   have hx2:All2 (relC Z φ μ w') (numCs true ν.length 8) xs2:=by
    rw [<-hcl]
    refine hold_cs _ xs2 ν.length μ n2 hbits fun j z hz=>hμ _ _ ?_
    rw [List.getElem?_append_right (by omega),show ν.length+j-ν.length=j by omega,List.getElem?_map,hz]
    rfl
   have olv:One (if 0<k then u3 else u2):=by split<;>assumption
   exact All2.append (show All2 (relC Z φ μ w') (.sbool false::numCs true ν.length 8) (.bool false::xs2) from ⟨rfl,hx2⟩) ⟨⟨rfl,rfl⟩,rfl,⟨rfl,olv⟩,rfl,⟨rfl,rfl⟩,rfl,⟨rfl,rfl⟩,rfl,⟨rfl,rfl⟩,rfl,trivial⟩
  ·cases h
section
variable (p0 q0 p1 q1 p2 q2 p3 q3 c0 c1 c2 c3 c4 c5 c6 c7:Int) (hs:Bool) (uns mt lr rr pl c kd:Int) (lp cst gv fst fur lv nv x0 x1 x2 x3 x4 x5 x6 x7 x8 x9 x10 x11 x12 x13 x14 x15:Value)
def nvB:AC->AC->Box:=fun rp nv=>⟨ndC hs uns mt lr rr pl (.lit lp) rp (.lit cst) nv (.lit gv),205,false,false,false⟩
theorem rr_6:(run Z (orSp (spN [c0,c1,c2,c3,c4,c5,c6,c7] lv nv (IntKind.i64.wrap (pl+1)) (b5 kd fst fur [x0,x1,x2,x3,x4,x5,x6,x7,x8,x9,x10,x11,x12,x13,x14,x15])) (tabSp tN)) bW (drawA Z (orSp (spN [c0,c1,c2,c3,c4,c5,c6,c7] lv nv (IntKind.i64.wrap (pl+1)) (b5 kd fst fur [x0,x1,x2,x3,x4,x5,x6,x7,x8,x9,x10,x11,x12,x13,x14,x15])) (tabSp tN))) (atOp (opCalls 125)) 400 [.code (bodyOf Tryz.f210),.top Tryz.f210] (sW [p0,q0,p1,q1,p2,q2,p3,q3] hs uns mt lr rr pl c (.lit lp) (.lit nilP) (.lit cst) (.ptr 5 0) (.lit gv) [(5,b5 kd fst fur [x0,x1,x2,x3,x4,x5,x6,x7,x8,x9,x10,x11,x12,x13,x14,x15])] (argT 66))).bind (outX (nrm [0,6,17,5] [] 22 []) (nrm [0,6,17,5] [0,1,36,37] 22 []))
  = some (.need [IntKind.i64.wrap (pl+1)=IntKind.i64.wrap (pl+1),b5 kd fst fur [x0,x1,x2,x3,x4,x5,x6,x7,x8,x9,x10,x11,x12,x13,x14,x15]=b5 kd fst fur [x0,x1,x2,x3,x4,x5,x6,x7,x8,x9,x10,x11,x12,x13,x14,x15]] (.stp (bef (opCalls 125) Tryz.f210)
   ⟨slot [(0,P0),(1,P6),(36,.val (.agg [.ptr 17 0,.sint .i64 rr])),(37,P6)] 0 68,[(0,nvB hs uns mt lr rr pl lp cst gv (.ptr 17 0) (.ptr 5 0)),(6,fuW c),(17,⟨.sbool false::numCs true 8 8++[.lit nilP,.sint .i64 0,.lit lv,.sint .i64 0,.lit nilP,.sint .i64 0,.lit nilS',.sint .i64 0,.lit nv,.sint .i64 (IntKind.i64.wrap (pl+1))],205,true,false,false⟩),(5,b5 kd fst fur [x0,x1,x2,x3,x4,x5,x6,x7,x8,x9,x10,x11,x12,x13,x14,x15])],22,[(p0,10),(q0,10),(p1,10),(q1,10),(p2,10),(q2,10),(p3,10),(q3,10),(c0,1),(c1,1),(c2,1),(c3,1),(c4,1),(c5,1),(c6,1),(c7,1)],[0]⟩)):=by kernel_rfl
end
theorem sixteen {xs:List Value}(h:xs.length=16):∃ x0 x1 x2 x3 x4 x5 x6 x7 x8 x9 x10 x11 x12 x13 x14 x15,xs=[x0,x1,x2,x3,x4,x5,x6,x7,x8,x9,x10,x11,x12,x13,x14,x15]:=by
 match xs,h with
 | [x0,x1,x2,x3,x4,x5,x6,x7,x8,x9,x10,x11,x12,x13,x14,x15],_=>exact ⟨x0,x1,x2,x3,x4,x5,x6,x7,x8,x9,x10,x11,x12,x13,x14,x15,rfl⟩
section
variable {w:World} {k fb:Nat} {p0 q0 p1 q1 p2 q2 p3 q3:Int} {hs:Bool} {uns mt lr rr pl c:Int} {lp rp gv cv nv:Value} {R:Ending->World->Prop}
theorem readRight_nest (h:Pos2 w k fb [p0,q0,p1,q1,p2,q2,p3,q3] hs uns mt lr rr pl c lp nilP gv cv nv){nb:Nat}{kd:Int}{fst fur:Value}{xs:List Value}{zs:List Int}(hnv:nv=ptrB nb)(hblk:w.heap[nb]?=some (.cells (.int .i64 kd::fst::fur::xs).toArray 273 (0,0)))(hx:Hold true w zs xs)(h8:zs.length=8)(hb:∀ z∈zs,Bits 1 z)(o1:One fst)(o2:One fur)(hf:kd≠10->(fac1 kd (IntKind.i64.wrap (pl+1))).natAbs<1000000000000000000/\(fac2 kd (IntKind.i64.wrap (pl+1))).natAbs<1000000000000000000)
  (hun:∀ w1 m,Chg w w1 [k]->w.heap.size<=m->Pos2 w1 k fb [p0,q0,p1,q1,p2,q2,p3,q3] hs uns mt lr rr pl c lp (ptrB m) gv cv nv->NodeAt w1 m (if kd=10 then zs else nsC kd (IntKind.i64.wrap (pl+1))) false 0 0 0 0 (IntKind.i64.wrap (pl+1)) (if 0<IntKind.i64.wrap (pl+1) then fur else fst) nilP nilS' nilP (ptrB nb)->Calls Tryz.prog 125 #[.agg #[ptrB m,.int .i64 rr],ptrB fb] w1 fun e w2=>∃ cd,e=.returned (.int .i64 cd)/\RrA w2 k fb cd R):
  Calls Tryz.prog 210 #[ptrB k,ptrB fb] w R:=by
 obtain ⟨n1,n2⟩:=h.ty_ne hblk (by decide) (by decide)
 have hxl:=hold_len zs xs hx
 rw [h8] at hxl
 have hones:∀ x∈xs,One x:=all_ones (C:=Z) (φ:=fun _=>none) (ν:=zs.map fun z=>(z,1)) (w:=w) (hold_cs zs xs 0 _ hx hb fun j z hz=>by rw [Nat.zero_add,List.getElem?_map,hz];rfl)
 have hsp:=spN_ok (ψ:=phW k fb (ph1 5 nb)) (nb:=nb) (kd:=kd) (k:=IntKind.i64.wrap (pl+1)) (fst:=fst) (fur:=fur) rfl hx h8 hb o1 o2 hf
 obtain ⟨c0,c1,c2,c3,c4,c5,c6,c7,hcols⟩:=eight (zs:=if kd=10 then zs else nsC kd (IntKind.i64.wrap (pl+1))) (by split;exact h8;rfl)
 rw [hcols] at hsp hun
 obtain ⟨x0,x1,x2,x3,x4,x5,x6,x7,x8,x9,x10,x11,x12,x13,x14,x15,rfl⟩:=sixteen hxl
 have F:=fn_of Tryz.func210 rfl rfl
 have hrep:=h.repX (exφ:=ph1 5 nb) (ex:=[(5,b5 kd fst fur [x0,x1,x2,x3,x4,x5,x6,x7,x8,x9,x10,x11,x12,x13,x14,x15])]) (rpC:=.lit nilP) (cvC:=.lit cv) (nvC:=.ptr 5 0) ⟨rfl,rfl⟩ ⟨rfl,h.o4⟩ ⟨nb,0,rfl,hnv⟩ (by
  intro b B hB
  have:=look_mem hB
  simp only [List.mem_cons,List.not_mem_nil,or_false,Prod.mk.injEq] at this
  obtain ⟨rfl,rfl⟩:=this
  exact ⟨rfl,rfl,rfl,nb,0,rfl,n1,n2,[],.int .i64 kd::fst::fur::[x0,x1,x2,x3,x4,x5,x6,x7,x8,x9,x10,x11,x12,x13,x14,x15],[],hblk,rfl,rfl,⟨rfl,o1⟩,⟨rfl,o2⟩,lits_of _ hones⟩) (by
  intro b k' o hb'
  unfold ph1 at hb'
  split at hb'
  ·cases hb';exact lt_of_heap hblk
  ·cases hb') (argT 66)
 have hkb:∀ b x,phW k fb (ph1 5 nb) b=some x->[0,6,17,5].contains b=true:=phX_kb rfl rfl fun b x e=>by
  unfold ph1 at e
  split at e
  ·subst_vars;rfl
  ·cases e
 refine calls_x F (φ:=phW k fb (ph1 5 nb)) (vs:=[.one (.ptr 0 0),.one (.ptr 6 0)]) (args:=[ptrB k,ptrB fb]) (by kernel_rfl) ⟨⟨k,0,rfl,rfl⟩,⟨fb,0,rfl,rfl⟩,trivial⟩ hrep ?_
 refine xrun' (orSp_ok hsp (tabSp_ok tN_ok)) bW_ok hkb (nrm_R hkb) (rr_6 p0 q0 p1 q1 p2 q2 p3 q3 c0 c1 c2 c3 c4 c5 c6 c7 hs uns mt lr rr pl c kd lp cv gv fst fur (if 0<IntKind.i64.wrap (pl+1) then fur else fst) (ptrB nb) x0 x1 x2 x3 x4 x5 x6 x7 x8 x9 x10 x11 x12 x13 x14 x15) (fun _ _=>False)
  (fun ks s=>ks=bef (opCalls 125) Tryz.f210/\s=⟨slot [(0,P0),(1,P6),(36,.val (.agg [.ptr 17 0,.sint .i64 rr])),(37,P6)] 0 68,[(0,nvB hs uns mt lr rr pl lp cv gv (.ptr 17 0) (.ptr 5 0)),(6,fuW c),(17,⟨.sbool false::numCs true 8 8++[.lit nilP,.sint .i64 0,.lit (if 0<IntKind.i64.wrap (pl+1) then fur else fst),.sint .i64 0,.lit nilP,.sint .i64 0,.lit nilS',.sint .i64 0,.lit (ptrB nb),.sint .i64 (IntKind.i64.wrap (pl+1))],205,true,false,false⟩),(5,b5 kd fst fur [x0,x1,x2,x3,x4,x5,x6,x7,x8,x9,x10,x11,x12,x13,x14,x15])],22,[(p0,10),(q0,10),(p1,10),(q1,10),(p2,10),(q2,10),(p3,10),(q3,10),(c0,1),(c1,1),(c2,1),(c3,1),(c4,1),(c5,1),(c6,1),(c7,1)],[0]⟩)
  ⟨fun x hx=>by simp at hx;exact hx,rfl,rfl⟩ (fun _ _ _ _ _ h=>h.elim) ?_
 rintro ks s ⟨rfl,rfl⟩
 refine ⟨by kernel_rfl,fun kcs φ1 a1 w1 hsr1 hr1=>?_⟩
 obtain ⟨m,ys,k1,k2,k3,k4⟩:=own_blk hr1.wd (b:=17) rfl rfl rfl
 have hch:Chg w w1 [k]:=⟨hr1.wd.on,fun j hj hn=>hr1.wd.low j hj fun b hb o e=>by
  simp only [List.mem_singleton] at hb
  subst hb
  rw [hr1.wd.base 0 (k,0) rfl] at e
  cases e
  exact hn (by simp)⟩
 have hnode:NodeAt w1 m [c0,c1,c2,c3,c4,c5,c6,c7] false 0 0 0 0 (IntKind.i64.wrap (pl+1)) (if 0<IntKind.i64.wrap (pl+1) then fur else fst) nilP nilS' nilP (ptrB nb):=by
  refine node_at (j:=8) k3 k2 rfl ?_ (fun x hx=>hx) (fun x hx=>hx.1) (fun x hx=>hx) (fun x hx=>hx.1) (fun x hx=>hx) (fun x hx=>hx.1) (fun x hx=>hx) (fun x hx=>hx.1) (fun x hx=>hx) (fun x hx=>hx.1) (fun x hx=>hx)
  intro i z hz
  refine ⟨1,?_⟩
  match i,hz with
  | 0,hz=>cases hz;rfl
  | 1,hz=>cases hz;rfl
  | 2,hz=>cases hz;rfl
  | 3,hz=>cases hz;rfl
  | 4,hz=>cases hz;rfl
  | 5,hz=>cases hz;rfl
  | 6,hz=>cases hz;rfl
  | 7,hz=>cases hz;rfl
  | i+8,hz=>simp at hz
 have hp1:Pos2 w1 k fb [p0,q0,p1,q1,p2,q2,p3,q3] hs uns mt lr rr pl c lp (ptrB m) gv cv nv:=by
  obtain ⟨⟨lp2,rp2,gv2,cv2,nv2,g1,⟨e1,g2⟩,⟨kr,orr,e2,g3⟩,⟨e3,g4⟩,⟨e4,g5⟩,⟨kn,on,e5,g6⟩⟩,g7⟩:=sW_out (ns:=[]) hr1.wd (hs:=hs) (uns:=uns) (mt:=mt) (lr:=lr) (rr:=rr) (pl:=pl) (c:=c) (lpC:=.lit lp) (rpC:=.ptr 17 0) (gvC:=.lit gv) (cvC:=.lit cv) (nvC:=.ptr 5 0) rfl rfl (h.nd.shape h.h8) (fuel_shape h.fu) (zs:=[p0,q0,p1,q1,p2,q2,p3,q3]) rfl (by
   intro i z hz
   refine ⟨10,?_⟩
   match i,hz with
   | 0,hz=>cases hz;rfl
   | 1,hz=>cases hz;rfl
   | 2,hz=>cases hz;rfl
   | 3,hz=>cases hz;rfl
   | 4,hz=>cases hz;rfl
   | 5,hz=>cases hz;rfl
   | 6,hz=>cases hz;rfl
   | 7,hz=>cases hz;rfl
   | i+8,hz=>simp at hz)
  rw [k1] at e2
  cases e2
  rw [hr1.wd.base 5 (nb,0) rfl] at e5
  cases e5
  have g3':rp2=ptrB m:=by rw [g3];rfl
  have g6':nv2=nv:=by rw [g6,hnv];rfl
  rw [e1,g3',e3,e4,g6'] at g1
  exact ⟨g1,g7,h.bits,rfl,h.o1,rfl,h.o3,h.o4,h.o5⟩
 refine callAt_ok (f:=125) (vs:=[.agg [.ptr 17 0,.sint .i64 rr],.one (.ptr 6 0)]) (dst:=some 38) (ks2:=aft (opCalls 125) Tryz.f210) (by kernel_rfl) (fn_of Tryz.func125 rfl rfl).en (by kernel_rfl) (hsr1 φ1 [] w1) hr1 ?_
 intro us hus
 match us,hus with
 | [y,y2],⟨⟨zz,hy,hz⟩,hy2,_⟩=>
 match zz,hz with
 | [z1,z2],⟨hz1,hz2,_⟩=>
 have hz1:z1=ptrB m:=ptr_val (ν:=[]) (w:=w1) k1 hz1
 have hz2:z2=.int .i64 rr:=hz2
 rw [ptr_val (hr1.wd.base 6 (fb,0) rfl) hy2,hy,hz1,hz2]
 refine (hun w1 m hch k4 hp1 hnode).mono ?_
 rintro e w2 ⟨cd,rfl,hA⟩
 exact ⟨_,rfl,fun kcs2 hf2 hsr2=>rr_tail hr1 (by kernel_rfl) (by kernel_rfl) (hr1.wd.base 0 (k,0) rfl) (hr1.wd.base 6 (fb,0) rfl) hA kcs2 hsr2⟩
end
end Ab
end Go.Proofs.YteghhlfmcjmnoaaGreatDoor
