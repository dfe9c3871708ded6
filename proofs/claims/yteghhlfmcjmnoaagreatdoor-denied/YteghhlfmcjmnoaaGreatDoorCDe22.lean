import Derived.Test.YteghhlfmcjmnoaaGreatDoorCDe21
import Derived.Test.YteghhlfmcjmnoaaGreatDoorCDe04
import Derived.BigQuiet
import Derived.Deep.Trees
set_option linter.unusedSimpArgs false
set_option linter.unusedVariables false
set_option maxRecDepth 100000
set_option maxHeartbeats 2000000
namespace Go.Proofs.YteghhlfmcjmnoaaGreatDoor
open Go.RowKit
namespace Ab
open Rf (Nd Inv NInv Wt)
structure NbAt (w:World) (b0 nb fb:Nat) (own:Nat->Option Own) (at1:Nat->Nat) (s:Rf.St) (top r:Nat):Prop where
 net:Net w b0 own at1 fb s
 blk:w.heap[nb]?=some (.cells #[ptrB (at1 top),.int .i64 r,ptrB fb] 197 (0,0))
 ow:own nb=none
 bs:b0<=w.heap.size
 nlo:b0<=nb
 nw:∀ k,k<b0->own k=none
theorem new_ok {t:Wt}{w:World}{v:Value}{c:Nat}(hok:t.Ok)(hp:PartAt w t v)(hc:c<=3000):Calls Tryz.prog 76 #[v,.int .i64 c] w fun e w'=>∃ ns d own at1 nb fb,Rf.of t []=some (ns,d)/\e=.returned (ptrB nb)/\Chg w w' []/\NbAt w' w.heap.size nb fb own at1 ⟨ns,c⟩ d 0:=by
 have F:=fn_of Tryz.func76 rfl rfl
 refine calls_x F (φ:=fun _=>none) (vs:=[.one (.lit v),.one (.sint .i64 c)]) (args:=[v,.int .i64 c]) (s:=sNw v c (litT v::sintT c::List.replicate 15 .und)) (by kernel_rfl) ⟨⟨rfl,one_ptr hp⟩,rfl,trivial⟩ rep_emp ?_
 have hkb:∀ b x,(fun _:Nat=>(none:Option (Nat×Nat))) b=some x->([]:List Nat).contains b=true:=fun b x e=>by cases e
 refine xrun' (tabSp_ok tN_ok) bT_ok hkb (nrm_R hkb) (nw_w v c) (fun _ _=>False) (fun ks s=>ks=bef (pD 7) Tryz.f76/\s=sNw v c (slot [(1,sintT c),(6,litT v)] 0 17)) ⟨rfl,rfl⟩ (fun _ _ _ _ _ h=>h.elim) ?_
 rintro ks s ⟨rfl,rfl⟩
 refine ⟨nw_f,fun kcs φ1 a1 w1 hsr1 hr1=>?_⟩
 have c1:Chg w w1 []:=Chg.of_below (RepF.below hr1.wd rfl)
 refine callAt_ok (nw_c v c) (fn_of Tryz.func124 rfl rfl).en nw_f (hsr1 φ1 [] w1) hr1 fun us hus=>?_
 match us,hus with
 | [u1],⟨hu1,_⟩=>
 have hu1:u1=v:=hu1.1
 rw [hu1]
 obtain ⟨ns',rho',d,hof,gr,hd,_⟩:=Rf.of_inv t [] (fun _=>0) hok hc (Rf.inv_nil _ c)
 refine (made_ok t w1 w.heap.size (fun _=>none) (fun _=>0) [] (fun _=>0) c v (fun i n h=>by simp at h) c1.on.size hc (Rf.inv_nil _ c) hok (PartAt.keep c1.on t v hp)).mono ?_
 rintro e w2 ⟨ns1,d1,own2,at2,e2,rfl,g⟩
 rw [hof] at e2
 cases e2
 have hn1:ns'[d]?=some ns'[d]:=List.getElem?_eq_getElem hd
 obtain ⟨⟨ys,hblk⟩,hhad⟩:=nod_blk g.nod hn1
 refine ⟨ptrB (at2 d),rfl,fun kcs2 hf2 hsr2=>?_⟩
 generalize (!ns'[d].pos)=b at hblk
 have hr2:Rep Z w2 (ph1 1 (at2 d)) (ph1 1 (at2 d)) (sG3 b (slot [(1,sintT c),(7,.val (.one (.ptr 1 0)))] 0 17)) (a1.put (some 7) (ptrB (at2 d))) w2:=rep_aft (kb:=[]) (kt:=[1]) (r:=.val (.one (.ptr 1 0))) hr1 (head_rep hblk rfl) (by kernel_rfl) (fun b hb=>by simp at hb) ⟨at2 d,0,rfl,rfl⟩
 refine run_ok (tabSp_ok tN_ok) bT_ok (drawA_ok mixed (tabSp_ok tN_ok)) (fun r s=>r=.val (.one (.ptr 3 0))/\look s.boxes 3=some ⟨[.ptr 1 0,.int .i64 0,.ptr 2 0],197,true,false,false⟩/\look s.boxes 2=some ⟨[.sint .i64 c],195,true,false,false⟩/\clean s=true) (fun _ _=>False) (fun _ _ h=>h.elim) ?_ _ _ _ _ (nw_t c b) ⟨rfl,nw_3 c b,nw_2 c b,nw_l c b⟩ kcs2 _ _ w2 (hsr2 _ _ _) hr2
 rintro r s φ x w3 ⟨rfl,l3,l2,hcl⟩ hrel hw
 have c3:Chg w2 w3 []:=Chg.of_below (RepF.below hw hcl)
 obtain ⟨nb,y3,j1,j2,j3,j4⟩:=own_blk hw l3 rfl rfl
 obtain ⟨fb,y2,i1,i2,i3,i4⟩:=own_blk hw l2 rfl rfl
 have hx1:φ 1=some (at2 d,0):=hw.base 1 (at2 d,0) rfl
 have hv:x=ptrB nb:=ptr_v (ν:=s.nums) (w:=w3) j1 x hrel
 have e3:y3=[ptrB (at2 d),.int .i64 0,ptrB fb]:=by
  match y3,j3 with
  | [a,b,c],⟨h1,h2,h3,_⟩=>
   have h1:a=ptrB (at2 d):=ptr_v (ν:=s.nums) (w:=w3) hx1 a h1
   have h2:b=.int .i64 0:=h2
   have h3:c=ptrB fb:=ptr_v (ν:=s.nums) (w:=w3) i1 c h3
   rw [h1,h2,h3]
 have e2:y2=[.int .i64 c]:=by
  match y2,i3 with
  | [a],⟨h1,_⟩=>
   have h1:a=.int .i64 c:=h1
   rw [h1]
 rw [e3] at j2
 rw [e2] at i2
 have hsz:w.heap.size<=w2.heap.size:=Nat.le_trans c1.on.size g.chg.on.size
 have hN:=g.nod.more (own':=fun k=>if k<w2.heap.size then own2 k else none) (at2:=at2) (new:=[]) gr.inv c3 (fun k hk=>if_pos hk) (fun _ _=>rfl) (fun j mm hj=>by simp at hj)
 rw [List.append_nil] at hN
 refine ⟨ns',d,_,at2,nb,fb,hof,by rw [hv],(c1.trans g.chg).trans c3,⟨⟨hN,i2,Nat.le_trans hsz i4⟩,j2,?_,Nat.le_trans hsz c3.on.size,Nat.le_trans hsz j4,fun k hk=>?_⟩⟩
 ·exact if_neg (by omega)
 ·show (if k<w2.heap.size then own2 k else none)=none
  rw [if_pos (by omega),g.own k (Nat.lt_of_lt_of_le hk c1.on.size)]
structure NextR (w:World) (b0 nb fb:Nat) (own:Nat->Option Own) (at1:Nat->Nat) (s:Rf.St) (top r:Nat) (x:Rf.St×Option Int) (w':World):Prop where
 on:On Z.bt w w'
 low:∀ k,k<b0->w'.heap[k]?=w.heap[k]?
 kept:∀ k,k<w.heap.size->own k=none->k≠fb->k≠nb->w'.heap[k]?=w.heap[k]?
 some:x.2.isSome=true->∃ own' at2,NbAt w' b0 nb fb own' at2 x.1 top (r+1)/\∀ k,k<w.heap.size->own k=none->own' k=none
theorem sNx_rep {w:World}{nb r:Nat}{k f:Value}(ok:One k)(of:One f)(h:w.heap[nb]?=some (.cells #[k,.int .i64 r,f] 197 (0,0)))(tm:List AT):RepW Z w (ph1 0 nb) (ph1 0 nb) (sNx k r f tm) w:=by
 refine rep_wr rfl ?_ ?_ ?_ ?_
 ·intro b B hB
  have:=look_mem hB
  simp only [sNx,List.mem_singleton,Prod.mk.injEq] at this
  obtain ⟨rfl,rfl⟩:=this
  exact ⟨rfl,rfl,nb,0,rfl,[],[k,.int .i64 r,f],[],h,rfl,⟨rfl,ok⟩,rfl,⟨rfl,of⟩,trivial⟩
 ·intro b b' B B' k1 o o' h1 h2 h3 h4
  have e1:=look_mem h1
  have e2:=look_mem h2
  simp only [sNx,List.mem_singleton,Prod.mk.injEq] at e1 e2
  exact Or.inl (by rw [e1.1,e2.1])
 ·intro b hb
  have:1<=b:=hb
  unfold ph1
  rw [if_neg (by omega)]
 ·intro b k' o hb'
  unfold ph1 at hb'
  split at hb'
  ·cases hb';exact lt_of_heap h
  ·cases hb'
theorem next_ok {w:World}{b0 nb fb:Nat}{own:Nat->Option Own}{at1:Nat->Nat}{s:Rf.St}{top r c f:Nat}{rho:Nat->Nat}{n:Nd}{x:Rf.St×Option Int}(h:NbAt w b0 nb fb own at1 s top r)(hcl:s.clock=(c:Int))(hc:c<=3000)(hI:Inv s.nodes rho c)(hn:s.nodes[top]?=some n)(hr:r<=n.out.length)(hr1:r<=1000000)(hf:c+rho top+2<=f)(hx:Rf.sym f s top r=some x)(hxI:x.2.isSome=true->∃ rho c,Inv x.1.nodes rho c):
  Calls Tryz.prog 78 #[ptrB nb] w fun e w'=>e=.returned (.int .i64 (codeO x.2))/\NextR w b0 nb fb own at1 s top r x w':=by
 have F:=fn_of Tryz.func78 rfl rfl
 have hlen:=(List.getElem?_eq_some_iff.1 hn).1
 have hne:nb≠fb:=by
  rintro rfl
  have:=h.blk
  rw [h.net.fuel] at this
  exact absurd (Obj.cells.inj (Option.some.inj this)).2.1 (by decide)
 refine calls_x F (φ:=ph1 0 nb) (vs:=[.one (.ptr 0 0)]) (args:=[ptrB nb]) (s:=sNx (ptrB (at1 top)) r (ptrB fb) (P0::List.replicate 24 .und)) (by kernel_rfl) ⟨⟨nb,0,rfl,rfl⟩,trivial⟩ (sNx_rep rfl rfl h.blk _) ?_
 refine xrun' (tabSp_ok tN_ok) bT_ok ph1_kb (nrm_R ph1_kb) (nx_w (ptrB (at1 top)) (ptrB fb) r) (fun _ _=>False) (fun ks s=>ks=.code (.region rX.1 rX.2.1 true)::rX.2.2/\s=sNx (ptrB (at1 top)) r (ptrB fb) (slot [(0,P0)] 0 25)) ⟨rfl,rfl⟩ (fun _ _ _ _ _ h=>h.elim) ?_
 rintro ks s0 ⟨rfl,rfl⟩
 have hfr:noFr rX.2.2=true:=nx_f
 refine ⟨by simpa [noFr] using hfr,fun kcs φ1 a1 w1 hsr1 hr1'=>?_⟩
 obtain ⟨bb,bj,bd⟩:=nx_bar
 match kcs,hsr1 φ1 [] w1 with
 | .code cc::kcs',⟨hcc,hsr2⟩=>
 subst hcc
 show (Code.region rX.1 rX.2.1 true).wp Z.P _ a1 w1
 refine draw_bar mixed (tabSp_ok tN_ok) bj bb (nx_d (ptrB (at1 top)) (ptrB fb) r) holds_nil hr1' ?_
 intro φ2 a2 w2 hr2
 rw [bd]
 have c2:Chg w w2 []:=rep_chg0 hr2.wd (nx_dd _ _ _)
 show sem Z.P _ (.ops rX.2.1 [8,9]::kcs') .normal a2 w2
 refine callAt_ok (nx_c (ptrB (at1 top)) (ptrB fb) r) (fn_of Tryz.func125 rfl rfl).en (by simpa [noFr] using hfr) (φ1:=φ2) (ν1:=[]) (w1:=w2) ⟨rfl,rfl,SR.any hfr hsr2⟩ hr2 fun us hus=>?_
 match us,hus with
 | [u1,u2],⟨⟨xs,hu1,hxs⟩,hu2,_⟩=>
 have hu2:u2=ptrB fb:=hu2.1
 have e1:xs=[ptrB (at1 top),.int .i64 r]:=by
  match xs,hxs with
  | [a,b],⟨h1,h2,_⟩=>
   have h1:a=ptrB (at1 top):=h1.1
   have h2:b=.int .i64 r:=h2
   rw [h1,h2]
 rw [hu1,hu2,e1]
 have hN2:=h.net.still hI c2
 have key:∀ w3,Chg w2 w3 []->Calls Tryz.prog 161 #[ptrB (at1 top),.int .i64 r,ptrB fb] w3 fun e w'=>e=.returned (.int .i64 (codeO x.2))/\Res w3 b0 own at1 fb s.nodes.length x.2.isSome x.1 w':=fun w3 c3=>
  symbol_ok f w3 b0 fb own at1 s rho c top r n x (hN2.still hI c3) (Nat.le_trans h.bs (Nat.le_trans c2.on.size c3.on.size)) hcl hc hI hn hr hf hx
 refine unread_calls (R:=fun e w'=>∃ v,e=.returned v/\∀ kcs2,noFr (.ops rX.2.1 [9]::rX.2.2)=true->(∀ φ' ν' w'',SR Z φ' ν' w'' (.ops rX.2.1 [9]::rX.2.2) kcs2)->sem Z.P _ kcs2 .normal (a2.put (some 12) v) w') fun w3 c3=>(key w3 c3).mono ?_
 rintro e w4 ⟨rfl,own',hk,hok⟩
 have c23:=c2.trans c3
 have hblk4:w4.heap[nb]?=some (.cells #[ptrB (at1 top),.int .i64 r,ptrB fb] 197 (0,0)):=by
  rw [hk.low nb (lt_of_heap (c23.at h.blk (by simp))) h.ow hne]
  exact c23.at h.blk (by simp)
 have on4:On Z.bt w w4:=c23.on.trans hk.on
 have kept4:∀ j,j<w.heap.size->own j=none->j≠fb->w4.heap[j]?=w.heap[j]?:=by
  intro j h1 ho hjf
  rw [hk.low j (Nat.lt_of_lt_of_le h1 c23.on.size) ho hjf,c23.low j h1 (by simp)]
 have low4:∀ j,j<b0->w4.heap[j]?=w.heap[j]?:=by
  intro j hj
  have h1:j<w.heap.size:=Nat.lt_of_lt_of_le hj h.bs
  have hjf:j≠fb:=by have:=h.net.fb0;omega
  exact kept4 j h1 (h.nw j hj) hjf
 refine ⟨codeO x.2,rfl,_,rfl,fun kcs2 hf2 hsr3=>?_⟩
 have hr3:Rep Z w4 (ph1 0 nb) (ph1 0 nb) (sNx (ptrB (at1 top)) r (ptrB fb) (slot [(0,P0),(12,sintT (codeO x.2))] 0 25)) (a2.put (some 12) (.int .i64 (codeO x.2))) w4:=rep_aft (kb:=[0]) (kt:=[0]) (r:=sintT (codeO x.2)) hr2 (sNx_rep rfl rfl hblk4 _) (nx_dt _ _ _ _).symm (fun b hb=>by
  have:b=0:=by simpa using hb
  subst this
  exact (hr2.wd.base 0 (nb,0) rfl).symm) rfl
 refine xrun' (tabSp_ok tN_ok) bT_ok ph1_kb (nrm_R ph1_kb) (nx_t (ptrB (at1 top)) (ptrB fb) r (codeO x.2)) (fun rr st=>rr=sintT (codeO x.2)/\(x.2.isSome=true->st.dirty=[0]/\look st.boxes 0=some (wrt [.lit (ptrB (at1 top)),.sint .i64 (Wr ((r:Int)+1)),.lit (ptrB fb)] 197))/\(x.2.isSome=false->st.dirty=[])) (fun _ _=>False) ?_ ?_ (fun _ _ h=>h.elim) kcs2 _ _ _ (hsr3 _ _ _) hr3
 ·cases hx2:x.2 with
  | none=>exact ⟨fun e=>(by simp [codeO] at e),fun _=>⟨rfl,fun e=>(by cases e),fun _=>rfl⟩⟩
  | some v=>exact ⟨fun _=>⟨rfl,fun _=>⟨rfl,rfl⟩,fun e=>(by cases e)⟩,fun e=>absurd (by simpa [codeO] using e) (code_ne v)⟩
 ·rintro rr st φ5 v w5 ⟨rfl,hy,hno⟩ _ hv hw5
  have hv':v=.int .i64 (codeO x.2):=hv _ _ (Or.inl rfl)
  rw [hv']
  have hd:st.dirty=[0]\/st.dirty=[]:=by
   cases hs:x.2.isSome with
   | true=>exact Or.inl (hy hs).1
   | false=>exact Or.inr (hno hs)
  have low5:∀ j,j<w4.heap.size->j≠nb->w5.heap[j]?=w4.heap[j]?:=by
   intro j hjs hjn
   refine hw5.low j hjs fun b hb o e=>?_
   rcases hd with hd | hd
   ·rw [hd] at hb
    simp only [List.mem_singleton] at hb
    subst hb
    rw [hw5.base 0 (nb,0) rfl] at e
    cases e
    exact hjn rfl
   ·rw [hd] at hb;cases hb
  refine ⟨rfl,on4.trans hw5.on,fun j hj=>?_,fun j hj ho hf hn=>?_,fun hs=>?_⟩
  ·rw [<-low4 j hj]
   exact low5 j (Nat.lt_of_lt_of_le hj (Nat.le_trans h.bs on4.size)) (by have:=h.nlo;omega)
  ·rw [<-kept4 j hj ho hf]
   exact low5 j (Nat.lt_of_lt_of_le hj on4.size) hn
  ·obtain ⟨hd,l0⟩:=hy hs
   obtain ⟨at2,hN4,hat⟩:=hok hs
   have c5:Chg w4 w5 [nb]:=⟨hw5.on,fun j hj hm=>hw5.low j hj fun b hb o e=>by
    rw [hd] at hb
    simp only [List.mem_singleton] at hb
    subst hb
    rw [hw5.base 0 (nb,0) rfl] at e
    cases e
    exact hm (by simp)⟩
   obtain ⟨k',o,pre,zs,post,g1,g2,g3,g4⟩:=hw5.box 0 _ l0
   rw [hw5.base 0 (nb,0) rfl] at g1
   cases g1
   have hpre:pre=[]:=List.length_eq_zero_iff.1 g3
   subst hpre
   have hz:zs=[ptrB (at1 top),.int .i64 ((r+1:Nat):Int),ptrB fb]:=by
    match zs,g4 with
    | [a,b,c],⟨h1,h2,h3,_⟩=>
     have h1:a=ptrB (at1 top):=h1.1
     have h2:b=.int .i64 (Wr ((r:Int)+1)):=h2
     have h3:c=ptrB fb:=h3.1
     have h4:Wr ((r:Int)+1)=((r+1:Nat):Int):=by
      rw [wr_small (by omega) (by omega)]
      omega
     rw [h1,h2,h3,h4]
   subst hz
   have hsh4:w4.shape? nb=some (197,3):=by
    unfold World.shape?
    rw [hblk4]
    rfl
   have hsh:=hw5.on.shape hsh4
   unfold World.shape? at hsh
   rw [g2] at hsh
   simp only [Option.some.injEq,Prod.mk.injEq,List.size_toArray,List.nil_append,List.length_append] at hsh
   have hpost:post=[]:=List.length_eq_zero_iff.1 (by have:=hsh.2;simpa using this)
   subst hpost
   have hlt4:nb<(w3).heap.size:=lt_of_heap (c23.at h.blk (by simp))
   refine ⟨own',at2,⟨hN4.aside c5 ⟨_,hblk4⟩,?_,hk.own nb hlt4 h.ow,Nat.le_trans h.bs (on4.trans hw5.on).size,h.nlo,fun j hj=>hk.own j (Nat.lt_of_lt_of_le hj (Nat.le_trans h.bs c23.on.size)) (h.nw j hj)⟩,fun j hj ho=>hk.own j (Nat.lt_of_lt_of_le hj c23.on.size) ho⟩
   rw [hat top hlen,g2]
   rfl
end Ab
open Go.RowKit
namespace Ab
open Rf (Nd Inv NInv Wt)
def sHs (b:Bool):AS:=⟨P0::List.replicate 18 .und,[(0,ext [.ptr 1 0] 197),(1,ext [.bool b] 205)],2,[],[]⟩
def phH (x y:Nat):Nat->Option (Nat×Nat)
 | 0=>some (x,0)
 | 1=>some (y,0)
 | _=>none
theorem hs_t (b:Bool):(run Z (tabSp tN) bT (drawA Z (tabSp tN)) (fun _=>false) 100 [.code (bodyOf Tryz.f77),.top Tryz.f77] (sHs b)).bind retL=some (.val (.one (.bool b)),true):=by kernel_rfl
theorem hassign_ok {w:World}{b0 nb fb:Nat}{own:Nat->Option Own}{at1:Nat->Nat}{s:Rf.St}{top r:Nat}{n:Nd}(h:NbAt w b0 nb fb own at1 s top r)(hn:s.nodes[top]?=some n):Calls Tryz.prog 77 #[ptrB nb] w fun e w'=>e=.returned (.bool (!n.pos))/\Chg w w' []:=by
 obtain ⟨⟨ys,hblk⟩,_⟩:=nod_blk (own:=own) (b0:=b0) (at1:=at1) (ns:=s.nodes) h.net.nd hn
 generalize (!n.pos)=b at hblk ⊢
 have hrep:RepW Z w (phH nb (at1 top)) (phH nb (at1 top)) (sHs b) w:=by
  refine rep_ext rfl ?_ ?_ ?_
  ·intro b' B hB
   have:=look_mem hB
   simp [sHs] at this
   rcases this with ⟨rfl,rfl⟩ | ⟨rfl,rfl⟩
   ·exact ⟨rfl,rfl,rfl,nb,0,rfl,[],[ptrB (at1 top)],[.int .i64 r,ptrB fb],h.blk,rfl,⟨at1 top,0,rfl,rfl⟩,trivial⟩
   ·exact ⟨rfl,rfl,rfl,at1 top,0,rfl,[],[.bool b],ys,hblk,rfl,rfl,trivial⟩
  ·intro b hb
   have:2<=b:=hb
   match b,this with
   | b+2,_=>rfl
  ·intro b k' o hb'
   match b,hb' with
   | 0,hb'=>cases hb';exact lt_of_heap h.blk
   | 1,hb'=>cases hb';exact lt_of_heap hblk
   | b+2,hb'=>cases hb'
 obtain ⟨tr,h1,h2⟩:=bnd (hs_t b)
 match tr,h2 with
 | .ret r s,h2=>
  simp only [retL,Option.some.injEq,Prod.mk.injEq] at h2
  obtain ⟨rfl,hc⟩:=h2
  refine ext_run (s:=sHs b) (vs:=[.one (.ptr 0 0)]) (args:=[ptrB nb]) (fn_of Tryz.func77 rfl rfl) (tabSp_ok tN_ok) bT_ok (by kernel_rfl) ⟨⟨nb,0,rfl,rfl⟩,trivial⟩ hrep h1 (fun r s=>r=.val (.one (.bool b))/\clean s=true) ⟨rfl,hc⟩ ?_
  rintro r s φ v w' ⟨rfl,hc⟩ hrel hw
  have hv:v=.bool b:=hrel
  exact ⟨by rw [hv],Chg.of_below (RepF.below hw hc)⟩
 | .br _ _ _,h2=>cases h2
 | .need _ _,h2=>cases h2
 | .stop _ _,h2=>cases h2
end Ab
open Go.RowKit
namespace Ab
open Rf (Nd Inv NInv Wt)
def woN (k a b c d:Int):Int:=bif k==6 then a*d+c*b else bif k==7 then a*d+-c*b else bif k==8 then a*c else a*d
def woD (k a b c d:Int):Int:=bif k==6 then b*d else bif k==7 then b*d else bif k==8 then b*d else b*c
def fWo:List G->Option RG
 | [.i .i64 k,.ns [a,b],.ns [c,d]]=>some (.one (.ns [bif k==6 then lowT (a*d+c*b) (b*d) else bif k==7 then lowT (a*d+-c*b) (b*d) else bif k==8 then lowT (a*c) (b*d) else lowT (a*d) (b*c),bif k==6 then lowB (a*d+c*b) (b*d) else bif k==7 then lowB (a*d+-c*b) (b*d) else bif k==8 then lowB (a*c) (b*d) else lowB (a*d) (b*c)]))
 | _=>none
def ndWo:List G->List Prop
 | [.i .i64 k,.ns [a,b],.ns [c,d]]=>[0<gcdZ (woN k a b c d) (woD k a b c d)]
 | _=>[]
theorem wo_te:TEok Z 144 (teN true fWo ndWo 41 [0,10,10]):=by
 refine walkN (l:=tF) tF_ok nobody (fn_of Tryz.func144 rfl rfl) ?_
 intro gs out h
 unfold fWo at h
 split at h
 ·rename_i k a b c d
  cases h
  refine ⟨[(k==6)=true->0<gcdZ (a*d+c*b) (b*d),(k==6)=false->(k==7)=true->0<gcdZ (a*d+-c*b) (b*d),(k==6)=false->(k==7)=false->(k==8)=true->0<gcdZ (a*c) (b*d),(k==6)=false->(k==7)=false->(k==8)=false->0<gcdZ (a*d) (b*c)],41,by kernel_rfl,by decide,fun hn _=>?_⟩
  have h0:0<gcdZ (woN k a b c d) (woD k a b c d):=hn.one
  unfold woN woD at h0
  refine holds_cons (fun e=>?_) (holds_cons (fun e1 e2=>?_) (holds_cons (fun e1 e2 e3=>?_) (holds_cons (fun e1 e2 e3=>?_) holds_nil)))
  ·rw [e] at h0;exact h0
  ·rw [e1,e2] at h0;exact h0
  ·rw [e1,e2,e3] at h0;exact h0
  ·rw [e1,e2,e3] at h0;exact h0
 ·cases h
noncomputable def tP:List (FuncId×TE):=(144,teN true fWo ndWo 41 [0,10,10])::tS
theorem tP_ok:AllTE Z tP:=⟨wo_te,tS_ok⟩
noncomputable def bP:FuncId->Option Func:=fun f=>bif f==40 then some Tryz.f40 else bif f==101 then some Tryz.f101 else bif f==143 then some Tryz.f143 else none
theorem bP_ok:BodiesOk Z bP:=by
 intro f fn h
 unfold bP at h
 exact body_if h (fn_of Tryz.func40 rfl rfl) fun h=>body_if h (fn_of Tryz.func101 rfl rfl) fun h=>body_if h (fn_of Tryz.func143 rfl rfl) fun h=>by cases h
def pFr (i:Nat):Box:=ext (.int .i64 1::numCs true i 2) 93
def pKd (kd:Int):Box:=ext [.int .i64 kd] 93
def stP (fn:Func)(vs:List AV)(bx:List (Nat×Box))(ns:List (Int×Nat)):AS:=⟨vs.map .val++List.replicate (fn.ntmps-vs.length) .und,bx,3,ns,[]⟩
noncomputable def goP (fn:Func)(s:AS):Option Tr:=run Z (tabSp tP) bP (drawA Z (tabSp tP)) (fun _=>false) 400 [.code (bodyOf fn),.top fn] s
noncomputable def lP (fn:Func)(s:AS)(l:List Bool):AS:=(((goP fn s).bind (leafT l)).map (·.2)).getD ⟨[],[],0,[],[]⟩
abbrev q1V:AV:=.one (.ptr 1 0)
abbrev q2V:AV:=.one (.ptr 2 0)
abbrev inV (k:Int):AV:=.one (.int .i64 k)
noncomputable def mnF (p q:Int):AS:=stP Tryz.f104 [q1V] [(1,pFr 0)] [(p,1),(q,1)]
noncomputable def mnK (kd':Int):AS:=stP Tryz.f104 [q1V] [(1,pKd kd')] []
noncomputable def fuF (kd p q:Int):AS:=stP Tryz.f105 [inV kd,q1V] [(1,pFr 0)] [(p,1),(q,1)]
noncomputable def fuK (kd kd':Int):AS:=stP Tryz.f105 [inV kd,q1V] [(1,pKd kd')] []
noncomputable def opFK (kd p q kd':Int):AS:=stP Tryz.f106 [inV kd,q1V,q2V] [(1,pFr 0),(2,pKd kd')] [(p,1),(q,1)]
noncomputable def opKF (kd kd' p q:Int):AS:=stP Tryz.f106 [inV kd,q1V,q2V] [(1,pKd kd'),(2,pFr 0)] [(p,1),(q,1)]
noncomputable def opKK (kd kd1 kd2:Int):AS:=stP Tryz.f106 [inV kd,q1V,q2V] [(1,pKd kd1),(2,pKd kd2)] []
structure IsPt (s:AS) (b:Nat) (kd:Int) (zs:List Int) (lc rc:AC):Prop where
 look:look s.boxes b=some ⟨.int .i64 kd::((bxc s b).drop 1).take 4++[.lit nilS',lc,rc],93,true,false,false⟩
 num:numOf s.nums (((bxc s b).drop 1).take 4)=some zs
abbrev tupE (c:AC)(e:Int):AT:=.tup [.one c,.one (.int .i64 e)]
section
variable (p q:Int)
theorem mnF_t:goP Tryz.f104 (mnF p q)=some (.ret (.val (.one (.ptr 4 0))) (lP Tryz.f104 (mnF p q) [])):=by kernel_rfl
theorem mnF_p:IsPt (lP Tryz.f104 (mnF p q) []) 4 1 [-p,q] (.lit nilP) (.lit nilP):=⟨by kernel_rfl,by kernel_rfl⟩
theorem mnF_c:clean (lP Tryz.f104 (mnF p q) [])=true:=by kernel_rfl
theorem mnK_t {kd':Int}(h:kd'∈kds):goP Tryz.f104 (mnK kd')=some (.ret (.val (.one (.ptr 3 0))) (lP Tryz.f104 (mnK kd') []))/\IsPt (lP Tryz.f104 (mnK kd') []) 3 5 [0,0] (.ptr 1 0) (.lit nilP)/\clean (lP Tryz.f104 (mnK kd') [])=true:=by
 simp only [kds,List.mem_cons,List.not_mem_nil,or_false] at h
 rcases h with rfl | rfl | rfl | rfl | rfl | rfl | rfl | rfl | rfl | rfl | rfl | rfl<;>exact ⟨by kernel_rfl,⟨by kernel_rfl,by kernel_rfl⟩,by kernel_rfl⟩
theorem fuF_t {kd:Int}(h:kd=10\/kd=11\/kd=12\/kd=13):goP Tryz.f105 (fuF kd p q)=some (.br (decide (Nm.cmp p 0=-1)) (.ret (tupE (.lit nilP) 5) (lP Tryz.f105 (fuF kd p q) [true])) (.br (decide (Nm.cmp p 0=0)) (.ret (tupE (.ptr 4 0) 0) (lP Tryz.f105 (fuF kd p q) [false,true])) (.ret (tupE (.ptr 3 0) 0) (lP Tryz.f105 (fuF kd p q) [false,false]))))/\clean (lP Tryz.f105 (fuF kd p q) [true])=true/\IsPt (lP Tryz.f105 (fuF kd p q) [false,true]) 4 1 [if kd=11 then 1 else 0,1] (.lit nilP) (.lit nilP)/\clean (lP Tryz.f105 (fuF kd p q) [false,true])=true/\IsPt (lP Tryz.f105 (fuF kd p q) [false,false]) 3 kd [0,0] (.ptr 1 0) (.lit nilP)/\clean (lP Tryz.f105 (fuF kd p q) [false,false])=true:=by
 rcases h with rfl | rfl | rfl | rfl<;>exact ⟨by kernel_rfl,by kernel_rfl,⟨by kernel_rfl,by kernel_rfl⟩,by kernel_rfl,⟨by kernel_rfl,by kernel_rfl⟩,by kernel_rfl⟩
theorem fuK_t (kd:Int){kd':Int}(h:kd'∈kds):goP Tryz.f105 (fuK kd kd')=some (.ret (tupE (.ptr 3 0) 0) (lP Tryz.f105 (fuK kd kd') []))/\IsPt (lP Tryz.f105 (fuK kd kd') []) 3 kd [0,0] (.ptr 1 0) (.lit nilP)/\clean (lP Tryz.f105 (fuK kd kd') [])=true:=by
 simp only [kds,List.mem_cons,List.not_mem_nil,or_false] at h
 rcases h with rfl | rfl | rfl | rfl | rfl | rfl | rfl | rfl | rfl | rfl | rfl | rfl<;>exact ⟨by kernel_rfl,⟨by kernel_rfl,by kernel_rfl⟩,by kernel_rfl⟩
end
end Ab
open Go.RowKit
namespace Ab
open Rf (Nd Inv NInv Wt)
noncomputable def opFF (kd p q a b:Int):AS:=stP Tryz.f106 [inV kd,q1V,q2V] [(1,pFr 0),(2,pFr 2)] [(p,1),(q,1),(a,1),(b,1)]
def opS2 (p q a b:Int)(tm:List AT):AS:=⟨tm,[(1,pFr 0),(2,pFr 2)],3,[(p,1),(q,1),(a,1),(b,1)],[]⟩
noncomputable def rO:Nat×Array Oper×List (K (List AT)):=drwR (opCalls 101) Tryz.f106
noncomputable def oK:List (K (List AT)):=[.code (bodyOf Tryz.f106),.top Tryz.f106]
noncomputable def xFF (kd p q a b:Int):Option XT:=(run Z (tabSp tP) bP (drawA Z (tabSp tP)) (atDrw (opCalls 101)) 400 oK (opFF kd p q a b)).bind (outX (nrm [1,2] [] 3 []) (nrm [1,2] [0,1,2] 3 []))
abbrev oSl (kd:Int):List AT:=slot [(0,.val (inV kd)),(1,.val q1V),(2,.val q2V)] 0 44
noncomputable def dO (kd p q a b:Int):AS:=((drawA Z (tabSp tP) (rO.2.1.extract 0 10) (opS2 p q a b (oSl kd))).getD (⟨[],[],0,[],[]⟩,[])).1
noncomputable def zO (kd p q a b:Int):Option Tr:=run Z (tabSp tP) bP (drawA Z (tabSp tP)) (fun _=>false) 100 (.ops rO.2.1 [10,11,12]::rO.2.2) (dO kd p q a b)
noncomputable def zS (kd p q a b:Int):AS:=(((zO kd p q a b).bind (leafT [])).map (·.2)).getD ⟨[],[],0,[],[]⟩
def lowTo (kk:Rf.Kind)(p q a b:Int):Int:=lowT (woN (kdK kk) p q a b) (woD (kdK kk) p q a b)
def lowBo (kk:Rf.Kind)(p q a b:Int):Int:=lowB (woN (kdK kk) p q a b) (woD (kdK kk) p q a b)
section
variable (p q a b:Int)
theorem oFK_t (kk:Rf.Kind){kd':Int}(h:kd'∈kds):goP Tryz.f106 (opFK (kdK kk) p q kd')=some (.ret (tupE (.ptr 3 0) 0) (lP Tryz.f106 (opFK (kdK kk) p q kd') []))/\IsPt (lP Tryz.f106 (opFK (kdK kk) p q kd') []) 3 (kdK kk) [0,0] (.ptr 1 0) (.ptr 2 0)/\clean (lP Tryz.f106 (opFK (kdK kk) p q kd') [])=true:=by
 simp only [kds,List.mem_cons,List.not_mem_nil,or_false] at h
 rcases h with rfl | rfl | rfl | rfl | rfl | rfl | rfl | rfl | rfl | rfl | rfl | rfl<;>cases kk<;>exact ⟨by kernel_rfl,⟨by kernel_rfl,by kernel_rfl⟩,by kernel_rfl⟩
theorem oKF_t {kk:Rf.Kind}(hk:kk≠.div){kd':Int}(h:kd'∈kds):goP Tryz.f106 (opKF (kdK kk) kd' p q)=some (.ret (tupE (.ptr 3 0) 0) (lP Tryz.f106 (opKF (kdK kk) kd' p q) []))/\IsPt (lP Tryz.f106 (opKF (kdK kk) kd' p q) []) 3 (kdK kk) [0,0] (.ptr 1 0) (.ptr 2 0)/\clean (lP Tryz.f106 (opKF (kdK kk) kd' p q) [])=true:=by
 simp only [kds,List.mem_cons,List.not_mem_nil,or_false] at h
 cases kk with
 | div=>exact absurd rfl hk
 | add=>rcases h with rfl | rfl | rfl | rfl | rfl | rfl | rfl | rfl | rfl | rfl | rfl | rfl<;>exact ⟨by kernel_rfl,⟨by kernel_rfl,by kernel_rfl⟩,by kernel_rfl⟩
 | sub=>rcases h with rfl | rfl | rfl | rfl | rfl | rfl | rfl | rfl | rfl | rfl | rfl | rfl<;>exact ⟨by kernel_rfl,⟨by kernel_rfl,by kernel_rfl⟩,by kernel_rfl⟩
 | mul=>rcases h with rfl | rfl | rfl | rfl | rfl | rfl | rfl | rfl | rfl | rfl | rfl | rfl<;>exact ⟨by kernel_rfl,⟨by kernel_rfl,by kernel_rfl⟩,by kernel_rfl⟩
theorem oKFd_t {kd':Int}(h:kd'∈kds):goP Tryz.f106 (opKF 9 kd' p q)=some (.br (decide (Nm.cmp p 0=0)) (.ret (tupE (.lit nilP) 5) (lP Tryz.f106 (opKF 9 kd' p q) [true])) (.ret (tupE (.ptr 3 0) 0) (lP Tryz.f106 (opKF 9 kd' p q) [false])))/\clean (lP Tryz.f106 (opKF 9 kd' p q) [true])=true/\IsPt (lP Tryz.f106 (opKF 9 kd' p q) [false]) 3 9 [0,0] (.ptr 1 0) (.ptr 2 0)/\clean (lP Tryz.f106 (opKF 9 kd' p q) [false])=true:=by
 simp only [kds,List.mem_cons,List.not_mem_nil,or_false] at h
 rcases h with rfl | rfl | rfl | rfl | rfl | rfl | rfl | rfl | rfl | rfl | rfl | rfl<;>exact ⟨by kernel_rfl,by kernel_rfl,⟨by kernel_rfl,by kernel_rfl⟩,by kernel_rfl⟩
theorem oKK_t {kk:Rf.Kind}(hk:kk≠.div){kd1:Int}(kd2:Int)(h:kd1∈kds):goP Tryz.f106 (opKK (kdK kk) kd1 kd2)=some (.ret (tupE (.ptr 3 0) 0) (lP Tryz.f106 (opKK (kdK kk) kd1 kd2) []))/\IsPt (lP Tryz.f106 (opKK (kdK kk) kd1 kd2) []) 3 (kdK kk) [0,0] (.ptr 1 0) (.ptr 2 0)/\clean (lP Tryz.f106 (opKK (kdK kk) kd1 kd2) [])=true:=by
 simp only [kds,List.mem_cons,List.not_mem_nil,or_false] at h
 cases kk with
 | div=>exact absurd rfl hk
 | add=>rcases h with rfl | rfl | rfl | rfl | rfl | rfl | rfl | rfl | rfl | rfl | rfl | rfl<;>exact ⟨by kernel_rfl,⟨by kernel_rfl,by kernel_rfl⟩,by kernel_rfl⟩
 | sub=>rcases h with rfl | rfl | rfl | rfl | rfl | rfl | rfl | rfl | rfl | rfl | rfl | rfl<;>exact ⟨by kernel_rfl,⟨by kernel_rfl,by kernel_rfl⟩,by kernel_rfl⟩
 | mul=>rcases h with rfl | rfl | rfl | rfl | rfl | rfl | rfl | rfl | rfl | rfl | rfl | rfl<;>exact ⟨by kernel_rfl,⟨by kernel_rfl,by kernel_rfl⟩,by kernel_rfl⟩
theorem oKKd_t {kd1 kd2:Int}(h:kd1∈kds)(h2:kd2∈kds):goP Tryz.f106 (opKK 9 kd1 kd2)=some (.ret (tupE (.ptr 3 0) 0) (lP Tryz.f106 (opKK 9 kd1 kd2) []))/\IsPt (lP Tryz.f106 (opKK 9 kd1 kd2) []) 3 9 [0,0] (.ptr 1 0) (.ptr 2 0)/\clean (lP Tryz.f106 (opKK 9 kd1 kd2) [])=true:=by
 simp only [kds,List.mem_cons,List.not_mem_nil,or_false] at h h2
 rcases h with rfl | rfl | rfl | rfl | rfl | rfl | rfl | rfl | rfl | rfl | rfl | rfl<;>rcases h2 with rfl | rfl | rfl | rfl | rfl | rfl | rfl | rfl | rfl | rfl | rfl | rfl<;>exact ⟨by kernel_rfl,⟨by kernel_rfl,by kernel_rfl⟩,by kernel_rfl⟩
theorem oFF_t {kk:Rf.Kind}(hk:kk≠.div):xFF (kdK kk) p q a b=some (.stp (.code (.region rO.1 rO.2.1 true)::rO.2.2) (opS2 p q a b (oSl (kdK kk)))):=by
 cases kk with
 | div=>exact absurd rfl hk
 | add=>kernel_rfl
 | sub=>kernel_rfl
 | mul=>kernel_rfl
theorem oFFd_t:xFF 9 p q a b=some (.br (decide (Nm.cmp a 0=0)) (.ret (tupE (.lit nilP) 5) (opS2 p q a b (sl0 44))) (.stp (.code (.region rO.1 rO.2.1 true)::rO.2.2) (opS2 p q a b (oSl 9)))):=by kernel_rfl
theorem dO_t (kd:Int):drawA Z (tabSp tP) (rO.2.1.extract 0 10) (opS2 p q a b (oSl kd))=some (dO kd p q a b,[0<gcdZ (woN kd p q a b) (woD kd p q a b)]):=by kernel_rfl
theorem bar_O:barB rO.2.1 10=true/\10<rO.2.1.size/\(List.range rO.2.1.size).drop 10=[10,11,12]:=⟨by kernel_rfl,Nat.lt_of_lt_of_eq (by decide:10<13) (by kernel_rfl),by kernel_rfl⟩
theorem frO:noFr rO.2.2=true:=by kernel_rfl
theorem zO_t (kk:Rf.Kind):zO (kdK kk) p q a b=some (.ret (tupE (.ptr 14 0) 0) (zS (kdK kk) p q a b))/\IsPt (zS (kdK kk) p q a b) 14 1 [lowTo kk p q a b,lowBo kk p q a b] (.lit nilP) (.lit nilP)/\clean (zS (kdK kk) p q a b)=true:=by
 cases kk<;>exact ⟨by kernel_rfl,⟨by kernel_rfl,by kernel_rfl⟩,by kernel_rfl⟩
end
end Ab
open Go.RowKit
namespace Ab
open Rf (Nd Inv NInv Wt)
theorem IsPt.at {w0 w:World}{ψ φ:Nat->Option (Nat×Nat)}{s:AS}{b:Nat}{kd:Int}{zs:List Int}{lc rc:AC}{lv rv:Value}(h:IsPt s b kd zs lc rc)(hw:RepW Z w0 ψ φ s w)(e1:∀ x,relC Z φ s.nums w lc x->x=lv)(e2:∀ x,relC Z φ s.nums w rc x->x=rv):
  ∃ m,∃ xs:List Value,φ b=some (m,0)/\PartB w m kd xs nilS' lv rv/\Hold true w zs xs:=by
 obtain ⟨m,ys,k1,k2,k3,k4⟩:=own_blk hw h.look rfl rfl
 have hz:=h.num
 match ys,k3 with
 | y::ys,⟨hy,g5⟩=>
 have hy:y=.int .i64 kd:=hy
 subst hy
 have g5:All2 (relC Z φ s.nums w) (((bxc s b).drop 1).take 4++[.lit nilS',lc,rc]) ys:=g5
 generalize (((bxc s b).drop 1).take 4)=cc at g5 hz
 have hl:=g5.len
 simp only [List.length_append,List.length_cons,List.length_nil] at hl
 have ga:All2 (relC Z φ s.nums w) cc (ys.take cc.length):=by
  have:=g5.take cc.length
  rw [List.take_append_of_le_length (by omega),List.take_of_length_le (by omega)] at this
  exact this
 have gb:All2 (relC Z φ s.nums w) [.lit nilS',lc,rc] (ys.drop cc.length):=by
  have:=g5.drop cc.length
  rw [List.drop_append_of_le_length (by omega),List.drop_of_length_le (by omega)] at this
  exact this
 refine ⟨m,ys.take cc.length,k1,?_,numOf_ok cc zs _ hz ga⟩
 match hd:ys.drop cc.length,gb with
 | [a0,a1,a2],⟨b0,b1,b2,_⟩=>
 have c0:a0=nilS':=b0.1
 have c1:=e1 a1 b1
 have c2:=e2 a2 b2
 subst c0 c1 c2
 have e:ys=ys.take cc.length++[nilS',a1,a2]:=by rw [<-hd];exact (List.take_append_drop _ _).symm
 unfold PartB
 rw [k2]
 generalize ys.take cc.length=t at e
 subst e
 rfl
def negW:Wt->Wt
 | .fr p q=>.fr (-p) q
 | t=>.neg t
def fnW (op:Rf.Op):Wt->Option Wt
 | .fr p q=>if p<0 then none else if p=0 then some (.fr (if op=.exp then 1 else 0) 1) else some (.fn op (.fr p q))
 | t=>some (.fn op t)
def opW (kk:Rf.Kind):Wt->Wt->Option Wt
 | .fr p q,.fr a b=>if kk=.div/\a=0 then none else some (.fr (lowTo kk p q a b) (lowBo kk p q a b))
 | t,.fr a b=>if kk=.div/\a=0 then none else some (.two kk t (.fr a b))
 | t,u=>some (.two kk t u)
section
variable {w:World}
theorem rep_1 {k:Nat}{B:Box}{tm:List AT}{ν:List (Int×Nat)}{cs ys:List Value}{ty:TypeId}(hB:B.own=false/\B.ro=true/\B.tip=false)(hk:w.heap[k]?=some (.cells (cs++ys).toArray B.ty (0,0)))(hc:All2 (relC Z (ph1 1 k) ν w) B.cs cs):RepW Z w (ph1 1 k) (ph1 1 k) ⟨tm,[(1,B)],3,ν,[]⟩ w:=by
 refine rep_ext rfl ?_ ?_ ?_
 ·intro b B' hB'
  have:=look_mem hB'
  simp only [List.mem_singleton,Prod.mk.injEq] at this
  obtain ⟨rfl,rfl⟩:=this
  exact ⟨hB.1,hB.2.1,hB.2.2,k,0,rfl,[],cs,ys,(by simpa using hk),rfl,hc⟩
 ·intro b hb
  have:3<=b:=hb
  unfold ph1
  rw [if_neg (by omega)]
 ·intro b k' o hb'
  unfold ph1 at hb'
  split at hb'
  ·cases hb';exact lt_of_heap hk
  ·cases hb'
theorem rep_2 {k k2:Nat}{B B2:Box}{tm:List AT}{ν:List (Int×Nat)}{cs ys cs2 ys2:List Value}(hB:B.own=false/\B.ro=true/\B.tip=false)(hB2:B2.own=false/\B2.ro=true/\B2.tip=false)(hk:w.heap[k]?=some (.cells (cs++ys).toArray B.ty (0,0)))(hc:All2 (relC Z (phQ k k2) ν w) B.cs cs)(hk2:w.heap[k2]?=some (.cells (cs2++ys2).toArray B2.ty (0,0)))(hc2:All2 (relC Z (phQ k k2) ν w) B2.cs cs2):RepW Z w (phQ k k2) (phQ k k2) ⟨tm,[(1,B),(2,B2)],3,ν,[]⟩ w:=by
 refine rep_ext rfl ?_ ?_ ?_
 ·intro b B' hB'
  have:=look_mem hB'
  simp only [List.mem_cons,List.not_mem_nil,or_false,Prod.mk.injEq] at this
  rcases this with ⟨rfl,rfl⟩ | ⟨rfl,rfl⟩
  ·exact ⟨hB.1,hB.2.1,hB.2.2,k,0,rfl,[],cs,ys,(by simpa using hk),rfl,hc⟩
  ·exact ⟨hB2.1,hB2.2.1,hB2.2.2,k2,0,rfl,[],cs2,ys2,(by simpa using hk2),rfl,hc2⟩
 ·intro b hb
  have:3<=b:=hb
  match b,this with
  | b+3,_=>rfl
 ·intro b k' o hb'
  match b,hb' with
  | 0,hb'=>cases hb'
  | 1,hb'=>cases hb';exact lt_of_heap hk
  | 2,hb'=>cases hb';exact lt_of_heap hk2
  | b+3,hb'=>cases hb'
theorem fr_cs {p q:Int}{xs:List Value}{i:Nat}{φ:Nat->Option (Nat×Nat)}{ν:List (Int×Nat)}(hh:Hold true w [p,q] xs)(bp:Bits 1 p)(bq:Bits 1 q)(h1:ν[i]?=some (p,1))(h2:ν[i+1]?=some (q,1)):All2 (relC Z φ ν w) (.int .i64 1::numCs true i 2) (.int .i64 1::xs):=by
 refine ⟨rfl,hold_cs (n:=1) [p,q] xs i _ hh ?_ ?_⟩
 ·intro z hz
  simp at hz
  rcases hz with rfl | rfl
  ·exact bp
  ·exact bq
 ·intro j z hz
  match j,hz with
  | 0,hz=>cases hz;exact h1
  | 1,hz=>cases hz;exact h2
  | j+2,hz=>simp at hz
theorem part_cases {t:Wt}{v:Value}(hok:t.Ok)(hp:PartAt w t v):∃ k,v=ptrB k/\((∃ p q,t=.fr p q/\∃ xs tv lv rv,PartB w k 1 xs tv lv rv/\Hold true w [p,q] xs/\Bits 1 p/\Bits 1 q/\0<q)\/((∀ p q,t≠.fr p q)/\∃ kd'∈kds,∃ zs:List Value,w.heap[k]?=some (.cells (.int .i64 kd'::zs).toArray 93 (0,0)))):=by
 by_cases h:∃ p q,t=.fr p q
 ·obtain ⟨p,q,rfl⟩:=h
  obtain ⟨k,xs,tv,lv,rv,rfl,hB,hH,_⟩:=hp
  exact ⟨k,rfl,Or.inl ⟨p,q,rfl,xs,tv,lv,rv,hB,hH,bit1 hok.2.1,bit1 hok.2.2,hok.1⟩⟩
 ·have hn:∀ p q,t≠.fr p q:=fun p q e=>h ⟨p,q,e⟩
  obtain ⟨k,rfl,h2⟩:=part_kd hn hok hp
  exact ⟨k,rfl,Or.inr ⟨hn,h2⟩⟩
theorem pt_fr {w':World}{m:Nat}{p q:Int}{xs:List Value}(hB:PartB w' m 1 xs nilS' nilP nilP)(hH:Hold true w' [p,q] xs):PartAt w' (.fr p q) (ptrB m):=⟨m,xs,nilS',nilP,nilP,rfl,hB,hH,rfl,rfl,rfl⟩
theorem minus_ok {t:Wt}{v:Value}(hok:t.Ok)(hp:PartAt w t v):Calls Tryz.prog 104 #[v] w fun e w'=>∃ v',e=.returned v'/\Chg w w' []/\PartAt w' (negW t) v':=by
 obtain ⟨k,rfl,⟨p,q,rfl,xs,tv,lv,rv,hB,hH,bp,bq,_⟩ | ⟨hn,kd',hkd',zs,hblk⟩⟩:=part_cases hok hp
 ·refine ext_run (φ:=ph1 1 k) (s:=mnF p q) (vs:=[q1V]) (args:=[ptrB k]) (fn_of Tryz.func104 rfl rfl) (tabSp_ok tP_ok) bP_ok (by kernel_rfl) ⟨⟨k,0,rfl,rfl⟩,trivial⟩ (rep_1 (ty:=93) ⟨rfl,rfl,rfl⟩ (cs:=.int .i64 1::xs) (ys:=[tv,lv,rv]) hB (fr_cs hH bp bq rfl rfl)) (mnF_t p q) (fun r s=>r=.val (.one (.ptr 4 0))/\IsPt s 4 1 [-p,q] (.lit nilP) (.lit nilP)/\clean s=true) ⟨rfl,mnF_p p q,mnF_c p q⟩ ?_
  rintro r s φ v w' ⟨rfl,hn,hc⟩ hrel hw
  obtain ⟨m,ys,k1,k2,k3⟩:=hn.at hw lit_val lit_val
  have hv:v=ptrB m:=ptr_v (ν:=s.nums) (w:=w') k1 v hrel
  exact ⟨v,rfl,Chg.of_below (RepF.below hw hc),by rw [hv];exact pt_fr k2 k3⟩
 ·obtain ⟨t1,t2,t3⟩:=mnK_t hkd'
  refine ext_run (φ:=ph1 1 k) (s:=mnK kd') (vs:=[q1V]) (args:=[ptrB k]) (fn_of Tryz.func104 rfl rfl) (tabSp_ok tP_ok) bP_ok (by kernel_rfl) ⟨⟨k,0,rfl,rfl⟩,trivial⟩ (rep_1 (ty:=93) ⟨rfl,rfl,rfl⟩ (cs:=[.int .i64 kd']) (ys:=zs) hblk ⟨rfl,trivial⟩) t1 (fun r s=>r=.val (.one (.ptr 3 0))/\IsPt s 3 5 [0,0] (.ptr 1 0) (.lit nilP)/\clean s=true) ⟨rfl,t2,t3⟩ ?_
  rintro r s φ v w' ⟨rfl,hn',hc⟩ hrel hw
  obtain ⟨m,ys,k1,k2,k3⟩:=hn'.at hw (ptr_v (hw.base 1 (k,0) rfl)) lit_val
  have hv:v=ptrB m:=ptr_v (ν:=s.nums) (w:=w') k1 v hrel
  have hch:Chg w w' []:=Chg.of_below (RepF.below hw hc)
  have hW:negW t=.neg t:=by
   cases t with
   | fr p q=>exact absurd rfl (hn p q)
   | _=>rfl
  refine ⟨v,rfl,hch,?_⟩
  rw [hv,hW]
  exact ⟨m,ys,[0,0],nilS',ptrB k,nilP,rfl,k2,k3,rfl,fun z hz=>zeros1 z (by simp at hz;simp [hz]),rfl,rfl,PartAt.keep hch.on t _ hp⟩
def Told2 (w:World)(x:Option Wt)(e:Ending)(w':World):Prop:=Chg w w' []/\match x with
 | none=>e=.returned (.tuple #[nilP,.int .i64 5])
 | some t=>∃ v,e=.returned (.tuple #[v,.int .i64 0])/\PartAt w' t v
theorem Told2.no {w w':World}{x:Option Wt}{e:Ending}(hx:x=none)(hc:Chg w w' [])(he:e=.returned (.tuple #[nilP,.int .i64 5])):Told2 w x e w':=by subst hx;exact ⟨hc,he⟩
theorem Told2.yes {w w':World}{x:Option Wt}{t:Wt}{e:Ending}{v:Value}(hx:x=some t)(hc:Chg w w' [])(he:e=.returned (.tuple #[v,.int .i64 0]))(hp:PartAt w' t v):Told2 w x e w':=by subst hx;exact ⟨hc,v,he,hp⟩
theorem tup_val {φ:Nat->Option (Nat×Nat)}{ν:List (Int×Nat)}{w:World}{c:AC}{e:Int}{v u:Value}(h:relT Z φ ν w (tupE c e) v)(hc:∀ x,relC Z φ ν w c x->x=u):v=.tuple #[u,.int .i64 e]:=by
 obtain ⟨xs,rfl,hx⟩:=h
 match xs,hx with
 | [a,b],⟨h1,h2,_⟩=>
  have h2:b=.int .i64 e:=h2
  rw [hc a h1,h2]
theorem function_ok {op:Rf.Op}(hop:Rf.fn op){t:Wt}{v:Value}(hok:t.Ok)(hp:PartAt w t v):Calls Tryz.prog 105 #[.int .i64 (kindZ op),v] w (Told2 w (fnW op t)):=by
 have hku:=kind_uns hop
 have he:kindZ op=11↔op=.exp:=kd_11 hop
 obtain ⟨k,rfl,⟨p,q,rfl,xs,tv,lv,rv,hB,hH,bp,bq,_⟩ | ⟨hn,kd',hkd',zs,hblk⟩⟩:=part_cases hok hp
 ·obtain ⟨t1,t2,t3,t4,t5,t6⟩:=fuF_t p q hku
  refine ext_run (φ:=ph1 1 k) (s:=fuF (kindZ op) p q) (vs:=[inV (kindZ op),q1V]) (args:=[.int .i64 (kindZ op),ptrB k]) (fn_of Tryz.func105 rfl rfl) (tabSp_ok tP_ok) bP_ok (by kernel_rfl) ⟨rfl,⟨k,0,rfl,rfl⟩,trivial⟩ (rep_1 (ty:=93) ⟨rfl,rfl,rfl⟩ (cs:=.int .i64 1::xs) (ys:=[tv,lv,rv]) hB (fr_cs hH bp bq rfl rfl)) t1 (fun r s=>clean s=true/\((p<0/\r=tupE (.lit nilP) 5)\/(p=0/\r=tupE (.ptr 4 0) 0/\IsPt s 4 1 [if kindZ op=11 then 1 else 0,1] (.lit nilP) (.lit nilP))\/(0<p/\r=tupE (.ptr 3 0) 0/\IsPt s 3 (kindZ op) [0,0] (.ptr 1 0) (.lit nilP)))) ?_ ?_
  ·rcases Int.lt_trichotomy p 0 with h | h | h
   ·refine ⟨fun _=>⟨t2,Or.inl ⟨h,rfl⟩⟩,fun e=>?_⟩
    rw [Nm.cmp_lt h] at e
    cases e
   ·have e0:Nm.cmp p 0=0:=Nm.cmp_eq h
    rw [e0]
    exact ⟨fun e=>(by cases e),fun _=>⟨fun _=>⟨t4,Or.inr (Or.inl ⟨h,rfl,t3⟩)⟩,fun e=>by cases e⟩⟩
   ·rw [Nm.cmp_gt h]
    exact ⟨fun e=>(by cases e),fun _=>⟨fun e=>(by cases e),fun _=>⟨t6,Or.inr (Or.inr ⟨h,rfl,t5⟩)⟩⟩⟩
  ·rintro r s φ v w' ⟨hc,h⟩ hrel hw
   have hch:Chg w w' []:=Chg.of_below (RepF.below hw hc)
   rcases h with ⟨h,rfl⟩ | ⟨h,rfl,hI⟩ | ⟨h,rfl,hI⟩
   ·exact .no (show (if p<0 then _ else _)=_ from if_pos h) hch (by rw [tup_val hrel lit_val])
   ·obtain ⟨m,ys,k1,k2,k3⟩:=hI.at hw lit_val lit_val
    have:(if kindZ op=11 then (1:Int) else 0)=if op=.exp then 1 else 0:=by simp only [he]
    rw [this] at k3
    exact .yes (show (if p<0 then _ else if p=0 then _ else _)=_ by rw [if_neg (by omega),if_pos h]) hch (by rw [tup_val hrel (ptr_v k1)]) (pt_fr k2 k3)
   ·obtain ⟨m,ys,k1,k2,k3⟩:=hI.at hw (ptr_v (hw.base 1 (k,0) rfl)) lit_val
    exact .yes (t:=.fn op (.fr p q)) (v:=ptrB m) (show (if p<0 then _ else if p=0 then _ else some (Wt.fn op (.fr p q)))=_ by rw [if_neg (by omega),if_neg (by omega)]) hch (by rw [tup_val hrel (ptr_v k1)]) ⟨m,ys,[0,0],nilS',ptrB k,nilP,rfl,k2,k3,rfl,fun z hz=>zeros1 z (by simp at hz;simp [hz]),rfl,rfl,PartAt.keep hch.on (.fr p q) _ hp⟩
 ·obtain ⟨t1,t2,t3⟩:=fuK_t (kindZ op) hkd'
  refine ext_run (φ:=ph1 1 k) (s:=fuK (kindZ op) kd') (vs:=[inV (kindZ op),q1V]) (args:=[.int .i64 (kindZ op),ptrB k]) (fn_of Tryz.func105 rfl rfl) (tabSp_ok tP_ok) bP_ok (by kernel_rfl) ⟨rfl,⟨k,0,rfl,rfl⟩,trivial⟩ (rep_1 (ty:=93) ⟨rfl,rfl,rfl⟩ (cs:=[.int .i64 kd']) (ys:=zs) hblk ⟨rfl,trivial⟩) t1 (fun r s=>r=tupE (.ptr 3 0) 0/\IsPt s 3 (kindZ op) [0,0] (.ptr 1 0) (.lit nilP)/\clean s=true) ⟨rfl,t2,t3⟩ ?_
  rintro r s φ v w' ⟨rfl,hI,hc⟩ hrel hw
  have hch:Chg w w' []:=Chg.of_below (RepF.below hw hc)
  obtain ⟨m,ys,k1,k2,k3⟩:=hI.at hw (ptr_v (hw.base 1 (k,0) rfl)) lit_val
  have hW:fnW op t=some (.fn op t):=by
   cases t with
   | fr p q=>exact absurd rfl (hn p q)
   | _=>rfl
  exact .yes (v:=ptrB m) hW hch (by rw [tup_val hrel (ptr_v k1)]) ⟨m,ys,[0,0],nilS',ptrB k,nilP,rfl,k2,k3,rfl,fun z hz=>zeros1 z (by simp at hz;simp [hz]),rfl,rfl,PartAt.keep hch.on t _ hp⟩
end
end Ab
open Go.RowKit
namespace Ab
open Rf (Nd Inv NInv Wt)
theorem gcd_pos_of {t b:Int}(hb:b≠0):0<gcdZ t b:=by
 unfold gcdZ
 have:0<Nat.gcd t.natAbs b.natAbs:=Nat.gcd_pos_of_pos_right _ (by omega)
 omega
theorem lowB_pos {t b:Int}(hb:b≠0):0<lowB t b:=by
 have hg:=gcd_pos_of (t:=t) hb
 have d2:gcdZ t b ∣ b:=by
  unfold gcdZ
  exact Int.ofNat_dvd_left.2 (Nat.gcd_dvd_right _ _)
 unfold lowB
 rcases Int.lt_or_lt_of_ne hb with h | h
 ·rw [Nm.cmp_lt h]
  show 0 < -b/gcdZ t b
  have m2:-b=gcdZ t b*(-b/gcdZ t b):=(Int.mul_ediv_cancel' (Int.dvd_neg.2 d2)).symm
  rcases Int.lt_or_le 0 (-b/gcdZ t b) with h1 | h1
  ·exact h1
  ·have:=Int.mul_nonpos_of_nonneg_of_nonpos (show (0:Int)<=gcdZ t b by omega) h1
   omega
 ·rw [Nm.cmp_gt h]
  show 0<b/gcdZ t b
  have m2:b=gcdZ t b*(b/gcdZ t b):=(Int.mul_ediv_cancel' d2).symm
  rcases Int.lt_or_le 0 (b/gcdZ t b) with h1 | h1
  ·exact h1
  ·have:=Int.mul_nonpos_of_nonneg_of_nonpos (show (0:Int)<=gcdZ t b by omega) h1
   omega
theorem woD_ne {kk:Rf.Kind}{p q a b:Int}(hq:0<q)(hb:0<b)(ha:¬(kk=.div/\a=0)):woD (kdK kk) p q a b≠0:=by
 cases kk with
 | add=>exact Int.ne_of_gt (Int.mul_pos hq hb)
 | sub=>exact Int.ne_of_gt (Int.mul_pos hq hb)
 | mul=>exact Int.ne_of_gt (Int.mul_pos hq hb)
 | div=>exact Int.mul_ne_zero (by omega) (fun e=>ha ⟨rfl,e⟩)
theorem cmp0 (a:Int):decide (Nm.cmp a 0=0)=decide (a=0):=by
 rcases Int.lt_trichotomy a 0 with h | h | h
 ·rw [Nm.cmp_lt h];simp;omega
 ·rw [Nm.cmp_eq h];simp [h]
 ·rw [Nm.cmp_gt h];simp;omega
theorem xrunT {w0:World}{ψ:Nat->Option (Nat×Nat)}{sp:Spec}{bodies:FuncId->Option Func}{stp:List (K (List AT))->Bool}{R:Ending->World->Prop}(hsp:SpecOk Z w0 ψ sp)(hbo:BodiesOk Z bodies){kb:List Nat}{nx:Nat}{rb:List Nat}{ns:AS->Option (AS×List Prop)}(hψ:∀ b x,ψ b=some x->kb.contains b=true)(hns:NrmR ψ ns){n:Nat}{ks:List (K (List AT))}{s:AS}{xt:XT}
  (ht:(run Z sp bodies (drawA Z sp) stp n ks s).bind (outX (nrm kb [] nx rb) ns)=some xt) (G:AT->AS->Prop) (H:List (K (List AT))->AS->Prop) (hok:xt.ok G H)
  (hG:∀ r s' φ' v w',G r s'->(∃ φ0 ν0,relT Z φ0 ν0 w' r v)->RepW Z w0 ψ φ' s' w'->R (.returned v) w')
  (hH:∀ ks' s',H ks' s'->noFr ks'=true/\∀ (kcs:List (K Act)) (φ':Nat->Option (Nat×Nat)) (a:Act) (w':World),(∀ φ1 ν1 w1,SR Z φ1 ν1 w1 ks' kcs)->Rep Z w0 ψ φ' s' a w'->sem Z.P R kcs .normal a w'):
  ∀ (kcs:List (K Act)) (φ:Nat->Option (Nat×Nat)) (a:Act) (w:World),SR Z φ s.nums w ks kcs->Rep Z w0 ψ φ s a w->sem Z.P R kcs .normal a w:=by
 intro kcs φ a w hsr hr
 obtain ⟨tr,h1,h2⟩:=bnd ht
 refine run_ok hsp hbo (drawA_ok mixed hsp) _ _ ?_ ?_ n ks s tr h1 (outX_ok h2 hok) kcs φ a w hsr hr
 ·rintro ks' s' ⟨s2,p,g1,g2,g3⟩ kcs' φ' a' w' hsr' hr'
  obtain ⟨hf,hk⟩:=hH ks' s2 g3
  obtain ⟨φ2,hr2⟩:=hns _ _ _ _ _ _ _ g1 g2 hr'
  exact hk kcs' φ2 a' w' (fun φ1 ν1 w1=>SR.any hf hsr') hr2
 ·rintro r s' φ' v w' ⟨s2,p,g1,g2,g3⟩ hv hw'
  exact hG r s2 _ v w' g3 ⟨_,_,hv⟩ (nrmW_ok g1 g2 hψ hw')
section
variable {w:World}
theorem two_zero {w':World}{kk:Rf.Kind}{t u:Wt}{m k1 k2:Nat}{ys:List Value}(hB:PartB w' m (kdK kk) ys nilS' (ptrB k1) (ptrB k2))(hH:Hold true w' [0,0] ys)(ht:PartAt w' t (ptrB k1))(hu:PartAt w' u (ptrB k2)):PartAt w' (.two kk t u) (ptrB m):=
 ⟨m,ys,[0,0],nilS',ptrB k1,ptrB k2,rfl,hB,hH,rfl,fun z hz=>zeros1 z (by simp at hz;simp [hz]),rfl,ht,hu⟩
theorem oper_run {s0:AS}{kd:Int}{k1 k2:Nat}{tr:Tr}(hs:s0.tmps=[inV kd,q1V,q2V].map .val++List.replicate (Tryz.f106.ntmps-3) .und)(hr:RepW Z w (phQ k1 k2) (phQ k1 k2) s0 w)(ht:goP Tryz.f106 s0=some tr)(G:AT->AS->Prop)(hok:tr.ok G fun _ _=>False){R:Ending->World->Prop}(hG:∀ r s φ v w',G r s->relT Z φ s.nums w' r v->RepW Z w (phQ k1 k2) φ s w'->R (.returned v) w'):Calls Tryz.prog 106 #[.int .i64 kd,ptrB k1,ptrB k2] w R:=
 ext_run (s:=s0) (vs:=[inV kd,q1V,q2V]) (args:=[.int .i64 kd,ptrB k1,ptrB k2]) (fn_of Tryz.func106 rfl rfl) (tabSp_ok tP_ok) bP_ok hs ⟨rfl,⟨k1,0,rfl,rfl⟩,⟨k2,0,rfl,rfl⟩,trivial⟩ hr ht G hok hG
theorem oper_two {s0:AS}{kk:Rf.Kind}{k1 k2:Nat}{t u:Wt}(hs:s0.tmps=[inV (kdK kk),q1V,q2V].map .val++List.replicate (Tryz.f106.ntmps-3) .und)(hr:RepW Z w (phQ k1 k2) (phQ k1 k2) s0 w)(ht:goP Tryz.f106 s0=some (.ret (tupE (.ptr 3 0) 0) (lP Tryz.f106 s0 []))/\IsPt (lP Tryz.f106 s0 []) 3 (kdK kk) [0,0] (.ptr 1 0) (.ptr 2 0)/\clean (lP Tryz.f106 s0 [])=true)(hW:opW kk t u=some (.two kk t u))(hp:PartAt w t (ptrB k1))(hu:PartAt w u (ptrB k2)):Calls Tryz.prog 106 #[.int .i64 (kdK kk),ptrB k1,ptrB k2] w (Told2 w (opW kk t u)):=by
 obtain ⟨t1,t2,t3⟩:=ht
 refine oper_run hs hr t1 (fun r s=>r=tupE (.ptr 3 0) 0/\IsPt s 3 (kdK kk) [0,0] (.ptr 1 0) (.ptr 2 0)/\clean s=true) ⟨rfl,t2,t3⟩ ?_
 rintro r s φ v w' ⟨rfl,hI,hc⟩ hrel hw
 have hch:Chg w w' []:=Chg.of_below (RepF.below hw hc)
 obtain ⟨m,ys,j1,j2,j3⟩:=hI.at hw (ptr_v (hw.base 1 (k1,0) rfl)) (ptr_v (hw.base 2 (k2,0) rfl))
 exact .yes (v:=ptrB m) hW hch (by rw [tup_val hrel (ptr_v j1)]) (two_zero j2 j3 (PartAt.keep hch.on t _ hp) (PartAt.keep hch.on u _ hu))
theorem phQ_kb {k k2:Nat}:∀ b x,phQ k k2 b=some x->[1,2].contains b=true:=by
 intro b x e
 match b,e with
 | 0,e=>cases e
 | 1,_=>rfl
 | 2,_=>rfl
 | b+3,e=>cases e
theorem operation_ok (kk:Rf.Kind){t u:Wt}{v v2:Value}(hok:t.Ok)(hp:PartAt w t v)(hok2:u.Ok)(hu:PartAt w u v2):Calls Tryz.prog 106 #[.int .i64 (kdK kk),v,v2] w (Told2 w (opW kk t u)):=by
 obtain ⟨k1,rfl,⟨p,q,rfl,xs,tv,lv,rv,hB,hH,bp,bq,hq⟩ | ⟨hn,kd',hkd',zs,hblk⟩⟩:=part_cases hok hp
 ·obtain ⟨k2,rfl,⟨a,b,rfl,xs2,tv2,lv2,rv2,hB2,hH2,ba,bb,hb⟩ | ⟨hn2,kd2,hkd2,zs2,hblk2⟩⟩:=part_cases hok2 hu
  ·have hrep:∀ tm,RepW Z w (phQ k1 k2) (phQ k1 k2) (opS2 p q a b tm) w:=fun tm=>rep_2 ⟨rfl,rfl,rfl⟩ ⟨rfl,rfl,rfl⟩ (cs:=.int .i64 1::xs) (ys:=[tv,lv,rv]) hB (fr_cs hH bp bq rfl rfl) (cs2:=.int .i64 1::xs2) (ys2:=[tv2,lv2,rv2]) hB2 (fr_cs hH2 ba bb rfl rfl)
   have fin:¬(kk=.div/\a=0)->∀ (kcs:List (K Act)) (φ':Nat->Option (Nat×Nat)) (a':Act) (w':World),(∀ φ1 ν1 w1,SR Z φ1 ν1 w1 (.code (.region rO.1 rO.2.1 true)::rO.2.2) kcs)->Rep Z w (phQ k1 k2) φ' (opS2 p q a b (oSl (kdK kk))) a' w'->sem Z.P (Told2 w (opW kk (.fr p q) (.fr a b))) kcs .normal a' w':=by
    intro hna kcs φ1 a1 w1 hsr1 hr1
    have hW:opW kk (.fr p q) (.fr a b)=some (.fr (lowTo kk p q a b) (lowBo kk p q a b)):=if_neg hna
    obtain ⟨bb,bj,bd⟩:=bar_O
    match kcs,hsr1 φ1 [] w1 with
    | .code cc::kcs',⟨hcc,hsr2⟩=>
    subst hcc
    show (Code.region rO.1 rO.2.1 true).wp Z.P _ a1 w1
    refine draw_bar mixed (tabSp_ok tP_ok) bj bb (dO_t p q a b (kdK kk)) (holds1 (gcd_pos_of (woD_ne hq hb hna))) hr1 ?_
    intro φ2 a2 w2 hr2
    rw [bd]
    show sem Z.P _ (.ops rO.2.1 [10,11,12]::kcs') .normal a2 w2
    obtain ⟨t1,t2,t3⟩:=zO_t p q a b kk
    refine run_ok (tabSp_ok tP_ok) bP_ok (drawA_ok mixed (tabSp_ok tP_ok)) (fun r s=>r=tupE (.ptr 14 0) 0/\IsPt s 14 1 [lowTo kk p q a b,lowBo kk p q a b] (.lit nilP) (.lit nilP)/\clean s=true) (fun _ _=>False) (fun _ _ h=>h.elim) ?_ _ _ _ _ t1 ⟨rfl,t2,t3⟩ _ _ a2 w2 ⟨rfl,rfl,SR.any frO hsr2⟩ hr2
    rintro r s φ v w' ⟨rfl,hI,hc⟩ hrel hw
    have hch:Chg w w' []:=Chg.of_below (RepF.below hw hc)
    obtain ⟨m,ys,j1,j2,j3⟩:=hI.at hw lit_val lit_val
    exact .yes (v:=ptrB m) hW hch (by rw [tup_val hrel (ptr_v j1)]) (pt_fr j2 j3)
   refine calls_x (fn_of Tryz.func106 rfl rfl) (φ:=phQ k1 k2) (vs:=[inV (kdK kk),q1V,q2V]) (args:=[.int .i64 (kdK kk),ptrB k1,ptrB k2]) (s:=opFF (kdK kk) p q a b) (by kernel_rfl) ⟨rfl,⟨k1,0,rfl,rfl⟩,⟨k2,0,rfl,rfl⟩,trivial⟩ (hrep _) ?_
   by_cases hd:kk=.div
   ·subst hd
    refine xrunT (tabSp_ok tP_ok) bP_ok phQ_kb (nrm_R phQ_kb) (oFFd_t p q a b) (fun r s=>a=0/\r=tupE (.lit nilP) 5/\s.dirty=[]) (fun ks s=>a≠0/\ks=.code (.region rO.1 rO.2.1 true)::rO.2.2/\s=opS2 p q a b (oSl 9)) ?_ ?_ ?_
    ·rw [cmp0]
     exact ⟨fun e=>⟨by simpa using e,rfl,rfl⟩,fun e=>⟨by simpa using e,rfl,rfl⟩⟩
    ·rintro r s φ v w' ⟨h0,rfl,hd⟩ ⟨φ0,ν0,hrel⟩ hw
     exact .no (show (if _ then none else _)=none from if_pos ⟨rfl,h0⟩) (rep_chg0 hw hd) (by rw [tup_val hrel lit_val])
    ·rintro ks s ⟨h0,rfl,rfl⟩
     exact ⟨by simpa [noFr] using frO,fin fun e=>h0 e.2⟩
   ·refine xrun' (tabSp_ok tP_ok) bP_ok phQ_kb (nrm_R phQ_kb) (oFF_t p q a b hd) (fun _ _=>False) (fun ks s=>ks=.code (.region rO.1 rO.2.1 true)::rO.2.2/\s=opS2 p q a b (oSl (kdK kk))) ⟨rfl,rfl⟩ (fun _ _ _ _ _ h=>h.elim) ?_
    rintro ks s ⟨rfl,rfl⟩
    exact ⟨by simpa [noFr] using frO,fin fun e=>hd e.1⟩
  ·have hrep:RepW Z w (phQ k1 k2) (phQ k1 k2) (opFK (kdK kk) p q kd2) w:=rep_2 ⟨rfl,rfl,rfl⟩ ⟨rfl,rfl,rfl⟩ (cs:=.int .i64 1::xs) (ys:=[tv,lv,rv]) hB (fr_cs hH bp bq rfl rfl) (cs2:=[.int .i64 kd2]) (ys2:=zs2) hblk2 ⟨rfl,trivial⟩
   refine oper_two (by kernel_rfl) hrep (oFK_t p q kk hkd2) ?_ hp hu
   cases u with
   | fr p q=>exact absurd rfl (hn2 p q)
   | _=>rfl
 ·obtain ⟨k2,rfl,⟨a,b,rfl,xs2,tv2,lv2,rv2,hB2,hH2,ba,bb,hb⟩ | ⟨hn2,kd2,hkd2,zs2,hblk2⟩⟩:=part_cases hok2 hu
  ·have hrep:RepW Z w (phQ k1 k2) (phQ k1 k2) (opKF (kdK kk) kd' a b) w:=rep_2 ⟨rfl,rfl,rfl⟩ ⟨rfl,rfl,rfl⟩ (cs:=[.int .i64 kd']) (ys:=zs) hblk ⟨rfl,trivial⟩ (cs2:=.int .i64 1::xs2) (ys2:=[tv2,lv2,rv2]) hB2 (fr_cs hH2 ba bb rfl rfl)
   have hW0:opW kk t (.fr a b)=if kk=.div/\a=0 then none else some (.two kk t (.fr a b)):=by
    cases t with
    | fr p q=>exact absurd rfl (hn p q)
    | _=>rfl
   by_cases hd:kk=.div
   ·subst hd
    obtain ⟨t1,t2,t3,t4⟩:=oKFd_t a b hkd'
    refine oper_run (by kernel_rfl) hrep t1 (fun r s=>clean s=true/\((a=0/\r=tupE (.lit nilP) 5)\/(a≠0/\r=tupE (.ptr 3 0) 0/\IsPt s 3 9 [0,0] (.ptr 1 0) (.ptr 2 0)))) ?_ ?_
    ·rw [cmp0]
     refine ⟨fun e=>⟨t2,Or.inl ⟨by simpa using e,rfl⟩⟩,fun e=>⟨t4,Or.inr ⟨by simpa using e,rfl,t3⟩⟩⟩
    ·rintro r s φ v w' ⟨hc,h⟩ hrel hw
     have hch:Chg w w' []:=Chg.of_below (RepF.below hw hc)
     rcases h with ⟨h,rfl⟩ | ⟨h,rfl,hI⟩
     ·exact .no (by rw [hW0,if_pos ⟨rfl,h⟩]) hch (by rw [tup_val hrel lit_val])
     ·obtain ⟨m,ys,j1,j2,j3⟩:=hI.at hw (ptr_v (hw.base 1 (k1,0) rfl)) (ptr_v (hw.base 2 (k2,0) rfl))
      exact .yes (v:=ptrB m) (by rw [hW0,if_neg (fun e=>h e.2)]) hch (by rw [tup_val hrel (ptr_v j1)]) (two_zero (kk:=.div) j2 j3 (PartAt.keep hch.on t _ hp) (PartAt.keep hch.on _ _ hu))
   ·exact oper_two (by kernel_rfl) hrep (oKF_t a b hd hkd') (by rw [hW0,if_neg (fun e=>hd e.1)]) hp hu
  ·have hrep:RepW Z w (phQ k1 k2) (phQ k1 k2) (opKK (kdK kk) kd' kd2) w:=rep_2 ⟨rfl,rfl,rfl⟩ ⟨rfl,rfl,rfl⟩ (cs:=[.int .i64 kd']) (ys:=zs) hblk ⟨rfl,trivial⟩ (cs2:=[.int .i64 kd2]) (ys2:=zs2) hblk2 ⟨rfl,trivial⟩
   have hW0:opW kk t u=some (.two kk t u):=by
    cases u with
    | fr p q=>exact absurd rfl (hn2 p q)
    | _=>cases t<;>rfl
   by_cases hd:kk=.div
   ·subst hd
    exact oper_two (by kernel_rfl) hrep (oKKd_t hkd' hkd2) hW0 hp hu
   ·exact oper_two (by kernel_rfl) hrep (oKK_t hd kd2 hkd') hW0 hp hu
end
end Ab
open Go.RowKit
def wagg (x:Rd.Wd):Value:=.agg #[.int .i64 x.kind,.string x.text,.int .i64 x.pos]
theorem Rdr.cells {w:World}{rb g cap:Nat}{ws:List Rd.Wd}{st:Rd.St}(h:Rdr w rb g cap ws st)(n:Nat)(hn:n<ws.length):
  w.cell? ⟨g,n*3,none⟩=some (.int .i64 (Rd.wordAt ws n).kind)/\w.cell? ⟨g,n*3+1,none⟩=some (.string (Rd.wordAt ws n).text)/\w.cell? ⟨g,n*3+2,none⟩=some (.int .i64 (Rd.wordAt ws n).pos):=by
 obtain ⟨cur,h1,h2⟩:=h.row
 have key:∀ i v,i<ws.length*3->(Rd.wcells ws)[i]?=some v->w.cell? ⟨g,i,none⟩=some v:=by
  intro i v hi hv
  refine cell_of_block h1 ?_
  rw [<-h2,List.getElem?_take_of_lt hi] at hv
  simpa using hv
 obtain ⟨a,b,c⟩:=Rd.wcells_at ws n hn
 exact ⟨key _ _ (by omega) a,key _ _ (by omega) b,key _ _ (by omega) c⟩
theorem word_in (w:World)(rb g cap:Nat)(ws:List Rd.Wd)(st:Rd.St)(h:Rdr w rb g cap ws st)(hn:st.next<ws.length):
  Calls Tryz.prog 65 #[.pointer (some ⟨rb,0,none⟩)] w fun e w'=>e=.returned (wagg (Rd.wordAt ws st.next))/\Below w.heap.size w w':=by
 have c0:=h.c0
 have c1:=h.c1
 obtain ⟨e0,e1,e2⟩:=h.cells st.next hn
 have hlt:=h.lt
 have hglt:g<w.heap.size:=by obtain ⟨cur,h1,_⟩:=h.row;exact heap_lt h1
 clear h
 go_enter Tryz.func65,Tryz.ntmps65
 go_wp2_with fail
 go_quiet (fail)
 go_wp2_with fail
 go_region
 all_goals go_wp2_with fail
 exact bodyPost_ret (v:=.agg #[.int .i64 (Rd.wordAt ws st.next).kind,.string (Rd.wordAt ws st.next).text,.int .i64 (Rd.wordAt ws st.next).pos]) (by simp [results,Tryz.results65,go_sem]) rfl
  ⟨rfl,(((below_drewN ((Below.refl _ _).alloc (Nat.le_refl _) _) _).setCell (Nat.le_refl _) _).setCell (Nat.le_refl _) _).setCell (Nat.le_refl _) _⟩
theorem word_out (w:World)(rb g cap:Nat)(ws:List Rd.Wd)(st:Rd.St)(h:Rdr w rb g cap ws st)(hn:¬st.next<ws.length):
  Calls Tryz.prog 65 #[.pointer (some ⟨rb,0,none⟩)] w fun e w'=>e=.returned (.agg #[.int .i64 0,.string ⟨#[]⟩,.int .i64 0])/\Below w.heap.size w w':=by
 have c0:=h.c0
 have c1:=h.c1
 have hlt:=h.lt
 clear h
 go_enter Tryz.func65,Tryz.ntmps65
 go_wp2_with fail
 go_quiet (fail)
 go_wp2_with fail
 exact bodyPost_ret (v:=.agg #[.int .i64 0,.string ⟨#[]⟩,.int .i64 0]) (by simp [results,Tryz.results65,go_sem]) rfl
  ⟨rfl,(((below_drewN ((Below.refl _ _).alloc (Nat.le_refl _) _) _).setCell (Nat.le_refl _) _).setCell (Nat.le_refl _) _).setCell (Nat.le_refl _) _⟩
theorem word_any (w:World)(rb g cap:Nat)(ws:List Rd.Wd)(st:Rd.St)(h:Rdr w rb g cap ws st):
  Calls Tryz.prog 65 #[.pointer (some ⟨rb,0,none⟩)] w fun e w'=>e=.returned (wagg (Rd.wordAt ws st.next))/\Below w.heap.size w w':=by
 by_cases hn:st.next<ws.length
 ·exact word_in w rb g cap ws st h hn
 ·have e:Rd.wordAt ws st.next=⟨0,⟨#[]⟩,0⟩:=by
   unfold Rd.wordAt List.getD
   rw [List.getElem?_eq_none (by omega)];rfl
  rw [e]
  exact word_out w rb g cap ws st h hn
namespace Rd
abbrev Tr:=Go.Deep.BT (Int×Int×List Int)
def leafT (k v:Int)(ts:List Int):Tr:=.node 0 0 (k,v,ts) .nil .nil
def unT (k:Int)(x:Tr):Tr:=.node 0 0 (k,0,[]) x .nil
def opT (k:Int)(l r:Tr):Tr:=.node 0 0 (k,0,[]) l r
def tk (ws:List Wd)(st:St)(c:ByteArray):Bool:=(!((wordAt ws st.next).kind==0))&&isT (wordAt ws st.next).text c.data.toList
def St.ok (st:St):Prop:=st.next<1000/\st.around<1000/\st.deepest<1000/\st.nodes<1000
def St.okB (st:St):Bool:=decide (st.next<1000/\st.around<1000/\st.deepest<1000/\st.nodes<1000)
def St.leaf (st:St):St:={st with nodes:=st.nodes+1,deepest:=bif decide (st.deepest<st.around) then st.around else st.deepest}
def St.node (st:St):St:={st with nodes:=st.nodes+1}
def St.adv (st:St):St:={st with next:=st.next+1}
def St.inn (st:St):St:={st with around:=st.around+1}
def St.out (st:St):St:={st with around:=st.around-1}
def St.okOut (st:St):Bool:=st.okB&&decide (1<=st.around)
theorem St.okB_ok {st:St}(h:st.okB=true):st.ok:=by simpa [St.okB,St.ok] using h
abbrev Ans:=Option (Option Tr×St)
def term (ws:List Wd)(st:St):Int×St:=
 bif (wordAt ws st.next).kind==1 then
  bif valTo (wordAt ws st.next).text (wordAt ws st.next).text.size==0 then (0,st) else (valTo (wordAt ws st.next).text (wordAt ws st.next).text.size,st.adv)
 else (0,st)
def terms (ws:List Wd):Nat->Nat->List Int->St->Option (Option (List Int)×St)
 | 0,_,_,_=>none
 | f+1,c,ts,st=>
  bif st.okB&&(term ws st).2.okB then
   bif (term ws st).1==0 then some (none,(term ws st).2)
   else bif tk ws (term ws st).2 ⟨#[93]⟩ then some (some (ts++[(term ws st).1]),(term ws st).2.adv)
   else bif c==8 then some (none,(term ws st).2)
   else bif tk ws (term ws st).2 ⟨#[44]⟩ then terms ws f (c+1) (ts++[(term ws st).1]) (term ws st).2.adv
   else some (none,(term ws st).2)
  else none
def cfOf:Option (Option (List Int)×St)->Ans
 | none=>none
 | some (none,st)=>some (none,st)
 | some (some ts,st)=>bif st.okB then some (some (leafT 4 0 ts),st.leaf) else none
def continued (ws:List Wd)(st:St):Ans:=
 bif decide (st.next<900)&&st.okB then
  bif tk ws st ⟨#[91]⟩ then
   bif (wordAt ws st.adv.next).kind==1 then
    bif tk ws st.adv.adv ⟨#[59]⟩ then cfOf (terms ws 8 1 [valTo (wordAt ws st.adv.next).text (wordAt ws st.adv.next).text.size] st.adv.adv.adv)
    else some (none,st.adv.adv)
   else some (none,st.adv)
  else some (none,st)
 else none
def unaryOf (k:Int):Option Tr->St->Ans
 | none,st=>some (none,st)
 | some x,st=>bif st.okB then some (some (unT k x),st.node) else none
def operOf (k:Int)(l:Tr):Option Tr->St->Ans
 | none,st=>some (none,st)
 | some r,st=>bif st.okB then some (some (opT k l r),st.node) else none
def Ans.next (a:Ans)(f:Option Tr->St->Ans):Ans:=
 match a with
 | none=>none
 | some (x,st)=>f x st
def nameOf (ws:List Wd)(k:Int)(st:St)(b:St->Ans):Ans:=
 bif k==0 then some (none,st)
 else bif k==2||k==3 then (bif st.adv.okB then some (some (leafT k 0 []),st.adv.leaf) else none)
 else bif k==4 then continued ws st.adv
 else (b st.adv).next fun x st2=>unaryOf k x st2
def closeOf (ws:List Wd)(x:Option Tr)(st:St):Ans:=
 bif st.okOut then
  match x with
  | none=>some (none,st.out)
  | some t=>bif tk ws st.out ⟨#[41]⟩ then some (some t,st.out.adv) else some (none,st.out)
 else none
def parse (ws:List Wd):Nat->Nat->Option Tr->St->Ans
 | 0,_,_,_=>none
 | f+1,0,_,st=>(parse ws f 2 none st).next fun l st1=>parse ws f 1 l st1
 | _+1,1,none,st=>some (none,st)
 | f+1,1,some l,st=>
  bif st.okB then
   bif tk ws st ⟨#[43]⟩ then (parse ws f 2 none st.adv).next fun r st2=>(operOf 6 l r st2).next fun l' st3=>parse ws f 1 l' st3
   else bif tk ws st ⟨#[45]⟩ then (parse ws f 2 none st.adv).next fun r st2=>(operOf 7 l r st2).next fun l' st3=>parse ws f 1 l' st3
   else some (some l,st)
  else none
 | f+1,2,_,st=>(parse ws f 4 none st).next fun l st1=>parse ws f 3 l st1
 | _+1,3,none,st=>some (none,st)
 | f+1,3,some l,st=>
  bif st.okB then
   bif tk ws st ⟨#[42]⟩ then (parse ws f 4 none st.adv).next fun r st2=>(operOf 8 l r st2).next fun l' st3=>parse ws f 3 l' st3
   else bif tk ws st ⟨#[47]⟩ then (parse ws f 4 none st.adv).next fun r st2=>(operOf 9 l r st2).next fun l' st3=>parse ws f 3 l' st3
   else some (some l,st)
  else none
 | f+1,4,_,st=>
  bif st.okB then
   bif tk ws st ⟨#[45]⟩ then (parse ws f 4 none st.adv.inn).next fun x st2=>bif st2.okOut then unaryOf 5 x st2.out else none
   else parse ws f 5 none st
  else none
 | f+1,5,_,st=>
  bif st.okB then
   bif (wordAt ws st.next).kind==1 then
    (bif st.adv.okB then some (some (leafT 1 (valTo (wordAt ws st.next).text (wordAt ws st.next).text.size) []),st.adv.leaf) else none)
   else bif (wordAt ws st.next).kind==2 then nameOf ws (named (wordAt ws st.next).text) st (fun st'=>parse ws f 6 none st')
   else parse ws f 6 none st
  else none
 | f+1,_,_,st=>
  bif st.okB then
   bif tk ws st ⟨#[40]⟩ then (parse ws f 0 none st.adv.inn).next fun x st2=>closeOf ws x st2
   else some (none,st)
  else none
def read (f:Nat)(s:ByteArray):Option (Option Tr×Int×Int):=
 bif decide (120<s.size) then some (none,1,0)
 else
  match parse (split s (s.size+1) 0) f 0 none ⟨0,0,0,0⟩ with
  | none=>none
  | some (none,st)=>some (none,2,(wordAt (split s (s.size+1) 0) st.next).pos)
  | some (some t,st)=>
   bif (wordAt (split s (s.size+1) 0) st.next).kind==0 then
    bif decide (12<st.deepest)||decide (40<st.nodes) then some (none,3,0) else some (some t,0,0)
   else some (none,2,(wordAt (split s (s.size+1) 0) st.next).pos)
end Rd
end Go.Proofs.YteghhlfmcjmnoaaGreatDoor
