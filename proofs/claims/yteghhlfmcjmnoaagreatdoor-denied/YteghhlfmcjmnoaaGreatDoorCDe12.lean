import Derived.Test.YteghhlfmcjmnoaaGreatDoorCDe11
import Derived.Test.YteghhlfmcjmnoaaGreatDoorCDe06
import Derived.Test.YteghhlfmcjmnoaaGreatDoorCDe09
set_option linter.unusedSimpArgs false
set_option linter.unusedVariables false
set_option maxRecDepth 100000
set_option maxHeartbeats 2000000
namespace Go.Proofs.YteghhlfmcjmnoaaGreatDoor
open Go.RowKit
theorem lw_any (w:World)(k o:Nat)(p:Option Addr)(h:w.cell? ⟨k,o+25,none⟩=some (.pointer p)):Calls Tryz.prog 220 #[.pointer (some ⟨k,o,none⟩)] w fun e w'=>e=.returned (.int .i64 (if p.isSome then 8 else 1))/\w'=w:=by
 cases p with
 | none=>
  go_enter Tryz.func220,Tryz.ntmps220
  go_wp2_with fail
  go_ret
  exact ⟨rfl,rfl⟩
 | some a=>
  go_enter Tryz.func220,Tryz.ntmps220
  go_wp2_with fail
  go_ret
  exact ⟨rfl,rfl⟩
namespace Ab
def digZ (s:Bool)(r:Int):Int:=bif s then (bif decide (r>0) then Wr (r-1) else r) else r
def sDg (s:Bool)(r:Int):AS:=⟨.val (.agg [.ptr 0 0,.sint .i64 r])::List.replicate 22 .und,[(0,ext [.sbool s] 205)],1,[],[]⟩
def sDn (r:Int):AS:=⟨.val (.agg [.lit (.pointer none),.sint .i64 r])::List.replicate 22 .und,[],0,[],[]⟩
theorem dg_walk (s:Bool)(r:Int):((run Z (tabSp []) (fun _=>none) (drawA Z (tabSp [])) (fun _=>false) 300 [.code (bodyOf Tryz.f221),.top Tryz.f221] (sDg s r)).bind outcome).bind (outN true)=some ([],.one (.i .i64 (digZ s r)),0):=by kernel_rfl
theorem dn_walk (r:Int):((run Z (tabSp []) (fun _=>none) (drawA Z (tabSp [])) (fun _=>false) 300 [.code (bodyOf Tryz.f221),.top Tryz.f221] (sDn r)).bind outcome).bind (outN true)=some ([],.one (.i .i64 r),0):=by kernel_rfl
theorem dg_any {w:World}{k o:Nat}{s:Bool}{pre post:List Value}(r:Int)(hk:w.heap[k]?=some (.cells (pre++[Value.bool s]++post).toArray 205 (0,0)))(hp:pre.length=o):Calls Tryz.prog 221 #[.agg #[.pointer (some ⟨k,o,none⟩),.int .i64 r]] w fun e w'=>e=.returned (.int .i64 (digZ s r))/\Below w.heap.size w w':=by
 obtain ⟨ou,h1,h2⟩:=bnd (dg_walk s r)
 obtain ⟨tr,h3,h4⟩:=bnd h1
 refine ext_run (vs:=[.agg [.ptr 0 0,.sint .i64 r]]) (args:=[.agg #[.pointer (some ⟨k,o,none⟩),.int .i64 r]]) (φ:=fun b=>bif b==0 then some (k,o) else none) (s:=sDg s r) (fn_of Tryz.func221 rfl rfl) (tabSp_ok (l:=[]) trivial) nobody rfl ⟨⟨[.pointer (some ⟨k,o,none⟩),.int .i64 r],rfl,⟨k,o,rfl,rfl⟩,rfl,trivial⟩,trivial⟩ (rep_ext rfl ?_ ?_ ?_) h3 _ (outcome_ok h4 (outN_ok h2 holds_nil (Nat.le_refl _))) ?_
 ·intro b B hB
  have:=look_mem hB
  simp [sDg] at this
  obtain ⟨rfl,rfl⟩:=this
  exact ⟨rfl,rfl,rfl,k,o,rfl,pre,[.bool s],post,hk,hp,rfl,trivial⟩
 ·intro b hb
  have:1<=b:=hb
  cases b with
  | zero=>omega
  | succ b=>rfl
 ·intro b k' o' hb
  cases b with
  | zero=>cases hb;exact heap_lt hk
  | succ b=>cases hb
 ·rintro r0 st φ v w' ⟨hc,r',h7,h8⟩ hrel hw
  have hv:v=_:=(h8 w' v (rvOf_ok h7 hrel)).2
  rw [hv]
  exact ⟨rfl,RepF.below hw hc⟩
theorem dn_any (w:World)(r:Int):Calls Tryz.prog 221 #[.agg #[.pointer none,.int .i64 r]] w fun e w'=>e=.returned (.int .i64 r)/\Below w.heap.size w w':=by
 obtain ⟨ou,h1,h2⟩:=bnd (dn_walk r)
 obtain ⟨tr,h3,h4⟩:=bnd h1
 refine ext_run (vs:=[.agg [.lit (.pointer none),.sint .i64 r]]) (args:=[.agg #[.pointer none,.int .i64 r]]) (φ:=fun _=>none) (s:=sDn r) (fn_of Tryz.func221 rfl rfl) (tabSp_ok (l:=[]) trivial) nobody rfl ⟨⟨[.pointer none,.int .i64 r],rfl,⟨rfl,rfl⟩,rfl,trivial⟩,trivial⟩ (rep_ext rfl (fun b B hB=>by simp [sDn,look] at hB) (fun _ _=>rfl) (fun b k o e=>by cases e)) h3 _ (outcome_ok h4 (outN_ok h2 holds_nil (Nat.le_refl _))) ?_
 rintro r0 st φ v w' ⟨hc,r',h7,h8⟩ hrel hw
 have hv:v=_:=(h8 w' v (rvOf_ok h7 hrel)).2
 rw [hv]
 exact ⟨rfl,RepF.below hw hc⟩
def i64V:AC->Option Int
 | .int .i64 n=>some n
 | .sint .i64 n=>some n
 | _=>none
def lwO:Option AC->Option Int
 | some (.lit (.pointer none))=>some 1
 | some (.ptr _ _)=>some 8
 | _=>none
def spD:Spec:=fun f _ ν _ bx vs=>
 bif f==221 then (match vs with
  | [.agg [.lit (.pointer none),c]]=>(i64V c).map fun r=>([],.val (.one (.sint .i64 r)),[],none)
  | [.agg [.ptr b 0,c]]=>(i64V c).bind fun r=>(bx b).bind fun B=>bif B.ty==205 then (match B.cs with | .sbool s::_=>some ([],.val (.one (.sint .i64 (digZ s r))),[],none) | _=>none) else none
  | _=>none)
 else bif f==220 then (match vs with
  | [.one (.ptr b 0)]=>(bx b).bind fun B=>bif B.ty==205 then (lwO (B.cs[25]?)).map fun n=>([],.val (.one (.int .i64 n)),[],none) else none
  | _=>none)
 else none
theorem i64V_ok {φ:Nat->Option (Nat×Nat)}{ν:List (Int×Nat)}{w:World}{c:AC}{r:Int}{x:Value}(h:i64V c=some r)(hr:relC Z φ ν w c x):x=.int .i64 r:=by
 unfold i64V at h
 split at h
 ·cases h;exact hr
 ·cases h;exact hr
 ·cases h
theorem spD_ok (w0:World)(ψ:Nat->Option (Nat×Nat)):SpecOk Z w0 ψ spD:=by
 intro f d ν id bx vs ν' r p nbx h
 unfold spD at h
 cases h1:f==221 with
 | true=>
  have:f=221:=by simpa using h1
  subst this
  rw [h1] at h
  simp only [cond_true] at h
  refine ⟨(fn_of Tryz.func221 rfl rfl).en,?_⟩
  split at h
  ·obtain ⟨n,e1,e2⟩:=mpd h
   cases e2
   intro _ μ hμ φ w xs _ _ _ hbx hxs
   obtain ⟨x,rfl,ys,rfl,hy⟩:=one_v hxs
   match ys,hy with
   | [u,v],⟨h2,h3,_⟩=>
    have hu:u=.pointer none:=h2.1
    have hv:=i64V_ok e1 h3
    subst hu hv
    refine (dn_any w n).mono ?_
    rintro e w' ⟨rfl,hb⟩
    exact ⟨_,rfl,hb,rfl⟩
   | [_],⟨_,h⟩=>exact h.elim
   | _::_::_::_,⟨_,_,h⟩=>exact h.elim
  ·rename_i b c
   obtain ⟨n,e1,e2⟩:=bnd h
   obtain ⟨B,e3,e4⟩:=bnd e2
   cases ht:(B.ty==205) with
   | false=>rw [ht] at e4;cases e4
   | true=>
    rw [ht] at e4
    simp only [cond_true] at e4
    split at e4
    ·rename_i s rest hcs
     cases e4
     intro _ μ hμ φ w xs _ _ _ hbx hxs
     obtain ⟨k,o,pre,ys',post,g1,g2,g3,g4⟩:=hbx b B e3
     rw [hcs] at g4
     obtain ⟨x,rfl,ys,rfl,hy⟩:=one_v hxs
     match ys,hy,ys',g4,g2 with
     | [u,v],⟨⟨k',o',q1,q2⟩,h3,_⟩,y::ys',⟨k1,_⟩,g2=>
      rw [g1] at q1
      cases q1
      have hv:=i64V_ok e1 h3
      have hy:y=.bool s:=k1
      subst hv hy q2
      have hty:B.ty=205:=by simpa using ht
      rw [hty] at g2
      refine (dg_any (pre:=pre) (post:=ys'++post) n (by simpa using g2) g3).mono ?_
      rintro e w' ⟨rfl,hb⟩
      exact ⟨_,rfl,hb,rfl⟩
     | [_],⟨_,h⟩,_,_,_=>exact h.elim
     | _::_::_::_,⟨_,_,h⟩,_,_,_=>exact h.elim
    ·cases e4
  ·cases h
 | false=>
  rw [h1] at h
  simp only [cond_false] at h
  cases h2:f==220 with
  | false=>rw [h2] at h;cases h
  | true=>
   have:f=220:=by simpa using h2
   subst this
   rw [h2] at h
   simp only [cond_true] at h
   refine ⟨(fn_of Tryz.func220 rfl rfl).en,?_⟩
   split at h
   ·rename_i b
    obtain ⟨B,e3,e4⟩:=bnd h
    cases ht:(B.ty==205) with
    | false=>rw [ht] at e4;cases e4
    | true=>
     rw [ht] at e4
     simp only [cond_true] at e4
     have key:∀ (φ:Nat->Option (Nat×Nat)) (μ:List (Int×Nat)) (w:World) (xs:List Value) (c:AC),B.cs[25]?=some c->BxOk Z φ μ w bx->All2 (relV Z φ μ w) [.one (.ptr b 0)] xs->∃ k o x,xs=[.pointer (some ⟨k,o,none⟩)]/\relC Z φ μ w c x/\w.cell? ⟨k,o+25,none⟩=some x:=by
      intro φ μ w xs c hc hbx hxs
      obtain ⟨k,o,pre,ys,post,g1,g2,g3,g4⟩:=hbx b B e3
      obtain ⟨x,rfl,k',o',q1,q2⟩:=one_v hxs
      rw [g1] at q1
      cases q1
      obtain ⟨y,hy1,hy2⟩:=g4.at hc
      refine ⟨k,o,y,by rw [q2];rfl,hy2,?_⟩
      rw [cell_at g2,<-g3]
      exact seg_at hy1
     obtain ⟨nn,e5,e6⟩:=mpd e4
     cases e6
     unfold lwO at e5
     split at e5
     ·rename_i hc
      cases e5
      intro _ μ hμ φ w xs _ _ _ hbx hxs
      obtain ⟨k,o,x,rfl,hx,hcell⟩:=key φ μ w xs _ hc hbx hxs
      have hx:x=.pointer none:=hx.1
      subst hx
      refine (lw_any w k o none hcell).mono ?_
      rintro e w' ⟨rfl,rfl⟩
      exact ⟨_,rfl,Below.refl _ _,rfl⟩
     ·rename_i b' off' hc
      cases e5
      intro _ μ hμ φ w xs _ _ _ hbx hxs
      obtain ⟨k,o,x,rfl,hx,hcell⟩:=key φ μ w xs _ hc hbx hxs
      obtain ⟨k2,o2,_,hx⟩:=hx
      subst hx
      refine (lw_any w k o _ hcell).mono ?_
      rintro e w' ⟨rfl,rfl⟩
      exact ⟨_,rfl,Below.refl _ _,rfl⟩
     ·cases e5
   ·cases h
end Ab
open Go.RowKit
namespace Ab
def fWid2:List G->Option RG
 | [.ns [p0,q0,p1,q1,p2,q2,p3,q3],.i .i64 t]=>bif decide (t.natAbs<100) then some (.one (.i .i64 (widthsZ p0 q0 p1 q1 p2 q2 p3 q3 t))) else none
 | _=>none
theorem wid2_te:TEok Z 219 (teN true fWid2 noNd 0 [15,0]):=by
 refine te_congr' Wid_te ?_
 intro gs out h hA hB
 unfold fWid2 at h
 split at h
 ·rename_i p0 q0 p1 q1 p2 q2 p3 q3 t
  cases ht:decide (t.natAbs<100) with
  | false=>rw [ht] at h;cases h
  | true=>
   rw [ht] at h
   cases h
   have:t.natAbs<100:=by simpa using ht
   exact ⟨rfl,holds_cons (by omega) holds_nil⟩
 ·cases h
noncomputable def tR:List (FuncId×TE):=(219,teN true fWid2 noNd 0 [15,0])::tN
theorem tR_ok:AllTE Z tR:=⟨wid2_te,tN_ok⟩
def wsB:Option Bool->Int->Bool->Bool->Bool
 | none,_,_,k=>k
 | some s,r,v,k=>bif s then (bif r==0 then v else k) else k
def dgO:Option Bool->Int->Int
 | none,r=>r
 | some s,r=>digZ s r
def rlK (p0 q0 p1 q1 p2 q2 p3 q3 t:Int)(x:Bool):Bool:=bif fitZ p0 q0 p1 q1 p2 q2 p3 q3 1 0 0 1 then (bif widthsZ p0 q0 p1 q1 p2 q2 p3 q3 t==1 then true else bif widthsZ p0 q0 p1 q1 p2 q2 p3 q3 t==-1 then false else x) else x
def wgt:Bool->Int
 | false=>1
 | true=>8
def readsZ (p0 q0 p1 q1 p2 q2 p3 q3:Int)(l r:Option Bool)(n:Bool)(lr rr:Int):Bool:=
 match l with
 | none=>false
 | some ls=>wsB (some ls) lr true (wsB r rr false (rlK p0 q0 p1 q1 p2 q2 p3 q3 (wgt n) (decide (dgO (some ls) lr<=dgO r rr))))
noncomputable def readsRun (zs:List Int)(hs:Bool)(l r:Option Bool)(g:Option Nat)(c n:Bool)(uns mt lr rr pl:Int):Option Tr:=run Z (orSp spD (tabSp tR)) bN (drawA Z (orSp spD (tabSp tR))) (fun _=>false) 2000 [.code (bodyOf Tryz.f208),.top Tryz.f208] (sNd zs hs l r g c n uns mt lr rr pl 45)
theorem reads_walk (p0 q0 p1 q1 p2 q2 p3 q3:Int)(hs:Bool)(l r:Option Bool)(g:Option Nat)(c n:Bool)(uns mt lr rr pl:Int):((readsRun [p0,q0,p1,q1,p2,q2,p3,q3] hs l r g c n uns mt lr rr pl).bind outcome).bind (outN true)=some ([],.one (.b (readsZ p0 q0 p1 q1 p2 q2 p3 q3 l r n lr rr)),0):=by
 cases l with
 | none=>kernel_rfl
 | some ls=>
  cases r with
  | none=>cases n<;>cases g<;>cases c<;>kernel_rfl
  | some rs=>cases n<;>cases g<;>cases c<;>kernel_rfl
theorem reads_calls {w:World}{k:Nat}{p0 q0 p1 q1 p2 q2 p3 q3:Int}{hs:Bool}{l r:Option (Nat×Bool)}{g:Option (Nat×Nat)}{c nn:Option Nat}{uns mt lr rr pl:Int}{lp rp gv cv nv:Value}(hn:NodeAt w k [p0,q0,p1,q1,p2,q2,p3,q3] hs uns mt lr rr pl lp rp gv cv nv)(hb:∀ z∈[p0,q0,p1,q1,p2,q2,p3,q3],Bits 10 z)(hl:ArgAt w l lp)(hr:ArgAt w r rp)(hg:GivAt w g gv)(hc:ExtAt w 224 c cv)(hm:ExtAt w 273 nn nv):
  Calls Tryz.prog 208 #[.pointer (some ⟨k,0,none⟩)] w fun e w'=>e=.returned (.bool (readsZ p0 q0 p1 q1 p2 q2 p3 q3 (l.map (·.2)) (r.map (·.2)) nn.isSome lr rr))/\Below w.heap.size w w':=by
 have W:=reads_walk p0 q0 p1 q1 p2 q2 p3 q3 hs (l.map (·.2)) (r.map (·.2)) (g.map (·.2)) c.isSome nn.isSome uns mt lr rr pl
 unfold readsRun at W
 have hnt:Tryz.f208.ntmps-1=45:=by kernel_rfl
 refine (nd_calls (sp:=orSp spD (tabSp tR)) (bodies:=bN) (n:=2000) (nt:=45) (fn:=Tryz.f208) (fn_of Tryz.func208 rfl rfl) (fun _ _=>orSp_ok (spD_ok _ _) (tabSp_ok tR_ok)) bN_ok hn rfl hb hl hr hg hc hm hnt W holds_nil).mono ?_
 rintro e w' ⟨v,rfl,hv,hb⟩
 have hv:v=_:=hv.2
 rw [hv]
 exact ⟨rfl,hb⟩
end Ab
open Go.RowKit
namespace Ab
theorem cmp_zero (p:Int):(Nm.cmp p 0==0)=decide (p=0):=by
 rcases Int.lt_trichotomy p 0 with h | h | h
 ·rw [Nm.cmp_lt h,decide_eq_false (by omega)];rfl
 ·rw [Nm.cmp_eq h,decide_eq_true h];rfl
 ·rw [Nm.cmp_gt h,decide_eq_false (by omega)];rfl
theorem sumZ_eq (p q:Int):sumZ p q=Pg.sumC (p,q):=by
 unfold sumZ Pg.sumC
 rw [cmp_zero,cmp_zero]
 by_cases h1:p=0
 ·by_cases h2:q=0
  ·simp [h1,h2]
  ·simp [h1,h2]
 ·simp [h1]
theorem scaledZ_eq (up uq vp vq op oq rp rq:Int):scaledZ up uq vp vq op oq rp rq=Pg.scaled (up,uq) (vp,vq) (op,oq) (rp,rq):=by
 unfold scaledZ Pg.scaled
 rw [sumZ_eq,sumZ_eq]
theorem grZ_eq (a b:Int):grZ a b=Pg.wmax a b:=by
 unfold grZ Pg.wmax
 rcases Int.lt_trichotomy a b with h | h | h
 ·rw [Nm.cmp_lt h,if_pos h];rfl
 ·rw [Nm.cmp_eq h,if_neg (by omega)];rfl
 ·rw [Nm.cmp_gt h,if_neg (by omega)];rfl
theorem widthsZ_eq (p0 q0 p1 q1 p2 q2 p3 q3 t:Int):widthsZ p0 q0 p1 q1 p2 q2 p3 q3 t=Pg.widths [(p0,q0),(p1,q1),(p2,q2),(p3,q3)] t:=by
 unfold widthsZ Pg.widths
 simp only [grZ_eq,scaledZ_eq]
theorem fit1_eq (p0 q0 p1 q1 p2 q2 p3 q3:Int):fitZ p0 q0 p1 q1 p2 q2 p3 q3 1 0 0 1=Nw.fits [(p0,q0),(p1,q1),(p2,q2),(p3,q3)]:=by
 rw [fitZ_eq]
 have:∀ v:Rf.V,Rf.vag ⟨1,0,0,1⟩ v=v:=Pg.vag_one
 simp only [List.map_cons,List.map_nil,this]
def dgR:Option Bool->Nat->Option Nat
 | none,_=>some 0
 | some s,r=>if s then (if r=0 then none else some (r-1)) else some r
theorem dgO_eq {l:Option Bool}{r a:Nat}(hr:l=none->r=0)(hs:r<=1000000)(h:dgR l r=some a):dgO l r=(a:Int):=by
 cases l with
 | none=>simp [dgR] at h;subst h;rw [hr rfl];rfl
 | some s=>
  unfold dgR at h
  show digZ s r=(a:Int)
  unfold digZ
  cases s with
  | false=>simp at h;subst h;rfl
  | true=>
   simp at h
   obtain ⟨h1,h2⟩:=h
   rw [decide_eq_true (by omega:(r:Int)>0),cond_true,cond_true,wr_small (by omega) (by omega)]
   omega
theorem wsB_none {l:Option Bool}{r:Nat}{v k:Bool}(h:dgR l r=none):wsB l r v k=v:=by
 cases l with
 | none=>simp [dgR] at h
 | some s=>
  unfold dgR at h
  cases s with
  | false=>simp at h
  | true=>simp at h;subst h;rfl
theorem wsB_some {l:Option Bool}{r a:Nat}{v k:Bool}(h:dgR l r=some a):wsB l r v k=k:=by
 cases l with
 | none=>rfl
 | some s=>
  unfold dgR at h
  cases s with
  | false=>rfl
  | true=>
   simp at h
   have:((r:Int)==0)=false:=by rw [beq_eq_false_iff_ne];omega
   simp [wsB,this]
theorem reads_eq {ns:List Rf.Nd}{n:Rf.Nd}{corner:List Rf.V}{p0 q0 p1 q1 p2 q2 p3 q3:Int}{ls:Bool}{r:Option Bool}{lr rr:Nat}{sd:Nat}(h4:n.t.length=4)(hc:Rf.corners ns n=some corner)(hc4:corner.length=4)(hf:Pg.Cof corner [(p0,q0),(p1,q1),(p2,q2),(p3,q3)])(hl:lr<=1000000)(hr:rr<=1000000)(hr0:r=none->rr=0)(d0:Rf.digits ns n 0=some (dgR (some ls) lr))(d1:Rf.digits ns n 1=some (dgR r rr))(hs:Rf.side ns n=some sd):
  readsZ p0 q0 p1 q1 p2 q2 p3 q3 (some ls) r n.nest lr rr=decide (sd=0):=by
 unfold Rf.side at hs
 rw [if_neg (by omega),d0] at hs
 simp only [Option.bind_some] at hs
 unfold readsZ
 simp only
 cases e0:dgR (some ls) lr with
 | none=>
  rw [e0] at hs
  simp at hs
  subst hs
  rw [wsB_none e0]
  rfl
 | some a=>
  rw [e0] at hs
  rw [wsB_some e0]
  simp only at hs
  rw [d1] at hs
  simp only [Option.bind_some] at hs
  cases e1:dgR r rr with
  | none=>
   rw [e1] at hs
   simp at hs
   subst hs
   rw [wsB_none e1]
   rfl
  | some b=>
   rw [e1] at hs
   rw [wsB_some e1]
   simp only [hc,Option.map_some,Option.some.injEq] at hs
   rw [dgO_eq (by intro h;cases h) hl e0,dgO_eq hr0 hr e1]
   unfold rlK
   rw [fit1_eq,widthsZ_eq,<-hf.fits]
   have hw:((wgt n.nest):Int)=(if n.nest then 8 else 1):=by cases n.nest<;>rfl
   rw [hw]
   have hab:decide ((a:Int)<=(b:Int))=decide (a<=b):=by rw [decide_eq_decide];omega
   rw [hab]
   cases hfit:Nw.fits corner with
   | false=>
    rw [hfit] at hs
    simp at hs
    rw [cond_false]
    by_cases hle:a<=b
    ·simp [hle] at hs ⊢;exact hs.symm
    ·simp [hle] at hs ⊢;omega
   | true=>
    rw [hfit] at hs
    simp only [if_true] at hs
    rw [cond_true,<-hf.wider hc4 hfit]
    generalize Rf.wider (if n.nest=true then 8 else 1) corner=c at*
    by_cases c1:c=1
    ·subst c1;simp at hs;subst hs;rfl
    ·by_cases c2:c=-1
     ·subst c2;simp at hs;subst hs;rfl
     ·have b1:(c==1)=false:=by rw [beq_eq_false_iff_ne];exact c1
      have b2:(c==-1)=false:=by rw [beq_eq_false_iff_ne];exact c2
      rw [b1,b2,cond_false,cond_false]
      rw [if_neg c1,if_neg c2] at hs
      by_cases hle:a<=b
      ·rw [if_pos hle] at hs;subst hs;simp [hle]
      ·rw [if_neg hle] at hs;subst hs;simp [hle]
end Ab
open Go.RowKit
def cfAt (len k:Nat):Nat:=if k=0 then 0 else 1+(k-1)%(len-1)
theorem cfTerm_any (w:World)(g cap len k:Nat)(t:Int)(h2:2<=len)(hlen:len<=1000000)(hk:k<=1000000)(hc:w.cell? ⟨g,cfAt len k,none⟩=some (.int .i64 t)):Calls Tryz.prog 229 #[.slice (some ⟨g,0,none⟩) len cap,.int .i64 k] w fun e w'=>e=.returned (.int .i64 t)/\w'=w:=by
 have n1:¬((len:Int)-1<1):=by omega
 have n2:¬((k:Int)<0):=by omega
 rcases Nat.eq_zero_or_pos k with rfl | hp
 ·have hc:w.cell? ⟨g,0,none⟩=some (.int .i64 t):=hc
  have n3:(0:Int)<len:=by omega
  have n4:0<len:=by omega
  go_enter Tryz.func229,Tryz.ntmps229
  go_wp2_with fail
  go_ret
  exact ⟨rfl,rfl⟩
 ·have e0:cfAt len k=1+(k-1)%(len-1):=by unfold cfAt;rw [if_neg (by omega)]
  rw [e0] at hc
  have hm:=Nat.mod_lt (k-1) (show 0<len-1 by omega)
  have e1:((k:Int)-1).tmod ((len:Int)-1)=(((k-1)%(len-1):Nat):Int):=by
   rw [Int.tmod_eq_emod_of_nonneg (by omega)]
   have a1:(k:Int)-1=((k-1:Nat):Int):=by omega
   have a2:(len:Int)-1=((len-1:Nat):Int):=by omega
   rw [a1,a2,Int.natCast_emod]
  generalize (k-1)%(len-1)=j at*
  have k0:((k:Int)==0)=false:=beq_eq_false_iff_ne.2 (by omega)
  have d0:¬((len:Int)-1=0):=by omega
  have d1:(((len:Int)-1)==0)=false:=beq_eq_false_iff_ne.2 d0
  have i1:(1:Int)+(j:Int)<len:=by omega
  have i2:((1:Int)+(j:Int)).toNat=1+j:=by omega
  have i3:(0:Int)<=1+(j:Int):=by omega
  go_enter Tryz.func229,Tryz.ntmps229
  go_wp2_with fail
  go_ret
  exact ⟨rfl,rfl⟩
open Go.RowKit
namespace Ab
def sCon (kd:Int)(zs:List Int)(k:Int):AS:=⟨.val (.one (.ptr 0 0))::.val (.one (.sint .i64 k))::List.replicate 34 .und,[(0,ext (.int .i64 kd::.any::numCs true 0 8) 224)],1,zs.map fun z=>(z,1),[]⟩
noncomputable def bC:FuncId->Option Func:=fun f=>bif f==230 then some Tryz.f230 else none
theorem bC_ok:BodiesOk Z bC:=by
 intro f fn h
 unfold bC at h
 cases h1:f==230 with
 | true=>
  rw [h1] at h
  cases h
  have:f=230:=by simpa using h1
  subst this
  exact ⟨(fn_of Tryz.func230 rfl rfl).at',(fn_of Tryz.func230 rfl rfl).en⟩
 | false=>rw [h1] at h;cases h
noncomputable def conRun (kd:Int)(zs:List Int)(k:Int):Option (List Prop×RG×Nat):=((run Z (tabSp tN) bC (drawA Z (tabSp tN)) (fun _=>false) 2000 [.code (bodyOf Tryz.f216),.top Tryz.f216] (sCon kd zs k)).bind outcome).bind (outN true)
def serL (kd p q s r k:Int):List Int:=
 [bif decide (k>0) then (bif (kd==13)||(kd==11) then 0 else 0) else 0,bif decide (k>0) then (bif (kd==13)||(kd==11) then s*fac1 kd k else p*fac1 kd k) else p*fac1 kd k,
  bif decide (k>0) then (bif (kd==13)||(kd==11) then r else q) else q,bif decide (k>0) then (bif (kd==13)||(kd==11) then r*fac2 kd k else q*fac2 kd k) else q*fac2 kd k]
def serN (kd k:Int):List Prop:=
 [decide (k>0)=true->((kd==13)||(kd==11))=true->(fac1 kd k).natAbs<1000000000000000000,decide (k>0)=true->((kd==13)||(kd==11))=true->(fac2 kd k).natAbs<1000000000000000000,
  decide (k>0)=true->((kd==13)||(kd==11))=false->(fac1 kd k).natAbs<1000000000000000000,decide (k>0)=true->((kd==13)||(kd==11))=false->(fac2 kd k).natAbs<1000000000000000000,
  decide (k>0)=false->(fac1 kd k).natAbs<1000000000000000000,decide (k>0)=false->(fac2 kd k).natAbs<1000000000000000000]
section
variable (p q s r a b c d k:Int)
theorem con2:conRun 2 [p,q,s,r,a,b,c,d] k=some ([0<=k/\k<=100000000],.one (.ns [bif k==0 then 0 else 0,bif k==0 then 4 else Wr (k*k),bif k==0 then 1 else 1,bif k==0 then 1 else Wr (Wr (2*k)+1)]),1):=by kernel_rfl
theorem con3:conRun 3 [p,q,s,r,a,b,c,d] k=some ([(eterm k).natAbs<1000000000000000000],.one (.ns [eterm k,1,1,0]),1):=by kernel_rfl
theorem con10:conRun 10 [p,q,s,r,a,b,c,d] k=some ([],.one (.ns [a,b,c,d]),1):=by kernel_rfl
theorem con11:conRun 11 [p,q,s,r,a,b,c,d] k=some (serN 11 k,.one (.ns (serL 11 p q s r k)),2):=by kernel_rfl
theorem con12:conRun 12 [p,q,s,r,a,b,c,d] k=some (serN 12 k,.one (.ns (serL 12 p q s r k)),2):=by kernel_rfl
theorem con13:conRun 13 [p,q,s,r,a,b,c,d] k=some (serN 13 k,.one (.ns (serL 13 p q s r k)),2):=by kernel_rfl
end
theorem fac_eq {kd:Int}{op:Rf.Op}{k:Nat}(hk:k<=1000000)(h:(kd=11/\op=.exp)\/(kd=12/\op=.ln1p)\/(kd=13/\op=.atan)):fac1 kd k=(Rf.shape op k).1/\fac2 kd k=(Rf.shape op k).2:=by
 have kk:(k:Int)*k<=1000000*1000000:=Int.mul_le_mul (by omega) (by omega) (by omega) (by omega)
 have kk0:0<=(k:Int)*k:=Int.mul_nonneg (by omega) (by omega)
 have w1:Wr ((k:Int)*k)=(k:Int)*k:=wr_small (by omega) (by omega)
 have w2:Wr (4*(k:Int))=4*k:=wr_small (by omega) (by omega)
 have w3:Wr (4*(k:Int)+2)=4*k+2:=wr_small (by omega) (by omega)
 have w4:Wr (2*(k:Int))=2*k:=wr_small (by omega) (by omega)
 have w5:Wr (2*(k:Int)+1)=2*k+1:=wr_small (by omega) (by omega)
 have w6:Wr ((k:Int)+1)=k+1:=wr_small (by omega) (by omega)
 have h7:((k:Int)+1).tdiv 2=(((k+1)/2:Nat):Int):=by
  rw [Int.tdiv_eq_ediv_of_nonneg (by omega)]
  omega
 have w7:Wr ((((k+1)/2:Nat):Int))=(((k+1)/2:Nat):Int):=wr_small (by omega) (by omega)
 have hh:(((k+1)/2:Nat):Int)*(((k+1)/2:Nat):Int)<=1000000*1000000:=Int.mul_le_mul (by omega) (by omega) (by omega) (by omega)
 have hh0:0<=(((k+1)/2:Nat):Int)*(((k+1)/2:Nat):Int):=Int.mul_nonneg (by omega) (by omega)
 have w8:Wr ((((k+1)/2:Nat):Int)*(((k+1)/2:Nat):Int))=(((k+1)/2:Nat):Int)*(((k+1)/2:Nat):Int):=wr_small (by omega) (by omega)
 by_cases h0:k=0
 ·subst h0
  rcases h with ⟨rfl,rfl⟩ | ⟨rfl,rfl⟩ | ⟨rfl,rfl⟩<;>exact ⟨rfl,rfl⟩
 ·have hb:((k:Int)==0)=false:=beq_eq_false_iff_ne.2 (by omega)
  rcases h with ⟨rfl,rfl⟩ | ⟨rfl,rfl⟩ | ⟨rfl,rfl⟩
  ·refine ⟨rfl,?_⟩
   show Wr (Wr (4*(k:Int))+2)=((4*k+2:Nat):Int)
   rw [w2,w3]
   omega
  ·unfold fac1 fac2 Rf.shape
   simp only [hb,h0,if_true,if_false,show ((12:Int)==11)=false from rfl,show ((12:Int)==13)=false from rfl,cond_false,w6,h7,w7,w8]
   refine ⟨?_,?_⟩<;>simp
  ·unfold fac1 fac2 Rf.shape
   simp only [hb,h0,if_true,if_false,show ((13:Int)==11)=false from rfl,show ((13:Int)==13)=true from rfl,cond_false,cond_true,w1,w4,w5,reduceCtorEq]
   refine ⟨?_,?_⟩<;>simp
end Ab
open Go.RowKit
namespace Ab
theorem ser_eq {n:Rf.Nd}{kd p q s r g h:Int}{k:Nat}(hk:k<=1000000)(hop:(kd=11/\n.op=.exp)\/(kd=12/\n.op=.ln1p)\/(kd=13/\n.op=.atan))(hg:0<g)(hh:0<h)(e1:n.p=g*p)(e2:n.q=g*q)(e3:n.p*n.p=h*s)(e4:n.q*n.q=h*r):∃ f a b c d,0<f/\serL kd p q s r k=[a,b,c,d]/\Rf.constant n k=some (Pg.msc f ⟨a,b,c,d⟩):=by
 obtain ⟨f1,f2⟩:=fac_eq hk hop
 have hc:Rf.constant n k=some (if n.op≠.ln1p/\0<k then ⟨0,(Rf.shape n.op k).1*(n.p*n.p),n.q*n.q,(Rf.shape n.op k).2*(n.q*n.q)⟩ else ⟨0,(Rf.shape n.op k).1*n.p,n.q,(Rf.shape n.op k).2*n.q⟩):=by
  unfold Rf.constant
  rcases hop with ⟨_,e⟩ | ⟨_,e⟩ | ⟨_,e⟩<;>rw [e]
 by_cases hb:n.op≠.ln1p/\0<k
 ·rw [if_pos hb] at hc
  have hs:((kd==13)||(kd==11))=true:=by
   rcases hop with ⟨rfl,_⟩ | ⟨rfl,e⟩ | ⟨rfl,_⟩
   ·rfl
   ·exact absurd e hb.1
   ·rfl
  refine ⟨h,0,s*fac1 kd k,r,r*fac2 kd k,hh,?_,?_⟩
  ·unfold serL
   rw [decide_eq_true (by omega:(k:Int)>0),hs]
   rfl
  ·rw [hc,f1,f2,e3,e4]
   unfold Pg.msc
   congr 2<;>simp only<;>grind
 ·rw [if_neg hb] at hc
  have hs:serL kd p q s r k=[0,p*fac1 kd k,q,q*fac2 kd k]:=by
   unfold serL
   by_cases h0:k=0
   ·subst h0;rfl
   ·have:n.op=.ln1p:=by
     rcases hop with ⟨_,e⟩ | ⟨_,e⟩ | ⟨_,e⟩
     ·exact absurd ⟨by rw [e];decide,by omega⟩ hb
     ·exact e
     ·exact absurd ⟨by rw [e];decide,by omega⟩ hb
    have hkd:kd=12:=by
     rcases hop with ⟨_,e⟩ | ⟨e,_⟩ | ⟨_,e⟩
     ·rw [e] at this;cases this
     ·exact e
     ·rw [e] at this;cases this
    subst hkd
    cases decide ((k:Int)>0)<;>rfl
  refine ⟨g,0,p*fac1 kd k,q,q*fac2 kd k,hg,hs,?_⟩
  rw [hc,f1,f2,e1,e2]
  unfold Pg.msc
  congr 2<;>simp only<;>grind
theorem pi_eq {n:Rf.Nd}{k:Nat}(hk:k<=1000000)(hop:n.op=.pi):Rf.constant n k=some ⟨bif (k:Int)==0 then 0 else 0,bif (k:Int)==0 then 4 else Wr ((k:Int)*k),bif (k:Int)==0 then 1 else 1,bif (k:Int)==0 then 1 else Wr (Wr (2*(k:Int))+1)⟩:=by
 have kk:(k:Int)*k<=1000000*1000000:=Int.mul_le_mul (by omega) (by omega) (by omega) (by omega)
 have kk0:0<=(k:Int)*k:=Int.mul_nonneg (by omega) (by omega)
 have w1:Wr ((k:Int)*k)=(k:Int)*k:=wr_small (by omega) (by omega)
 have w4:Wr (2*(k:Int))=2*k:=wr_small (by omega) (by omega)
 have w5:Wr (2*(k:Int)+1)=2*k+1:=wr_small (by omega) (by omega)
 unfold Rf.constant
 rw [hop]
 by_cases h0:k=0
 ·subst h0;rfl
 ·have hb:((k:Int)==0)=false:=beq_eq_false_iff_ne.2 (by omega)
  simp only [h0,if_false,hb,cond_false,w1,w4,w5]
  simp
theorem e_eq {n:Rf.Nd}{k:Nat}(hk:k<=1000000)(hop:n.op=.e):Rf.constant n k=some ⟨eterm k,1,1,0⟩:=by
 have w1:Wr ((k:Int)+1)=k+1:=wr_small (by omega) (by omega)
 have w2:Wr (2*((k:Int)+1))=2*(k+1):=wr_small (by omega) (by omega)
 have h3:(2*((k:Int)+1)).tdiv 3=2*(k+1)/3:=Int.tdiv_eq_ediv_of_nonneg (by omega)
 have w3:Wr (2*((k:Int)+1)/3)=2*(k+1)/3:=wr_small (by omega) (by omega)
 have hm:(k:Int).tmod 3=(k:Int)%3:=Int.tmod_eq_emod_of_nonneg (by omega)
 unfold Rf.constant
 rw [hop]
 simp only
 congr 2
 unfold Rf.eterm eterm
 by_cases h0:k=0
 ·subst h0;rfl
 ·have hb:((k:Int)==0)=false:=beq_eq_false_iff_ne.2 (by omega)
  rw [if_neg h0,hb,cond_false,hm,w1,w2,h3,w3]
  by_cases h2:k%3=2
  ·have hb2:((k:Int)%3==2)=true:=by rw [beq_iff_eq];omega
   rw [if_pos h2,hb2,cond_true]
   omega
  ·have hb2:((k:Int)%3==2)=false:=by rw [beq_eq_false_iff_ne];omega
   rw [if_neg h2,hb2,cond_false]
end Ab
open Go.RowKit
namespace Ab
def wrt (cs:List AC)(ty:TypeId):Box:=⟨cs,ty,false,false,false⟩
theorem rep_wr {C:Cfg}{w:World}{φ:Nat->Option (Nat×Nat)}{s:AS}(hd:s.dirty=[])(hb:∀ b B,look s.boxes b=some B->B.own=false/\B.tip=false/\∃ k o,φ b=some (k,o)/\Seg C φ s.nums w k o B.ty B.cs)(hi:∀ b b' B B' k o o',look s.boxes b=some B->look s.boxes b'=some B'->φ b=some (k,o)->φ b'=some (k,o')->b=b'\/(B.ro=true/\B'.ro=true))(hn:∀ b,s.next<=b->φ b=none)(hl:∀ b k o,φ b=some (k,o)->k<w.heap.size):RepW C w φ φ s w:=by
 refine ⟨fun b B hB=>?_,fun b B k o hB ho=>?_,fun b b' B B' k o o' h1 h2 h3 h4=>?_,fun b B hB ht=>?_,hn,hl,fun k _ _=>rfl,On.refl _ _,fun b x e=>e,fun b B k o h1 h2=>(by rw [(hb b B h1).1] at h2;cases h2)⟩
 ·obtain ⟨_,_,k,o,h1,pre,ys,post,h2,h3,h4⟩:=hb b B hB
  exact ⟨k,o,pre,ys,post,h1,h2,h3,h4⟩
 ·have:=(hb b B hB).1
  rw [ho] at this
  cases this
 ·obtain ⟨_,t1,_⟩:=hb b B h1
  obtain ⟨_,t2,_⟩:=hb b' B' h2
  rcases hi b b' B B' k o o' h1 h2 h3 h4 with e | ⟨r1,r2⟩
  ·exact Or.inl e
  ·exact Or.inr ⟨r1,r2,fun ⟨a,_⟩=>(by rw [t1] at a;cases a),fun a=>(by rw [t1] at a;cases a)⟩
 ·have:=(hb b B hB).2.1
  rw [ht] at this
  cases this
inductive WT where
 | ret (r:AT) (s:AS)
 | br (t:Bool) (a b:WT)
 | need (p:List Prop) (o:WT)
theorem rebW_ok {w0 w:World}{ψ φ:Nat->Option (Nat×Nat)}{s:AS}{rb:List Nat}(hp:Holds (rebP s.nums rb))(hr:RepW Z w0 ψ φ s w):RepW Z w0 ψ φ (rebS rb s) w:=by
 refine ⟨?_,hr.own,hr.inj,hr.tip,hr.fresh,hr.lt,hr.low,hr.on,hr.base,hr.exa⟩
 intro b B hb
 obtain ⟨k,o,pre,ys,post,k1,k2,k3,k4⟩:=hr.box b B hb
 exact ⟨k,o,pre,ys,post,k1,k2,k3,k4.mono (reb_rel hp)⟩
end Ab
open Go.RowKit
namespace Ab
def opCalls (f:FuncId)(o:Oper):Bool:=
 match o.op with
 | .call { callee:=.value (.func g),..}=>g==f
 | _=>false
def opApp (o:Oper):Bool:=
 match o.op with
 | .call { callee:=.builtin .append,..}=>true
 | _=>false
def atOp (p:Oper->Bool):List (K (List AT))->Bool
 | .ops all (i::_)::_=>match all[i]? with | some o=>p o | none=>false
 | _=>false
def idxOp (p:Oper->Bool):List Oper->Nat->Option Nat
 | [],_=>none
 | o::r,i=>bif p o then some i else idxOp p r (i+1)
def contOp (p:Oper->Bool):Code->List (K (List AT))->Option (List (K (List AT)))
 | .region _ ops false,ks=>(idxOp p ops.toList 0).map fun j=>.ops ops ((List.range ops.size).drop (j+1))::ks
 | .seq a b,ks=>match contOp p a (.code b::ks) with | some r=>some r | none=>contOp p b ks
 | .block id b,ks=>contOp p b (.blk id::ks)
 | .cond _ a b,ks=>match contOp p a ks with | some r=>some r | none=>contOp p b ks
 | _,_=>none
def aft (p:Oper->Bool)(fn:Func):List (K (List AT)):=(contOp p (bodyOf fn) [.top fn]).getD []
def callAt (C:Cfg)(s:AS):List (K (List AT))->Option (FuncId×List AV×Option Tmp×List (K (List AT)))
 | .ops all (i::rest)::ks=>(all[i]?).bind fun o=>
  match gd all s.tmps o with
  | .yes=>match evalOp C.P (evO s.tmps) (look s.boxes) o.op with
   | some (.call f vs)=>some (f,vs,o.dst,.ops all rest::ks)
   | _=>none
  | _=>none
 | _=>none
theorem callAt_ok {C:Cfg}{R:Ending->World->Prop}{w0:World}{ψ φ:Nat->Option (Nat×Nat)}{s:AS}{a:Act}{w:World}{ks ks2:List (K (List AT))}{kcs:List (K Act)}{f:FuncId}{vs:List AV}{dst:Option Tmp}(h:callAt C s ks=some (f,vs,dst,ks2))(hen:Enters C.P f)(hfr:noFr ks=true){φ1:Nat->Option (Nat×Nat)}{ν1:List (Int×Nat)}{w1:World}(hsr:SR C φ1 ν1 w1 ks kcs)(hr:Rep C w0 ψ φ s a w)
  (H:∀ xs:List Value,All2 (relV C φ s.nums w) vs xs->Calls C.P f xs.toArray w fun e w'=>∃ v,e=.returned v/\∀ kcs2,noFr ks2=true->(∀ φ' ν' w'',SR C φ' ν' w'' ks2 kcs2)->sem C.P R kcs2 .normal (a.put dst v) w'):sem C.P R kcs .normal a w:=by
 unfold callAt at h
 split at h
 ·rename_i all i rest ks'
  obtain ⟨o,ho,h2⟩:=bnd h
  split at h2
  ·rename_i hg
   split at h2
   ·rename_i f' vs' he
    cases h2
    match kcs,hsr with
    | .ops all' r'::kcs',⟨e1,e2,hsr2⟩=>
     subst e1 e2
     show wpOps C.P all' (sem C.P R kcs') (i::rest) a w
     rw [wpOps_cons]
     have hw:=gd_ok (all:=all') (o:=o) hr.tmps
     rw [hg] at hw
     obtain ⟨xs,r1,r2⟩:=evalOp_ok (o:=o) (evO_ok hr.tmps) hr.wd.box (fun _=>rfl) (fun f' vs' e=>by cases e;exact hen) he
     unfold wpOp
     simp only [ho]
     rw [if_pos hw]
     refine Or.inl ?_
     unfold Oper.wp
     rw [r1]
     show Calls C.P f xs.toArray w _
     refine (H xs r2).mono ?_
     rintro e w' ⟨v,rfl,hv⟩
     have hfr2:noFr ks'=true:=by simpa [noFr] using hfr
     exact hv (.ops all' rest::kcs') (by simpa [noFr] using hfr) fun φ' ν' w''=>⟨rfl,rfl,SR.any hfr2 hsr2⟩
   ·cases h2
  ·cases h2
 ·cases h
def keepC (kb:List Nat):AC->Bool
 | .int _ _=>true
 | .bool _=>true
 | .sint _ _=>true
 | .sbool _=>true
 | .lit _=>true
 | .ptr b _=>kb.contains b
 | _=>false
def keepT (kb kt:List Nat):Nat->List AT->List AT
 | _,[]=>[]
 | i,t::r=>(bif kt.contains i then (match t with | .val (.one c)=>bif keepC kb c then t else .top | .und=>.und | _=>.top) else .top)::keepT kb kt (i+1) r
theorem keepC_rel {C:Cfg}{φ φ2:Nat->Option (Nat×Nat)}{ν ν2:List (Int×Nat)}{w w2:World}{kb:List Nat}{c:AC}{x:Value}(h:keepC kb c=true)(hφ:∀ b,kb.contains b=true->φ2 b=φ b)(r:relC C φ ν w c x):relC C φ2 ν2 w2 c x:=by
 cases c<;>simp only [keepC] at h<;>try (first | exact r | cases h)
 obtain ⟨k,o,h1,h2⟩:=r
 exact ⟨k,o,by rw [hφ _ h];exact h1,h2⟩
theorem keepT_rel {C:Cfg}{φ φ2:Nat->Option (Nat×Nat)}{ν ν2:List (Int×Nat)}{w w2:World}{kb kt:List Nat}(hφ:∀ b,kb.contains b=true->φ2 b=φ b):∀ (i:Nat) (ts:List AT) (xs:List Value),All2 (relT C φ ν w) ts xs->All2 (relT C φ2 ν2 w2) (keepT kb kt i ts) xs
 | _,[],[],_=>trivial
 | _,[],_::_,h=>h.elim
 | _,_::_,[],h=>h.elim
 | i,t::r,x::xs,⟨h1,h2⟩=>by
  refine ⟨?_,keepT_rel hφ (i+1) r xs h2⟩
  cases kt.contains i with
  | false=>trivial
  | true=>
   simp only [cond_true]
   split
   ·rename_i c
    cases hc:keepC kb c with
    | false=>trivial
    | true=>exact keepC_rel hc hφ h1
   ·exact h1
   ·trivial
theorem rep_aft {C:Cfg}{w0 w0':World}{ψ ψ' φ φ2:Nat->Option (Nat×Nat)}{s s2:AS}{a:Act}{w w':World}{dst:Option Tmp}{v:Value}{r:AT}{kb kt:List Nat}(hr:Rep C w0 ψ φ s a w)(hw:RepW C w0' ψ' φ2 s2 w')(ht:s2.tmps=putT (keepT kb kt 0 s.tmps) dst r)(hφ:∀ b,kb.contains b=true->φ2 b=φ b)(hv:relT C φ2 s2.nums w' r v):Rep C w0' ψ' φ2 s2 (a.put dst v) w':=by
 refine ⟨hw,by rw [put_defers];exact hr.defers,?_⟩
 rw [ht]
 exact putT_ok (keepT_rel hφ 0 _ _ hr.tmps) dst hv
inductive XT where
 | ret (r:AT) (s:AS)
 | stp (ks:List (K (List AT))) (s:AS)
 | br (t:Bool) (a b:XT)
 | need (p:List Prop) (o:XT)
def XT.ok (G:AT->AS->Prop)(H:List (K (List AT))->AS->Prop):XT->Prop
 | .ret r s=>G r s
 | .stp ks s=>H ks s
 | .br t a b=>(t=true->a.ok G H)/\(t=false->b.ok G H)
 | .need p o=>Holds p/\o.ok G H
def nrm (kb kt:List Nat)(nx:Nat)(rb:List Nat)(s:AS):Option (AS×List Prop):=(norm kb kt nx s).map fun s'=>(rebS rb s',rebP s'.nums rb)
def outX (nr ns:AS->Option (AS×List Prop)):Tr->Option XT
 | .ret r s=>(nr s).map fun x=>match x.2 with | []=>.ret r x.1 | p::ps=>.need (p::ps) (.ret r x.1)
 | .stop ks s=>(ns s).map fun x=>match x.2 with | []=>.stp ks x.1 | p::ps=>.need (p::ps) (.stp ks x.1)
 | .br t a b=>(outX nr ns a).bind fun x=>(outX nr ns b).map fun y=>.br t x y
 | .need p t=>(outX nr ns t).map (.need p)
theorem outX_ok {nr ns:AS->Option (AS×List Prop)}{G:AT->AS->Prop}{H:List (K (List AT))->AS->Prop}:∀ {tr:Tr} {xt:XT},outX nr ns tr=some xt->xt.ok G H->tr.ok (fun r s=>∃ s' p,nr s=some (s',p)/\Holds p/\G r s') fun ks s=>∃ s' p,ns s=some (s',p)/\Holds p/\H ks s'
 | .ret r s,xt,h,hk=>by
  simp only [outX] at h
  obtain ⟨⟨s',q⟩,h1,h2⟩:=mpd h
  cases q with
  | nil=>simp only at h2;subst h2;exact ⟨s',[],h1,holds_nil,hk⟩
  | cons p ps=>simp only at h2;subst h2;exact ⟨s',_,h1,hk.1,hk.2⟩
 | .stop ks s,xt,h,hk=>by
  simp only [outX] at h
  obtain ⟨⟨s',q⟩,h1,h2⟩:=mpd h
  cases q with
  | nil=>simp only at h2;subst h2;exact ⟨s',[],h1,holds_nil,hk⟩
  | cons p ps=>simp only at h2;subst h2;exact ⟨s',_,h1,hk.1,hk.2⟩
 | .br t a b,xt,h,hk=>by
  simp only [outX] at h
  obtain ⟨x,h1,h2⟩:=bnd h
  obtain ⟨y,h3,rfl⟩:=mpd h2
  exact ⟨fun e=>outX_ok h1 (hk.1 e),fun e=>outX_ok h3 (hk.2 e)⟩
 | .need p t,xt,h,hk=>by
  simp only [outX] at h
  obtain ⟨x,h1,rfl⟩:=mpd h
  exact ⟨hk.1,outX_ok h1 hk.2⟩
theorem nrm_ok {w0 w:World}{ψ φ:Nat->Option (Nat×Nat)}{kb kt:List Nat}{nx:Nat}{rb:List Nat}{s s':AS}{p:List Prop}{a:Act}(h:nrm kb kt nx rb s=some (s',p))(hp:Holds p)(hψ:∀ b x,ψ b=some x->kb.contains b=true)(hr:Rep Z w0 ψ φ s a w):Rep Z w0 ψ (rst kb φ) s' a w:=by
 unfold nrm at h
 obtain ⟨t,h1,h2⟩:=mpd h
 cases h2
 exact rebS_ok hp (norm_ok h1 hψ hr)
theorem nrmW_ok {w0 w:World}{ψ φ:Nat->Option (Nat×Nat)}{kb kt:List Nat}{nx:Nat}{rb:List Nat}{s s':AS}{p:List Prop}(h:nrm kb kt nx rb s=some (s',p))(hp:Holds p)(hψ:∀ b x,ψ b=some x->kb.contains b=true)(hr:RepW Z w0 ψ φ s w):RepW Z w0 ψ (rst kb φ) s' w:=by
 unfold nrm at h
 obtain ⟨t,h1,h2⟩:=mpd h
 cases h2
 exact rebW_ok hp (normW_ok h1 hψ hr)
theorem calls_x {f:FuncId}{fn:Func}(F:Fn f fn){w:World}{φ:Nat->Option (Nat×Nat)}{s:AS}{vs:List AV}{args:List Value}(hs:s.tmps=vs.map .val++List.replicate (fn.ntmps-vs.length) .und)(hv:All2 (relV Z φ s.nums w) vs args)(hw:RepW Z w φ φ s w){R:Ending->World->Prop}
  (h:∀ (kcs:List (K Act)) (φ':Nat->Option (Nat×Nat)) (a:Act) (w':World),SR Z φ' s.nums w' [.code (bodyOf fn),.top fn] kcs->Rep Z w φ φ' s a w'->sem Z.P R kcs .normal a w'):Calls Tryz.prog f args.toArray w R:=by
 refine calls_of_wp (P:=Z.P) F.at' F.body ?_
 have hl:=hv.len
 exact h [.code (bodyOf fn),.top fn] φ _ w ⟨rfl,rfl,trivial⟩ ⟨hw,rfl,by
  rw [hs]
  simp only [Array.toList_append,Array.toList_replicate,List.size_toArray]
  rw [<-hl]
  exact (all_val hv).append (all_und _)⟩
end Ab
namespace Rf
open Nw
def fn (o:Op):Prop:=o=.sqrt\/o=.exp\/o=.ln1p\/o=.atan
def ConOk (n:Nd):Prop:=n.op=.pi\/n.op=.e\/(n.op=.cf/\2<=n.terms.length/\∀ a∈n.terms,Bits 40 a)\/(fn n.op/\0<n.p/\0<n.q)
def Pos (ns:List Nd)(a:Nat):Prop:=∃ x,ns[a]?=some x/\x.pos=true
def first (t:List V):Prop:=fits t=true->wider 8 t≠-1
structure NestOk (ns:List Nd) (rho:Nat->Nat) (c i:Nat) (n:Nd) (a:Nat):Prop where
 ex:∃ base ck,rho i=base+ck+1/\c<=ck/\n.k+ck<=3000/\rho a<base/\(¬(n.read=[0]/\n.out=[])->c<ck)/\
  (n.op≠.sqrt->∃ x,n.x=some x/\x<ns.length/\rho x+1<base/\Pos ns x/\(∀ s,n.square=some s->s<ns.length/\rho s<base/\Pos ns s))
 op:fn n.op
 first:first n.t
 pos:Pos ns a
inductive Shp (ns:List Nd) (rho:Nat->Nat) (c i:Nat) (n:Nd):Prop where
 | con (ht:n.t=[]) (ha:n.args=[]) (hp:n.probe=false) (hc:ConOk n)
 | frac (v:V) (ht:n.t=[v]) (ha:n.args=[]) (hp:n.probe=false) (hv:fits [vag n.told v]=true\/(n.pos=false/\n.out=[]/\v.1<0/\0<v.2))
 | una (v w:V) (a:Nat) (ht:n.t=[v,w]) (ha:n.args=[a]) (hp:n.probe=true->n.pos=true/\fn n.op/\n.out=[]/\Pos ns a/\rho a+3100<=rho i/\n.k=0)
 | bin (a b:Nat) (v w x y:V) (ht:n.t=[v,w,x,y]) (ha:n.args=[a,b]) (hp:n.probe=false)
 | nest (a:Nat) (v w x y:V) (ht:n.t=[v,w,x,y]) (ha:n.args=[a]) (hp:n.probe=false) (hn:n.nest=true) (ok:NestOk ns rho c i n a)
structure NInv (ns:List Nd) (rho:Nat->Nat) (c i:Nat) (n:Nd):Prop where
 len:n.read.length=n.args.length
 arg:∀ (j a:Nat),n.args[j]?=some a->a<ns.length/\rho a<rho i
 rd:∀ (j a r:Nat) (x:Nd),n.args[j]?=some a->n.read[j]?=some r->ns[a]?=some x->r<=x.out.length
 hadl:n.had.length=n.out.length+1
 had0:n.had[0]?=some one
 fst:n.out=[]->n.told=one
 outu:n.out.length+c<=3000
 ku:n.k+c<=3000
 readu:∀ r∈n.read,r+c<=3000
 toldb:MBits (2*n.out.length+1) n.told
 hadb:∀ (j:Nat) (m:Mt),n.had[j]?=some m->MBits (2*j+1) m
 up:n.pos=true->Up n.told/\∀ m∈n.had,Up m
 tb:∀ v∈n.t,Bits 13000 v.1/\Bits 13000 v.2
 pb:Bits 6100 n.p
 qb:Bits 6100 n.q
 partb:MBits (1+n.k*18500) n.part
 shp:Shp ns rho c i n
theorem NInv.ok {ns:List Nd}{rho:Nat->Nat}{c i:Nat}{n:Nd}(h:NInv ns rho c i n):Ok n:=by
 have ho:=h.outu
 have hk:=h.ku
 refine ⟨fun v hv=>⟨bits_mono (h.tb v hv).1 (by decide),bits_mono (h.tb v hv).2 (by decide)⟩,mb h.toldb (by omega),?_,mb h.partb ?_,bits_mono h.pb (by decide),bits_mono h.qb (by decide),?_,by omega,by omega⟩
 ·intro m hm
  obtain ⟨j,hj,e⟩:=List.getElem_of_mem hm
  have hl:=h.hadl
  exact mb (h.hadb j m (by rw [List.getElem?_eq_getElem hj,e])) (by omega)
 ·have:n.k*18500<=3000*18500:=Nat.mul_le_mul_right _ (by omega)
  omega
 ·intro r hr
  have:=h.readu r hr
  omega
where
 mb {m:Mt} {a b:Nat} (h:MBits a m) (hab:a<=b):MBits b m:=⟨bits_mono h.a hab,bits_mono h.b hab,bits_mono h.c hab,bits_mono h.d hab⟩
theorem MBits.mono {m:Mt}{a b:Nat}(h:MBits a m)(hab:a<=b):MBits b m:=⟨bits_mono h.a hab,bits_mono h.b hab,bits_mono h.c hab,bits_mono h.d hab⟩
structure Le (ns ns':List Nd):Prop where
 len:ns.length<=ns'.length
 at':∀ (i:Nat) (n:Nd),ns[i]?=some n->∃ n',ns'[i]?=some n'/\n'.pos=n.pos/\n.out.length<=n'.out.length
theorem Le.refl (ns:List Nd):Le ns ns:=⟨Nat.le_refl _,fun i n h=>⟨n,h,rfl,Nat.le_refl _⟩⟩
theorem Le.trans {a b c:List Nd}(h:Le a b)(h':Le b c):Le a c:=⟨Nat.le_trans h.len h'.len,fun i n hn=>by
 obtain ⟨n1,h1,h2,h3⟩:=h.at' i n hn
 obtain ⟨n2,h4,h5,h6⟩:=h'.at' i n1 h1
 exact ⟨n2,h4,h5.trans h2,Nat.le_trans h3 h6⟩⟩
theorem Le.more (ns ms:List Nd):Le ns (ns++ms):=⟨by simp,fun i n h=>⟨n,by rw [List.getElem?_append_left (List.getElem?_eq_some_iff.1 h).1];exact h,rfl,Nat.le_refl _⟩⟩
theorem Le.set {ns:List Nd}{i:Nat}{n n':Nd}(h:ns[i]?=some n)(hp:n'.pos=n.pos)(ho:n.out.length<=n'.out.length):Le ns (ns.set i n'):=by
 refine ⟨by simp,fun k m hm=>?_⟩
 by_cases hk:i=k
 ·subst hk
  rw [h] at hm
  cases hm
  refine ⟨n',?_,hp,ho⟩
  rw [List.getElem?_set_self (List.getElem?_eq_some_iff.1 h).1]
 ·exact ⟨m,by rw [List.getElem?_set_ne hk];exact hm,rfl,Nat.le_refl _⟩
theorem Pos.le {ns ns':List Nd}{a:Nat}(h:Pos ns a)(hl:Le ns ns'):Pos ns' a:=by
 obtain ⟨x,h1,h2⟩:=h
 obtain ⟨x',h3,h4,_⟩:=hl.at' a x h1
 exact ⟨x',h3,h4.trans h2⟩
theorem Pos.lt {ns:List Nd}{a:Nat}(h:Pos ns a):a<ns.length:=by
 obtain ⟨x,h1,_⟩:=h
 exact (List.getElem?_eq_some_iff.1 h1).1
theorem NInv.mono {ns ns':List Nd}{rho rho':Nat->Nat}{c c' i:Nat}{n:Nd}(h:NInv ns rho c i n)(hl:Le ns ns')(hr:∀ k,k<ns.length->rho' k=rho k)(hi:i<ns.length)(hc:c'<=c):NInv ns' rho' c' i n:=by
 have harg:∀ (j a:Nat),n.args[j]?=some a->a<ns'.length/\rho' a<rho' i:=by
  intro j a ha
  obtain ⟨h1,h2⟩:=h.arg j a ha
  have:=hl.len
  rw [hr a h1,hr i hi]
  exact ⟨by omega,h2⟩
 refine ⟨h.len,harg,?_,h.hadl,h.had0,h.fst,by have:=h.outu;omega,by have:=h.ku;omega,fun r hr'=>by have:=h.readu r hr';omega,h.toldb,h.hadb,h.up,h.tb,h.pb,h.qb,h.partb,?_⟩
 ·intro j a r x ha hr' hx
  obtain ⟨h1,_⟩:=h.arg j a ha
  obtain ⟨x',h2,_,h3⟩:=hl.at' a ns[a] (List.getElem?_eq_getElem h1)
  rw [h2] at hx
  cases hx
  exact Nat.le_trans (h.rd j a r _ ha hr' (List.getElem?_eq_getElem h1)) h3
 ·cases h.shp with
  | con ht ha hp hc=>exact .con ht ha hp hc
  | frac v ht ha hp hv=>exact .frac v ht ha hp hv
  | una v w a ht ha hp=>
   refine .una v w a ht ha fun e=>?_
   obtain ⟨h1,h2,h3,h4,h5,h6⟩:=hp e
   exact ⟨h1,h2,h3,h4.le hl,by rw [hr a h4.lt,hr i hi];exact h5,h6⟩
  | bin a b v w x y ht ha hp=>exact .bin a b v w x y ht ha hp
  | nest a v w x y ht ha hp hn ok=>
   refine .nest a v w x y ht ha hp hn ?_
   obtain ⟨⟨base,ck,h1,h2,h3,h4,h5,h6⟩,h7,h8,h9⟩:=ok
   refine ⟨⟨base,ck,by rw [hr i hi];exact h1,by omega,h3,by rw [hr a h9.lt];exact h4,fun e=>by have:=h5 e;omega,fun e=>?_⟩,h7,h8,h9.le hl⟩
   obtain ⟨x,k1,k2,k3,k4,k5⟩:=h6 e
   have:=hl.len
   refine ⟨x,k1,by omega,by rw [hr x k2];exact k3,k4.le hl,fun s hs=>?_⟩
   obtain ⟨m1,m2,m3⟩:=k5 s hs
   exact ⟨by omega,by rw [hr s m1];exact m2,m3.le hl⟩
structure Inv (ns:List Nd) (rho:Nat->Nat) (c:Nat):Prop where
 at':∀ (i:Nat) (n:Nd),ns[i]?=some n->NInv ns rho c i n
theorem Inv.tick {ns:List Nd}{rho:Nat->Nat}{c c':Nat}(h:Inv ns rho c)(hc:c'<=c):Inv ns rho c':=
 ⟨fun i n hn=>(h.at' i n hn).mono (Le.refl _) (fun _ _=>rfl) (List.getElem?_eq_some_iff.1 hn).1 hc⟩
theorem Inv.put {ns:List Nd}{rho:Nat->Nat}{c i:Nat}{n n':Nd}(h:Inv ns rho c)(hn:ns[i]?=some n)(hp:n'.pos=n.pos)(ho:n.out.length<=n'.out.length)(hN:NInv ns rho c i n'):
  put ns i n'=some (ns.set i n')/\Inv (ns.set i n') rho c/\Le ns (ns.set i n'):=by
 have hi:=(List.getElem?_eq_some_iff.1 hn).1
 have hl:=Le.set hn hp ho
 refine ⟨?_,⟨fun k m hm=>?_⟩,hl⟩
 ·unfold Rf.put
  rw [if_pos ⟨hN.ok,hi⟩]
 ·by_cases hk:i=k
  ·subst hk
   rw [List.getElem?_set_self hi] at hm
   cases hm
   exact hN.mono hl (fun _ _=>rfl) hi (Nat.le_refl _)
  ·rw [List.getElem?_set_ne hk] at hm
   exact (h.at' k m hm).mono hl (fun _ _=>rfl) (List.getElem?_eq_some_iff.1 hm).1 (Nat.le_refl _)
def rank (rho:Nat->Nat)(k r:Nat):Nat->Nat:=fun i=>if i=k then r else rho i
theorem Inv.more {ns:List Nd}{rho:Nat->Nat}{c r:Nat}{n':Nd}(h:Inv ns rho c)(hN:NInv ns (rank rho ns.length r) c ns.length n'):
  more ns n'=some (ns++[n'])/\Inv (ns++[n']) (rank rho ns.length r) c/\Le ns (ns++[n'])/\(∀ k,k<ns.length->rank rho ns.length r k=rho k)/\rank rho ns.length r ns.length=r:=by
 have hl:=Le.more ns [n']
 have hr:∀ k,k<ns.length->rank rho ns.length r k=rho k:=fun k hk=>by unfold rank;rw [if_neg (by omega)]
 refine ⟨?_,⟨fun k m hm=>?_⟩,hl,hr,by simp [rank]⟩
 ·unfold Rf.more
  rw [if_pos hN.ok]
 ·by_cases hk:k<ns.length
  ·rw [List.getElem?_append_left hk] at hm
   exact (h.at' k m hm).mono hl hr hk (Nat.le_refl _)
  ·rw [List.getElem?_append_right (by omega)] at hm
   have:k=ns.length:=by
    have:=(List.getElem?_eq_some_iff.1 hm).1
    simp at this
    omega
   subst this
   simp at hm
   subst hm
   -- the new node itself
   refine ⟨hN.len,?_,?_,hN.hadl,hN.had0,hN.fst,hN.outu,hN.ku,hN.readu,hN.toldb,hN.hadb,hN.up,hN.tb,hN.pb,hN.qb,hN.partb,?_⟩
   ·intro j a ha
    obtain ⟨h1,h2⟩:=hN.arg j a ha
    exact ⟨by simp;omega,h2⟩
   ·intro j a r x ha hr' hx
    obtain ⟨h1,_⟩:=hN.arg j a ha
    rw [List.getElem?_append_left h1] at hx
    exact hN.rd j a r x ha hr' hx
   ·cases hN.shp with
    | con ht ha hp hc=>exact .con ht ha hp hc
    | frac v ht ha hp hv=>exact .frac v ht ha hp hv
    | una v w a ht ha hp=>
     refine .una v w a ht ha fun e=>?_
     obtain ⟨h1,h2,h3,h4,h5,h6⟩:=hp e
     exact ⟨h1,h2,h3,h4.le hl,h5,h6⟩
    | bin a b v w x y ht ha hp=>exact .bin a b v w x y ht ha hp
    | nest a v w x y ht ha hp hn ok=>
     refine .nest a v w x y ht ha hp hn ?_
     obtain ⟨⟨base,ck,h1,h2,h3,h4,h5,h6⟩,h7,h8,h9⟩:=ok
     refine ⟨⟨base,ck,h1,h2,h3,h4,h5,fun e=>?_⟩,h7,h8,h9.le hl⟩
     obtain ⟨x,k1,k2,k3,k4,k5⟩:=h6 e
     refine ⟨x,k1,by simp;omega,k3,k4.le hl,fun s hs=>?_⟩
     obtain ⟨m1,m2,m3⟩:=k5 s hs
     exact ⟨by simp;omega,m2,m3.le hl⟩
end Rf
namespace Rf
open Nw
section
variable {ns:List Nd} {rho:Nat->Nat} {c i:Nat} {n:Nd}
theorem ends_some (h:Inv ns rho c)(hN:NInv ns rho c i n){sd a:Nat}(ha:n.args[sd]?=some a):∃ m x r,ns[a]?=some x/\n.read[sd]?=some r/\x.had[r]?=some m/\ends ns n sd=some (vat m (1,0),vat m (0,1)):=by
 obtain ⟨h1,_⟩:=hN.arg sd a ha
 have hx:ns[a]?=some ns[a]:=List.getElem?_eq_getElem h1
 have hlt:sd<n.read.length:=by rw [hN.len];exact (List.getElem?_eq_some_iff.1 ha).1
 have hr:n.read[sd]?=some n.read[sd]:=List.getElem?_eq_getElem hlt
 have hle:=hN.rd sd a _ _ ha hr hx
 have hl:=(h.at' a _ hx).hadl
 have hm:ns[a].had[n.read[sd]]?=some (ns[a].had[n.read[sd]]'(by omega)):=List.getElem?_eq_getElem _
 refine ⟨_,_,_,hx,hr,hm,?_⟩
 unfold ends
 simp only [ha,hx,hr,hm,Option.bind_some,Option.map_some]
theorem bare_some (h:Inv ns rho c)(hN:NInv ns rho c i n):∃ l,bare ns n=some l:=by
 cases hN.shp with
 | con ht ha hp hc=>exact ⟨_,by unfold bare;rw [ht]⟩
 | frac v ht ha hp hv=>exact ⟨_,by unfold bare;rw [ht]⟩
 | una v w a ht ha hp=>
  obtain ⟨m,x,r,_,_,_,he⟩:=ends_some h hN (sd:=0) (a:=a) (by rw [ha];rfl)
  exact ⟨_,by unfold bare;rw [ht];simp only [he];rfl⟩
 | bin a b v w x y ht ha hp=>
  obtain ⟨m,x,r,_,_,_,he⟩:=ends_some h hN (sd:=0) (a:=a) (by rw [ha];rfl)
  obtain ⟨m',x',r',_,_,_,he'⟩:=ends_some h hN (sd:=1) (a:=b) (by rw [ha];rfl)
  exact ⟨_,by unfold bare;rw [ht];simp only [he,he',ha];rfl⟩
 | nest a v w x y ht ha hp hn ok=>
  obtain ⟨m,x,r,_,_,_,he⟩:=ends_some h hN (sd:=0) (a:=a) (by rw [ha];rfl)
  exact ⟨_,by unfold bare;rw [ht];simp only [he,ha];rfl⟩
theorem next_some (h:Inv ns rho c)(hN:NInv ns rho c i n):∃ o,next ns n=some o:=by
 obtain ⟨l,hl⟩:=bare_some h hN
 unfold next corners
 rw [hl]
 split
 ·exact ⟨_,rfl⟩
 ·exact ⟨_,rfl⟩
theorem next_gives {o:Int}(h:next ns n=some (some o)):∃ l,bare ns n=some l/\o∈tries n/\can (l.map (vag n.told)) o=true:=by
 unfold next at h
 split at h
 ·simp at h
 ·unfold corners at h
  cases hb:bare ns n with
  | none=>rw [hb] at h;simp at h
  | some l=>
   rw [hb] at h
   simp only [Option.map_some,Option.some.injEq] at h
   obtain ⟨h1,h2⟩:=find_can h
   exact ⟨l,rfl,h2,h1⟩
theorem frac_gives {v:V}(ht:n.t=[v])(ha:n.args=[])(h1:n.out=[]->n.told=one)(hv:fits [vag n.told v]=true\/(n.pos=false/\n.out=[]/\v.1<0/\0<v.2)):next ns n≠some none:=by
 unfold next corners bare
 rw [ht,ha]
 simp only [waits,Bool.false_eq_true,if_false,Option.map_some,List.map_cons,List.map_nil]
 unfold tries
 intro h
 simp only [Option.some.injEq] at h
 split at h
 ·rename_i hc
  rcases hv with hv | ⟨_,_,v1,v2⟩
  ·rw [h1 hc.2,vag_one] at h hv
   have h':=List.find?_eq_none.1 h
   rcases (fits1 v).1 hv with ⟨k1,k2,k3⟩ | ⟨k1,k2,k3⟩
   ·refine absurd ?_ (h' 43 (by simp))
    unfold can
    simp only [List.map_cons,List.map_nil]
    rw [fits1]
    simp [vag,Mt.sym,Mt.ag1,Mt.ag2]
    omega
   ·refine absurd ?_ (h' 43 (by simp))
    unfold can
    simp only [List.map_cons,List.map_nil]
    rw [fits1]
    simp [vag,Mt.sym,Mt.ag1,Mt.ag2]
    omega
  ·rw [h1 hc.2,vag_one] at h
   obtain ⟨s,hs⟩:=can_sign v1 v2
   rw [hs] at h
   cases h
 ·rename_i hc
  rcases hv with hv | ⟨v1,v2,_,_⟩
  ·obtain ⟨s,hs⟩:=can_digit hv
   rw [hs] at h
   cases h
  ·exact hc ⟨v1,v2⟩
theorem give_inv (h:Inv ns rho (c+1))(hn:ns[i]?=some n)(hp:n.probe=false){o:Int}(ho:next ns n=some (some o)):
  ∃ n',put ns i {n with out:=n.out++[o],told:=n.told.mul (Mt.sym o),had:=n.had++[n.told.mul (Mt.sym o)]}=some (ns.set i n')/\Inv (ns.set i n') rho c/\Le ns (ns.set i n')/\n'.out.length=n.out.length+1:=by
 have hN:=h.at' i n hn
 obtain ⟨l,hl,ht,hc⟩:=next_gives ho
 have hi:=(List.getElem?_eq_some_iff.1 hn).1
 have hlen:n.had.length=n.out.length+1:=hN.hadl
 have htold:MBits (2*(n.out.length+1)+1) (n.told.mul (Mt.sym o)):=by
  have:=mul_sym_bits hN.toldb o
  exact MBits.mono this (by omega)
 have hup:n.pos=true->Up (n.told.mul (Mt.sym o)):=by
  intro hpos
  refine up_sym (hN.up hpos).1 ?_
  unfold tries at ht
  rw [if_neg (by rw [hpos];simp)] at ht
  exact ht
 have hN':NInv ns rho c i {n with out:=n.out++[o],told:=n.told.mul (Mt.sym o),had:=n.had++[n.told.mul (Mt.sym o)]}:=by
  have hM:=hN.mono (c':=c) (Le.refl _) (fun _ _=>rfl) hi (by omega)
  refine ⟨hN.len,hM.arg,hM.rd,by simp [hlen],?_,fun e=>by simp at e,?_,hM.ku,hM.readu,?_,?_,?_,hM.tb,hM.pb,hM.qb,hM.partb,?_⟩
  ·show (n.had++_)[0]?=_
   rw [List.getElem?_append_left (by omega)]
   exact hN.had0
  ·have:=hN.outu
   simp
   omega
  ·simpa using htold
  ·intro j m hm
   simp only at hm
   by_cases hj:j<n.had.length
   ·rw [List.getElem?_append_left hj] at hm
    exact hN.hadb j m hm
   ·rw [List.getElem?_append_right (by omega)] at hm
    have hj':j=n.had.length:=by
     have:=(List.getElem?_eq_some_iff.1 hm).1
     simp at this
     omega
    subst hj'
    simp at hm
    subst hm
    rw [hlen]
    exact htold
  ·intro hpos
   refine ⟨hup hpos,fun m hm=>?_⟩
   simp at hm
   rcases hm with hm | rfl
   ·exact (hN.up hpos).2 m hm
   ·exact hup hpos
  ·cases hM.shp with
   | con ht ha hp hc=>exact .con ht ha hp hc
   | frac v ht ha hp hv=>
    refine .frac v ht ha hp (Or.inl ?_)
    have hb:bare ns n=some [v]:=by unfold bare;rw [ht]
    rw [hb] at hl
    cases hl
    show fits [vag (n.told.mul (Mt.sym o)) v]=true
    rw [vag_mul]
    exact hc
   | una v w a ht ha hp'=>exact .una v w a ht ha fun e=>by simp only at e;rw [hp] at e;cases e
   | bin a b v w x y ht ha hp=>exact .bin a b v w x y ht ha hp
   | nest a v w x y ht ha hp hn ok=>
    refine .nest a v w x y ht ha hp hn ?_
    have ok0:NestOk ns rho (c+1) i n a:=by
     cases hN.shp with
     | con ht' ha' hp' hc'=>rw [ht] at ht';cases ht'
     | frac v' ht' ha' hp' hv'=>rw [ht] at ht';cases ht'
     | una v' w' a' ht' ha' hp'=>rw [ht] at ht';cases ht'
     | bin a' b' v' w' x' y' ht' ha' hp'=>rw [ha] at ha';cases ha'
     | nest a' v' w' x' y' ht' ha' hp' hn' ok'=>rw [ha] at ha';cases ha';exact ok'
    obtain ⟨⟨base,ck,h1,h2,h3,h4,h5,h6⟩,h7,h8,h9⟩:=ok
    obtain ⟨⟨base',ck',k1,k2,k3,k4,k5,k6⟩,_,_,_⟩:=ok0
    exact ⟨⟨base',ck',k1,by omega,k3,k4,fun _=>by omega,k6⟩,h7,h8,h9⟩
 obtain ⟨h1,h2,h3⟩:=(h.tick (show c<=c+1 by omega)).put hn (n':={n with out:=n.out++[o],told:=n.told.mul (Mt.sym o),had:=n.had++[n.told.mul (Mt.sym o)]}) rfl (by simp) hN'
 exact ⟨_,h1,h2,h3,by simp⟩
theorem mul_bits {a b:Nat}{x y:Mt}(hx:MBits a x)(hy:MBits b y):MBits (a+b+1) (x.mul y):=
 ⟨bits_add (bits_mul hx.a hy.a) (bits_mul hx.b hy.c),bits_add (bits_mul hx.a hy.b) (bits_mul hx.b hy.d),bits_add (bits_mul hx.c hy.a) (bits_mul hx.d hy.c),bits_add (bits_mul hx.c hy.b) (bits_mul hx.d hy.d)⟩
theorem bits_nat {k m:Nat}(h:k<2^m):Bits m (k:Int):=by unfold Bits;simpa using h
theorem bits_small {k:Nat}(h:k<16777216):Bits 24 (k:Int):=bits_nat (by simpa using h)
theorem shape_bits (op:Op){k:Nat}(hk:k<=3001):Bits 24 (shape op k).1/\Bits 24 (shape op k).2/\0<(shape op k).1/\0<(shape op k).2:=by
 have hsq:k*k<=3001*3001:=Nat.mul_le_mul hk hk
 unfold shape
 split
 ·split
  ·exact ⟨bits_nat (k:=1) (by decide),bits_nat (k:=1) (by decide),by decide,by decide⟩
  ·have h2:(k+1)/2*((k+1)/2)<=3001*3001:=Nat.mul_le_mul (by omega) (by omega)
   have h3:0<(k+1)/2*((k+1)/2):=Nat.mul_pos (by omega) (by omega)
   exact ⟨bits_small (by omega),bits_small (by omega),by simp only;omega,by simp only;omega⟩
 ·split
  ·split
   ·exact ⟨bits_nat (k:=1) (by decide),bits_nat (k:=1) (by decide),by decide,by decide⟩
   ·have h3:0<k*k:=Nat.mul_pos (by omega) (by omega)
    exact ⟨bits_small (by omega),bits_small (by omega),by simp only;omega,by simp only;omega⟩
  ·exact ⟨bits_nat (k:=1) (by decide),bits_small (by omega),by simp,by simp only;omega⟩
theorem const_ok (h:ConOk n){k:Nat}(hk:k<=3000)(pb:Bits 6100 n.p)(qb:Bits 6100 n.q):∃ m,constant n k=some m/\MBits 18400 m:=by
 have one:∀ z:Int,z.natAbs<=4->Bits 18400 z:=fun z hz=>bits_mono (n:=3) (by unfold Bits;omega) (by decide)
 have hsq:k*k<=3000*3000:=Nat.mul_le_mul hk hk
 obtain ⟨s1,s2,_,_⟩:=shape_bits n.op (k:=k) (by omega)
 have rest:n.op=.exp\/n.op=.ln1p\/n.op=.atan->∃ m,constant n k=some m/\MBits 18400 m:=by
  intro ho
  have e:constant n k=some (if n.op≠.ln1p/\0<k then ⟨0,(shape n.op k).1*(n.p*n.p),n.q*n.q,(shape n.op k).2*(n.q*n.q)⟩ else ⟨0,(shape n.op k).1*n.p,n.q,(shape n.op k).2*n.q⟩):=by
   unfold constant
   rcases ho with ho | ho | ho<;>simp only [ho]
  refine ⟨_,e,?_⟩
  split
  ·exact ⟨one 0 (by decide),bits_mono (bits_mul s1 (bits_mul pb pb)) (by decide),bits_mono (bits_mul qb qb) (by decide),bits_mono (bits_mul s2 (bits_mul qb qb)) (by decide)⟩
  ·exact ⟨one 0 (by decide),bits_mono (bits_mul s1 pb) (by decide),bits_mono qb (by decide),bits_mono (bits_mul s2 qb) (by decide)⟩
 rcases h with h | h | ⟨h,h1,h2⟩ | ⟨h,h1,h2⟩
 ·refine ⟨_,by unfold constant;rw [h],?_⟩
  split
  ·exact ⟨one 0 (by decide),one 4 (by decide),one 1 (by decide),one 1 (by decide)⟩
  ·exact ⟨one 0 (by decide),bits_mono (bits_small (by omega)) (by decide),one 1 (by decide),bits_mono (bits_small (by omega)) (by decide)⟩
 ·refine ⟨_,by unfold constant;rw [h],?_⟩
  refine ⟨?_,one 1 (by decide),one 1 (by decide),one 0 (by decide)⟩
  show Bits 18400 (eterm k)
  unfold eterm
  split
  ·exact one 2 (by decide)
  ·split
   ·exact bits_mono (bits_small (by omega)) (by decide)
   ·exact one 1 (by decide)
 ·have hlt:(if k=0 then 0 else 1+(k-1)%(n.terms.length-1))<n.terms.length:=by
   split
   ·omega
   ·have:=Nat.mod_lt (k-1) (show 0<n.terms.length-1 by omega)
    omega
  refine ⟨_,by unfold constant;rw [h];simp only;rw [List.getElem?_eq_getElem hlt];rfl,?_⟩
  exact ⟨bits_mono (h2 _ (List.getElem_mem hlt)) (by decide),one 1 (by decide),one 1 (by decide),one 0 (by decide)⟩
 ·rcases h with h | h
  ·obtain ⟨a,b,e1,e2,e3,e4,e5⟩:=near_ok h1 h2 pb qb
   refine ⟨_,by unfold constant;rw [h];simp only;rw [e1];rfl,?_⟩
   exact ⟨bits_mono (bits_mul e4 qb) (by decide),bits_mono (bits_mul e5 pb) (by decide),bits_mono (bits_mul e5 qb) (by decide),bits_mono (bits_mul e4 qb) (by decide)⟩
  ·exact rest h
theorem con_inv (h:Inv ns rho (c+1))(hn:ns[i]?=some n)(ht:n.t=[]):∃ m n',constant n n.k=some m/\put ns i {n with part:=n.part.mul m,k:=n.k+1}=some (ns.set i n')/\Inv (ns.set i n') rho c/\Le ns (ns.set i n')/\n'.out=n.out:=by
 have hN:=h.at' i n hn
 have hi:=(List.getElem?_eq_some_iff.1 hn).1
 have hM:=hN.mono (c':=c) (Le.refl _) (fun _ _=>rfl) hi (by omega)
 have hs:n.args=[]/\n.probe=false/\ConOk n:=by
  cases hN.shp with
  | con ht ha hp hc=>exact ⟨ha,hp,hc⟩
  | frac v ht' ha hp hv=>rw [ht] at ht';cases ht'
  | una v w a ht' ha hp=>rw [ht] at ht';cases ht'
  | bin a b v w x y ht' ha hp=>rw [ht] at ht';cases ht'
  | nest a v w x y ht' ha hp hn ok=>rw [ht] at ht';cases ht'
 obtain ⟨ha,hp,hc⟩:=hs
 have hku:=hN.ku
 obtain ⟨m,e,hb⟩:=const_ok hc (k:=n.k) (by omega) hN.pb hN.qb
 have hN':NInv ns rho c i {n with part:=n.part.mul m,k:=n.k+1}:=by
  refine ⟨hN.len,hM.arg,hM.rd,hN.hadl,hN.had0,hN.fst,hM.outu,by simp only;omega,hM.readu,hN.toldb,hN.hadb,hN.up,hM.tb,hM.pb,hM.qb,?_,.con ht ha hp ?_⟩
  ·refine MBits.mono (mul_bits hN.partb hb) ?_
   simp only
   rw [Nat.add_mul]
   omega
  ·exact hc
 obtain ⟨h1,h2,h3⟩:=(h.tick (show c<=c+1 by omega)).put hn (n':={n with part:=n.part.mul m,k:=n.k+1}) rfl (Nat.le_refl _) hN'
 exact ⟨m,_,e,h1,h2,h3,rfl⟩
end
end Rf
end Go.Proofs.YteghhlfmcjmnoaaGreatDoor
