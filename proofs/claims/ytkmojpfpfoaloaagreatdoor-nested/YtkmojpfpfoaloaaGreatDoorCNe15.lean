import Derived.Test.YtkmojpfpfoaloaaGreatDoorCNe14
set_option linter.all false
set_option maxRecDepth 100000
set_option maxHeartbeats 2000000
namespace Go.Proofs.YtkmojpfpfoaloaaGreatDoor
open Go.Proofs.Tryz
open Go.RowKit
namespace Ab
open Rf (Nd Inv aZ Wt)
noncomputable def bG:FuncId->Option Func:=fun f=>bif f==73 then some f73 else bT f
theorem Vp:bV Z bG:=by
 intro f fn h;unfold bG at h
 exact uY h (bI func73 rfl rfl) fun h=>qF f fn h
def stG (a:List (K (List AT))):Bool:=mX (aG 44) a
def Wm (p q:Int)(tv lv rv:Value)(a:List AT):AS:=⟨a,[(1,ext (.int .i64 1::bH true 0 2++[.lit tv,.lit lv,.lit rv]) 126)],2,[(p,1),(q,1)],[]⟩
def Qz (a:Int)(b:List AT):AS:=⟨b,[(1,ext [.int .i64 a] 126)],2,[],[]⟩
def Wn (a:Bool)(b:List AT):AS:=⟨b,[(1,ext [.bool a] 98)],2,[],[]⟩
abbrev Wa (kd:Int):List AT:=.val (.one (.int .i64 kd))::.val (.one (.ptr 1 0))::List.replicate 31 .gC
noncomputable def aXX (b:List Nat)(a:List (K (List AT)))(s:AS):Option XT:=(run Z (aE tS) bG (aO Z (aE tS)) stG 400 a s).bind (eD (fG [1] [] 2 []) (fG [1] b 2 []))
noncomputable def gK:List (K (List AT)):=[.code (aF f63),.top f63]
noncomputable def gF (kd p q:Int)(tv lv rv:Value):Option Tr:=run Z (aE tS) bG (aO Z (aE tS)) (fun _=>false) 600 gK (Wm p q tv lv rv (Wa kd))
noncomputable def sI (kd p q:Int)(tv lv rv:Value):AS:=(((gF kd p q tv lv rv).bind (dI [])).map (·.2)).getD ⟨[],[],0,[],[]⟩
noncomputable def gA (kd:Int)(a:Bool):Option Tr:=run Z (aE tS) bG (aO Z (aE tS)) (fun _=>false) 400 (fQ (pD 15) f63) (Wn a (slot [(0,.val (.one (.int .i64 kd))),(15,.val (.one (.ptr 1 0)))] 0 33))
noncomputable def Ip (kd:Int)(a:Bool):AS:=(((gA kd a).bind (dI [])).map (·.2)).getD ⟨[],[],0,[],[]⟩
def T2 (p q:Int):Int:=aH (p*p) (q*q)
def B2 (p q:Int):Int:=aK (p*p) (q*q)
section
variable (p q:Int) (tv lv rv:Value)
theorem aXZ:gF 10 p q tv lv rv=some (.need [0<p/\0<q/\(Rf.near p q 20000 1).isSome=true] (.ret (.val (.one (.ptr 5 0))) (sI 10 p q tv lv rv))):=by kernel_rfl
theorem aWi:fN (sI 10 p q tv lv rv) 5 (.bool false) [1,0,0,1,0,0,0,0] (.ptr 3 0) (.lit aB) (.lit aB) 0:=⟨by kernel_rfl,by kernel_rfl,by kernel_rfl⟩
theorem aWg:jL (sI 10 p q tv lv rv) 3 10 [0,0,0,0,eJ p q*q,eK p q*p,eK p q*q,eJ p q*q]:=⟨by kernel_rfl,by kernel_rfl⟩
theorem aWh:clean (sI 10 p q tv lv rv)=true:=by kernel_rfl
theorem aX1:gF 12 p q tv lv rv=some (.need [0<aV (p*p) (q*q)] (.ret (.val (.one (.ptr 13 0))) (sI 12 p q tv lv rv))):=by kernel_rfl
theorem aWp:fN (sI 12 p q tv lv rv) 13 (.bool false) [1,0,0,1,0,0,0,0] (.ptr 10 0) (.lit aB) (.lit aB) 0:=⟨by kernel_rfl,by kernel_rfl,by kernel_rfl⟩
theorem aWn:jL (sI 12 p q tv lv rv) 10 12 [p,q,T2 p q,B2 p q,0,0,0,0]:=⟨by kernel_rfl,by kernel_rfl⟩
theorem aWo:clean (sI 12 p q tv lv rv)=true:=by kernel_rfl
theorem aX2:gF 13 p q tv lv rv=some (.need [0<aV (p*p) (q*q)] (.ret (.val (.one (.ptr 13 0))) (sI 13 p q tv lv rv))):=by kernel_rfl
theorem aWs:fN (sI 13 p q tv lv rv) 13 (.bool false) [1,0,0,1,0,0,0,0] (.ptr 10 0) (.lit aB) (.lit aB) 0:=⟨by kernel_rfl,by kernel_rfl,by kernel_rfl⟩
theorem aWq:jL (sI 13 p q tv lv rv) 10 13 [p,q,T2 p q,B2 p q,0,0,0,0]:=⟨by kernel_rfl,by kernel_rfl⟩
theorem aWr:clean (sI 13 p q tv lv rv)=true:=by kernel_rfl
theorem aX0:gF 11 p q tv lv rv=some (.need [0<aV (p*p) (q*q)] (.ret (.val (.one (.ptr 14 0))) (sI 11 p q tv lv rv))):=by kernel_rfl
theorem aWm:fN (sI 11 p q tv lv rv) 14 (.bool false) [1,-1,1,1,0,0,0,0] (.lit aB) (.lit aB) (.ptr 13 0) 0:=⟨by kernel_rfl,by kernel_rfl,by kernel_rfl⟩
theorem aWl:fN (sI 11 p q tv lv rv) 13 (.bool false) [1,0,0,1,0,0,0,0] (.ptr 10 0) (.lit aB) (.lit aB) 0:=⟨by kernel_rfl,by kernel_rfl,by kernel_rfl⟩
theorem aWj:jL (sI 11 p q tv lv rv) 10 11 [p,q,T2 p q,B2 p q,0,0,0,0]:=⟨by kernel_rfl,by kernel_rfl⟩
theorem aWk:clean (sI 11 p q tv lv rv)=true:=by kernel_rfl
theorem g_f (kd:Int):gA kd false=some (.ret (.val (.one (.ptr 3 0))) (Ip kd false)):=by kernel_rfl
theorem aX4 (kd:Int):fN (Ip kd false) 3 (.bool false) [1,0,0,1,0,0,0,0] (.lit aB) (.lit aB) (.ptr 1 0) kd:=⟨by kernel_rfl,by kernel_rfl,by kernel_rfl⟩
theorem aX3 (kd:Int):clean (Ip kd false)=true:=by kernel_rfl
theorem g_t (kd:Int):gA kd true=some (.ret (.val (.one (.ptr 5 0))) (Ip kd true)):=by kernel_rfl
theorem aX8 (kd:Int):fN (Ip kd true) 5 (.bool false) [1,0,0,1,0,0,0,0] (.lit aB) (.lit aB) (.ptr 3 0) kd:=⟨by kernel_rfl,by kernel_rfl,by kernel_rfl⟩
theorem aX7 (kd:Int):fN (Ip kd true) 3 (.bool false) [1,0,0,1,0,0,0,0] (.lit aB) (.lit aB) (.ptr 1 0) 0:=⟨by kernel_rfl,by kernel_rfl,by kernel_rfl⟩
theorem aX6 (kd:Int):clean (Ip kd true)=true:=by kernel_rfl
def pW:List Int:=[2,3,4,5,6,7,8,9,10,11,12,13]
theorem g_s (kd:Int){v:Int}(h:v∈pW):aXX [0,14] gK (Qz v (Wa kd))=some (.stp (eF (pD 15) f63) (Qz v (slot [(0,.val (.one (.int .i64 kd))),(14,.val (.one (.ptr 1 0)))] 0 33))):=by
 simp only[pW,List.mem_cons,List.not_mem_nil,or_false]at h
 rcases h with rfl|rfl|rfl|rfl|rfl|rfl|rfl|rfl|rfl|rfl|rfl|rfl<;>kernel_rfl
theorem aX5 (kd a:Int):cR Z (Qz a (slot [(0,.val (.one (.int .i64 kd))),(14,.val (.one (.ptr 1 0)))] 0 33)) (eF (pD 15) f63)=some (44,[.one (.ptr 1 0)],some 15,fQ (pD 15) f63):=by kernel_rfl
theorem Qh:noFr (eF (pD 15) f63)=true:=by kernel_rfl
end
section
variable {w:World} {k:Nat} {kd:Int} {xs:List Value} {tv lv rv:Value} {R:Ending->World->Prop}{p q:Int}
theorem aSU {w:World}{k:Nat}{xs:List Value}{tv lv rv:Value}(h:PartB w k 1 xs tv lv rv)(g:bD true w [p,q] xs)(e:∀z∈[p,q],Bits 1 z)(o1:One tv)(o2:One lv)(o3:One rv)(i:List AT):RepW Z w (ph1 1 k) (ph1 1 k) (Wm p q tv lv rv i) w:=by
 refine rI rfl ?_ ?_ ?_
 ·intro b B f;have:=mU f;simp only[Wm,List.mem_singleton,Prod.mk.injEq]at this;obtain⟨rfl,rfl⟩:=this;refine⟨rfl,rfl,rfl,k,0,rfl,[],.int .i64 1::xs++[tv,lv,rv],[],(show w.heap[k]?=some (.cells ([]++(Value.int .i64 1::xs++[tv,lv,rv])++[]).toArray 126 (0,0)) by simpa[PartB]using h),rfl,rfl,?_⟩;refine(tU [p,q] xs 0 _ g e fun j z d=>?_).append ⟨⟨rfl,o1⟩,⟨rfl,o2⟩,⟨rfl,o3⟩,trivial⟩
  match j,d with
  |0,d=>cases d;rfl
  |1,d=>cases d;rfl
  |j+2,d=>simp at d
 ·intro b e;have:2<=b:=e;unfold ph1;rw[if_neg (by omega)]
 ·intro b l o a;unfold ph1 at a;split at a
  ·cases a;exact gU h
  ·cases a
variable {i:List Value}
theorem Yo {w:World}{k:Nat}{c:AC}{x:Value}{ty:TypeId}{g:List AT}(h:w.heap[k]?=some (.cells (x::i).toArray ty (0,0)))(f:relC Z (ph1 1 k) [] w c x):RepW Z w (ph1 1 k) (ph1 1 k) ⟨g,[(1,ext [c] ty)],2,[],[]⟩ w:=by
 refine rI rfl ?_ ?_ ?_
 ·intro b B d;have:=mU d;simp only[List.mem_singleton,Prod.mk.injEq]at this;obtain⟨rfl,rfl⟩:=this;exact⟨rfl,rfl,rfl,k,0,rfl,[],[x],i,h,rfl,f,trivial⟩
 ·intro b e;have:2<=b:=e;unfold ph1;rw[if_neg (by omega)]
 ·intro b j o a;unfold ph1 at a;split at a
  ·cases a;exact gU h
  ·cases a
theorem aN5 {k:Nat}:∀b x,ph1 1 k b=some x->[1].contains b=true:=by
 intro b x e;unfold ph1 at e;split at e
 ·subst_vars;rfl
 ·cases e
def NewC (w:World)(kd:Int)(d:List Int)(e:Ending)(a:World):Prop:=∃b,∃cs:List Value,NewNd w [1,0,0,1,0,0,0,0] false 0 aB aB (aA b) e a/\a.heap[b]?=some (.cells (.int .i64 kd::aJ::cs).toArray 132 (0,0))/\bD true a d cs
def Cq (w:World)(f:List Int)(e:Ending)(b:World):Prop:=∃a,∃d,∃cs:List Value,NewNd w [1,-1,1,1,0,0,0,0] false 0 aB (aA a) aB e b/\w.heap.size<=a/\NodeAt b a [1,0,0,1,0,0,0,0] false 0 0 0 0 0 aB aB aJ (aA d) aB/\b.heap[d]?=some (.cells (.int .i64 11::aJ::cs).toArray 132 (0,0))/\bD true b f cs/\e≠.returned (aA a)
theorem Vj (d:PartB w k 1 xs tv lv rv)(g:bD true w [p,q] xs)(f:∀z∈[p,q],Bits 1 z)(o1:One tv)(o2:One lv)(o3:One rv){X:Tr}(h:gF kd p q tv lv rv=some X)(G:AT->AS->Prop)(a:X.ok G fun _ _=>False)(e:∀r s φ v b,G r s->relT Z φ s.nums b r v->RepW Z w (ph1 1 k) φ s b->R (.returned v) b):Calls prog 63 #[.int .i64 kd,aA k] w R:=
 rY (s:=Wm p q tv lv rv (Wa kd)) (vs:=[.one (.int .i64 kd),.one (.ptr 1 0)]) (args:=[.int .i64 kd,aA k]) (bI func63 rfl rfl) (dH nE) Vp (by kernel_rfl) ⟨rfl,⟨k,0,rfl,rfl⟩,trivial⟩ (aSU d g f o1 o2 o3 _) h G a e
theorem aJz {s:AS}{φ I:Nat->Option (Nat×Nat)}{z:Value}{n:World}{N k:Nat}{g:List Int}(f:fN s N (.bool false) [1,0,0,1,0,0,0,0] (.ptr k 0) (.lit aB) (.lit aB) 0)(b:jL s k kd g)(hc:clean s=true)(hrel:relT Z φ s.nums n (.val (.one (.ptr N 0))) z)(d:RepW Z w I φ s n):NewC w kd g (.returned z) n:=by
 obtain⟨m,e⟩:=gI d f.look rfl rfl;obtain⟨h,a⟩:=gI d b.look rfl rfl;have hv:z=aA m:=cQ (ν:=s.nums) (w:=n) e z hrel;obtain⟨k1,o⟩:=f.at (hs:=false) d e (fun x i=>i) (cQ a) cN cN;obtain⟨cs,r,j,l⟩:=b.at d a;exact⟨h,cs,⟨m,by rw[hv],Chg.eH (RepF.below d hc),k1,o⟩,j,l⟩
theorem aWa (d:PartB w k 1 xs tv lv rv)(f:bD true w [p,q] xs)(e:∀z∈[p,q],Bits 1 z)(o1:One tv)(o2:One lv)(o3:One rv)(h:0<p)(i:0<q)(g:(Rf.near p q 20000 1).isSome=true):Calls prog 63 #[.int .i64 10,aA k] w (NewC w 10 [0,0,0,0,eJ p q*q,eK p q*p,eK p q*q,eJ p q*q]):=by
 refine Vj d f e o1 o2 o3 (aXZ p q tv lv rv) (fun r s=>r=.val (.one (.ptr 5 0))/\fN s 5 (.bool false) [1,0,0,1,0,0,0,0] (.ptr 3 0) (.lit aB) (.lit aB) 0/\jL s 3 10 [0,0,0,0,eJ p q*q,eK p q*p,eK p q*q,eJ p q*q]/\clean s=true) ⟨bL ⟨h,i,g⟩,rfl,aWi p q tv lv rv,aWg p q tv lv rv,aWh p q tv lv rv⟩ ?_;rintro r s φ v l⟨rfl,a1,a,b⟩ hrel j;exact aJz a1 a b hrel j
theorem aWc (d:PartB w k 1 xs tv lv rv)(g:bD true w [p,q] xs)(e:∀z∈[p,q],Bits 1 z)(o1:One tv)(o2:One lv)(o3:One rv)(f:0<aV (p*p) (q*q)):Calls prog 63 #[.int .i64 12,aA k] w (NewC w 12 [p,q,T2 p q,B2 p q,0,0,0,0]):=by
 refine Vj d g e o1 o2 o3 (aX1 p q tv lv rv) (fun r s=>r=.val (.one (.ptr 13 0))/\fN s 13 (.bool false) [1,0,0,1,0,0,0,0] (.ptr 10 0) (.lit aB) (.lit aB) 0/\jL s 10 12 [p,q,T2 p q,B2 p q,0,0,0,0]/\clean s=true) ⟨bL f,rfl,aWp p q tv lv rv,aWn p q tv lv rv,aWo p q tv lv rv⟩ ?_;rintro r s φ v i⟨rfl,a1,a,b⟩ hrel h;exact aJz a1 a b hrel h
theorem aWd (d:PartB w k 1 xs tv lv rv)(g:bD true w [p,q] xs)(e:∀z∈[p,q],Bits 1 z)(o1:One tv)(o2:One lv)(o3:One rv)(f:0<aV (p*p) (q*q)):Calls prog 63 #[.int .i64 13,aA k] w (NewC w 13 [p,q,T2 p q,B2 p q,0,0,0,0]):=by
 refine Vj d g e o1 o2 o3 (aX2 p q tv lv rv) (fun r s=>r=.val (.one (.ptr 13 0))/\fN s 13 (.bool false) [1,0,0,1,0,0,0,0] (.ptr 10 0) (.lit aB) (.lit aB) 0/\jL s 10 13 [p,q,T2 p q,B2 p q,0,0,0,0]/\clean s=true) ⟨bL f,rfl,aWs p q tv lv rv,aWq p q tv lv rv,aWr p q tv lv rv⟩ ?_;rintro r s φ v i⟨rfl,a1,a,b⟩ hrel h;exact aJz a1 a b hrel h
theorem aQ6 {m k:Nat}(h:m≠k):Ending.returned (aA m)≠.returned (aA k):=by
 intro e;exact h (by injection e with e;injection e with e;injection e with e;injection e)
theorem aWb (n:PartB w k 1 xs tv lv rv)(y:bD true w [p,q] xs)(o:∀z∈[p,q],Bits 1 z)(o1:One tv)(o2:One lv)(o3:One rv)(u:0<aV (p*p) (q*q)):Calls prog 63 #[.int .i64 11,aA k] w (Cq w [p,q,T2 p q,B2 p q,0,0,0,0]):=by
 refine Vj n y o o1 o2 o3 (aX0 p q tv lv rv) (fun r s=>r=.val (.one (.ptr 14 0))/\fN s 14 (.bool false) [1,-1,1,1,0,0,0,0] (.lit aB) (.lit aB) (.ptr 13 0) 0/\fN s 13 (.bool false) [1,0,0,1,0,0,0,0] (.ptr 10 0) (.lit aB) (.lit aB) 0/\jL s 10 11 [p,q,T2 p q,B2 p q,0,0,0,0]/\clean s=true) ⟨bL u,rfl,aWm p q tv lv rv,aWl p q tv lv rv,aWj p q tv lv rv,aWk p q tv lv rv⟩ ?_;rintro r s φ v F⟨rfl,i,d,f,hc⟩ hrel b;obtain⟨m,h⟩:=gI b i.look rfl rfl;obtain⟨g,a⟩:=gI b d.look rfl rfl;obtain⟨l,e⟩:=gI b f.look rfl rfl;have hv:v=aA m:=cQ (ν:=s.nums) (w:=F) h v hrel;obtain⟨k1,E⟩:=i.at (hs:=false) b h (fun x j=>j) cN cN (cQ a);obtain⟨A,B⟩:=d.at (hs:=false) b a (fun x j=>j) (cQ e) cN cN;obtain⟨cs,H,C,D⟩:=f.at b e;refine⟨g,l,cs,⟨m,by rw[hv],Chg.eH (RepF.below b hc),k1,E⟩,A,B,C,D,?_⟩;rw[hv];exact aQ6 (lC b i.look rfl d.look h a (by decide))
theorem aUT {v:Int}(E:v∈pW)(X:w.heap[k]?=some (.cells (.int .i64 v::i).toArray 126 (0,0)))
  (u:∀B,Chg w B []->Calls prog 44 #[aA k] B fun e l=>∃m b,e=.returned (aA m)/\(∃W:List Value,l.heap[m]?=some (.cells (.bool b::W).toArray 98 (0,0)))/\∀D L,(b=false->NewNd l [1,0,0,1,0,0,0,0] false kd aB (aA m) aB D L->R D L)/\(b=true->∀x,l.heap.size<=x->NodeAt L x [1,0,0,1,0,0,0,0] false 0 0 0 0 0 aB (aA m) aJ aB aB->NewNd l [1,0,0,1,0,0,0,0] false kd aB (aA x) aB D L->D≠.returned (aA x)->R D L)):Calls prog 63 #[.int .i64 kd,aA k] w R:=by
 have F:=bI func63 rfl rfl;refine pC F (φ:=ph1 1 k) (vs:=[.one (.int .i64 kd),.one (.ptr 1 0)]) (args:=[.int .i64 kd,aA k]) (s:=Qz v (Wa kd)) (by kernel_rfl) ⟨rfl,⟨k,0,rfl,rfl⟩,trivial⟩ (Yo X rfl) ?_;refine cE (dH nE) Vp aN5 (jK aN5) (g_s kd E) (fun _ _=>False) (fun T s=>T=eF (pD 15) f63/\s=Qz v (slot [(0,.val (.one (.int .i64 kd))),(14,.val (.one (.ptr 1 0)))] 0 33)) ⟨rfl,rfl⟩ (fun _ _ _ _ _ h=>h.elim) ?_;rintro T s⟨rfl,rfl⟩;refine⟨Qh,fun af P a1 B I g=>?_⟩;have c1:Chg w B []:=Chg.eH (RepF.below g.wd rfl)
 refine qC (aX5 kd v) (bI func44 rfl rfl).en Qh (I P [] B) g fun us M=>?_
 match us,M with
 | [U],⟨y,_⟩=>
 have y:U=aA k:=cQ (ν:=[]) (w:=B) (g.wd.base 1 (k,0) rfl) U y;rw[y];refine(u B c1).mono ?_;rintro e l⟨m,b,rfl,⟨W,hm⟩,S⟩;refine⟨aA m,rfl,fun o aa n=>?_⟩;have H:Rep Z l (ph1 1 m) (ph1 1 m) (Wn b (slot [(0,.val (.one (.int .i64 kd))),(15,.val (.one (.ptr 1 0)))] 0 33)) (a1.put (some 15) (aA m)) l:=oZ (kb:=[]) (kt:=[0]) (r:=.val (.one (.ptr 1 0))) g (Yo hm rfl) (by kernel_rfl) (fun b Y=>by simp at Y) ⟨m,0,rfl,rfl⟩
 cases b with
 |false=>
  refine vB (dH nE) Vp (rD mixed (dH nE)) (fun r s=>r=.val (.one (.ptr 3 0))/\fN s 3 (.bool false) [1,0,0,1,0,0,0,0] (.lit aB) (.lit aB) (.ptr 1 0) kd/\clean s=true) (fun _ _=>False) (fun _ _ h=>h.elim) ?_ _ _ _ _ (g_f kd) ⟨rfl,aX4 kd,aX3 kd⟩ o _ _ l (n _ _ _) H;rintro r s φ a O⟨rfl,C,hc⟩ hrel f;obtain⟨J,d⟩:=gI f C.look rfl rfl;have hv:a=aA J:=cQ (ν:=s.nums) (w:=O) d a hrel;have z:φ 1=some (m,0):=f.base 1 (m,0) rfl;obtain⟨k1,N⟩:=C.at (hs:=false) f d (fun x j=>j) cN cN (cQ z);exact(S _ _).1 rfl ⟨J,by rw[hv],Chg.eH (RepF.below f hc),k1,N⟩
 |true=>
  refine vB (dH nE) Vp (rD mixed (dH nE)) (fun r s=>r=.val (.one (.ptr 5 0))/\fN s 5 (.bool false) [1,0,0,1,0,0,0,0] (.lit aB) (.lit aB) (.ptr 3 0) kd/\fN s 3 (.bool false) [1,0,0,1,0,0,0,0] (.lit aB) (.lit aB) (.ptr 1 0) 0/\clean s=true) (fun _ _=>False) (fun _ _ h=>h.elim) ?_ _ _ _ _ (g_t kd) ⟨rfl,aX8 kd,aX7 kd,aX6 kd⟩ o _ _ l (n _ _ _) H;rintro r s φ a O⟨rfl,C,j,hc⟩ hrel f;obtain⟨J,d⟩:=gI f C.look rfl rfl;obtain⟨x,A⟩:=gI f j.look rfl rfl;have hv:a=aA J:=cQ (ν:=s.nums) (w:=O) d a hrel;have z:φ 1=some (m,0):=f.base 1 (m,0) rfl;obtain⟨k1,N⟩:=C.at (hs:=false) f d (fun x j=>j) cN cN (cQ A);obtain⟨i1,i2⟩:=j.at (hs:=false) f A (fun x j=>j) cN cN (cQ z);refine(S _ _).2 rfl x i1 i2 ⟨J,by rw[hv],Chg.eH (RepF.below f hc),k1,N⟩ ?_;rw[hv];exact aQ6 (lC f C.look rfl j.look d A (by decide))
end
section
variable {w w':World} {b0:Nat} {own own':Nat->Option Own} {at1 at2:Nat->Nat} {ns ns1:List Nd} {rho:Nat->Nat} {c N:Nat}
theorem aNK (h:wQ w b0 own at1 ns)(l:Inv ns rho c)(d:Chg w w' []){blks:List Nat}{new:List Nd}(e:∀m∈blks,w.heap.size<=m)(b:∀j i,new[j]?=some i->cL w' b0 (oE ns.length blks own) (kA ns.length blks at1) (ns++new) (ns.length+j) i):
  (∀k,k<w.heap.size->oE ns.length blks own k=own k)/\wQ w' b0 (oE ns.length blks own) (kA ns.length blks at1) (ns++new)/\∀a,a<ns.length->kA ns.length blks at1 a=at1 a:=by
 have g:∀k,k<w.heap.size->oE ns.length blks own k=own k:=fun k o=>aNY fun n=>absurd (e k n) (by omega)
 have f:∀a,a<ns.length->kA ns.length blks at1 a=at1 a:=fun a h=>uZ h
 exact⟨g,h.more l d g f b,f⟩
theorem Nv {pos:Bool}{p q:Int}(a:NodeAt w (at2 N) [p,q,0,0,0,0,0,0] (!pos) 0 0 0 0 0 aB aB aJ aB aB)(d:own' (at2 N)=some (.nd N))(b:b0<=at2 N):cL w b0 own' at2 ns1 N (Rf.fresh pos [(p,q)] []):=by
 refine⟨⟨p,q,0,0,0,0,0,0,0,0,aJ,aB,aB,⟨a,Or.inl ⟨rfl,rfl⟩,fun e=>(by cases e),fun _=>rfl,fun _=>rfl,fun e=>(by cases e)⟩,[(p,q)],?_,?_⟩,Pg.HC.fresh _ _ _,d,b,fun e=>by cases e⟩
 ·show some ([(p,q)].map (Rf.fH Rf.one))=_;simp[Rf.Fm]
 ·exact⟨⟨1,by decide,by simp[Pg.pad,Pg.sc]⟩,rfl⟩
variable {s:List Int}
theorem Ou {a:Nat}{xa:Nd}{u v:Rf.V}{mN:Nd}(b:NodeAt w (at2 N) s (!mN.pos) (fL mN) 0 0 0 0 aB (aA (at2 a)) aJ aB aB)(h8:s.length=8)(f3:mN.t=[u,v])(n:mN.args=[a])(o:mN.read=[0])(f:mN.out=[])(p:mN.told=Rf.one)(g:mN.dP=[Rf.one])(q:mN.nest=false)(f2:mN.aR=true->mN.t=[(1,0),(0,1)])(l:ns1[a]?=some xa)(k:xa.dP[0]?=some Rf.one)(d:Pg.eL [u,v] (cH s))(j:own' (at2 N)=some (.nd N))(i:b0<=at2 N):cL w b0 own' at2 ns1 N mN:=by
 obtain⟨B,F,C,H,D,I,E,J,rfl⟩:=eight h8;refine⟨⟨B,F,C,H,D,I,E,J,0,0,aJ,aB,aB,⟨?_,Or.inl ⟨rfl,f⟩,fun e=>?_,fun _=>rfl,fun _=>rfl,fun e=>?_⟩,[u,v],Pg.Xa f3 (by rw[n];rfl) (by rw[o];rfl) l k p,d⟩,⟨by rw[g,f];rfl,by rw[g];rfl,by rw[g,f,p];rfl,fun r L M h=>by rw[f]at h;simp at h⟩,j,i,fun e=>⟨f2 e,q⟩⟩
 ·have x:lArg mN=none:=by unfold lArg;rw[f3];rfl
  have y:rArg mN=some a:=by unfold rArg;rw[f3,n];rfl
  have z:gX mN=0:=by unfold gX;rw[f3];rfl
  have A:fY mN=0:=by unfold fY;rw[f3,o];rfl
  rw[x,y,z,A];exact b
 ·rw[f3]at e;cases e
 ·rw[q]at e;cases e
theorem aUs {a b:Nat}{y A:Nd}{f:Rf.Kind}{j pb:Bool}(i:NodeAt w (at2 N) s (!(Rf.two f j pb a b).pos) 0 0 0 0 0 (aA (at2 a)) (aA (at2 b)) aJ aB aB)(h8:s.length=8)(q:ns1[a]?=some y)(p:y.dP[0]?=some Rf.one)(x:ns1[b]?=some A)(k:A.dP[0]?=some Rf.one)(g:Pg.eL f.cols (cH s))(o:own' (at2 N)=some (.nd N))(n:b0<=at2 N):cL w b0 own' at2 ns1 N (Rf.two f j pb a b):=by
 obtain⟨F,L,H,M,I,O,J,P,rfl⟩:=eight h8
 have l:∃u v d z,f.cols=[u,v,d,z]:=by cases f<;>exact⟨_,_,_,_,rfl⟩
 obtain⟨u,v,d,z,l⟩:=l;have f3:(Rf.two f j pb a b).t=[u,v,d,z]:=l;rw[l]at g;refine⟨⟨F,L,H,M,I,O,J,P,0,0,aJ,aB,aB,⟨?_,Or.inl ⟨rfl,rfl⟩,fun e=>?_,fun _=>rfl,fun _=>rfl,fun e=>(by cases e)⟩,[u,v,d,z],Pg.Xg f3 rfl rfl q p x k rfl,g⟩,⟨rfl,rfl,rfl,fun r R S h=>by simp[Rf.two,Rf.fresh]at h⟩,o,n,fun e=>by cases e⟩
 ·have B:lArg (Rf.two f j pb a b)=some a:=by unfold lArg;rw[f3];rfl
  have C:rArg (Rf.two f j pb a b)=some b:=by unfold rArg;rw[f3];rfl
  have D:gX (Rf.two f j pb a b)=0:=by unfold gX;rw[f3];rfl
  have E:fY (Rf.two f j pb a b)=0:=by unfold fY;rw[f3];rfl
  rw[B,C,D,E];exact i
 ·rw[f3]at e;cases e
theorem aRS {d:Nat}{op:Rf.Op}{ts:List Int}(a:NodeAt w (at2 N) [1,0,0,1,0,0,0,0] false 0 0 0 0 0 aB aB aJ (aA d) aB)(b:fT w { Rf.fresh true [] []with op:=op,terms:=ts} d)(g:own' (at2 N)=some (.nd N))(f:b0<=at2 N):cL w b0 own' at2 ns1 N { Rf.fresh true [] []with op:=op,terms:=ts}:=by
 refine⟨⟨1,0,0,1,0,0,0,0,0,0,aJ,aA d,aB,⟨a,Or.inl ⟨rfl,rfl⟩,fun _=>⟨rfl,d,rfl,b⟩,fun e=>absurd rfl e,fun _=>rfl,fun e=>(by cases e)⟩,[(1,0),(0,1)],Pg.aFA rfl rfl rfl,?_⟩,(Pg.HC.fresh true [] []).of rfl rfl rfl,g,f,fun e=>by cases e⟩;exact .Dt (e:=1) (by decide) (Pg.gJ _).symm (Pg.gJ _).symm (Pg.gJ _).symm (Pg.gJ _).symm
end
theorem aUA (a:Rf.Kind):Pg.eL a.cols (cH (Qv a)):=by
 cases a<;>exact .Du (e:=1) (by decide) (Pg.gJ _).symm (Pg.gJ _).symm (Pg.gJ _).symm (Pg.gJ _).symm
theorem aRR:Pg.eL [((-1,0):Rf.V),(0,1)] (cH [-1,0,0,1,0,0,0,0]):=.Dt (e:=1) (by decide) (Pg.gJ _).symm (Pg.gJ _).symm (Pg.gJ _).symm (Pg.gJ _).symm
theorem Si {w b:World}(g:On Z.bt w b){d:Nat}{cs:Array Value}(a:w.heap[d]?=some (.cells cs 132 (0,0))):b.heap[d]?=some (.cells cs 132 (0,0)):=by
 rcases g.cD d _ a with e|⟨e,_⟩
 ·exact e
 ·have f:Li.contains 132=true:=e;exact absurd f (by decide)
abbrev RB:=Go.Proofs.YtkmojpfpfoaloaaGreatDoor.Bits
theorem Ls {w:Nat}:RB w 0:=by
 show(0:Int).natAbs<2^w;simp[Nat.pow_pos]
variable {w:World}
theorem Ud {l:Nat}{nd:Nd}(cs:List Value)(g:w.heap[l]?=some (.cells cs.toArray 132 (0,0)))(r:Rf.pK nd)(pb:RB 6100 nd.p)(qb:RB 6100 nd.q)(A:∀k:Nat,k<=3000->∃a b c d,Rf.constant nd k=some ⟨a,b,c,d⟩/\∀W,On Z.bt w W->Calls prog 146 #[aA l,.int .i64 k] W fun e w'=>∃x:List Value,e=.returned (.agg x.toArray)/\bD true w' [a,b,c,d] x/\Below W.heap.size W w'):fT w nd l:=by
 refine⟨⟨_,g⟩,fun k u=>?_⟩;obtain⟨a,b,c,d,s,y⟩:=A k u;obtain⟨m,i,f⟩:=Rf.Fe (n:=nd) r (k:=k) u pb qb;rw[s]at i;have o:m=⟨a,b,c,d⟩:=(Option.some.inj i).symm;rw[o]at f;refine⟨1,a,b,c,d,by decide,by rw[s];simp[Pg.wB],?_,y⟩
 have j:∀{z:Int},z.natAbs<2^18400->Bits 2 z:=fun h=>wX (N:=18400) (by decide) h
 intro z v;simp at v
 rcases v with rfl|rfl|rfl|rfl
 ·exact j f.a
 ·exact j f.b
 ·exact j f.c
 ·exact j f.d
theorem jX:∀z∈([0,0,0,0,0,0,0,0]:List Int),Bits 1 z:=aW
variable {ts:List Int}{z:Value}{cs:List Value}
theorem aUE {b:Nat}(e:One z)(a:w.heap[b]?=some (.cells (.int .i64 2::z::cs).toArray 132 (0,0)))(hold:bD true w [0,0,0,0,0,0,0,0] cs):fT w { Rf.fresh true [] []with op:=.pi,terms:=ts} b:=by
 refine Ud _ a (Or.inl rfl) Ls Ls fun k f=>⟨_,_,_,_,aWK (by omega) rfl,fun W d=>?_⟩
 exact Ue (Si d a) e (nM d hold) rfl jX (aXL 0 0 0 0 0 0 0 0 k) (bL ⟨by omega,by omega⟩)
theorem aJj {k:Nat}(g:k<=3000):(gW (k:Int)).natAbs<1000000000000000000:=by
 have b:=Qb (n:={ Rf.fresh true [] []with op:=.e}) (k:=k) (by omega) rfl;have d:Rf.constant { Rf.fresh true [] []with op:=.e} k=some ⟨Rf.gW k,1,1,0⟩:=rfl;rw[d]at b;have f:Rf.gW k=gW (k:Int):=congrArg Mt.a (Option.some.inj b);rw[<-f];unfold Rf.gW;split
 ·decide
 ·split<;>omega
theorem aV4 {b:Nat}(g:One z)(a:w.heap[b]?=some (.cells (.int .i64 3::z::cs).toArray 132 (0,0)))(hold:bD true w [0,0,0,0,0,0,0,0] cs):fT w { Rf.fresh true [] []with op:=.e,terms:=ts} b:=by
 refine Ud _ a (Or.inr (Or.inl rfl)) Ls Ls fun k f=>⟨_,_,_,_,Qb (by omega) rfl,fun W d=>?_⟩
 exact Ue (Si d a) g (nM d hold) rfl jX (aXM 0 0 0 0 0 0 0 0 k) (bL (aJj f))
variable {q:Int}
theorem aO9 {n:Nat}{p:Int}(r:0<p)(s:0<q)(f:RB 6100 p)(e:RB 6100 q)(d:w.heap[n]?=some (.cells (.int .i64 10::aJ::cs).toArray 132 (0,0)))(hold:bD true w [0,0,0,0,eJ p q*q,eK p q*p,eK p q*q,eJ p q*q] cs):fT w (Rf.row .sqrt p q) n:=by
 obtain⟨a,b,g,_,_,B,l⟩:=Rf.Ny r s f e
 have C:eJ p q=a:=by unfold eJ;rw[g];rfl
 have D:eK p q=b:=by unfold eK;rw[g];rfl
 rw[C,D]at hold
 refine Ud _ d (Or.inr (Or.inr (Or.inr ⟨Or.inl rfl,r,s⟩))) f e fun k I=>⟨a*q,b*p,b*q,a*q,?_,fun W o=>?_⟩
 ·show(Rf.near p q 20000 1).map _=_;rw[g];rfl
 ·have j:∀{x y:Int} {u v:Nat},u+v<=10000000->RB u x->RB v y->Bits 1 (x*y):=by
   intro x y u v E F H;refine wX (N:=u+v) (by omega) ?_;rw[Int.natAbs_mul,Nat.pow_add];exact Nat.mul_lt_mul'' F H
  refine Ue (Si o d) rfl (nM o hold) rfl ?_ (Pq 0 0 0 0 (a*q) (b*p) (b*q) (a*q) k) iC;intro z A
  have i:z=0\/z=a*q\/z=b*p\/z=b*q:=by
   simp only[List.mem_cons,List.not_mem_nil,or_false]at A
   rcases A with h|h|h|h|h|h|h|h<;>simp[h]
  rcases i with rfl|rfl|rfl|rfl
  ·exact jX 0 (by simp)
  ·exact j (by decide) B e
  ·exact j (by decide) l f
  ·exact j (by decide) l e
noncomputable def Wl (tv:Value)(k:Int):AS:=⟨.val (.one (.ptr 0 0))::.val (.one (.sint .i64 k))::List.replicate 34 .gC,[(0,ext [.int .i64 4,.lit tv] 132)],1,[],[]⟩
def stC (a:List (K (List AT))):Bool:=mX (aG 168) a
noncomputable def cfT (tv:Value)(k:Int):Option Tr:=run Z (aE tN) bC (aO Z (aE tN)) stC 400 [.code (aF f146),.top f146] (Wl tv k)
def atS:Option Tr->AS
 |some (.stop a s)=>s
 |_=>⟨[],[],0,[],[]⟩
noncomputable def Vx (tv:Value)(k:Int):AS:=atS (cfT tv k)
def Bd (s:AS)(t:Int):AS:=⟨putT s.tmps (some 25) (dJ t),s.boxes,s.next,s.nums,s.dirty⟩
section
variable (tv:Value) (k t:Int)
theorem aXH:cfT tv k=some (.stop (eF (pD 25) f146) (Vx tv k)):=by kernel_rfl
theorem aXE:cR Z (Vx tv k) (eF (pD 25) f146)=some (168,[.one (.lit tv),.one (.sint .i64 k)],some 25,fQ (pD 25) f146):=by kernel_rfl
theorem aXF:noFr (eF (pD 25) f146)=true:=by kernel_rfl
theorem aXG:((run Z (aE tN) bC (aO Z (aE tN)) (fun _=>false) 400 (fQ (pD 25) f146) (Bd (Vx tv k) t)).bind outcome).bind (jJ true)=some ([t.natAbs<1000000000000000000],.one (.ns [t,1,1,0]),1):=by kernel_rfl
end
theorem aV3 (tv:Value)(k:Int):clean (Vx tv k)=true:=by kernel_rfl
variable {i:List Value}
theorem aUx {n:World}{w g p len k:Nat}{t:Int}{tv:Value}(C:tv=.slice (some ⟨g,0,none⟩) len p)(j:n.heap[w]?=some (.cells (.int .i64 4::tv::i).toArray 132 (0,0)))(h2:2<=len)(u:len<=1000000)(hk:k<=1000000)(ht:t.natAbs<1000000000000000000)(hc:∀F,Chg n F []->F.cell? ⟨g,nR len k,none⟩=some (.int .i64 t)):
  Calls prog 146 #[aA w,.int .i64 k] n fun e F=>∃H:List Value,e=.returned (.agg H.toArray)/\bD true F [t,1,1,0] H/\Below n.heap.size n F:=by
 have ot:One tv:=by rw[C];rfl
 have x:RepW Z n (ph1 0 w) (ph1 0 w) (Wl tv k) n:=by
  refine rI rfl ?_ ?_ ?_
  ·intro b B hB;have:=mU hB;simp[Wl]at this;obtain⟨rfl,rfl⟩:=this;exact⟨rfl,rfl,rfl,w,0,rfl,[],[.int .i64 4,tv],i,j,rfl,rfl,⟨rfl,ot⟩,trivial⟩
  ·intro b hb;have:1<=b:=hb;unfold ph1;rw[if_neg (by omega)]
  ·intro b k' o f;unfold ph1 at f;split at f
   ·cases f;exact gU j
   ·cases f
 refine pC (bI func146 rfl rfl) (φ:=ph1 0 w) (vs:=[.one (.ptr 0 0),.one (.sint .i64 k)]) (args:=[aA w,.int .i64 k]) (s:=Wl tv k) (by kernel_rfl) ⟨⟨w,0,rfl,rfl⟩,rfl,trivial⟩ x ?_;intro D av a0 R y M;refine vB (dH jQ) aRI (rD mixed (dH jQ)) (fun _ _=>False) (fun U s=>U=eF (pD 25) f146/\cR Z s (eF (pD 25) f146)=some (168,[.one (.lit tv),.one (.sint .i64 k)],some 25,fQ (pD 25) f146)/\clean s=true/\((run Z (aE tN) bC (aO Z (aE tN)) (fun _=>false) 400 (fQ (pD 25) f146) (Bd s t)).bind outcome).bind (jJ true)=some ([t.natAbs<1000000000000000000],.one (.ns [t,1,1,0]),1)) ?_ (fun _ _ _ _ _ h=>h.elim) _ _ _ _ (aXH tv k) ⟨rfl,aXE tv k,aV3 tv k,aXG tv k t⟩ D _ a0 R y M;rintro U s⟨rfl,J,l,L⟩ aj φ a S O d;have b1:Below n.heap.size n S:=RepF.below d.wd l
 refine qC J (bI func168 rfl rfl).en aXF O d fun us P=>?_
 match us,P with
 | [u1,u2],⟨q,r,_⟩=>
 have q:u1=tv:=q.1;have r:u2=.int .i64 k:=r;rw[q,r,C];refine(aLm S g p len k t h2 u hk (hc S (Chg.eH b1))).mono ?_;rintro e T⟨rfl,rfl⟩;refine⟨_,rfl,fun E af A=>?_⟩
 have N:Rep Z n (ph1 0 w) φ (Bd s t) (a.put (some 25) (.int .i64 t)) T:=⟨⟨d.wd.box,d.wd.own,d.wd.inj,d.wd.tip,d.wd.fresh,d.wd.lt,d.wd.low,d.wd.on,d.wd.base,d.wd.pV⟩,by rw[rG];exact d.defers,rH (dst:=some 25) d.tmps (show relT Z φ s.nums T (dJ t) (.int .i64 t)from rfl)⟩
 obtain⟨o,q1,q2⟩:=aU L;obtain⟨tr,q3,q4⟩:=aU q1;refine vB (dH jQ) aRI (rD mixed (dH jQ)) _ _ (fun _ _ h=>h.elim) ?_ _ _ _ _ q3 (yD q4 (Db q2 (bL ht) (Nat.le_refl _))) E _ _ T (A _ _ _) N;rintro r0 st ax v W⟨l,r',h7,I⟩ hrel hw;obtain⟨H,X,Y⟩:=I W v (Ce h7 hrel);refine⟨H,by rw[X],?_,RepF.below hw l⟩;exact(Fg (k:=true) (w:=W) _ [t,1,1,0] _ H (show dL true ([t,1,1,0].map fun z=>.num true z 1)=some ([t,1,1,0],_)from rfl) Y).1
theorem aUC {n:World}{w:Nat}{tv:Value}(v:yW n ts tv)(h:2<=ts.length)(j:∀a∈ts,RB 40 a)(b:n.heap[w]?=some (.cells (.int .i64 4::tv::cs).toArray 132 (0,0))):fT n { Rf.fresh true [] []with op:=.cf,terms:=ts} w:=by
 obtain⟨g,o,l,q,p,r⟩:=v
 refine Ud _ b (Or.inr (Or.inr (Or.inl ⟨rfl,h,j⟩))) Ls Ls fun k y=>?_
 have z:=Nat.mod_lt (k-1) (show 0<ts.length-1 by omega)
 have d:nR ts.length k<ts.length:=by
  unfold nR
  split<;>omega
 have u:ts[nR ts.length k]?=some ts[nR ts.length k]:=List.getElem?_eq_getElem d;refine⟨ts[nR ts.length k],1,1,0,?_,fun W i=>?_⟩
 ·show(ts[if k=0 then 0 else 1+(k-1)%(ts.length-1)]?).map _=_;have:ts[if k=0 then 0 else 1+(k-1)%(ts.length-1)]?=some ts[nR ts.length k]:=u;rw[this];rfl
 ·have f:=j _ (List.getElem_mem d);have e:(ts[nR ts.length k]).natAbs<2^40:=f
  refine aUx q (Si i b) h p (by omega) (Nat.lt_trans e (by decide)) fun x hc=>?_
  have s:=Ev (i.trans hc.on) r (by decide);show x.cell? _=_;rw[Kt s];simp[List.getElem?_append_left,d]
variable {ns:List Nd}
theorem Ff {r:List Nd}{y:Nd}(h:Rf.more ns y=some r):r=ns++[y]:=by
 unfold Rf.more at h;split at h
 ·exact(Option.some.inj h).symm
 ·cases h
structure hO (w:World) (b0:Nat) (own:Nat->Option Own) (at1:Nat->Nat) (ns:List Nd) (w':World) (ns':List Nd) (own':Nat->Option Own) (at2:Nat->Nat):Prop where
 sH:Chg w w' []
 own:∀k,k<w.heap.size->own' k=own k
 Aw:wQ w' b0 own' at2 ns'
 at':∀a,a<ns.length->at2 a=at1 a
section
variable {w w2 w3:World} {b0:Nat} {own own2:Nat->Option Own} {at1 at2:Nat->Nat} {ns ns2:List Nd} {rho:Nat->Nat} {c:Nat}{s:List Int}
theorem hO.one (g:hO w b0 own at1 ns w2 ns2 own2 at2)(A:Inv ns2 rho c)(D:ns.length<=ns2.length)(B:b0<=w.heap.size){y:Bool}{v:Int}{lp rp u:Value}{e:Ending}(p:NewNd w2 s y v lp rp u e w3){n:Nd}
  (E:∀d b,(∀a,a<ns2.length->b a=at2 a)->d (b ns2.length)=some (.nd ns2.length)->b0<=b ns2.length->NodeAt w3 (b ns2.length) s y v 0 0 0 0 lp rp aJ u aB->cL w3 b0 d b (ns2++[n]) ns2.length n):
  ∃d b,e=.returned (aA (b ns2.length))/\hO w b0 own at1 ns w3 (ns2++[n]) d b:=by
 obtain⟨m,C,h,r,f⟩:=p;have l:kA ns2.length [m] at2 ns2.length=m:=Cg (j:=0) rfl
 obtain ⟨k1,F,H⟩:=aNK (blks:=[m]) (new:=[n]) g.Aw A h (fun x z=>by simp at z;rw [z];exact r) (by
  intro j I i
  match j,i with
  |0,i=>
   cases i;refine E _ _ (fun a o=>uZ o) ?_ ?_ ?_
   ·rw[l];exact Od (j:=0) (by simp) rfl
   ·rw[l];exact Nat.le_trans B (Nat.le_trans g.sH.on.size r)
   ·rw[l];exact f
  |j+1,i=>simp at i)
 exact⟨_,_,by rw[l];exact C,g.sH.trans h,fun k q=>by rw[k1 k (Nat.lt_of_lt_of_le q g.sH.on.size),g.own k q],F,fun a o=>by rw[H a (by omega),g.at' a o]⟩
theorem hO.two (g:hO w b0 own at1 ns w2 ns2 own2 at2)(P:Inv ns2 rho c)(R:ns.length<=ns2.length)(F:b0<=w.heap.size){h:Nat}{O:List Int}{M:Bool}{v:Int}{f u:Value}{e:Ending}(D:NewNd w2 O M v aB (aA h) aB e w3)(I:w2.heap.size<=h)(q:NodeAt w3 h s false 0 0 0 0 0 z f aJ u aB)(E:e≠.returned (aA h)){n1 n:Nd}
  (C:∀d b,(∀a,a<ns2.length->b a=at2 a)->d (b ns2.length)=some (.nd ns2.length)->b0<=b ns2.length->NodeAt w3 (b ns2.length) s false 0 0 0 0 0 z f aJ u aB->cL w3 b0 d b (ns2++[n1,n]) ns2.length n1)
  (S:∀d b,d (b (ns2.length+1))=some (.nd (ns2.length+1))->b0<=b (ns2.length+1)->NodeAt w3 (b (ns2.length+1)) O M v 0 0 0 0 aB (aA (b ns2.length)) aJ aB aB->cL w3 b0 d b (ns2++[n1,n]) (ns2.length+1) n):
  ∃d b,e=.returned (aA (b (ns2.length+1)))/\hO w b0 own at1 ns w3 (ns2++[n1,n]) d b:=by
 obtain⟨m,H,p,L,o⟩:=D
 have B:h≠m:=by
  rintro rfl;exact E H
 have r:kA ns2.length [h,m] at2 ns2.length=h:=Cg (j:=0) rfl;have y:kA ns2.length [h,m] at2 (ns2.length+1)=m:=Cg (j:=1) rfl
 have i:[h,m].Nodup:=by simp[B]
 obtain ⟨k1,T,U⟩:=aNK (blks:=[h,m]) (new:=[n1,n]) g.Aw P p (fun x N=>by
  simp at N
  rcases N with rfl|rfl
  ·exact I
  ·exact L) (by
  intro j W l
  match j,l with
  |0,l=>
   cases l;refine C _ _ (fun a A=>uZ A) ?_ ?_ ?_
   ·rw[r];exact Od (j:=0) i rfl
   ·rw[r];exact Nat.le_trans F (Nat.le_trans g.sH.on.size I)
   ·rw[r];exact q
  |1,l=>
   cases l;refine S _ _ ?_ ?_ ?_
   ·rw[y];exact Od (j:=1) i rfl
   ·rw[y];exact Nat.le_trans F (Nat.le_trans g.sH.on.size L)
   ·rw[r,y];exact o
  |j+2,l=>simp at l)
 exact⟨_,_,by rw[y];exact H,g.sH.trans p,fun k J=>by rw[k1 k (Nat.lt_of_lt_of_le J g.sH.on.size),g.own k J],T,fun a A=>by rw[U a (by omega),g.at' a A]⟩
theorem hO.refl (h:wQ w b0 own at1 ns)(b:Inv ns rho c)(a:Chg w w2 []):hO w b0 own at1 ns w2 ns own at1:=⟨a,fun _ _=>rfl,h.still b a,fun _ _=>rfl⟩
theorem hO.on (g:hO w b0 own at1 ns w2 ns2 own2 at2)(b:Inv ns2 rho c)(a:Chg w2 w3 []):hO w b0 own at1 ns w3 ns2 own2 at2:=⟨g.sH.trans a,g.own,g.Aw.still b a,g.at'⟩
theorem hO.trans {H:Nat->Option Own}{S:Nat->Nat}{g:List Nd}(b:hO w b0 own at1 ns w2 ns2 own2 at2)(h:ns.length<=ns2.length)(d:hO w2 b0 own2 at2 ns2 w3 g H S):hO w b0 own at1 ns w3 g H S:=⟨b.sH.trans d.sH,fun k e=>by rw[d.own k (Nat.lt_of_lt_of_le e b.sH.on.size),b.own k e],d.Aw,fun a f=>by rw[d.at' a (by omega),b.at' a f]⟩
theorem Kv (h:wQ w b0 own at1 ns){d:Nat}{y:Nd}(f:ns[d]?=some y):(∃g:List Value,w.heap[at1 d]?=some (.cells (.bool (!y.pos)::g).toArray 98 (0,0)))/\y.dP[0]?=some Rf.one:=by
 have a:=h d y f;obtain⟨k,p,p1,q,l,r,p3,s,mt,o,gv,i,j,e,_⟩:=a.ex;obtain⟨u,b,_⟩:=e.nd.ex;exact⟨⟨_,b⟩,a.hc.fst⟩
end
def Er (t:Wt)(w:World)(b0:Nat)(own:Nat->Option Own)(at1:Nat->Nat)(ns:List Nd)(e:Ending)(f:World):Prop:=∃a d b at2,Rf.of t ns=some (a,d)/\e=.returned (aA (at2 d))/\hO w b0 own at1 ns f a b at2
def jM (t:Wt):Prop:=∀(w:World) (b0:Nat) (own:Nat->Option Own) (at1:Nat->Nat) (ns:List Nd) (rho:Nat->Nat) (c:Nat) (v:Value),wQ w b0 own at1 ns->b0<=w.heap.size->c<=3000->Inv ns rho c->t.Ok->aM w t v->Calls prog 44 #[v] w (Er t w b0 own at1 ns)
theorem Ns {s:List Int}(h:bD true w s i)(a:s.length=2)(b:∀z∈s,Bits 1 z):i.length=4/\∀x∈i,One x:=by
 have:=tU s i 0 (φ:=fun _=>none) (s.map fun z=>(z,1)) h b fun j z d=>by rw[Nat.zero_add,List.getElem?_map,d];rfl
 rw[a]at this;exact⟨this.len.symm,Kc this⟩
variable {v:Int}
theorem xH (h:RB 6100 v):Bits 1 v:=wX (N:=6100) (by decide) h
theorem aSl (p q:Int):jM (.fr p q):=by
 rintro w b0 own at1 ns rho c v H I hc i f⟨k,R,O,M,N,rfl,E,F,o1,o2,o3⟩;obtain⟨J,r,d,b,_⟩:=Rf.qE (.fr p q) ns rho f hc i;have h:=b;unfold Rf.of at b;obtain⟨L,x,y⟩:=cA b;cases y;have A:=Ff x;subst A
 refine (aU8 E F (by
  intro z o;simp at o
  rcases o with rfl|rfl
  ·exact xH f.2.1
  ·exact xH f.2.2) o1 o2 o3).mono ?_
 intro e P j
 obtain ⟨a,g,s,u⟩:=(hO.refl H i (Chg.refl w)).one i (Nat.le_refl _) I (n:=Rf.fresh (decide (0<=p)) [(p,q)] []) j (by
  intro a g _ B C D;refine Nv ?_ B C
  have:(!decide (0<=p))=decide (p<0):=by
   by_cases l:0<=p
   ·simp[l]
   ·simp[l];omega
  rw[this]
  exact D)
 exact⟨_,_,a,g,h,s,u⟩
theorem aPz (op:Rf.Op)(ts:List Int):jM (.fI op ts):=by
 rintro w b0 own at1 ns rho c v O P hc r i⟨k,xs,zs,tv,lv,rv,rfl,M,N,X,Y,o1,o2,o3,s⟩;obtain⟨T,y,d,f,_⟩:=Rf.qE (.fI op ts) ns rho i hc r;have o:=f;unfold Rf.of at f;obtain⟨U,E,F⟩:=cA f;cases F;have H:=Ff E;subst H;obtain⟨x4,x1⟩:=Ns N X Y
 have x:aI op=2\/aI op=3\/aI op=4:=by
  rcases i with rfl|rfl|⟨rfl,_⟩
  ·exact Or.inl rfl
  ·exact Or.inr (Or.inl rfl)
  ·exact Or.inr (Or.inr rfl)
 refine(aU6 x M x4 x1 o1 o2 o3).mono ?_;rintro e W⟨cb,cs,l,a,hold,_⟩
 have u:Chg w W []:=by obtain⟨m,_,h,_⟩:=l;exact h
 obtain ⟨b,j,C,D⟩:=(hO.refl O r (Chg.refl w)).one r (Nat.le_refl _) P (n:={ Rf.fresh true [] [] with op:=op,terms:=ts}) l (by
  intro b j _ I J L;refine aRS L ?_ I J
  rcases i with rfl|rfl|⟨rfl,R,S⟩
  ·exact aUE o1 a hold
  ·exact aV4 o1 a hold
  ·refine aUC ?_ R S a;obtain⟨g,q,p,A,z,B⟩:=s rfl
   exact⟨g,q,p,A,z,Ev u.on B (by decide)⟩)
 exact⟨_,_,b,j,o,C,D⟩
theorem Kg {t:Wt}(h:aM w t z):One z:=by
 obtain⟨k,rfl⟩:=aM.ptr t z h;rfl
theorem aPA {t:Wt}(U:jM t):jM (.neg t):=by
 rintro w b0 own at1 ns rho c v F H hc j h⟨k,xs,zs,tv,J,rv,rfl,R,S,z2,zb,o1,o3,I⟩;obtain⟨X,L,d,f,_⟩:=Rf.qE (.neg t) ns rho h hc j;have q:=f;unfold Rf.of at f;obtain⟨⟨r,d1⟩,D,O⟩:=aU f;obtain⟨ns2,P,x⟩:=cA O;cases x;have y:=Ff P;subst y;obtain⟨s,M,u,A,C,b,_,_⟩:=Rf.qE t ns rho h hc j;rw[D]at A;cases A;obtain⟨x4,x1⟩:=Ns S z2 zb
 refine aU7 R x4 x1 o1 (Kg I) o3 fun Y c1=>?_
 refine(U Y b0 own at1 ns rho c J (F.still j c1) (Nat.le_trans H c1.on.size) hc j h (aM.aT c1.on t J I)).mono ?_;rintro e w2⟨s,u,own2,at2,B,rfl,g⟩;rw[D]at B;cases B;have p:r[d1]?=some r[d1]:=List.getElem?_eq_getElem b;obtain⟨l,o⟩:=Kv g.Aw p;refine⟨at2 d1,rfl,⟨_,l⟩,fun e3 w3 z=>?_⟩;have N:=(hO.refl F j c1).trans (Nat.le_refl _) g
 obtain ⟨a,i,k1,W⟩:=N.one C.inv C.le.len H (n:=Rf.fresh false [(-1,0),(0,1)] [d1]) z (by
  intro a i T x y E;rw[<-T d1 b]at E
  exact Ou E rfl rfl rfl rfl rfl rfl rfl rfl (fun e=>by cases e) (by rw[List.getElem?_append_left b];exact p) o aRR x y)
 exact⟨_,_,a,i,q,k1,W⟩
theorem aPB (j:Rf.Kind){a b:Wt}(ag:jM a)(ah:jM b):jM (.two j a b):=by
 rintro w b0 own at1 ns rho c v hN hb hc F h⟨k,xs,zs,tv,lv,rv,rfl,hB,hH,z2,zb,o1,hl,hr⟩;obtain⟨a9,au,d,s,_⟩:=Rf.qE (.two j a b) ns rho h hc F;have J:=s;unfold Rf.of at s;obtain⟨⟨u,d1⟩,h1,h2⟩:=aU s;obtain⟨⟨ns2,d2⟩,h3,Y⟩:=aU h2;obtain⟨N,h5,E⟩:=aU Y;obtain⟨O,h7,h8⟩:=aU E;obtain⟨ba,h9,W⟩:=cA h8;cases W;have X:=Ff h9;subst X;obtain⟨L,p,R,e1,C,H,_,_⟩:=Rf.qE a ns rho h.1 hc F;rw[h1]at e1;cases e1;obtain⟨M,av,S,z,i,I,_,_⟩:=Rf.qE b u p h.2 hc C.inv;have D:Rf.of b u=some (ns2,d2):=h3;rw[D]at z;cases z;obtain⟨x4,x1⟩:=Ns hH z2 zb
 refine aU5 j hB x4 x1 o1 (Kg hl) (Kg hr) fun w1 c1=>?_
 refine(ag w1 b0 own at1 ns rho c lv (hN.still F c1) (Nat.le_trans hb c1.on.size) hc F h.1 (aM.aT c1.on a lv hl)).mono ?_;rintro e w2⟨L,R,own2,at2,z,rfl,g⟩;rw[h1]at z;cases z;refine⟨at2 d1,rfl,g.sH,fun w3 c3=>?_⟩;have g0:=(hO.refl hN F c1).trans (Nat.le_refl _) g;have P:=g0.on C.inv c3;refine(ah w3 b0 own2 at2 u p c rv P.Aw (Nat.le_trans hb P.sH.on.size) hc C.inv h.2 (aM.aT P.sH.on b rv hr)).mono ?_;rintro e w4⟨M,S,ar,x,e4,rfl,T⟩;rw[D]at e4;cases e4;refine⟨x d2,rfl,T.sH,fun w5 c5=>?_⟩;have U:=(P.trans C.le.len T).on i.inv c5;have l:d1<ns2.length:=Nat.lt_of_lt_of_le H i.le.len;have A:ns2[d1]?=some N:=h5;have B:ns2[d2]?=some O:=h7;obtain⟨f,ad⟩:=Kv U.Aw A;obtain⟨r,ae⟩:=Kv U.Aw B;have y:x d1=at2 d1:=T.at' d1 H;rw[y]at f;refine⟨_,_,f,r,fun e6 w6 af=>?_⟩
 obtain ⟨o,q,k1,k2⟩:=U.one i.inv (Nat.le_trans C.le.len i.le.len) hb (n:=Rf.two j N.pos O.pos d1 d2) af (by
  intro o q ha Y h5 E
  have a1:q d1=at2 d1:=by rw[ha d1 l,y]
  rw[<-a1,<-ha d2 I]at E
  have hp:Lq j (!N.pos) (!O.pos)=!(Rf.two j N.pos O.pos d1 d2).pos:=by
   cases j<;>cases N.pos<;>cases O.pos<;>rfl
  rw[hp]at E
  refine aUs E (by cases j<;>rfl) (by rw[List.getElem?_append_left l];exact A) ad (by rw[List.getElem?_append_left I];exact B) ae (aUA j) Y h5)
 exact⟨_,_,o,q,J,k1,k2⟩
theorem NewC.on {w w2 w3:World}{v:Int}{zs:List Int}{e:Ending}(h:NewC w v zs e w2)(hc:Chg w2 w3 []):NewC w v zs e w3:=by
 obtain⟨a,cs,b,d,f⟩:=h;exact⟨a,cs,b.on hc,hc.at d (by simp),nM hc.on f⟩
theorem Cq.on {w w2 w3:World}{zs:List Int}{e:Ending}(h:Cq w zs e w2)(hc:Chg w2 w3 []):Cq w zs e w3:=by
 obtain⟨a,d,cs,f,g,b,i,j,k⟩:=h;exact⟨a,d,cs,f.on hc,g,b.aT hc.on (hc.low a b.lt (by simp)),hc.at i (by simp),nM hc.on j,k⟩
variable {op:Rf.Op}{p:Int}
theorem aJc {b:Nat}(d:Rf.fn op)(h:op≠.sqrt)(e:0<p)(f:0<q)(i:RB 6100 p)(j:RB 6100 q)(a:w.heap[b]?=some (.cells (.int .i64 (aI op)::aJ::cs).toArray 132 (0,0)))(hold:bD true w [p,q,T2 p q,B2 p q,0,0,0,0] cs):fT w (Rf.row op p q) b:=by
 obtain⟨g,n,o,k,l,_⟩:=Vk (p:=p*p) (q:=q*q) (Int.le_of_lt (Int.mul_pos e e)) (Int.mul_pos f f);have:=aMO (w:=w) (cb:=b) d h (T:=p) (B:=q) (T2:=T2 p q) (B2:=B2 p q) (G:=1) (g2:=g) (cs:=cs) (by decide) e f n k l ⟨(by show RB 6100 (1*p);rw[Int.one_mul];exact i),(by show RB 6100 (1*q);rw[Int.one_mul];exact j)⟩ a hold;rw[Int.one_mul,Int.one_mul]at this;exact this
theorem aUU (a:0<p)(b:0<q):0<aV (p*p) (q*q):=by
 obtain⟨g,e,d,_⟩:=Vk (p:=p*p) (q:=q*q) (Int.le_of_lt (Int.mul_pos a a)) (Int.mul_pos b b);rw[d];exact e
theorem aSk:jM (.fn op (.fr p q)):=by
 rintro w b0 own at1 ns rho c v hN hb hc U P⟨k,xs,Y,tv,lv,rv,rfl,hB,hH,z2,zb,o1,o3,hl⟩;obtain⟨ab,ah,d,E,_⟩:=Rf.qE (.fn op (.fr p q)) ns rho P hc U;have y:=E;obtain⟨R,⟨H,I,J⟩,S⟩:=P;have F:0<p:=S p q rfl;obtain⟨x4,x1⟩:=Ns hH z2 zb
 refine aQ0 (Kf R) hB x4 x1 o1 (Kg hl) o3 fun w1 c1=>?_
 obtain⟨W,ys,az,av,ay,rfl,l,o,p1,X,p3⟩:=aM.aT c1.on (.fr p q) lv hl
 have r:∀z∈[p,q],Bits 1 z:=by
  intro z hz;simp at hz
  rcases hz with rfl|rfl
  ·exact xH I
  ·exact xH J
 have hg:=aUU F H;have g0:=hO.refl hN U c1
 have A:Rf.outright ns op p q=some (ab,d):=by
  unfold Rf.of at E;exact E
 unfold Rf.outright at A;obtain⟨ax,h1,T⟩:=aU A;have h3:=Ff h1;subst h3
 have h:op≠.exp->∀Y,(∀w3 x cs,w3.heap[x]?=some (.cells (.int .i64 (aI op)::aJ::cs).toArray 132 (0,0))->bD true w3 Y cs->fT w3 (Rf.row op p q) x)->∀e w2,NewC w1 (aI op) Y e w2->∃v,e=.returned v/\One v/\∀w3,Chg w2 w3 []->Er (.fn op (.fr p q)) w b0 own at1 ns (.returned v) w3:=by
  intro u Y L e w2 N;rw[if_neg u]at T;cases T
  obtain⟨m,s⟩:∃m,e=.returned (aA m):=by
   obtain⟨_,_,⟨m,s,_⟩,_⟩:=N;exact⟨m,s⟩
  refine⟨aA m,s,rfl,fun w3 c3=>?_⟩;obtain⟨x,cs,j,f,hold⟩:=N.on c3;rw[s]at j
  obtain ⟨g,i,k1,W⟩:=g0.one U (Nat.le_refl _) hb (n:=Rf.row op p q) j (by
   intro g i ha B C D
   exact Sj D (L w3 x cs f hold) B C)
  exact⟨_,_,g,i,y,k1,W⟩
 rcases R with rfl|rfl|rfl|rfl
 ·obtain⟨a,b,hn,_⟩:=Rf.Ny F H I J;refine(aWa l o r p1 X p3 F H (by rw[hn];rfl)).mono (h (by decide) _ fun w3 x cs f hold=>?_);exact aO9 F H I J f hold
 ·refine(aWb l o r p1 X p3 hg).mono ?_;intro e w2 O;rw[if_pos rfl]at T;obtain⟨ns2,B,C⟩:=cA T;cases C;have D:=Ff B
  obtain⟨m,s⟩:∃m,e=.returned (aA m):=by
   obtain⟨_,_,_,⟨m,s,_⟩,_⟩:=O;exact⟨m,s⟩
  refine⟨aA m,s,rfl,fun w3 c3=>?_⟩;obtain⟨ai,x,cs,j,hf,M,f,hold,u⟩:=O.on c3;rw[s]at j u
  obtain ⟨g,i,k1,W⟩:=g0.two U (Nat.le_refl _) hb (n1:=Rf.row .exp p q) (n:=Rf.raised ns.length) j hf M u (by
   intro g i ha B C D
   exact Sj D (aJc (Or.inr (Or.inl rfl)) (by decide) F H I J f hold) B C) (by
   intro g i B C D
   exact Ou (mN:=Rf.raised ns.length) (xa:=Rf.row .exp p q) D rfl rfl rfl rfl rfl rfl rfl rfl (fun e=>by cases e) (by simp) rfl Sh B C)
  refine⟨_,_,g,i,y,k1,?_⟩;rw[D,List.append_assoc];exact W
 ·exact(aWc l o r p1 X p3 hg).mono (h (by decide) _ fun w3 x cs f hold=>aJc (Or.inr (Or.inr (Or.inl rfl))) (by decide) F H I J f hold)
 ·exact(aWd l o r p1 X p3 hg).mono (h (by decide) _ fun w3 x cs f hold=>aJc (Or.inr (Or.inr (Or.inr rfl))) (by decide) F H I J f hold)
theorem aWD {t:Wt}(h:∀p q,t≠.fr p q):Rf.of (.fn op t) ns=(Rf.of t ns).bind fun x=>(x.1[x.2]?).bind fun b=>
   (if b.pos then some x else(Rf.more x.1 (Rf.fresh true [(1,0),(0,1)] [x.2])).map fun a=>(a,x.1.length)).bind fun y=>
   (Rf.more y.1 { Rf.fresh true [(1,0),(0,1)] [y.2]with op:=op,aR:=true}).map fun a=>(a,y.1.length):=by
 cases t with
 |fr p q=>exact absurd rfl (h p q)
 |fI _ _=>
  conv=>lhs;unfold Rf.of
 |neg _=>
  conv=>lhs;unfold Rf.of
 |two _ _ _=>
  conv=>lhs;unfold Rf.of
 |fn _ _=>
  conv=>lhs;unfold Rf.of
theorem aN3 {t:Wt}(h:∀p q,t≠.fr p q)(e:t.Ok)(g:aM w t z):∃k,z=aA k/\∃i∈pW,∃f:List Value,w.heap[k]?=some (.cells (.int .i64 i::f).toArray 126 (0,0)):=by
 cases t with
 |fr p q=>exact absurd rfl (h p q)
 |fI op ts=>
  obtain⟨k,o,f,n,j,l,rfl,d,_⟩:=g;exact⟨k,rfl,aI op,by rcases e with rfl|rfl|⟨rfl,_⟩<;>decide,_,d⟩
 |neg t=>
  obtain⟨k,o,f,n,j,l,rfl,d,_⟩:=g;exact⟨k,rfl,5,by decide,_,d⟩
 |two r a b=>
  obtain⟨k,o,f,n,j,l,rfl,d,_⟩:=g;exact⟨k,rfl,cW r,by cases r<;>decide,_,d⟩
 |fn op t=>
  obtain⟨k,o,f,n,j,l,rfl,d,_⟩:=g;exact⟨k,rfl,aI op,by rcases e.1 with rfl|rfl|rfl|rfl<;>decide,_,d⟩
theorem Tv {t:Wt}(S:∀p q,t≠.fr p q)(ih:jM t):jM (.fn op t):=by
 rintro w b0 own at1 ns rho c v hN hb hc M T⟨k,xs,zs,tv,lv,rv,rfl,hB,hH,z2,zb,o1,o3,hl⟩;obtain⟨a7,av,d,H,_⟩:=Rf.qE (.fn op t) ns rho T hc M;have A:=H;rw[aWD S]at H;obtain⟨af,i,_⟩:=T;obtain⟨x4,x1⟩:=Ns hH z2 zb;obtain⟨⟨j,d1⟩,h1,h2⟩:=aU H;obtain⟨J,h3,D⟩:=aU h2;obtain⟨⟨ns2,y⟩,u,o⟩:=aU D;obtain⟨a8,h7,h8⟩:=cA o;cases h8;have h9:=Ff h7;obtain⟨l,ax,X,e1,W,r,_,_⟩:=Rf.qE t ns rho i hc M;rw[h1]at e1;cases e1
 refine aQ0 (Kf af) hB x4 x1 o1 (Kg hl) o3 fun w1 c1=>?_
 have P:=aM.aT c1.on t lv hl;obtain⟨k2,rfl,a5,O,bc,F⟩:=aN3 S i P
 refine aUT O F fun w2 c2=>?_
 have B:=c1.trans c2;refine(ih w2 b0 own at1 ns rho c _ (hN.still M B) (Nat.le_trans hb B.on.size) hc M i (aM.aT c2.on t _ P)).mono ?_;rintro e w3⟨l,X,own2,at2,e2,rfl,g⟩;rw[h1]at e2;cases e2;have C:j[d1]?=some J:=h3;obtain⟨N,z⟩:=Kv g.Aw C;have g0:=(hO.refl hN M B).trans (Nat.le_refl _) g;refine⟨at2 d1,!J.pos,rfl,N,fun e4 w4=>⟨fun hp h=>?_,fun hp x hx U h R=>?_⟩⟩
 ·have I:J.pos=true:=by simpa using hp
  have E:(j,d1)=(ns2,y):=by simpa[I]using u
  cases E
  obtain⟨m,s⟩:∃m,e4=.returned (aA m):=by obtain⟨m,s,_⟩:=h;exact⟨m,s⟩
  refine⟨aA m,s,rfl,fun w5 L=>?_⟩;have b:=h.on L;rw[s]at b
  obtain ⟨a,f,j1,j2⟩:=g0.one W.inv W.le.len hb (n:={ Rf.fresh true [(1,0),(0,1)] [d1] with op:=op,aR:=true}) b (by
   intro a f ha D u o;rw[<-ha d1 r]at o
   exact Ou (xa:=J) o rfl rfl rfl rfl rfl rfl rfl rfl (fun _=>rfl) (by rw[List.getElem?_append_left r];exact C) z Me D u)
  refine⟨_,_,a,f,A,j1,?_⟩;rw[h9];exact j2
 ·have I:J.pos=false:=by simpa using hp
  have E:(Rf.more j (Rf.fresh true [(1,0),(0,1)] [d1])).map (fun l=>(l,j.length))=some (ns2,y):=by simpa[I]using u
  obtain⟨au,Y,aa⟩:=cA E;cases aa;have ab:=Ff Y;subst ab
  obtain⟨m,s⟩:∃m,e4=.returned (aA m):=by obtain⟨m,s,_⟩:=h;exact⟨m,s⟩
  refine⟨aA m,s,rfl,fun w5 L=>?_⟩;have b:=h.on L;rw[s]at b R
  obtain ⟨a,f,j1,j2⟩:=g0.two W.inv W.le.len hb (n1:=Rf.fresh true [(1,0),(0,1)] [d1]) (n:={ Rf.fresh true [(1,0),(0,1)] [j.length] with op:=op,aR:=true}) b hx (U.aT L.on (L.low x U.lt (by simp))) R (by
   intro a f ha D u o;rw[<-ha d1 r]at o
   exact Ou (xa:=J) o rfl rfl rfl rfl rfl rfl rfl rfl (fun e=>by cases e) (by rw[List.getElem?_append_left r];exact C) z Me D u) (by
   intro a f D u o
   exact Ou (xa:=Rf.fresh true [(1,0),(0,1)] [d1]) o rfl rfl rfl rfl rfl rfl rfl rfl (fun _=>rfl) (by simp) rfl Me D u)
  refine⟨_,_,a,f,A,?_,?_⟩
  ·rw[j1];simp
  ·rw[h9,List.append_assoc];exact j2
theorem Fi:∀t:Wt,jM t
 |.fr p q=>aSl p q
 |.fI op ts=>aPz op ts
 |.neg t=>aPA (Fi t)
 |.two d a b=>aPB d (Fi a) (Fi b)
 |.fn op (.fr p q)=>aSk
 |.fn op (.fI o ts)=>Tv (fun _ _ e=>by cases e) (Fi (.fI o ts))
 |.fn op (.neg t)=>Tv (fun _ _ e=>by cases e) (Fi (.neg t))
 |.fn op (.two d a b)=>Tv (fun _ _ e=>by cases e) (Fi (.two d a b))
 |.fn op (.fn o t)=>Tv (fun _ _ e=>by cases e) (Fi (.fn o t))
variable {b0 p:Nat}{s:Rf.St}
theorem Net.side {b:World}{W:Nat}{own:Nat->Option Own}{at1:Nat->Nat}(h:Net w b0 own at1 W s)(hc:Chg w b [p])(H:∀(k:Nat) (cs:Array Value) (ty:TypeId),w.heap[k]?=some (.cells cs ty (0,0))->(ty=98\/ty=84\/ty=206\/(ty=55/\∃o,own k=some o))->k≠p):Net b b0 own at1 W s:=by
 have ne:∀{k:Nat} {cs:Array Value} {ty:TypeId},w.heap[k]?=some (.cells cs ty (0,0))->(ty=98\/ty=84\/ty=206\/(ty=55/\∃o,own k=some o))->k ∉ [p]:=fun q C hm=>H _ _ _ q C (by simpa using hm)
 have a:∀{k:Nat} {I:List Int} {hs:Bool} {u mt S U E:Int} {lp rp gv A D:Value},NodeAt w k I hs u mt S U E lp rp gv A D->NodeAt b k I hs u mt S U E lp rp gv A D:=by
  intro k I hs u mt S U E lp rp gv A D O;obtain⟨xs,d,_⟩:=O.ex;exact O.aT hc.on (hc.low _ O.lt (ne d (Or.inl rfl)))
 refine⟨fun i n hi=>?_,hc.at h.fuel (ne h.fuel (Or.inr (Or.inl rfl))),h.Qf⟩;have q:=h.nd i n hi;obtain⟨p0,q0,p1,q1,p2,q2,p3,q3,mt,E,gv,A,D,y,l,M,N⟩:=q.ex;refine⟨⟨p0,q0,p1,q1,p2,q2,p3,q3,mt,E,gv,A,D,⟨a y.nd,?_,?_,y.oA,?_⟩,l,M,N⟩,q.hc,q.own,q.lo,q.Qw⟩
 ·rcases y.Ag with h|⟨g,J,F,d,j,B,h4,X,h6⟩
  ·exact Or.inl h
  ·exact Or.inr ⟨g,J,F,d,hc.at j (ne j (Or.inr (Or.inr (Or.inr ⟨rfl,_,X⟩)))),B,h4,X,h6⟩
 ·intro C;obtain⟨d,cb,j,B⟩:=y.fI C;exact⟨d,cb,j,B.aT hc.on⟩
 ·refine⟨y.nst.1,fun P=>?_⟩;obtain⟨T,d,⟨cs,j⟩,B⟩:=y.nst.2 P;refine⟨T,d,⟨cs,hc.at j (ne j (Or.inr (Or.inr (Or.inl rfl))))⟩,fun C ha=>?_⟩;obtain⟨xs,I,fst,L,k1,k2,k3,k4,k5,k6⟩:=B C ha;refine⟨xs,I,fst,L,hc.at k1 (ne k1 (Or.inr (Or.inr (Or.inl rfl)))),nM hc.on k2,k3,k4,k5,fun R=>?_⟩;obtain⟨m1,x,m2,m3,m4,m5⟩:=k6 R;refine⟨m1,x,m2,m3,m4,fun Y=>⟨(m5 Y).1,fun e=>?_⟩⟩;obtain⟨pb,r1,r2,r3,r4⟩:=(m5 Y).2 e;exact⟨pb,r1,r2,r3,a r4⟩
variable {n:World}
theorem Net.aside {b:World}{g:Nat}{own:Nat->Option Own}{at1:Nat->Nat}(h:Net n b0 own at1 g s)(hc:Chg n b [p]){T:TypeId}(d:∃cs:Array Value,n.heap[p]?=some (.cells cs T (0,0)))(a:T≠98/\T≠84/\T≠206/\T≠55):Net b b0 own at1 g s:=by
 obtain⟨j,d⟩:=d
 refine h.side hc fun k cs ty i o l=>?_
 subst l;rw[d]at i;cases i
 rcases o with e|e|e|⟨e,_⟩
 ·exact a.1 e
 ·exact a.2.1 e
 ·exact a.2.2.1 e
 ·exact a.2.2.2 e
noncomputable def nwK:List (K (List AT)):=[.code (aF f32),.top f32]
noncomputable def nxK:List (K (List AT)):=[.code (aF f34),.top f34]
def Rb (v:Value)(n:Int)(a:List AT):AS:=⟨a,[],0,[],[]⟩
def Bh (k:Value)(r:Int)(f:Value)(a:List AT):AS:=⟨a,[(0,Em [.lit k,.sint .i64 r,.lit f] 86)],1,[],[]⟩
noncomputable def rX:Nat×Array Oper×List (K (List AT)):=xK (aG 45) f34
def stX (a:List (K (List AT))):Bool:=mX (aG 44) a||sB (aG 45) a
noncomputable def nwA (n:Int)(hs:Bool):Option Tr:=run Z (aE tN) bT (aO Z (aE tN)) (fun _=>false) 100 (fQ (pD 7) f32) (Wn hs (slot [(1,dJ n),(7,.val (.one (.ptr 1 0)))] 0 17))
noncomputable def Wi (n:Int)(hs:Bool):AS:=(((nwA n hs).bind (dI [])).map (·.2)).getD ⟨[],[],0,[],[]⟩
section
variable (v k f:Value) (n r z:Int) (hs:Bool)
theorem aYo:(run Z (aE tN) bT (aO Z (aE tN)) stX 100 nwK (Rb v n (litT v::dJ n::List.replicate 15 .gC))).bind (eD (fG [] [] 0 []) (fG [] [1,6] 0 []))=some (.stp (eF (pD 7) f32) (Rb v n (slot [(1,dJ n),(6,litT v)] 0 17))):=by kernel_rfl
theorem aYl:cR Z (Rb v n (slot [(1,dJ n),(6,litT v)] 0 17)) (eF (pD 7) f32)=some (44,[.one (.lit v)],some 7,fQ (pD 7) f32):=by kernel_rfl
theorem Qt:noFr (eF (pD 7) f32)=true:=by kernel_rfl
theorem aYn:nwA n hs=some (.ret (.val (.one (.ptr 3 0))) (Wi n hs)):=by kernel_rfl
theorem aYk:look (Wi n hs).boxes 3=some ⟨[.ptr 1 0,.int .i64 0,.ptr 2 0],86,true,false,false⟩:=by kernel_rfl
theorem aYj:look (Wi n hs).boxes 2=some ⟨[.sint .i64 n],84,true,false,false⟩:=by kernel_rfl
theorem aYm:clean (Wi n hs)=true:=by kernel_rfl
theorem aYt:(run Z (aE tN) bT (aO Z (aE tN)) stX 100 nxK (Bh k r f (P0::List.replicate 24 .gC))).bind (eD (fG [0] [] 1 []) (fG [0] [0] 1 []))=some (.stp (.code (.region rX.1 rX.2.1 true)::rX.2.2) (Bh k r f (slot [(0,P0)] 0 25))):=by kernel_rfl
noncomputable def Wj:AS:=((aO Z (aE tN) (rX.2.1.extract 0 8) (Bh k r f (slot [(0,P0)] 0 25))).getD (⟨[],[],0,[],[]⟩,[])).1
theorem aYq:aO Z (aE tN) (rX.2.1.extract 0 8) (Bh k r f (slot [(0,P0)] 0 25))=some (Wj k f r,[]):=by kernel_rfl
theorem aVc:sD rX.2.1 8=true/\8<rX.2.1.size/\(List.range rX.2.1.size).drop 8=[8,9]:=⟨by kernel_rfl,Nat.lt_of_lt_of_eq (by decide:8<10) (by kernel_rfl),by kernel_rfl⟩
theorem aYp:cR Z (Wj k f r) (.ops rX.2.1 [8,9]::rX.2.2)=some (45,[.agg [.lit k,.sint .i64 r],.one (.lit f)],some 12,.ops rX.2.1 [9]::rX.2.2):=by kernel_rfl
theorem aYr:noFr rX.2.2=true:=by kernel_rfl
theorem aWx:(Wj k f r).dirty=[]:=by kernel_rfl
theorem aWy:putT (kN [0] [0] 0 (Wj k f r).tmps) (some 12) (dJ z)=slot [(0,P0),(12,dJ z)] 0 25:=by kernel_rfl
theorem aYs:(run Z (aE tN) bT (aO Z (aE tN)) (fun _=>false) 100 (.ops rX.2.1 [9]::rX.2.2) (Bh k r f (slot [(0,P0),(12,dJ z)] 0 25))).bind (eD (fG [0] [] 1 []) (fG [0] [] 1 []))=some (.br (z != 0) (.ret (dJ z) ⟨sl0 25,[(0,Em [.lit k,.sint .i64 (Wr (r+1)),.lit f] 86)],1,[],[0]⟩) (.ret (dJ z) ⟨sl0 25,[(0,Em [.lit k,.sint .i64 r,.lit f] 86)],1,[],[]⟩)):=by kernel_rfl
end
structure NbAt (w:World) (b0 nb fb:Nat) (own:Nat->Option Own) (at1:Nat->Nat) (s:Rf.St) (top r:Nat):Prop where
 yR:Net w b0 own at1 fb s
 cD:w.heap[nb]?=some (.cells #[aA (at1 top),.int .i64 r,aA fb] 86 (0,0))
 ow:own nb=none
 bs:b0<=w.heap.size
 Lo:b0<=nb
 nw:∀k,k<b0->own k=none
theorem aVa {t:Wt}{c:Nat}(H:t.Ok)(hp:aM n t z)(hc:c<=3000):Calls prog 32 #[z,.int .i64 c] n fun e w'=>∃ns d own at1 M C,Rf.of t []=some (ns,d)/\e=.returned (aA M)/\Chg n w' []/\NbAt w' n.heap.size M C own at1 ⟨ns,c⟩ d 0:=by
 have F:=bI func32 rfl rfl;refine pC F (φ:=fun _=>none) (vs:=[.one (.lit z),.one (.sint .i64 c)]) (args:=[z,.int .i64 c]) (s:=Rb z c (litT z::dJ c::List.replicate 15 .gC)) (by kernel_rfl) ⟨⟨rfl,Kg hp⟩,rfl,trivial⟩ Fl ?_
 have D:∀b x,(fun _:Nat=>(none:Option (Nat×Nat))) b=some x->([]:List Nat).contains b=true:=fun b x e=>by cases e
 refine cE (dH jQ) qF D (jK D) (aYo z c) (fun _ _=>False) (fun ks s=>ks=eF (pD 7) f32/\s=Rb z c (slot [(1,dJ c),(6,litT z)] 0 17)) ⟨rfl,rfl⟩ (fun _ _ _ _ _ h=>h.elim) ?_;rintro ks s⟨rfl,rfl⟩;refine⟨Qt,fun a3 ad a1 w1 I u=>?_⟩;have c1:Chg n w1 []:=Chg.eH (RepF.below u.wd rfl)
 refine qC (aYl z c) (bI func44 rfl rfl).en Qt (I ad [] w1) u fun us Y=>?_
 match us,Y with
 | [u1],⟨A,_⟩=>
 have A:u1=z:=A.1;rw[A];obtain⟨l,ak,d,E,gr,hd,_⟩:=Rf.qE t [] (fun _=>0) H hc (Rf.aJo _ c);refine(Fi t w1 n.heap.size (fun _=>none) (fun _=>0) [] (fun _=>0) c z (fun i f h=>by simp at h) c1.on.size hc (Rf.aJo _ c) H (aM.aT c1.on t z hp)).mono ?_;rintro e B⟨a6,d1,p,at2,N,rfl,g⟩;rw[E]at N;cases N;have W:l[d]?=some l[d]:=List.getElem?_eq_getElem hd;obtain⟨⟨ys,o⟩,af⟩:=Kv g.Aw W;refine⟨aA (at2 d),rfl,fun L ar J=>?_⟩;generalize (!l[d].pos)=b at o;have X:Rep Z B (ph1 1 (at2 d)) (ph1 1 (at2 d)) (Wn b (slot [(1,dJ c),(7,.val (.one (.ptr 1 0)))] 0 17)) (a1.put (some 7) (aA (at2 d))) B:=oZ (kb:=[]) (kt:=[1]) (r:=.val (.one (.ptr 1 0))) u (Yo o rfl) (by kernel_rfl) (fun b hb=>by simp at hb) ⟨at2 d,0,rfl,rfl⟩;refine vB (dH jQ) qF (rD mixed (dH jQ)) (fun r s=>r=.val (.one (.ptr 3 0))/\look s.boxes 3=some ⟨[.ptr 1 0,.int .i64 0,.ptr 2 0],86,true,false,false⟩/\look s.boxes 2=some ⟨[.sint .i64 c],84,true,false,false⟩/\clean s=true) (fun _ _=>False) (fun _ _ h=>h.elim) ?_ _ _ _ _ (aYn c b) ⟨rfl,aYk c b,aYj c b,aYm c b⟩ L _ _ B (J _ _ _) X;rintro r s φ x P⟨rfl,l3,l2,T⟩ hrel O;have c3:Chg B P []:=Chg.eH (RepF.below O T);obtain⟨M,y3,j1,j2,j3,j4⟩:=zF O l3 rfl rfl;obtain⟨C,y2,i1,i2,i3,i4⟩:=zF O l2 rfl rfl;have aa:φ 1=some (at2 d,0):=O.base 1 (at2 d,0) rfl;have hv:x=aA M:=cQ (ν:=s.nums) (w:=P) j1 x hrel
 have e3:y3=[aA (at2 d),.int .i64 0,aA C]:=by
  match y3,j3 with
  | [a,b,c],⟨q,R,S,_⟩=>
   have q:a=aA (at2 d):=cQ (ν:=s.nums) (w:=P) aa a q;have R:b=.int .i64 0:=R;have S:c=aA C:=cQ (ν:=s.nums) (w:=P) i1 c S;rw[q,R,S]
 have N:y2=[.int .i64 c]:=by
  match y2,i3 with
  | [a],⟨q,_⟩=>
   have q:a=.int .i64 c:=q;rw[q]
 rw[e3]at j2;rw[N]at i2;have y:n.heap.size<=B.heap.size:=Nat.le_trans c1.on.size g.sH.on.size;have hN:=g.Aw.more (own':=fun k=>if k<B.heap.size then p k else none) (at2:=at2) (new:=[]) gr.inv c3 (fun k U=>if_pos U) (fun _ _=>rfl) (fun j mm hj=>by simp at hj);rw[List.append_nil]at hN;refine⟨l,d,_,at2,M,C,E,by rw[hv],(c1.trans g.sH).trans c3,⟨⟨hN,i2,Nat.le_trans y i4⟩,j2,?_,Nat.le_trans y c3.on.size,Nat.le_trans y j4,fun k U=>?_⟩⟩
 ·exact if_neg (by omega)
 ·show(if k<B.heap.size then p k else none)=none;rw[if_pos (by omega),g.own k (Nat.lt_of_lt_of_le U c1.on.size)]
structure Lt (w:World) (b0 nb fb:Nat) (own:Nat->Option Own) (at1:Nat->Nat) (s:Rf.St) (top r:Nat) (x:Rf.St×Option Int) (w':World):Prop where
 on:On Z.bt w w'
 low:∀k,k<b0->w'.heap[k]?=w.heap[k]?
 kept:∀k,k<w.heap.size->own k=none->k≠fb->k≠nb->w'.heap[k]?=w.heap[k]?
 some:x.2.isSome=true->∃own' at2,NbAt w' b0 nb fb own' at2 x.1 top (r+1)/\∀k,k<w.heap.size->own k=none->own' k=none
variable {r:Nat}
theorem aOk {w:Nat}{k f:Value}(ok:One k)(of:One f)(h:n.heap[w]?=some (.cells #[k,.int .i64 r,f] 86 (0,0)))(p:List AT):RepW Z n (ph1 0 w) (ph1 0 w) (Bh k r f p) n:=by
 refine aOf rfl ?_ ?_ ?_ ?_
 ·intro b B j;have:=mU j;simp only[Bh,List.mem_singleton,Prod.mk.injEq]at this;obtain⟨rfl,rfl⟩:=this;exact⟨rfl,rfl,w,0,rfl,[],[k,.int .i64 r,f],[],h,rfl,⟨rfl,ok⟩,rfl,⟨rfl,of⟩,trivial⟩
 ·intro b s B q k1 o y g i u v;have d:=mU g;have e:=mU i;simp only[Bh,List.mem_singleton,Prod.mk.injEq]at d e;exact Or.inl (by rw[d.1,e.1])
 ·intro b l;have:1<=b:=l;unfold ph1;rw[if_neg (by omega)]
 ·intro b x o a;unfold ph1 at a;split at a
  ·cases a;exact gU h
  ·cases a
theorem aSr {k:Nat}{own:Nat->Option Own}{at1:Nat->Nat}{top c f:Nat}{B:Nat->Nat}{y:Nd}{x:Rf.St×Option Int}(h:NbAt n b0 k p own at1 s top r)(a0:s.clock=(c:Int))(hc:c<=3000)(hI:Inv s.nodes B c)(hn:s.nodes[top]?=some y)(hr:r<=y.out.length)(cg:r<=1000000)(hf:c+B top+2<=f)(hx:Rf.sym f s top r=some x)(cj:x.2.isSome=true->∃B c,Inv x.1.nodes B c):
  Calls prog 34 #[aA k] n fun e w'=>e=.returned (.int .i64 (eI x.2))/\Lt n b0 k p own at1 s top r x w':=by
 have F:=bI func34 rfl rfl;have U:=(List.getElem?_eq_some_iff.1 hn).1
 have a6:k≠p:=by
  rintro rfl;have:=h.cD;rw[h.yR.fuel]at this;exact absurd (Obj.cells.inj (Option.some.inj this)).2.1 (by decide)
 refine pC F (φ:=ph1 0 k) (vs:=[.one (.ptr 0 0)]) (args:=[aA k]) (s:=Bh (aA (at1 top)) r (aA p) (P0::List.replicate 24 .gC)) (by kernel_rfl) ⟨⟨k,0,rfl,rfl⟩,trivial⟩ (aOk rfl rfl h.cD _) ?_;refine cE (dH jQ) qF lD (jK lD) (aYt (aA (at1 top)) (aA p) r) (fun _ _=>False) (fun ks s=>ks=.code (.region rX.1 rX.2.1 true)::rX.2.2/\s=Bh (aA (at1 top)) r (aA p) (slot [(0,P0)] 0 25)) ⟨rfl,rfl⟩ (fun _ _ _ _ _ h=>h.elim) ?_;rintro ks s0⟨rfl,rfl⟩;have M:noFr rX.2.2=true:=aYr;refine⟨by simpa[noFr]using M,fun bg am a1 w1 ae aa=>?_⟩;obtain⟨bb,bj,bd⟩:=aVc
 match bg,ae am [] w1 with
 |.code cc::ah,⟨az,af⟩=>
 subst az;show(Code.region rX.1 rX.2.1 true).wp Z.P _ a1 w1;refine Ke mixed (dH jQ) bj bb (aYq (aA (at1 top)) (aA p) r) iC aa ?_;intro bp a2 w2 D;rw[bd];have c2:Chg n w2 []:=rE D.wd (aWx _ _ _);show fZ Z.P _ (.ops rX.2.1 [8,9]::ah) .normal a2 w2
 refine qC (aYp (aA (at1 top)) (aA p) r) (bI func45 rfl rfl).en (by simpa[noFr]using M) (φ1:=bp) (ν1:=[]) (w1:=w2) ⟨rfl,rfl,SR.any M af⟩ D fun us bc=>?_
 match us,bc with
 | [u1,u2],⟨⟨xs,ba,bf⟩,S,_⟩=>
 have S:u2=aA p:=S.1
 have e1:xs=[aA (at1 top),.int .i64 r]:=by
  match xs,bf with
  | [a,b],⟨u,L,_⟩=>
   have u:a=aA (at1 top):=u.1;have L:b=.int .i64 r:=L;rw[u,L]
 rw[ba,S,e1];have av:=h.yR.still hI c2
 have bh:∀J,Chg w2 J []->Calls prog 66 #[aA (at1 top),.int .i64 r,aA p] J fun e w'=>e=.returned (.int .i64 (eI x.2))/\kK J b0 own at1 p s.nodes.length x.2.isSome x.1 w':=fun J c3=>
  aOx f J b0 p own at1 s B c top r y x (av.still hI c3) (Nat.le_trans h.bs (Nat.le_trans c2.on.size c3.on.size)) a0 hc hI hn hr hf hx
 refine aEY (R:=fun e w'=>∃v,e=.returned v/\∀q,noFr (.ops rX.2.1 [9]::rX.2.2)=true->(∀bo bn bk,SR Z bo bn bk (.ops rX.2.1 [9]::rX.2.2) q)->fZ Z.P _ q .normal (a2.put (some 12) v) w') fun J c3=>(bh J c3).mono ?_
 rintro e C⟨rfl,aj,T,a8⟩;have g:=c2.trans c3
 have i:C.heap[k]?=some (.cells #[aA (at1 top),.int .i64 r,aA p] 86 (0,0)):=by
  rw[T.low k (gU (g.at h.cD (by simp))) h.ow a6];exact g.at h.cD (by simp)
 have H:On Z.bt n C:=g.on.trans T.on
 have A:∀j,j<n.heap.size->own j=none->j≠p->C.heap[j]?=n.heap[j]?:=by
  intro j u X N;rw[T.low j (Nat.lt_of_lt_of_le u g.on.size) X N,g.low j u (by simp)]
 have ai:∀j,j<b0->C.heap[j]?=n.heap[j]?:=by
  intro j l;have u:j<n.heap.size:=Nat.lt_of_lt_of_le l h.bs
  have N:j≠p:=by have:=h.yR.Qf;omega
  exact A j u (h.nw j l) N
 refine⟨eI x.2,rfl,_,rfl,fun q cd ag=>?_⟩
 have a9:Rep Z C (ph1 0 k) (ph1 0 k) (Bh (aA (at1 top)) r (aA p) (slot [(0,P0),(12,dJ (eI x.2))] 0 25)) (a2.put (some 12) (.int .i64 (eI x.2))) C:=oZ (kb:=[0]) (kt:=[0]) (r:=dJ (eI x.2)) D (aOk rfl rfl i _) (aWy _ _ _ _).symm (fun b z=>by
  have:b=0:=by simpa using z
  subst this
  exact(D.wd.base 0 (k,0) rfl).symm) rfl
 refine cE (dH jQ) qF lD (jK lD) (aYs (aA (at1 top)) (aA p) r (eI x.2)) (fun rr st=>rr=dJ (eI x.2)/\(x.2.isSome=true->st.dirty=[0]/\look st.boxes 0=some (Em [.lit (aA (at1 top)),.sint .i64 (Wr ((r:Int)+1)),.lit (aA p)] 86))/\(x.2.isSome=false->st.dirty=[])) (fun _ _=>False) ?_ ?_ (fun _ _ h=>h.elim) q _ _ _ (ag _ _ _) a9
 ·cases ci:x.2 with
  |none=>exact⟨fun e=>(by simp[eI]at e),fun _=>⟨rfl,fun e=>(by cases e),fun _=>rfl⟩⟩
  |some v=>exact⟨fun _=>⟨rfl,fun _=>⟨rfl,rfl⟩,fun e=>(by cases e)⟩,fun e=>absurd (by simpa[eI]using e) (Zs v)⟩
 ·rintro rr st cq v w5⟨rfl,hy,a7⟩ _ hv d;have be:v=.int .i64 (eI x.2):=hv _ _ (Or.inl rfl);rw[be]
  have hd:st.dirty=[0]\/st.dirty=[]:=by
   cases hs:x.2.isSome with
   |true=>exact Or.inl (hy hs).1
   |false=>exact Or.inr (a7 hs)
  have I:∀j,j<C.heap.size->j≠k->w5.heap[j]?=C.heap[j]?:=by
   intro j a5 a4
   refine d.low j a5 fun b z o e=>?_
   rcases hd with hd|hd
   ·rw[hd]at z;simp only[List.mem_singleton]at z;subst z;rw[d.base 0 (k,0) rfl]at e;cases e;exact a4 rfl
   ·rw[hd]at z;cases z
  refine⟨rfl,H.trans d.on,fun j l=>?_,fun j l X hf hn=>?_,fun hs=>?_⟩
  ·rw[<-ai j l];exact I j (Nat.lt_of_lt_of_le l (Nat.le_trans h.bs H.size)) (by have:=h.Lo;omega)
  ·rw[<-A j l X hf];exact I j (Nat.lt_of_lt_of_le l H.size) hn
  ·obtain⟨hd,l0⟩:=hy hs;obtain⟨at2,ax,ay⟩:=a8 hs
   have c5:Chg C w5 [k]:=⟨d.on,fun j l hm=>d.low j l fun b z o e=>by
    rw[hd]at z;simp only[List.mem_singleton]at z;subst z;rw[d.base 0 (k,0) rfl]at e;cases e
    exact hm (by simp)⟩
   obtain⟨k',o,bi,zs,ak,g1,g2,g3,g4⟩:=d.box 0 _ l0;rw[d.base 0 (k,0) rfl]at g1;cases g1;have Y:bi=[]:=List.length_eq_zero_iff.1 g3;subst Y
   have hz:zs=[aA (at1 top),.int .i64 ((r+1:Nat):Int),aA p]:=by
    match zs,g4 with
    | [a,b,c],⟨u,L,h3,_⟩=>
     have u:a=aA (at1 top):=u.1;have L:b=.int .i64 (Wr ((r:Int)+1)):=L;have h3:c=aA p:=h3.1
     have h4:Wr ((r:Int)+1)=((r+1:Nat):Int):=by
      rw[mI (by omega) (by omega)];omega
     rw[u,L,h3,h4]
   subst hz
   have ad:C.shape? k=some (86,3):=by
    unfold World.shape?;rw[i];rfl
   have E:=d.on.shape ad;unfold World.shape? at E;rw[g2]at E;simp only[Option.some.injEq,Prod.mk.injEq,List.size_toArray,List.nil_append,List.length_append]at E;have O:ak=[]:=List.length_eq_zero_iff.1 (by have:=E.2;simpa using this);subst O;have W:k<(J).heap.size:=gU (g.at h.cD (by simp));refine⟨aj,at2,⟨ax.aside c5 ⟨_,i⟩ (by decide),?_,T.own k W h.ow,Nat.le_trans h.bs (H.trans d.on).size,h.Lo,fun j l=>T.own j (Nat.lt_of_lt_of_le l (Nat.le_trans h.bs g.on.size)) (h.nw j l)⟩,fun j l X=>T.own j (Nat.lt_of_lt_of_le l g.on.size) X⟩;rw[ay top U,g2];rfl
def Wo (b:Bool):AS:=⟨P0::List.replicate 18 .gC,[(0,ext [.ptr 1 0] 86),(1,ext [.bool b] 98)],2,[],[]⟩
def phH (x y:Nat):Nat->Option (Nat×Nat)
 |0=>some (x,0)
 |1=>some (y,0)
 |_=>none
theorem aYa (b:Bool):(run Z (aE tN) bT (aO Z (aE tN)) (fun _=>false) 100 [.code (aF f33),.top f33] (Wo b)).bind iW=some (.val (.one (.bool b)),true):=by kernel_rfl
theorem aLD {k:Nat}{own:Nat->Option Own}{at1:Nat->Nat}{top:Nat}{y:Nd}(h:NbAt n b0 k p own at1 s top r)(u:s.nodes[top]?=some y):Calls prog 33 #[aA k] n fun e i=>e=.returned (.bool (!y.pos))/\Chg n i []:=by
 obtain⟨⟨A,d⟩,_⟩:=Kv (own:=own) (b0:=b0) (at1:=at1) (ns:=s.nodes) h.yR.nd u;generalize (!y.pos)=b at d ⊢
 have g:RepW Z n (phH k (at1 top)) (phH k (at1 top)) (Wo b) n:=by
  refine rI rfl ?_ ?_ ?_
  ·intro C B l;have:=mU l;simp[Wo]at this
   rcases this with⟨rfl,rfl⟩|⟨rfl,rfl⟩
   ·exact⟨rfl,rfl,rfl,k,0,rfl,[],[aA (at1 top)],[.int .i64 r,aA p],h.cD,rfl,⟨at1 top,0,rfl,rfl⟩,trivial⟩
   ·exact⟨rfl,rfl,rfl,at1 top,0,rfl,[],[.bool b],A,d,rfl,rfl,trivial⟩
  ·intro b q;have:2<=b:=q
   match b,this with
   |b+2,_=>rfl
  ·intro b D o a
   match b,a with
   |0,a=>cases a;exact gU h.cD
   |1,a=>cases a;exact gU d
   |b+2,a=>cases a
 obtain⟨z,j,f⟩:=aU (aYa b)
 match z,f with
 |.ret r s,f=>
  simp only[iW,Option.some.injEq,Prod.mk.injEq]at f;obtain⟨rfl,hc⟩:=f;refine rY (s:=Wo b) (vs:=[.one (.ptr 0 0)]) (args:=[aA k]) (bI func33 rfl rfl) (dH jQ) qF (by kernel_rfl) ⟨⟨k,0,rfl,rfl⟩,trivial⟩ g j (fun r s=>r=.val (.one (.bool b))/\clean s=true) ⟨rfl,hc⟩ ?_;rintro r s φ v i⟨rfl,hc⟩ hrel x;have hv:v=.bool b:=hrel;exact⟨by rw[hv],Chg.eH (RepF.below x hc)⟩
 |.br _ _ _,f=>cases f
 |.need _ _,f=>cases f
 |.stop _ _,f=>cases f
def Gt (k a b c d:Int):Int:=bif k==6 then a*d+c*b else bif k==7 then a*d+-c*b else bif k==8 then a*c else a*d
def Gs (k a b c d:Int):Int:=bif k==6 then b*d else bif k==7 then b*d else bif k==8 then b*d else b*c
def fWo:List G->Option RG
 | [.i .i64 k,.ns [a,b],.ns [c,d]]=>some (.one (.ns [bif k==6 then aH (a*d+c*b) (b*d)else bif k==7 then aH (a*d+-c*b) (b*d)else bif k==8 then aH (a*c) (b*d)else aH (a*d) (b*c),bif k==6 then aK (a*d+c*b) (b*d)else bif k==7 then aK (a*d+-c*b) (b*d)else bif k==8 then aK (a*c) (b*d)else aK (a*d) (b*c)]))
 |_=>none
def Qq:List G->List Prop
 | [.i .i64 k,.ns [a,b],.ns [c,d]]=>[0<aV (Gt k a b c d) (Gs k a b c d)]
 |_=>[]
theorem aWT:bQ Z 77 (eM true fWo Qq 41 [0,10,10]):=by
 refine jG (l:=tF) aVz dT (bI func77 rfl rfl) ?_;intro o out h;unfold fWo at h;split at h
 ·rename_i k a b c d;cases h;refine⟨[(k==6)=true->0<aV (a*d+c*b) (b*d),(k==6)=false->(k==7)=true->0<aV (a*d+-c*b) (b*d),(k==6)=false->(k==7)=false->(k==8)=true->0<aV (a*c) (b*d),(k==6)=false->(k==7)=false->(k==8)=false->0<aV (a*d) (b*c)],41,by kernel_rfl,by decide,fun n _=>?_⟩;have f:0<aV (Gt k a b c d) (Gs k a b c d):=n.one;unfold Gt Gs at f;refine gR (fun e=>?_) (gR (fun g i=>?_) (gR (fun g i j=>?_) (gR (fun g i j=>?_) iC)))
  ·rw[e]at f;exact f
  ·rw[g,i]at f;exact f
  ·rw[g,i,j]at f;exact f
  ·rw[g,i,j]at f;exact f
 ·cases h
noncomputable def tP:List (FuncId×TE):=(77,eM true fWo Qq 41 [0,10,10])::tS
theorem qG:cX Z tP:=⟨aWT,nE⟩
noncomputable def bP:FuncId->Option Func:=fun f=>bif f==73 then some f73 else bif f==55 then some f55 else bif f==76 then some f76 else none
theorem tV:bV Z bP:=by
 intro f fn h;unfold bP at h
 exact uY h (bI func73 rfl rfl) fun h=>uY h (bI func55 rfl rfl) fun h=>uY h (bI func76 rfl rfl) fun h=>by cases h
def Gk (i:Nat):bO:=ext (.int .i64 1::bH true i 2) 126
def Lr (a:Int):bO:=ext [.int .i64 a] 126
def Gm (fn:Func)(a:List AV)(b:List (Nat×bO))(ns:List (Int×Nat)):AS:=⟨a.map .val++List.replicate (fn.ntmps-a.length) .gC,b,3,ns,[]⟩
noncomputable def yO (fn:Func)(s:AS):Option Tr:=run Z (aE tP) bP (aO Z (aE tP)) (fun _=>false) 400 [.code (aF fn),.top fn] s
noncomputable def lP (fn:Func)(s:AS)(l:List Bool):AS:=(((yO fn s).bind (dI l)).map (·.2)).getD ⟨[],[],0,[],[]⟩
abbrev sZ:AV:=.one (.ptr 1 0)
abbrev Eb:AV:=.one (.ptr 2 0)
abbrev xO (k:Int):AV:=.one (.int .i64 k)
noncomputable def Qn (p q:Int):AS:=Gm f58 [sZ] [(1,Gk 0)] [(p,1),(q,1)]
noncomputable def Qo (a:Int):AS:=Gm f58 [sZ] [(1,Lr a)] []
noncomputable def Cl (a p q:Int):AS:=Gm f59 [xO a,sZ] [(1,Gk 0)] [(p,1),(q,1)]
noncomputable def Qg (b a:Int):AS:=Gm f59 [xO b,sZ] [(1,Lr a)] []
noncomputable def Az (b p q a:Int):AS:=Gm f60 [xO b,sZ,Eb] [(1,Gk 0),(2,Lr a)] [(p,1),(q,1)]
noncomputable def oB (b a p q:Int):AS:=Gm f60 [xO b,sZ,Eb] [(1,Lr a),(2,Gk 0)] [(p,1),(q,1)]
noncomputable def qT (d a b:Int):AS:=Gm f60 [xO d,sZ,Eb] [(1,Lr a),(2,Lr b)] []
structure gD (s:AS) (b:Nat) (kd:Int) (zs:List Int) (lc rc:AC):Prop where
 look:look s.boxes b=some ⟨.int .i64 kd::((zM s b).drop 1).take 4++[.lit aJ,lc,rc],126,true,false,false⟩
 num:numOf s.nums (((zM s b).drop 1).take 4)=some zs
abbrev fV (c:AC)(e:Int):AT:=.tup [.one c,.one (.int .i64 e)]
section
variable (p q:Int)
theorem aWv:yO f58 (Qn p q)=some (.ret (.val (.one (.ptr 4 0))) (lP f58 (Qn p q) [])):=by kernel_rfl
theorem aWu:gD (lP f58 (Qn p q) []) 4 1 [-p,q] (.lit aB) (.lit aB):=⟨by kernel_rfl,by kernel_rfl⟩
theorem aWt:clean (lP f58 (Qn p q) [])=true:=by kernel_rfl
theorem aWw (h:v∈pW):yO f58 (Qo v)=some (.ret (.val (.one (.ptr 3 0))) (lP f58 (Qo v) []))/\gD (lP f58 (Qo v) []) 3 5 [0,0] (.ptr 1 0) (.lit aB)/\clean (lP f58 (Qo v) [])=true:=by
 simp only[pW,List.mem_cons,List.not_mem_nil,or_false]at h
 rcases h with rfl|rfl|rfl|rfl|rfl|rfl|rfl|rfl|rfl|rfl|rfl|rfl<;>exact⟨by kernel_rfl,⟨by kernel_rfl,by kernel_rfl⟩,by kernel_rfl⟩
theorem aWe (h:v=10\/v=11\/v=12\/v=13):yO f59 (Cl v p q)=some (.br (decide (Nm.cmp p 0=-1)) (.ret (fV (.lit aB) 5) (lP f59 (Cl v p q) [true])) (.br (decide (Nm.cmp p 0=0)) (.ret (fV (.ptr 4 0) 0) (lP f59 (Cl v p q) [false,true])) (.ret (fV (.ptr 3 0) 0) (lP f59 (Cl v p q) [false,false]))))/\clean (lP f59 (Cl v p q) [true])=true/\gD (lP f59 (Cl v p q) [false,true]) 4 1 [if v=11 then 1 else 0,1] (.lit aB) (.lit aB)/\clean (lP f59 (Cl v p q) [false,true])=true/\gD (lP f59 (Cl v p q) [false,false]) 3 v [0,0] (.ptr 1 0) (.lit aB)/\clean (lP f59 (Cl v p q) [false,false])=true:=by
 rcases h with rfl|rfl|rfl|rfl<;>exact⟨by kernel_rfl,by kernel_rfl,⟨by kernel_rfl,by kernel_rfl⟩,by kernel_rfl,⟨by kernel_rfl,by kernel_rfl⟩,by kernel_rfl⟩
theorem aWf (a:Int)(h:v∈pW):yO f59 (Qg a v)=some (.ret (fV (.ptr 3 0) 0) (lP f59 (Qg a v) []))/\gD (lP f59 (Qg a v) []) 3 a [0,0] (.ptr 1 0) (.lit aB)/\clean (lP f59 (Qg a v) [])=true:=by
 simp only[pW,List.mem_cons,List.not_mem_nil,or_false]at h
 rcases h with rfl|rfl|rfl|rfl|rfl|rfl|rfl|rfl|rfl|rfl|rfl|rfl<;>exact⟨by kernel_rfl,⟨by kernel_rfl,by kernel_rfl⟩,by kernel_rfl⟩
end
end Ab
end Go.Proofs.YtkmojpfpfoaloaaGreatDoor
