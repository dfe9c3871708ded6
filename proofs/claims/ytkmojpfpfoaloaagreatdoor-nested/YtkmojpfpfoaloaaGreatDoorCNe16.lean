import Derived.Test.YtkmojpfpfoaloaaGreatDoorCNe15
import Derived.Test.YtkmojpfpfoaloaaGreatDoorCNe03
import Derived.Test.YtkmojpfpfoaloaaGreatDoorCNe02
import Derived.BigQuiet
import Derived.Deep.Trees
import Derived.Deep.LoopGhost
set_option linter.all false
set_option maxRecDepth 100000
set_option maxHeartbeats 2000000
namespace Go.Proofs.YtkmojpfpfoaloaaGreatDoor
open Go.Proofs.Tryz
open Go.RowKit
namespace Ab
open Rf (Nd Inv aZ Wt)
noncomputable def Qu (d p q a b:Int):AS:=Gm f60 [xO d,sZ,Eb] [(1,Gk 0),(2,Gk 2)] [(p,1),(q,1),(a,1),(b,1)]
def qU (p q a b:Int)(d:List AT):AS:=⟨d,[(1,Gk 0),(2,Gk 2)],3,[(p,1),(q,1),(a,1),(b,1)],[]⟩
noncomputable def rO:Nat×Array Oper×List (K (List AT)):=xK (aG 55) f60
noncomputable def oK:List (K (List AT)):=[.code (aF f60),.top f60]
noncomputable def xFF (d p q a b:Int):Option XT:=(run Z (aE tP) bP (aO Z (aE tP)) (sB (aG 55)) 400 oK (Qu d p q a b)).bind (eD (fG [1,2] [] 3 []) (fG [1,2] [0,1,2] 3 []))
abbrev Jh (d:Int):List AT:=slot [(0,.val (xO d)),(1,.val sZ),(2,.val Eb)] 0 44
noncomputable def dO (d p q a b:Int):AS:=((aO Z (aE tP) (rO.2.1.extract 0 10) (qU p q a b (Jh d))).getD (⟨[],[],0,[],[]⟩,[])).1
noncomputable def zO (d p q a b:Int):Option Tr:=run Z (aE tP) bP (aO Z (aE tP)) (fun _=>false) 100 (.ops rO.2.1 [10,11,12]::rO.2.2) (dO d p q a b)
noncomputable def zS (d p q a b:Int):AS:=(((zO d p q a b).bind (dI [])).map (·.2)).getD ⟨[],[],0,[],[]⟩
def vZ (d:Rf.Kind)(p q a b:Int):Int:=aH (Gt (cW d) p q a b) (Gs (cW d) p q a b)
def vY (d:Rf.Kind)(p q a b:Int):Int:=aK (Gt (cW d) p q a b) (Gs (cW d) p q a b)
section
variable (p q a b:Int)
variable {v:Int}
theorem aWA (d:Rf.Kind)(h:v∈pW):yO f60 (Az (cW d) p q v)=some (.ret (fV (.ptr 3 0) 0) (lP f60 (Az (cW d) p q v) []))/\gD (lP f60 (Az (cW d) p q v) []) 3 (cW d) [0,0] (.ptr 1 0) (.ptr 2 0)/\clean (lP f60 (Az (cW d) p q v) [])=true:=by
 simp only[pW,List.mem_cons,List.not_mem_nil,or_false]at h
 rcases h with rfl|rfl|rfl|rfl|rfl|rfl|rfl|rfl|rfl|rfl|rfl|rfl<;>cases d<;>exact⟨by kernel_rfl,⟨by kernel_rfl,by kernel_rfl⟩,by kernel_rfl⟩
theorem aWB {d:Rf.Kind}(e:d≠.div)(h:v∈pW):yO f60 (oB (cW d) v p q)=some (.ret (fV (.ptr 3 0) 0) (lP f60 (oB (cW d) v p q) []))/\gD (lP f60 (oB (cW d) v p q) []) 3 (cW d) [0,0] (.ptr 1 0) (.ptr 2 0)/\clean (lP f60 (oB (cW d) v p q) [])=true:=by
 simp only[pW,List.mem_cons,List.not_mem_nil,or_false]at h
 cases d with
 |div=>exact absurd rfl e
 |add=>rcases h with rfl|rfl|rfl|rfl|rfl|rfl|rfl|rfl|rfl|rfl|rfl|rfl<;>exact⟨by kernel_rfl,⟨by kernel_rfl,by kernel_rfl⟩,by kernel_rfl⟩
 |sub=>rcases h with rfl|rfl|rfl|rfl|rfl|rfl|rfl|rfl|rfl|rfl|rfl|rfl<;>exact⟨by kernel_rfl,⟨by kernel_rfl,by kernel_rfl⟩,by kernel_rfl⟩
 |mul=>rcases h with rfl|rfl|rfl|rfl|rfl|rfl|rfl|rfl|rfl|rfl|rfl|rfl<;>exact⟨by kernel_rfl,⟨by kernel_rfl,by kernel_rfl⟩,by kernel_rfl⟩
theorem aVe (h:v∈pW):yO f60 (oB 9 v p q)=some (.br (decide (Nm.cmp p 0=0)) (.ret (fV (.lit aB) 5) (lP f60 (oB 9 v p q) [true])) (.ret (fV (.ptr 3 0) 0) (lP f60 (oB 9 v p q) [false])))/\clean (lP f60 (oB 9 v p q) [true])=true/\gD (lP f60 (oB 9 v p q) [false]) 3 9 [0,0] (.ptr 1 0) (.ptr 2 0)/\clean (lP f60 (oB 9 v p q) [false])=true:=by
 simp only[pW,List.mem_cons,List.not_mem_nil,or_false]at h
 rcases h with rfl|rfl|rfl|rfl|rfl|rfl|rfl|rfl|rfl|rfl|rfl|rfl<;>exact⟨by kernel_rfl,by kernel_rfl,⟨by kernel_rfl,by kernel_rfl⟩,by kernel_rfl⟩
theorem aWC {e:Rf.Kind}(f:e≠.div)(d:Int)(h:v∈pW):yO f60 (qT (cW e) v d)=some (.ret (fV (.ptr 3 0) 0) (lP f60 (qT (cW e) v d) []))/\gD (lP f60 (qT (cW e) v d) []) 3 (cW e) [0,0] (.ptr 1 0) (.ptr 2 0)/\clean (lP f60 (qT (cW e) v d) [])=true:=by
 simp only[pW,List.mem_cons,List.not_mem_nil,or_false]at h
 cases e with
 |div=>exact absurd rfl f
 |add=>rcases h with rfl|rfl|rfl|rfl|rfl|rfl|rfl|rfl|rfl|rfl|rfl|rfl<;>exact⟨by kernel_rfl,⟨by kernel_rfl,by kernel_rfl⟩,by kernel_rfl⟩
 |sub=>rcases h with rfl|rfl|rfl|rfl|rfl|rfl|rfl|rfl|rfl|rfl|rfl|rfl<;>exact⟨by kernel_rfl,⟨by kernel_rfl,by kernel_rfl⟩,by kernel_rfl⟩
 |mul=>rcases h with rfl|rfl|rfl|rfl|rfl|rfl|rfl|rfl|rfl|rfl|rfl|rfl<;>exact⟨by kernel_rfl,⟨by kernel_rfl,by kernel_rfl⟩,by kernel_rfl⟩
theorem aVf {x:Int}(h:v∈pW)(d:x∈pW):yO f60 (qT 9 v x)=some (.ret (fV (.ptr 3 0) 0) (lP f60 (qT 9 v x) []))/\gD (lP f60 (qT 9 v x) []) 3 9 [0,0] (.ptr 1 0) (.ptr 2 0)/\clean (lP f60 (qT 9 v x) [])=true:=by
 simp only[pW,List.mem_cons,List.not_mem_nil,or_false]at h d
 rcases h with rfl|rfl|rfl|rfl|rfl|rfl|rfl|rfl|rfl|rfl|rfl|rfl<;>rcases d with rfl|rfl|rfl|rfl|rfl|rfl|rfl|rfl|rfl|rfl|rfl|rfl<;>exact⟨by kernel_rfl,⟨by kernel_rfl,by kernel_rfl⟩,by kernel_rfl⟩
theorem aWz {d:Rf.Kind}(e:d≠.div):xFF (cW d) p q a b=some (.stp (.code (.region rO.1 rO.2.1 true)::rO.2.2) (qU p q a b (Jh (cW d)))):=by
 cases d with
 |div=>exact absurd rfl e
 |add=>kernel_rfl
 |sub=>kernel_rfl
 |mul=>kernel_rfl
theorem aVd:xFF 9 p q a b=some (.br (decide (Nm.cmp a 0=0)) (.ret (fV (.lit aB) 5) (qU p q a b (sl0 44))) (.stp (.code (.region rO.1 rO.2.1 true)::rO.2.2) (qU p q a b (Jh 9)))):=by kernel_rfl
theorem aXO (d:Int):aO Z (aE tP) (rO.2.1.extract 0 10) (qU p q a b (Jh d))=some (dO d p q a b,[0<aV (Gt d p q a b) (Gs d p q a b)]):=by kernel_rfl
theorem aV1:sD rO.2.1 10=true/\10<rO.2.1.size/\(List.range rO.2.1.size).drop 10=[10,11,12]:=⟨by kernel_rfl,Nat.lt_of_lt_of_eq (by decide:10<13) (by kernel_rfl),by kernel_rfl⟩
theorem frO:noFr rO.2.2=true:=by kernel_rfl
theorem aZe (d:Rf.Kind):zO (cW d) p q a b=some (.ret (fV (.ptr 14 0) 0) (zS (cW d) p q a b))/\gD (zS (cW d) p q a b) 14 1 [vZ d p q a b,vY d p q a b] (.lit aB) (.lit aB)/\clean (zS (cW d) p q a b)=true:=by
 cases d<;>exact⟨by kernel_rfl,⟨by kernel_rfl,by kernel_rfl⟩,by kernel_rfl⟩
end
theorem gD.at {n w:World}{q φ:Nat->Option (Nat×Nat)}{s:AS}{b:Nat}{v:Int}{k:List Int}{F i:AC}{z f:Value}(h:gD s b v k F i)(D:RepW Z n q φ s w)(r:∀x,relC Z φ s.nums w F x->x=z)(u:∀x,relC Z φ s.nums w i x->x=f):
  ∃m,∃p:List Value,φ b=some (m,0)/\PartB w m v p aJ z f/\bD true w k p:=by
 obtain⟨m,d,k1,E,H,I⟩:=zF D h.look rfl rfl;have o:=h.num
 match d,H with
 |y::d,⟨j,g⟩=>
 have j:y=.int .i64 v:=j;subst j;have g:All2 (relC Z φ s.nums w) (((zM s b).drop 1).take 4++[.lit aJ,F,i]) d:=g;generalize (((zM s b).drop 1).take 4)=a at g o;have C:=g.len;simp only[List.length_append,List.length_cons,List.length_nil]at C
 have A:All2 (relC Z φ s.nums w) a (d.take a.length):=by
  have:=g.take a.length;rw[List.take_append_of_le_length (by omega),List.take_of_length_le (by omega)]at this;exact this
 have B:All2 (relC Z φ s.nums w) [.lit aJ,F,i] (d.drop a.length):=by
  have:=g.drop a.length;rw[List.drop_append_of_le_length (by omega),List.drop_of_length_le (by omega)]at this;exact this
 refine⟨m,d.take a.length,k1,?_,Ms a k _ o A⟩
 match hd:d.drop a.length,B with
 | [a0,a1,l],⟨b0,b1,b2,_⟩=>
 have c0:a0=aJ:=b0.1;have c1:=r a1 b1;have c2:=u l b2;subst c0 c1 c2
 have e:d=d.take a.length++[aJ,a1,l]:=by rw[<-hd];exact(List.take_append_drop _ _).symm
 unfold PartB;rw[E];generalize d.take a.length=t at e;subst e;rfl
def Av:Wt->Wt
 |.fr p q=>.fr (-p) q
 |t=>.neg t
def Lk (op:Rf.Op):Wt->Option Wt
 |.fr p q=>if p<0 then none else if p=0 then some (.fr (if op=.exp then 1 else 0) 1)else some (.fn op (.fr p q))
 |t=>some (.fn op t)
def xU (d:Rf.Kind):Wt->Wt->Option Wt
 |.fr p q,.fr a b=>if d=.div/\a=0 then none else some (.fr (vZ d p q a b) (vY d p q a b))
 |t,.fr a b=>if d=.div/\a=0 then none else some (.two d t (.fr a b))
 |t,u=>some (.two d t u)
section
variable {w:World}{ν:List (Int×Nat)}{cs ys:List Value}
theorem Vs {k:Nat}{B:bO}{h:List AT}{ty:TypeId}(d:B.own=false/\B.ro=true/\B.tip=false)(f:w.heap[k]?=some (.cells (cs++ys).toArray B.ty (0,0)))(hc:All2 (relC Z (ph1 1 k) ν w) B.cs cs):RepW Z w (ph1 1 k) (ph1 1 k) ⟨h,[(1,B)],3,ν,[]⟩ w:=by
 refine rI rfl ?_ ?_ ?_
 ·intro b i e;have:=mU e;simp only[List.mem_singleton,Prod.mk.injEq]at this;obtain⟨rfl,rfl⟩:=this;exact⟨d.1,d.2.1,d.2.2,k,0,rfl,[],cs,ys,(by simpa using f),rfl,hc⟩
 ·intro b g;have:3<=b:=g;unfold ph1;rw[if_neg (by omega)]
 ·intro b j o a;unfold ph1 at a;split at a
  ·cases a;exact gU f
  ·cases a
theorem Vt {k e:Nat}{B B2:bO}{n:List AT}{cs2 ys2:List Value}(g:B.own=false/\B.ro=true/\B.tip=false)(d:B2.own=false/\B2.ro=true/\B2.tip=false)(j:w.heap[k]?=some (.cells (cs++ys).toArray B.ty (0,0)))(hc:All2 (relC Z (phQ k e) ν w) B.cs cs)(f:w.heap[e]?=some (.cells (cs2++ys2).toArray B2.ty (0,0)))(i:All2 (relC Z (phQ k e) ν w) B2.cs cs2):RepW Z w (phQ k e) (phQ k e) ⟨n,[(1,B),(2,B2)],3,ν,[]⟩ w:=by
 refine rI rfl ?_ ?_ ?_
 ·intro b p h;have:=mU h;simp only[List.mem_cons,List.not_mem_nil,or_false,Prod.mk.injEq]at this
  rcases this with⟨rfl,rfl⟩|⟨rfl,rfl⟩
  ·exact⟨g.1,g.2.1,g.2.2,k,0,rfl,[],cs,ys,(by simpa using j),rfl,hc⟩
  ·exact⟨d.1,d.2.1,d.2.2,e,0,rfl,[],cs2,ys2,(by simpa using f),rfl,i⟩
 ·intro b l;have:3<=b:=l
  match b,this with
  |b+3,_=>rfl
 ·intro b q o a
  match b,a with
  |0,a=>cases a
  |1,a=>cases a;exact gU j
  |2,a=>cases a;exact gU f
  |b+3,a=>cases a
variable {φ:Nat->Option (Nat×Nat)}
theorem Lf {p q:Int}{b:List Value}{i:Nat}(h:bD true w [p,q] b)(d:Bits 1 p)(e:Bits 1 q)(f:ν[i]?=some (p,1))(g:ν[i+1]?=some (q,1)):All2 (relC Z φ ν w) (.int .i64 1::bH true i 2) (.int .i64 1::b):=by
 refine⟨rfl,tU (n:=1) [p,q] b i _ h ?_ ?_⟩
 ·intro z a;simp at a
  rcases a with rfl|rfl
  ·exact d
  ·exact e
 ·intro j z a
  match j,a with
  |0,a=>cases a;exact f
  |1,a=>cases a;exact g
  |j+2,a=>simp at a
variable {z:Value}
theorem Mj {t:Wt}(a:t.Ok)(l:aM w t z):∃k,z=aA k/\((∃p q,t=.fr p q/\∃b i f g,PartB w k 1 b i f g/\bD true w [p,q] b/\Bits 1 p/\Bits 1 q/\0<q)\/((∀p q,t≠.fr p q)/\∃d∈pW,∃s:List Value,w.heap[k]?=some (.cells (.int .i64 d::s).toArray 126 (0,0)))):=by
 by_cases h:∃p q,t=.fr p q
 ·obtain⟨p,q,rfl⟩:=h;obtain⟨k,b,i,f,g,rfl,o,r,_⟩:=l;exact⟨k,rfl,Or.inl ⟨p,q,rfl,b,i,f,g,o,r,xH a.2.1,xH a.2.2,a.1⟩⟩
 ·have j:∀p q,t≠.fr p q:=fun p q e=>h ⟨p,q,e⟩
  obtain⟨k,rfl,n⟩:=aN3 j a l;exact⟨k,rfl,Or.inr ⟨j,n⟩⟩
theorem Vr {n:World}{m:Nat}{p q:Int}{i:List Value}(a:PartB n m 1 i aJ aB aB)(b:bD true n [p,q] i):aM n (.fr p q) (aA m):=⟨m,i,aJ,aB,aB,rfl,a,b,rfl,rfl,rfl⟩
theorem aPC {t:Wt}(o:t.Ok)(y:aM w t z):Calls prog 58 #[z] w fun e b=>∃B,e=.returned B/\Chg w b []/\aM b (Av t) B:=by
 obtain⟨k,rfl,⟨p,q,rfl,P,O,I,J,E,F,C,D,_⟩|⟨l,i,h,R,f⟩⟩:=Mj o y
 ·refine rY (φ:=ph1 1 k) (s:=Qn p q) (vs:=[sZ]) (args:=[aA k]) (bI func58 rfl rfl) (dH qG) tV (by kernel_rfl) ⟨⟨k,0,rfl,rfl⟩,trivial⟩ (Vs (ty:=126) ⟨rfl,rfl,rfl⟩ (cs:=.int .i64 1::P) (ys:=[O,I,J]) E (Lf F C D rfl rfl)) (aWv p q) (fun r s=>r=.val (.one (.ptr 4 0))/\gD s 4 1 [-p,q] (.lit aB) (.lit aB)/\clean s=true) ⟨rfl,aWu p q,aWt p q⟩ ?_;rintro r s φ z b⟨rfl,l,hc⟩ hrel d;obtain⟨m,j,k1,u,x⟩:=l.at d cN cN;have hv:z=aA m:=cQ (ν:=s.nums) (w:=b) k1 z hrel;exact⟨z,rfl,Chg.eH (RepF.below d hc),by rw[hv];exact Vr u x⟩
 ·obtain⟨L,M,N⟩:=aWw h;refine rY (φ:=ph1 1 k) (s:=Qo i) (vs:=[sZ]) (args:=[aA k]) (bI func58 rfl rfl) (dH qG) tV (by kernel_rfl) ⟨⟨k,0,rfl,rfl⟩,trivial⟩ (Vs (ty:=126) ⟨rfl,rfl,rfl⟩ (cs:=[.int .i64 i]) (ys:=R) f ⟨rfl,trivial⟩) L (fun r s=>r=.val (.one (.ptr 3 0))/\gD s 3 5 [0,0] (.ptr 1 0) (.lit aB)/\clean s=true) ⟨rfl,M,N⟩ ?_;rintro r s φ z b⟨rfl,n,hc⟩ hrel d;obtain⟨m,j,k1,u,x⟩:=n.at d (cQ (d.base 1 (k,0) rfl)) cN;have hv:z=aA m:=cQ (ν:=s.nums) (w:=b) k1 z hrel;have g:Chg w b []:=Chg.eH (RepF.below d hc)
  have H:Av t=.neg t:=by
   cases t with
   |fr p q=>exact absurd rfl (l p q)
   |_=>rfl
  refine⟨z,rfl,g,?_⟩;rw[hv,H];exact⟨m,j,[0,0],aJ,aA k,aB,rfl,u,x,rfl,fun a A=>jX a (by simp at A;simp[A]),rfl,rfl,aM.aT g.on t _ y⟩
def dG (w:World)(x:Option Wt)(e:Ending)(a:World):Prop:=Chg w a []/\match x with
 |none=>e=.returned (.tuple #[aB,.int .i64 5])
 |some t=>∃v,e=.returned (.tuple #[v,.int .i64 0])/\aM a t v
variable {x:Option Wt}
theorem dG.no {w b:World}{e:Ending}(d:x=none)(hc:Chg w b [])(a:e=.returned (.tuple #[aB,.int .i64 5])):dG w x e b:=by subst d;exact⟨hc,a⟩
theorem dG.yes {w b:World}{t:Wt}{e:Ending}{v:Value}(f:x=some t)(hc:Chg w b [])(a:e=.returned (.tuple #[v,.int .i64 0]))(d:aM b t v):dG w x e b:=by subst f;exact⟨hc,v,a,d⟩
theorem zG {w:World}{c:AC}{e:Int}{v f:Value}(h:relT Z φ ν w (fV c e) v)(hc:∀x,relC Z φ ν w c x->x=f):v=.tuple #[f,.int .i64 e]:=by
 obtain⟨j,rfl,i⟩:=h
 match j,i with
 | [a,b],⟨g,d,_⟩=>
  have d:b=.int .i64 e:=d;rw[hc a g,d]
theorem aJl {op:Rf.Op}(n:Rf.fn op){t:Wt}(A:t.Ok)(B:aM w t z):Calls prog 59 #[.int .i64 (aI op),z] w (dG w (Lk op t)):=by
 have y:=Kf n;have O:aI op=11↔op=.exp:=Ld n;obtain⟨k,rfl,⟨p,q,rfl,Y,X,R,S,L,M,H,I,_⟩|⟨P,x,l,zs,j⟩⟩:=Mj A B
 ·obtain⟨C,D,E,T,U,W⟩:=aWe p q y;refine rY (φ:=ph1 1 k) (s:=Cl (aI op) p q) (vs:=[xO (aI op),sZ]) (args:=[.int .i64 (aI op),aA k]) (bI func59 rfl rfl) (dH qG) tV (by kernel_rfl) ⟨rfl,⟨k,0,rfl,rfl⟩,trivial⟩ (Vs (ty:=126) ⟨rfl,rfl,rfl⟩ (cs:=.int .i64 1::Y) (ys:=[X,R,S]) L (Lf M H I rfl rfl)) C (fun r s=>clean s=true/\((p<0/\r=fV (.lit aB) 5)\/(p=0/\r=fV (.ptr 4 0) 0/\gD s 4 1 [if aI op=11 then 1 else 0,1] (.lit aB) (.lit aB))\/(0<p/\r=fV (.ptr 3 0) 0/\gD s 3 (aI op) [0,0] (.ptr 1 0) (.lit aB)))) ?_ ?_
  ·rcases Int.lt_trichotomy p 0 with h|h|h
   ·refine⟨fun _=>⟨D,Or.inl ⟨h,rfl⟩⟩,fun e=>?_⟩;rw[Nm.jB h]at e;cases e
   ·have J:Nm.cmp p 0=0:=Nm.jA h;rw[J];exact⟨fun e=>(by cases e),fun _=>⟨fun _=>⟨T,Or.inr (Or.inl ⟨h,rfl,E⟩)⟩,fun e=>by cases e⟩⟩
   ·rw[Nm.gV h];exact⟨fun e=>(by cases e),fun _=>⟨fun e=>(by cases e),fun _=>⟨W,Or.inr (Or.inr ⟨h,rfl,U⟩)⟩⟩⟩
  ·rintro r s φ z F⟨hc,h⟩ hrel d;have b:Chg w F []:=Chg.eH (RepF.below d hc)
   rcases h with⟨h,rfl⟩|⟨h,rfl,i⟩|⟨h,rfl,i⟩
   ·exact .no (show(if p<0 then _ else _)=_ from if_pos h) b (by rw[zG hrel cN])
   ·obtain⟨m,g,k1,u,f⟩:=i.at d cN cN
    have:(if aI op=11 then(1:Int)else 0)=if op=.exp then 1 else 0:=by simp only[O]
    rw[this]at f;exact .yes (show(if p<0 then _ else if p=0 then _ else _)=_ by rw[if_neg (by omega),if_pos h]) b (by rw[zG hrel (cQ k1)]) (Vr u f)
   ·obtain⟨m,g,k1,u,f⟩:=i.at d (cQ (d.base 1 (k,0) rfl)) cN;exact .yes (t:=.fn op (.fr p q)) (v:=aA m) (show(if p<0 then _ else if p=0 then _ else some (Wt.fn op (.fr p q)))=_ by rw[if_neg (by omega),if_neg (by omega)]) b (by rw[zG hrel (cQ k1)]) ⟨m,g,[0,0],aJ,aA k,aB,rfl,u,f,rfl,fun a o=>jX a (by simp at o;simp[o]),rfl,rfl,aM.aT b.on (.fr p q) _ B⟩
 ·obtain⟨C,D,E⟩:=aWf (aI op) l;refine rY (φ:=ph1 1 k) (s:=Qg (aI op) x) (vs:=[xO (aI op),sZ]) (args:=[.int .i64 (aI op),aA k]) (bI func59 rfl rfl) (dH qG) tV (by kernel_rfl) ⟨rfl,⟨k,0,rfl,rfl⟩,trivial⟩ (Vs (ty:=126) ⟨rfl,rfl,rfl⟩ (cs:=[.int .i64 x]) (ys:=zs) j ⟨rfl,trivial⟩) C (fun r s=>r=fV (.ptr 3 0) 0/\gD s 3 (aI op) [0,0] (.ptr 1 0) (.lit aB)/\clean s=true) ⟨rfl,D,E⟩ ?_;rintro r s φ z F⟨rfl,i,hc⟩ hrel d;have b:Chg w F []:=Chg.eH (RepF.below d hc);obtain⟨m,g,k1,u,f⟩:=i.at d (cQ (d.base 1 (k,0) rfl)) cN
  have N:Lk op t=some (.fn op t):=by
   cases t with
   |fr p q=>exact absurd rfl (P p q)
   |_=>rfl
  exact .yes (v:=aA m) N b (by rw[zG hrel (cQ k1)]) ⟨m,g,[0,0],aJ,aA k,aB,rfl,u,f,rfl,fun a o=>jX a (by simp at o;simp[o]),rfl,rfl,aM.aT b.on t _ B⟩
end
variable {b:Int}
theorem Xv {t:Int}(a:b≠0):0<aV t b:=by
 unfold aV;have:0<Nat.gcd t.natAbs b.natAbs:=Nat.gcd_pos_of_pos_right _ (by omega);omega
theorem aPx {t:Int}(a:b≠0):0<aK t b:=by
 have e:=Xv (t:=t) a
 have d2:aV t b ∣ b:=by
  unfold aV;exact Int.ofNat_dvd_left.2 (Nat.gcd_dvd_right _ _)
 unfold aK
 rcases Int.lt_or_lt_of_ne a with h|h
 ·rw[Nm.jB h];show 0 < -b/aV t b;have d:-b=aV t b*(-b/aV t b):=(Int.mul_ediv_cancel' (Int.dvd_neg.2 d2)).symm
  rcases Int.lt_or_le 0 (-b/aV t b)with h1|h1
  ·exact h1
  ·have:=Int.mul_nonpos_of_nonneg_of_nonpos (show(0:Int)<=aV t b by omega) h1;omega
 ·rw[Nm.gV h];show 0<b/aV t b;have d:b=aV t b*(b/aV t b):=(Int.mul_ediv_cancel' d2).symm
  rcases Int.lt_or_le 0 (b/aV t b)with h1|h1
  ·exact h1
  ·have:=Int.mul_nonpos_of_nonneg_of_nonpos (show(0:Int)<=aV t b by omega) h1;omega
variable {kk:Rf.Kind}
theorem aRt {p q a:Int}(f:0<q)(d:0<b)(g:¬(kk=.div/\a=0)):Gs (cW kk) p q a b≠0:=by
 cases kk with
 |add=>exact Int.ne_of_gt (Int.mul_pos f d)
 |sub=>exact Int.ne_of_gt (Int.mul_pos f d)
 |mul=>exact Int.ne_of_gt (Int.mul_pos f d)
 |div=>exact Int.mul_ne_zero (by omega) (fun e=>g ⟨rfl,e⟩)
theorem Po (a:Int):decide (Nm.cmp a 0=0)=decide (a=0):=by
 rcases Int.lt_trichotomy a 0 with h|h|h
 ·rw[Nm.jB h];simp;omega
 ·rw[Nm.jA h];simp[h]
 ·rw[Nm.gV h];simp;omega
variable {R:Ending->World->Prop}{k:Nat}
theorem Rr {n:World}{q:Nat->Option (Nat×Nat)}{sp:Spec}{f:FuncId->Option Func}{stp:List (K (List AT))->Bool}(l:SpecOk Z n q sp)(D:bV Z f){d:List Nat}{nx:Nat}{rb:List Nat}{ns:AS->Option (AS×List Prop)}(N:∀b x,q b=some x->d.contains b=true)(E:Cr q ns){O:List (K (List AT))}{s:AS}{Y:XT}
  (ht:(run Z sp f (aO Z sp) stp k O s).bind (eD (fG d [] nx rb) ns)=some Y) (G:AT->AS->Prop) (H:List (K (List AT))->AS->Prop) (F:Y.ok G H)
  (hG:∀r j h v i,G r j->(∃U T,relT Z U T i r v)->RepW Z n q h j i->R (.returned v) i)
  (hH:∀g j,H g j->noFr g=true/\∀(e:List (K Act)) (h:Nat->Option (Nat×Nat)) (a:Act) (i:World),(∀z y X,SR Z z y X g e)->Rep Z n q h j a i->fZ Z.P R e .normal a i):
  ∀(e:List (K Act)) (φ:Nat->Option (Nat×Nat)) (a:Act) (w:World),SR Z φ s.nums w O e->Rep Z n q φ s a w->fZ Z.P R e .normal a w:=by
 intro e φ a w L hr;obtain⟨tr,h1,h2⟩:=aU ht;refine vB l D (rD mixed l) _ _ ?_ ?_ k O s tr h1 (Kh h2 F) e φ a w L hr
 ·rintro g j⟨S,p,A,B,C⟩ u h a' i o I;obtain⟨hf,hk⟩:=hH g S C;obtain⟨W,J⟩:=E _ _ _ _ _ _ _ A B I;exact hk u W a' i (fun z y X=>SR.any hf o) J
 ·rintro r j h v i⟨S,p,A,B,C⟩ hv M;exact hG r S _ v i C ⟨_,_,hv⟩ (Zt A B N M)
section
variable {w:World}{u:Wt}{k1:Nat}
theorem aK7 {n:World}{t:Wt}{m p:Nat}{i:List Value}(b:PartB n m (cW kk) i aJ (aA k1) (aA p))(d:bD true n [0,0] i)(e:aM n t (aA k1))(f:aM n u (aA p)):aM n (.two kk t u) (aA m):=
 ⟨m,i,[0,0],aJ,aA k1,aA p,rfl,b,d,rfl,fun z a=>jX z (by simp at a;simp[a]),rfl,e,f⟩
theorem aKC {N:AS}{v:Int}{X:Tr}(g:N.tmps=[xO v,sZ,Eb].map .val++List.replicate (f60.ntmps-3) .gC)(f:RepW Z w (phQ k1 k) (phQ k1 k) N w)(h:yO f60 N=some X)(G:AT->AS->Prop)(b:X.ok G fun _ _=>False)(e:∀r s φ a d,G r s->relT Z φ s.nums d r a->RepW Z w (phQ k1 k) φ s d->R (.returned a) d):Calls prog 60 #[.int .i64 v,aA k1,aA k] w R:=
 rY (s:=N) (vs:=[xO v,sZ,Eb]) (args:=[.int .i64 v,aA k1,aA k]) (bI func60 rfl rfl) (dH qG) tV g ⟨rfl,⟨k1,0,rfl,rfl⟩,⟨k,0,rfl,rfl⟩,trivial⟩ f h G b e
theorem Tg {N:AS}{b:Rf.Kind}{t:Wt}(i:N.tmps=[xO (cW b),sZ,Eb].map .val++List.replicate (f60.ntmps-3) .gC)(h:RepW Z w (phQ k1 k) (phQ k1 k) N w)(j:yO f60 N=some (.ret (fV (.ptr 3 0) 0) (lP f60 N []))/\gD (lP f60 N []) 3 (cW b) [0,0] (.ptr 1 0) (.ptr 2 0)/\clean (lP f60 N [])=true)(f:xU b t u=some (.two b t u))(g:aM w t (aA k1))(l:aM w u (aA k)):Calls prog 60 #[.int .i64 (cW b),aA k1,aA k] w (dG w (xU b t u)):=by
 obtain⟨q,x,y⟩:=j;refine aKC i h q (fun r s=>r=fV (.ptr 3 0) 0/\gD s 3 (cW b) [0,0] (.ptr 1 0) (.ptr 2 0)/\clean s=true) ⟨rfl,x,y⟩ ?_;rintro r s φ v z⟨rfl,e,hc⟩ hrel d;have a:Chg w z []:=Chg.eH (RepF.below d hc);obtain⟨m,ys,n,o,p⟩:=e.at d (cQ (d.base 1 (k1,0) rfl)) (cQ (d.base 2 (k,0) rfl));exact .yes (v:=aA m) f a (by rw[zG hrel (cQ n)]) (aK7 o p (aM.aT a.on t _ g) (aM.aT a.on u _ l))
theorem Va {a:Nat}:∀b x,phQ k a b=some x->[1,2].contains b=true:=by
 intro b x e
 match b,e with
 |0,e=>cases e
 |1,_=>rfl
 |2,_=>rfl
 |b+3,e=>cases e
theorem aIp (g:Rf.Kind){t:Wt}{z f:Value}(al:t.Ok)(U:aM w t z)(E:u.Ok)(J:aM w u f):Calls prog 60 #[.int .i64 (cW g),z,f] w (dG w (xU g t u)):=by
 obtain⟨k1,rfl,⟨p,q,rfl,xs,tv,lv,rv,hB,hH,bp,bq,hq⟩|⟨hn,C,j,zs,D⟩⟩:=Mj al U
 ·obtain⟨k,rfl,⟨a,b,rfl,R,N,L,M,F,H,ba,W,hb⟩|⟨I,o,y,S,i⟩⟩:=Mj E J
  ·have d:∀tm,RepW Z w (phQ k1 k) (phQ k1 k) (qU p q a b tm) w:=fun tm=>Vt ⟨rfl,rfl,rfl⟩ ⟨rfl,rfl,rfl⟩ (cs:=.int .i64 1::xs) (ys:=[tv,lv,rv]) hB (Lf hH bp bq rfl rfl) (cs2:=.int .i64 1::R) (ys2:=[N,L,M]) F (Lf H ba W rfl rfl)
   have X:¬(g=.div/\a=0)->∀(B:List (K Act)) (az:Nat->Option (Nat×Nat)) (a':Act) (O:World),(∀T ay w1,SR Z T ay w1 (.code (.region rO.1 rO.2.1 true)::rO.2.2) B)->Rep Z w (phQ k1 k) az (qU p q a b (Jh (cW g))) a' O->fZ Z.P (dG w (xU g (.fr p q) (.fr a b))) B .normal a' O:=by
    intro Y B T a1 w1 aa am;have hW:xU g (.fr p q) (.fr a b)=some (.fr (vZ g p q a b) (vY g p q a b)):=if_neg Y;obtain⟨W,bj,bd⟩:=aV1
    match B,aa T [] w1 with
    |.code cc::ad,⟨ak,ab⟩=>
    subst ak;show(Code.region rO.1 rO.2.1 true).wp Z.P _ a1 w1;refine Ke mixed (dH qG) bj W (aXO p q a b (cW g)) (bL (Xv (aRt hq hb Y))) am ?_;intro bu a2 w2 ao;rw[bd];show fZ Z.P _ (.ops rO.2.1 [10,11,12]::ad) .normal a2 w2;obtain⟨t1,t2,t3⟩:=aZe p q a b g;refine vB (dH qG) tV (rD mixed (dH qG)) (fun r s=>r=fV (.ptr 14 0) 0/\gD s 14 1 [vZ g p q a b,vY g p q a b] (.lit aB) (.lit aB)/\clean s=true) (fun _ _=>False) (fun _ _ h=>h.elim) ?_ _ _ _ _ t1 ⟨rfl,t2,t3⟩ _ _ a2 w2 ⟨rfl,rfl,SR.any frO ab⟩ ao;rintro r s φ z O⟨rfl,hI,hc⟩ hrel A;have n:Chg w O []:=Chg.eH (RepF.below A hc);obtain⟨m,ys,j1,j2,j3⟩:=hI.at A cN cN;exact .yes (v:=aA m) hW n (by rw[zG hrel (cQ j1)]) (Vr j2 j3)
   refine pC (bI func60 rfl rfl) (φ:=phQ k1 k) (vs:=[xO (cW g),sZ,Eb]) (args:=[.int .i64 (cW g),aA k1,aA k]) (s:=Qu (cW g) p q a b) (by kernel_rfl) ⟨rfl,⟨k1,0,rfl,rfl⟩,⟨k,0,rfl,rfl⟩,trivial⟩ (d _) ?_
   by_cases x:g=.div
   ·subst x;refine Rr (dH qG) tV Va (jK Va) (aVd p q a b) (fun r s=>a=0/\r=fV (.lit aB) 5/\s.dirty=[]) (fun ks s=>a≠0/\ks=.code (.region rO.1 rO.2.1 true)::rO.2.2/\s=qU p q a b (Jh 9)) ?_ ?_ ?_
    ·rw[Po];exact⟨fun e=>⟨by simpa using e,rfl,rfl⟩,fun e=>⟨by simpa using e,rfl,rfl⟩⟩
    ·rintro r s φ z O⟨h0,rfl,x⟩⟨bt,bs,hrel⟩ A;exact .no (show(if _ then none else _)=none from if_pos ⟨rfl,h0⟩) (rE A x) (by rw[zG hrel cN])
    ·rintro ks s⟨h0,rfl,rfl⟩;exact⟨by simpa[noFr]using frO,X fun e=>h0 e.2⟩
   ·refine cE (dH qG) tV Va (jK Va) (aWz p q a b x) (fun _ _=>False) (fun ks s=>ks=.code (.region rO.1 rO.2.1 true)::rO.2.2/\s=qU p q a b (Jh (cW g))) ⟨rfl,rfl⟩ (fun _ _ _ _ _ h=>h.elim) ?_;rintro ks s⟨rfl,rfl⟩;exact⟨by simpa[noFr]using frO,X fun e=>x e.1⟩
  ·have d:RepW Z w (phQ k1 k) (phQ k1 k) (Az (cW g) p q o) w:=Vt ⟨rfl,rfl,rfl⟩ ⟨rfl,rfl,rfl⟩ (cs:=.int .i64 1::xs) (ys:=[tv,lv,rv]) hB (Lf hH bp bq rfl rfl) (cs2:=[.int .i64 o]) (ys2:=S) i ⟨rfl,trivial⟩;refine Tg (by kernel_rfl) d (aWA p q g y) ?_ U J
   cases u with
   |fr p q=>exact absurd rfl (I p q)
   |_=>rfl
 ·obtain⟨k,rfl,⟨a,b,rfl,R,N,L,M,F,H,ba,W,hb⟩|⟨I,o,y,S,i⟩⟩:=Mj E J
  ·have d:RepW Z w (phQ k1 k) (phQ k1 k) (oB (cW g) C a b) w:=Vt ⟨rfl,rfl,rfl⟩ ⟨rfl,rfl,rfl⟩ (cs:=[.int .i64 C]) (ys:=zs) D ⟨rfl,trivial⟩ (cs2:=.int .i64 1::R) (ys2:=[N,L,M]) F (Lf H ba W rfl rfl)
   have l:xU g t (.fr a b)=if g=.div/\a=0 then none else some (.two g t (.fr a b)):=by
    cases t with
    |fr p q=>exact absurd rfl (hn p q)
    |_=>rfl
   by_cases x:g=.div
   ·subst x;obtain⟨t1,t2,t3,t4⟩:=aVe a b j;refine aKC (by kernel_rfl) d t1 (fun r s=>clean s=true/\((a=0/\r=fV (.lit aB) 5)\/(a≠0/\r=fV (.ptr 3 0) 0/\gD s 3 9 [0,0] (.ptr 1 0) (.ptr 2 0)))) ?_ ?_
    ·rw[Po];refine⟨fun e=>⟨t2,Or.inl ⟨by simpa using e,rfl⟩⟩,fun e=>⟨t4,Or.inr ⟨by simpa using e,rfl,t3⟩⟩⟩
    ·rintro r s φ z O⟨hc,h⟩ hrel A;have n:Chg w O []:=Chg.eH (RepF.below A hc)
     rcases h with⟨h,rfl⟩|⟨h,rfl,hI⟩
     ·exact .no (by rw[l,if_pos ⟨rfl,h⟩]) n (by rw[zG hrel cN])
     ·obtain⟨m,ys,j1,j2,j3⟩:=hI.at A (cQ (A.base 1 (k1,0) rfl)) (cQ (A.base 2 (k,0) rfl));exact .yes (v:=aA m) (by rw[l,if_neg (fun e=>h e.2)]) n (by rw[zG hrel (cQ j1)]) (aK7 (kk:=.div) j2 j3 (aM.aT n.on t _ U) (aM.aT n.on _ _ J))
   ·exact Tg (by kernel_rfl) d (aWB a b x j) (by rw[l,if_neg (fun e=>x e.1)]) U J
  ·have d:RepW Z w (phQ k1 k) (phQ k1 k) (qT (cW g) C o) w:=Vt ⟨rfl,rfl,rfl⟩ ⟨rfl,rfl,rfl⟩ (cs:=[.int .i64 C]) (ys:=zs) D ⟨rfl,trivial⟩ (cs2:=[.int .i64 o]) (ys2:=S) i ⟨rfl,trivial⟩
   have l:xU g t u=some (.two g t u):=by
    cases u with
    |fr p q=>exact absurd rfl (I p q)
    |_=>cases t<;>rfl
   by_cases x:g=.div
   ·subst x;exact Tg (by kernel_rfl) d (aVf j y) l U J
   ·exact Tg (by kernel_rfl) d (aWC x o j) l U J
end
end Ab
def xZ (x:Rd.Wd):Value:=.agg #[.int .i64 x.kind,.string x.text,.int .i64 x.pos]
variable {p:Nat}{d:List Rd.Wd}
theorem Rdr.cells {w:World}{o g:Nat}{st:Rd.St}(h:Rdr w o g p d st)(n:Nat)(l:n<d.length):
  w.cell? ⟨g,n*3,none⟩=some (.int .i64 (Rd.aD d n).kind)/\w.cell? ⟨g,n*3+1,none⟩=some (.string (Rd.aD d n).text)/\w.cell? ⟨g,n*3+2,none⟩=some (.int .i64 (Rd.aD d n).pos):=by
 obtain⟨f,j,k⟩:=h.row
 have e:∀i v,i<d.length*3->(Rd.dV d)[i]?=some v->w.cell? ⟨g,i,none⟩=some v:=by
  intro i v hi hv;refine bK j ?_;rw[<-k,List.getElem?_take_of_lt hi]at hv
  simpa using hv
 obtain⟨a,b,c⟩:=Rd.aOR d n l;exact⟨e _ _ (by omega) a,e _ _ (by omega) b,e _ _ (by omega) c⟩
theorem aTt (w:World)(f g b:Nat)(a:List Rd.Wd)(st:Rd.St)(h:Rdr w f g b a st)(l:st.next<a.length):
  Calls prog 48 #[.pointer (some ⟨f,0,none⟩)] w fun e n=>e=.returned (xZ (Rd.aD a st.next))/\Below w.heap.size w n:=by
 have c0:=h.c0;have c1:=h.c1;obtain⟨o,p,q⟩:=h.cells st.next l;have k:=h.lt
 have d:g<w.heap.size:=by obtain⟨i,j,_⟩:=h.row;exact eZ j
 clear h
 go_enter func48,ntmps48
 go_wp2_with fail
 go_quiet (fail)
 go_wp2_with fail
 go_region
 all_goals go_wp2_with fail
 exact bodyPost_ret (v:=.agg #[.int .i64 (Rd.aD a st.next).kind,.string (Rd.aD a st.next).text,.int .i64 (Rd.aD a st.next).pos]) (by simp[results,results48,go_sem]) rfl
  ⟨rfl,(((below_drewN ((Below.refl _ _).alloc (Nat.le_refl _) _) _).setCell (Nat.le_refl _) _).setCell (Nat.le_refl _) _).setCell (Nat.le_refl _) _⟩
theorem aQy (w:World)(b g a:Nat)(d:List Rd.Wd)(st:Rd.St)(h:Rdr w b g a d st)(j:¬st.next<d.length):
  Calls prog 48 #[.pointer (some ⟨b,0,none⟩)] w fun e i=>e=.returned (.agg #[.int .i64 0,.string ⟨#[]⟩,.int .i64 0])/\Below w.heap.size w i:=by
 have c0:=h.c0;have c1:=h.c1;have f:=h.lt;clear h
 go_enter func48,ntmps48
 go_wp2_with fail
 go_quiet (fail)
 go_wp2_with fail
 exact bodyPost_ret (v:=.agg #[.int .i64 0,.string ⟨#[]⟩,.int .i64 0]) (by simp[results,results48,go_sem]) rfl
  ⟨rfl,(((below_drewN ((Below.refl _ _).alloc (Nat.le_refl _) _) _).setCell (Nat.le_refl _) _).setCell (Nat.le_refl _) _).setCell (Nat.le_refl _) _⟩
theorem Hc (w:World)(d g a:Nat)(b:List Rd.Wd)(st:Rd.St)(h:Rdr w d g a b st):
  Calls prog 48 #[.pointer (some ⟨d,0,none⟩)] w fun e i=>e=.returned (xZ (Rd.aD b st.next))/\Below w.heap.size w i:=by
 by_cases f:st.next<b.length
 ·exact aTt w d g a b st h f
 ·have e:Rd.aD b st.next=⟨0,⟨#[]⟩,0⟩:=by
   unfold Rd.aD List.getD;rw[List.getElem?_eq_none (by omega)];rfl
  rw[e];exact aQy w d g a b st h f
namespace Rd
abbrev Tr:=Go.Deep.BT (Int×Int×List Int)
def dI (k v:Int)(ts:List Int):Tr:=.node 0 0 (k,v,ts) .nil .nil
def eY (k:Int)(x:Tr):Tr:=.node 0 0 (k,0,[]) x .nil
def jI (k:Int)(l r:Tr):Tr:=.node 0 0 (k,0,[]) l r
def tk (a:List Wd)(st:St)(c:ByteArray):Bool:=(!((aD a st.next).kind==0))&&isT (aD a st.next).text c.data.toList
def St.ok (st:St):Prop:=st.next<1000/\st.around<1000/\st.deepest<1000/\st.nodes<1000
def St.okB (st:St):Bool:=decide (st.next<1000/\st.around<1000/\st.deepest<1000/\st.nodes<1000)
def St.leaf (st:St):St:={st with nodes:=st.nodes+1,deepest:=bif decide (st.deepest<st.around)then st.around else st.deepest}
def St.node (st:St):St:={st with nodes:=st.nodes+1}
def St.aN (st:St):St:={st with next:=st.next+1}
def St.lF (st:St):St:={st with around:=st.around+1}
def St.out (st:St):St:={st with around:=st.around-1}
def St.fU (st:St):Bool:=st.okB&&decide (1<=st.around)
theorem St.yK {st:St}(h:st.okB=true):st.ok:=by simpa[St.okB,St.ok]using h
abbrev pJ:=Option (Option Tr×St)
def term (a:List Wd)(st:St):Int×St:=
 bif (aD a st.next).kind==1 then
  bif valTo (aD a st.next).text (aD a st.next).text.size==0 then(0,st)else(valTo (aD a st.next).text (aD a st.next).text.size,st.aN)
 else(0,st)
def terms (a:List Wd):Nat->Nat->List Int->St->Option (Option (List Int)×St)
 |0,_,_,_=>none
 |f+1,c,ts,st=>
  bif st.okB&&(term a st).2.okB then
   bif (term a st).1==0 then some (none,(term a st).2)
   else bif tk a (term a st).2 ⟨#[93]⟩then some (some (ts++[(term a st).1]),(term a st).2.aN)
   else bif c==8 then some (none,(term a st).2)
   else bif tk a (term a st).2 ⟨#[44]⟩then terms a f (c+1) (ts++[(term a st).1]) (term a st).2.aN
   else some (none,(term a st).2)
  else none
def lI:Option (Option (List Int)×St)->pJ
 |none=>none
 |some (none,st)=>some (none,st)
 |some (some ts,st)=>bif st.okB then some (some (dI 4 0 ts),st.leaf)else none
def continued (a:List Wd)(st:St):pJ:=
 bif decide (st.next<900)&&st.okB then
  bif tk a st ⟨#[91]⟩then
   bif (aD a st.aN.next).kind==1 then
    bif tk a st.aN.aN ⟨#[59]⟩then lI (terms a 8 1 [valTo (aD a st.aN.next).text (aD a st.aN.next).text.size] st.aN.aN.aN)
    else some (none,st.aN.aN)
   else some (none,st.aN)
  else some (none,st)
 else none
def dU (k:Int):Option Tr->St->pJ
 |none,st=>some (none,st)
 |some x,st=>bif st.okB then some (some (eY k x),st.node)else none
def operOf (k:Int)(l:Tr):Option Tr->St->pJ
 |none,st=>some (none,st)
 |some r,st=>bif st.okB then some (some (jI k l r),st.node)else none
def pJ.next (a:pJ)(f:Option Tr->St->pJ):pJ:=
 match a with
 |none=>none
 |some (x,st)=>f x st
def nameOf (d:List Wd)(k:Int)(st:St)(b:St->pJ):pJ:=
 bif k==0 then some (none,st)
 else bif k==2||k==3 then(bif st.aN.okB then some (some (dI k 0 []),st.aN.leaf)else none)
 else bif k==4 then continued d st.aN
 else(b st.aN).next fun x a=>dU k x a
def hY (a:List Wd)(x:Option Tr)(st:St):pJ:=
 bif st.fU then
  match x with
  |none=>some (none,st.out)
  |some t=>bif tk a st.out ⟨#[41]⟩then some (some t,st.out.aN)else some (none,st.out)
 else none
def parse (a:List Wd):Nat->Nat->Option Tr->St->pJ
 |0,_,_,_=>none
 |f+1,0,_,st=>(parse a f 2 none st).next fun l g=>parse a f 1 l g
 |_+1,1,none,st=>some (none,st)
 |f+1,1,some l,st=>
  bif st.okB then
   bif tk a st ⟨#[43]⟩then(parse a f 2 none st.aN).next fun r b=>(operOf 6 l r b).next fun e d=>parse a f 1 e d
   else bif tk a st ⟨#[45]⟩then(parse a f 2 none st.aN).next fun r b=>(operOf 7 l r b).next fun e d=>parse a f 1 e d
   else some (some l,st)
  else none
 |f+1,2,_,st=>(parse a f 4 none st).next fun l g=>parse a f 3 l g
 |_+1,3,none,st=>some (none,st)
 |f+1,3,some l,st=>
  bif st.okB then
   bif tk a st ⟨#[42]⟩then(parse a f 4 none st.aN).next fun r b=>(operOf 8 l r b).next fun e d=>parse a f 3 e d
   else bif tk a st ⟨#[47]⟩then(parse a f 4 none st.aN).next fun r b=>(operOf 9 l r b).next fun e d=>parse a f 3 e d
   else some (some l,st)
  else none
 |f+1,4,_,st=>
  bif st.okB then
   bif tk a st ⟨#[45]⟩then(parse a f 4 none st.aN.lF).next fun x b=>bif b.fU then dU 5 x b.out else none
   else parse a f 5 none st
  else none
 |f+1,5,_,st=>
  bif st.okB then
   bif (aD a st.next).kind==1 then
    (bif st.aN.okB then some (some (dI 1 (valTo (aD a st.next).text (aD a st.next).text.size) []),st.aN.leaf)else none)
   else bif (aD a st.next).kind==2 then nameOf a (named (aD a st.next).text) st (fun h=>parse a f 6 none h)
   else parse a f 6 none st
  else none
 |f+1,_,_,st=>
  bif st.okB then
   bif tk a st ⟨#[40]⟩then(parse a f 0 none st.aN.lF).next fun x b=>hY a x b
   else some (none,st)
  else none
def read (f:Nat)(s:ByteArray):Option (Option Tr×Int×Int):=
 bif decide (120<s.size)then some (none,1,0)
 else
  match parse (split s (s.size+1) 0) f 0 none ⟨0,0,0,0⟩with
  |none=>none
  |some (none,st)=>some (none,2,(aD (split s (s.size+1) 0) st.next).pos)
  |some (some t,st)=>
   bif (aD (split s (s.size+1) 0) st.next).kind==0 then
    bif decide (12<st.deepest)||decide (40<st.nodes)then some (none,3,0)else some (some t,0,0)
   else some (none,2,(aD (split s (s.size+1) 0) st.next).pos)
end Rd
theorem aK2 (w:World)(i g b:Nat)(a:List Rd.Wd)(st:Rd.St)(c:ByteArray)(h:Rdr w i g b a st)(q:st.next<1000):
  Calls prog 69 #[.pointer (some ⟨i,0,none⟩),.string c] w fun e k=>e=.returned (.bool (Rd.tk a st c))/\Rdr k i g b a (bif Rd.tk a st c then {st with next:=st.next+1} else st)/\aY i w k:=by
 have f:=Hc w i g b a st h;unfold xZ at f
 have n:Hid (Rd.tk a st c=((!((Rd.aD a st.next).kind==0))&&((Rd.aD a st.next).text.toList==c.toList))):=by
  show _=_;rw[Rd.aQV,ByteArray.toList_eq];rfl
 generalize Rd.aD a st.next=x at*;have l:Hid (Calls prog 48 #[.pointer (some ⟨i,0,none⟩)] w fun e k=>e=.returned (.agg #[.int .i64 x.kind,.string x.text,.int .i64 x.pos])/\Below w.heap.size w k):=f;clear f;cases o:(x.kind==0)
 all_goals cases p:(x.text.toList==c.toList)
 all_goals
  go_enter func69,ntmps69
  go_wp2_with fail
  refine(l.out).mono ?_;rintro e s⟨rfl,j⟩;have d:=h.below j;have d1:=d.c1;have f1:=d.fz 1;have r:=d.lt
  go_wp2_with fail
  go_ret
  rw[n.out,o,p]
 ·exact⟨rfl,d.alloc _,(aY.eH j).alloc _⟩
 ·exact⟨rfl,(d.xW (st.next+1) (by simp)).alloc _,((aY.eH j).setCell 1 _).alloc _⟩
 ·exact⟨rfl,d.alloc _,(aY.eH j).alloc _⟩
 ·exact⟨rfl,d.alloc _,(aY.eH j).alloc _⟩
theorem Te (w:World)(b g a:Nat)(f:List Rd.Wd)(st:Rd.St)(v:Value)(h:Rdr w b g a f st)(i:st.ok):
  Calls prog 127 #[.pointer (some ⟨b,0,none⟩),v] w fun e d=>e=.returned v/\Rdr d b g a f st.leaf/\aY b w d:=by
 obtain⟨b1,b2,j,b4⟩:=i;have d2:=h.c2;have d3:=h.c3;have k:=h.c4;have f3:=h.fz 3;have l:=h.fz 4;have n:=h.lt
 by_cases t:(st.deepest:Int)<st.around
 ·go_enter func127,ntmps127
  go_wp2_with fail
  go_quiet (fail)
  go_wp2_with fail
  go_ret
  have e:st.leaf={ {st with nodes:=st.nodes+1} with deepest:=st.around}:=by simp[Rd.St.leaf,show st.deepest<st.around by omega]
  rw[e];exact⟨rfl,((h.Eh (st.nodes+1) (by simp)).drewN _).oM st.around rfl,(((aY.refl _ _).setCell 4 _).drewN _).setCell 3 _⟩
 ·go_enter func127,ntmps127
  go_wp2_with fail
  go_quiet (fail)
  go_wp2_with fail
  go_ret
  have e:st.leaf={st with nodes:=st.nodes+1}:=by simp[Rd.St.leaf,show¬st.deepest<st.around by omega]
  rw[e];exact⟨rfl,(h.Eh (st.nodes+1) (by simp)).drewN _,((aY.refl _ _).setCell 4 _).drewN _⟩
theorem aIU (w:World)(r:Value)(a:Int):
  Calls prog 107 #[r,.int .i64 a,.pointer none] w fun e b=>e=.returned (.pointer none)/\w=b:=by
 go_enter func107,ntmps107
 go_wp2_with fail
 go_ret
 exact⟨rfl,rfl⟩
theorem jC (w:World)(o:Obj):(w.alloc o).heap[w.heap.size]?=some o:=by
 show(w.heap.push o)[w.heap.size]?=some o;simp
theorem Hg (w:World)(a:Addr)(u:Value):(w.setCell a u).heap.size=w.heap.size:=by simp[World.setCell]
theorem aGA (w:World)(d g b:Nat)(j:List Rd.Wd)(st:Rd.St)(i:Int)(a:Addr)(h:Rdr w d g b j st)(k:st.ok):
  Calls prog 107 #[.pointer (some ⟨d,0,none⟩),.int .i64 i,.pointer (some a)] w fun e f=>e=.returned (.pointer (some ⟨w.heap.size,0,none⟩))/\Rdr f d g b j st.node/\aY d w f/\
   f.heap[w.heap.size]?=some (.cells #[.int .i64 i,.int .i64 0,.slice none 0 0,.pointer (some a),.pointer none] 111 (0,0)):=by
 obtain⟨b1,b2,l,b4⟩:=k;have n:=h.c4;have o:=h.fz 4;have p:=h.lt
 go_enter func107,ntmps107
 go_wp2_with fail
 go_ret
 refine⟨rfl,(h.Eh (st.nodes+1) (by simp)).alloc _,((aY.refl _ _).setCell 4 _).alloc _,?_⟩;rw[<-Hg w ⟨d,4,none⟩ (.int .i64 (st.nodes+1))];exact jC _ _
theorem Ru (w:World)(r l:Value)(a:Int):
  Calls prog 70 #[r,.int .i64 a,l,.pointer none] w fun e b=>e=.returned (.pointer none)/\w=b:=by
 go_enter func70,ntmps70
 go_wp2_with fail
 go_ret
 exact⟨rfl,rfl⟩
theorem Rx (w:World)(f g d:Nat)(k:List Rd.Wd)(st:Rd.St)(j:Int)(a b:Addr)(h:Rdr w f g d k st)(l:st.ok):
  Calls prog 70 #[.pointer (some ⟨f,0,none⟩),.int .i64 j,.pointer (some a),.pointer (some b)] w fun e i=>e=.returned (.pointer (some ⟨w.heap.size,0,none⟩))/\Rdr i f g d k st.node/\aY f w i/\
   i.heap[w.heap.size]?=some (.cells #[.int .i64 j,.int .i64 0,.slice none 0 0,.pointer (some a),.pointer (some b)] 111 (0,0)):=by
 obtain⟨b1,b2,n,b4⟩:=l;have o:=h.c4;have p:=h.fz 4;have q:=h.lt
 go_enter func70,ntmps70
 go_wp2_with fail
 go_ret
 refine⟨rfl,(h.Eh (st.nodes+1) (by simp)).alloc _,((aY.refl _ _).setCell 4 _).alloc _,?_⟩;rw[<-Hg w ⟨f,4,none⟩ (.int .i64 (st.nodes+1))];exact jC _ _
open Go.Deep (BT)
def cZ (e:Nat)(w:World)(ts:List Int)(d:Value):Prop:=
 (ts=[]/\d=.slice none 0 0)\/∃tb a b,d=.slice (some ⟨tb,0,none⟩) ts.length a/\tb≠e/\w.heap[tb]?=some (.cells b 3 (0,0))/\ts.length<=a/\b.toList.take ts.length=ts.map (Value.int .i64)
def fX (d:Nat)(w:World):Rd.Tr->Value->Prop
 |.nil,v=>v=.pointer none
 |.node _ _ a l r,v=>∃b g e f,v=.pointer (some ⟨b,0,none⟩)/\b≠d/\w.heap[b]?=some (.cells #[.int .i64 a.1,.int .i64 a.2.1,g,e,f] 111 (0,0))/\cZ d w a.2.2 g/\fX d w l e/\fX d w r f
def wP (a:Nat)(w:World):Option Rd.Tr->Value->Prop
 |none,v=>v=.pointer none
 |some t,v=>(∃b,v=.pointer (some ⟨b,0,none⟩))/\fX a w t v
variable {w:Nat}{n:World}{ts:List Int}{z:Value}
theorem cZ.aT {b:World}(h:cZ w n ts z)(j:aY w n b):cZ w b ts z:=by
 rcases h with h|⟨tb,a,d,g,e,f,i⟩
 ·exact Or.inl h
 ·exact Or.inr ⟨tb,a,d,g,e,by rw[j.block tb (eZ f) e];exact f,i⟩
theorem fX.aT {w:Nat}{n j:World}(i:aY w n j):∀{t:Rd.Tr} {v:Value},fX w n t v->fX w j t v:=by
 intro t
 induction t with
 |nil=>intro v h;exact h
 |node _ _ a l r d e=>
  intro v h;obtain⟨b,x,s,u,k,f,g,o,p,q⟩:=h;exact⟨b,x,s,u,k,f,by rw[i.block b (eZ g) f];exact g,o.aT i,d p,e q⟩
theorem Cb {b:Nat}{k x:Int}{f u:Value}{l r:Rd.Tr}(a:b≠w)(h:n.heap[b]?=some (.cells #[.int .i64 k,.int .i64 x,z,f,u] 111 (0,0)))
  (g:cZ w n ts z) (d:fX w n l f) (e:fX w n r u):wP w n (some (.node 0 0 (k,x,ts) l r)) (.pointer (some ⟨b,0,none⟩)):=
 ⟨⟨b,rfl⟩,b,z,f,u,rfl,a,h,g,d,e⟩
def kQ (a:List Rd.Wd):Prop:=∀n,(Rd.aD a n).kind=1->(Rd.aD a n).text.size<=9
theorem aQc (w:World)(i g b:Nat)(a:List Rd.Wd)(st:Rd.St)(h:Rdr w i g b a st)(z:st.next<1000)(n:kQ a):
  Calls prog 176 #[.pointer (some ⟨i,0,none⟩)] w fun e o=>e=.returned (.int .i64 (Rd.term a st).1)/\Rdr o i g b a (Rd.term a st).2/\aY i w o:=by
 have d:=Hc w i g b a st h;unfold xZ at d;have l:=n st.next;have s:Hid (Rd.term a st=bif (Rd.aD a st.next).kind==1 then bif Rd.valTo (Rd.aD a st.next).text (Rd.aD a st.next).text.size==0 then(0,st)else(Rd.valTo (Rd.aD a st.next).text (Rd.aD a st.next).text.size,st.aN)else(0,st)):=rfl;clear n;generalize Rd.aD a st.next=x at*;have j:Hid (Calls prog 48 #[.pointer (some ⟨i,0,none⟩)] w fun e o=>e=.returned (.agg #[.int .i64 x.kind,.string x.text,.int .i64 x.pos])/\Below w.heap.size w o):=d;have q:Hid (x.kind=1->x.text.size<=9):=l;clear d l;cases p:(x.kind==1)
 ·have v:(x.kind != 1)=true:=by simp[bne,p]
  go_enter func176,ntmps176
  go_wp2_with fail
  refine(j.out).mono ?_;rintro e y⟨rfl,f⟩
  go_wp2_with fail
  go_ret
  rw[s.out,p];exact⟨rfl,(h.below f).alloc _,(aY.eH f).alloc _⟩
 ·have r:x.text.size<=9:=q.out (by simpa using p);cases u:(Rd.valTo x.text x.text.size==0)
  all_goals
   go_enter func176,ntmps176
   go_wp2_with fail
   refine(j.out).mono ?_;rintro e y⟨rfl,f⟩;have k:=h.below f;have d1:=k.c1;have f1:=k.fz 1;have A:=k.lt
   go_wp2_with (go_at_call 126;refine(Yb _ _ _ _ r).mono ?_;rintro e o⟨rfl,rfl⟩)
   go_ret
   rw[s.out,p,u]
  ·exact⟨rfl,((k.xW (st.next+1) (by simp)).alloc _).alloc _,(((aY.eH f).setCell 1 _).alloc _).alloc _⟩
  ·exact⟨yF (by simpa using u),(k.alloc _).alloc _,((aY.eH f).alloc _).alloc _⟩
theorem xD (w:World)(b g a:Nat)(d:List Rd.Wd)(st:Rd.St)(c:ByteArray)(h:Rdr w b g a d st)(i:st.next<1000)(t:Rd.tk d st c=true):
  Calls prog 69 #[.pointer (some ⟨b,0,none⟩),.string c] w fun e f=>e=.returned (.bool true)/\Rdr f b g a d st.aN/\aY b w f:=by
 have:=aK2 w b g a d st c h i;rw[t]at this;exact this
theorem uD (w:World)(b g a:Nat)(d:List Rd.Wd)(st:Rd.St)(c:ByteArray)(h:Rdr w b g a d st)(i:st.next<1000)(t:Rd.tk d st c=false):
  Calls prog 69 #[.pointer (some ⟨b,0,none⟩),.string c] w fun e f=>e=.returned (.bool false)/\Rdr f b g a d st/\aY b w f:=by
 have:=aK2 w b g a d st c h i;rw[t]at this;exact this
def eN (b g a:Nat)(h:List Rd.Wd)(w:World)(res:Option Rd.Tr)(d:Rd.St)(e:Ending)(f:World):Prop:=
 ∃v,e=.returned v/\wP b f res v/\Rdr f b g a h d/\aY b w f
variable {b:World}
theorem eN.nil {k:Nat}{a:Rd.St}(h:Rdr b w k p d a)(e:aY w n b):eN w k p d n none a (.returned (.pointer none)) b:=
 ⟨_,rfl,rfl,h,e⟩
variable {wr:World}{e:Nat}{i:List Value}
theorem tI {k size n:Nat}(a:wr.ownsRow k e size z n i)(p:aY w wr b)(q:w<k):b.ownsRow k e size z n i:=by
 obtain⟨l,h⟩:=a;refine⟨l,?_⟩
 rcases h with h|⟨g,d,f,hv,o,j,r⟩
 ·exact Or.inl h
 ·exact Or.inr ⟨g,d,f,hv,o,by rw[p.block g (eZ j) (by omega)];exact j,r⟩
theorem Td {D:World}{B size a:Nat}(j:wr.ownsRow B e size z a i)(s:aY w n wr)(v:n.heap.size<=B)(o:Obj)(d:(wr.alloc o).grownBy D z.ownBlock):aY w n D:=by
 have b:=s.alloc o;refine⟨d.os.trans b.os,d.tape.trans b.tape,d.output.trans b.output,Nat.le_trans b.size d.size,fun k f u=>?_⟩;rw[d.block k (Nat.lt_of_lt_of_le f b.size) ?_]
 ·exact b.block k f u
 ·intro e
  rcases j.2 with⟨h,_⟩|⟨g,p,q,h,r,_⟩
  ·rw[h]at e;cases e
  ·rw[h]at e;simp only[Value.ownBlock,Option.some.injEq]at e;omega
variable {st:Rd.St}
theorem Un {g:Nat}{u:List Rd.Wd}{W size n:Nat}(h:Rdr wr w g p u st)(d:wr.ownsRow W e size z n i)(r:w<W)(q:g<W)(o:Obj)(x:(wr.alloc o).grownBy b z.ownBlock):Rdr b w g p u st:=by
 have j:=h.alloc o
 have f:∀k,k<W->k<(wr.alloc o).heap.size->b.heap[k]?=(wr.alloc o).heap[k]?:=by
  intro k C A;refine x.block k A ?_;intro e
  rcases d.2 with⟨h,_⟩|⟨g,p,a,h,y,_⟩
  ·rw[h]at e;cases e
  ·rw[h]at e;simp only[Value.ownBlock,Option.some.injEq]at e;omega
 obtain⟨a,s,v⟩:=j.row;exact⟨by rw[f w r j.lt];exact j.rd,⟨a,by rw[f g q (eZ s)];exact s,v⟩,j.ne⟩
theorem aOz {B n:Nat}{a:World}(b:a.ownsRow B 3 1 z n (ts.map (Value.int .i64)))(o:w<B)(l:n=ts.length)(p:0<n):cZ w a ts z:=by
 rcases b.2 with⟨_,h⟩|⟨g,d,e,h,k,f,i,_,_,j⟩
 ·omega
 ·subst l;exact Or.inr ⟨g,d,e,h,by omega,f,i,by simpa using j⟩
theorem vR:(prog.info? 3).map (fun i=>(i.zero,i.size,i.bytes))=some (some (.int .i64 0),1,8):=by kernel_rfl
theorem aPa (w:World)(b g a:Nat)(d:List Rd.Wd)(st:Rd.St)(h:Rdr w b g a d st)(j:st.next<1000)(k:Rd.tk d st ⟨#[91]⟩=false):
  Calls prog 157 #[.pointer (some ⟨b,0,none⟩)] w (eN b g a d w none st):=by
 go_enter func157,ntmps157
 go_wp2_with fail
 refine(uD _ b g a d st _ h j k).mono ?_;rintro e l⟨rfl,i,f⟩
 go_wp2_with fail
 go_ret
 exact eN.nil i f
theorem aPb (w:World)(i g a:Nat)(b:List Rd.Wd)(st:Rd.St)(h:Rdr w i g a b st)(l:st.next<900)(k:Rd.tk b st ⟨#[91]⟩=true)(n:((Rd.aD b st.aN.next).kind != 1)=true):
  Calls prog 157 #[.pointer (some ⟨i,0,none⟩)] w (eN i g a b w none st.aN):=by
 go_enter func157,ntmps157
 go_wp2_with fail
 refine(xD _ i g a b st _ h (by omega) k).mono ?_;rintro e o⟨rfl,d,j⟩
 go_wp2_with fail
 refine(Hc _ i g a b _ d).mono ?_;unfold xZ;rintro e p⟨rfl,f⟩
 go_wp2_with fail
 go_ret
 exact eN.nil ((d.below f).alloc _) ((j.trans (aY.eH f)).alloc _)
theorem aPc (w:World)(f g a:Nat)(d:List Rd.Wd)(st:Rd.St)(h:Rdr w f g a d st)(q:st.next<900)(o:Rd.tk d st ⟨#[91]⟩=true)(s:((Rd.aD d st.aN.next).kind != 1)=false)(p:Rd.tk d st.aN.aN ⟨#[59]⟩=false):
  Calls prog 157 #[.pointer (some ⟨f,0,none⟩)] w (eN f g a d w none st.aN.aN):=by
 have b1:st.aN.next<901:=by show st.next+1<901;omega
 go_enter func157,ntmps157
 go_wp2_with fail
 refine(xD _ f g a d st _ h (by omega) o).mono ?_;rintro e u⟨rfl,i,k⟩
 go_wp2_with fail
 refine(Hc _ f g a d _ i).mono ?_;unfold xZ;rintro e v⟨rfl,j⟩;have b:=i.below j;have d1:=b.c1;have f1:=b.fz 1;have r:=b.lt
 go_wp2_with fail
 refine(uD _ f g a d st.aN.aN _ ((b.xW (st.aN.next+1) (by simp)).alloc _) (by show st.aN.next+1<1000;omega) p).mono ?_;rintro e x⟨rfl,n,l⟩
 go_wp2_with fail
 go_ret
 exact eN.nil n ((((k.trans (aY.eH j)).setCell 1 _).alloc _).trans l)
theorem aLl (w:World)(o a:Obj):((w.alloc o).alloc a).heap[w.heap.size+1]?=some a:=by
 have:=jC (w.alloc o) a
 simpa using this
theorem aJO {e:List Rd.Wd}{c:Nat}{b a:Rd.St}{v:Int}{R:Option (Option (List Int)×Rd.St)}{x:Option Rd.Tr×Rd.St}(h8:c<=8)(h:Rd.terms e (9-c) c ts b=R)(i:Rd.lI R=some x)(k:Rd.term e b=(v,a)):
  b.ok/\a.ok/\R=bif v==0 then some (none,a)else bif Rd.tk e a ⟨#[93]⟩then some (some (ts++[v]),a.aN)else bif c==8 then some (none,a)else bif Rd.tk e a ⟨#[44]⟩then Rd.terms e (9-(c+1)) (c+1) (ts++[v]) a.aN else some (none,a):=by
 obtain⟨f,j⟩:∃f,9-c=f+1:=⟨8-c,by omega⟩
 have g:9-(c+1)=f:=by omega
 rw[j,Rd.terms,k]at h;rw[g]
 cases d:(b.okB&&a.okB)with
 |false=>
  simp only[d,cond_false]at h;rw[<-h]at i;cases i
 |true=>
  simp only[d,cond_true]at h;simp only[Bool.and_eq_true]at d;exact⟨Rd.St.yK d.1,Rd.St.yK d.2,h.symm⟩
def Dm (b g a:Nat)(d:List Rd.Wd)(w:World)(R:Option (Option (List Int)×Rd.St))(l i:Value)(wr:World):Prop:=
 ∃(c:Nat) (ts:List Int) (st:Rd.St),i=.int .i64 c/\1<=c/\c<=8/\ts.length=c/\wr.ownsRow w.heap.size 3 1 l c (ts.map (Value.int .i64))/\Rdr wr b g a d st/\aY b w wr/\Rd.terms d (9-c) c ts st=R
theorem Mc {b:Nat}{a:World}{o:Obj}(e:aY w (n.alloc o) a)(d:b=n.heap.size)(f:b≠w):a.heap[b]?=some o:=by
 subst d;rw[e.block n.heap.size (by simp) f];exact jC _ _
theorem aPd (w:World)(y g p:Nat)(o:List Rd.Wd)(st:Rd.St)(h:Rdr w y g p o st)(hn:st.next<900)(ai:kQ o)(t1:Rd.tk o st ⟨#[91]⟩=true)(t2:((Rd.aD o st.aN.next).kind != 1)=false)(t3:Rd.tk o st.aN.aN ⟨#[59]⟩=true)
  (res:Option Rd.Tr) (Y:Rd.St) (hp:Rd.lI (Rd.terms o 8 1 [Rd.valTo (Rd.aD o st.aN.next).text (Rd.aD o st.aN.next).text.size] st.aN.aN.aN)=some (res,Y)):
  Calls prog 157 #[.pointer (some ⟨y,0,none⟩)] w (eN y g p o w res Y):=by
 have b1:st.aN.next<901:=by show st.next+1<901;omega
 have k:=h.lt
 have hg:g<w.heap.size:=by obtain⟨bc,h1,_⟩:=h.row;exact eZ h1
 have bf:(Rd.aD o st.aN.next).text.size<=9:=ai _ (by simpa[bne]using t2);obtain⟨i,hi,hz,A,X⟩:=info_parts vR;have am:Hid (kQ o):=ai;clear ai;have HP:Hid (Rd.lI (Rd.terms o 8 1 [Rd.valTo (Rd.aD o st.aN.next).text (Rd.aD o st.aN.next).text.size] st.aN.aN.aN)=some (res,Y)):=hp;clear hp
 have WX:Hid (∀W,Rdr W y g p o st.aN->Calls prog 48 #[.pointer (some ⟨y,0,none⟩)] W fun e w'=>e=.returned (.agg #[.int .i64 (Rd.aD o st.aN.next).kind,.string (Rd.aD o st.aN.next).text,.int .i64 (Rd.aD o st.aN.next).pos])/\Below W.heap.size W w'):=fun W hW=>Hc W y g p o st.aN hW
 generalize Rd.aD o st.aN.next=x at*;generalize av:Rd.terms o 8 1 [Rd.valTo x.text x.text.size] st.aN.aN.aN=R at*;have ak:Hid (Rd.terms o 8 1 [Rd.valTo x.text x.text.size] st.aN.aN.aN=R):=av;clear av
 go_enter func157,ntmps157
 go_wp2_with fail
 refine(xD _ y g p o st _ h (by omega) t1).mono ?_;rintro e w1⟨rfl,af,aq⟩
 go_wp2_with fail
 refine(WX.out _ af).mono ?_;rintro e w2⟨rfl,ag⟩;have L:=af.below ag;have d1:=L.c1;have f1:=L.fz 1;have l1:=L.lt
 go_wp2_with fail
 refine(xD _ y g p o st.aN.aN _ ((L.xW (st.aN.next+1) (by simp)).alloc _) (by show st.aN.next+1<1000;omega) t3).mono ?_;rintro e w3⟨rfl,ax,ad⟩;have hx:=Mc (b:=w2.heap.size) ad (Hg _ _ _).symm (by omega);have x0:w3.cell? ⟨w2.heap.size,0,none⟩=some (.int .i64 x.kind):=bK hx rfl;have x1:w3.cell? ⟨w2.heap.size,1,none⟩=some (.string x.text):=bK hx rfl;have x2:w3.cell? ⟨w2.heap.size,2,none⟩=some (.int .i64 x.pos):=bK hx rfl;have ae:aY y w w3:=(((aq.trans (aY.eH ag)).setCell 1 _).alloc _).trans ad;clear hx ad L d1 f1 l1 ag af aq WX
 go_wp2_with (go_at_call 126;refine(Yb _ _ _ _ bf).mono ?_;rintro e w'⟨rfl,rfl⟩)
 have bk:=ae.size
 go_loopw [4,5] (fun l i wr=>Dm y g p o w R l i wr) (fun _ i _=>9-(intOf i).toNat)
 case atStart=>
  refine⟨1,[Rd.valTo x.text x.text.size],st.aN.aN.aN,rfl,Nat.le_refl _,by omega,rfl,?_,(ax.alloc _).alloc _,(ae.alloc _).alloc _,ak.out⟩;refine⟨rfl,Or.inr ⟨w3.heap.size+1,1,#[.int .i64 (Rd.valTo x.text x.text.size)],rfl,by omega,?_,Nat.le_refl _,by decide,rfl,rfl⟩⟩;exact aLl _ _ _
 case round=>
  obtain⟨c,ts,a1,rfl,c1,c8,a0,f,hR,U,au⟩:=hrel;generalize hT:Rd.term o a1=T;obtain⟨I,j⟩:=T;obtain⟨o1,o2,ay⟩:=aJO c8 au HP.out hT
  have TM:Hid (Calls prog 176 #[.pointer (some ⟨y,0,none⟩)] wr fun e w'=>e=.returned (.int .i64 I)/\Rdr w' y g p o j/\aY y wr w'):=by
   have:=aQc wr y g p o a1 hR o1.1 am.out;rw[hT]at this;exact this
  have J:Hid (R=bif I==0 then some (none,j)else bif Rd.tk o j ⟨#[93]⟩then some (some (ts++[I]),j.aN)else bif c==8 then some (none,j)else bif Rd.tk o j ⟨#[44]⟩then Rd.terms o (9-(c+1)) (c+1) (ts++[I]) j.aN else some (none,j)):=ay;have al:Hid (ts.length=c):=a0;have b2:j.next<1000:=o2.1;have bu:=U.size;clear au a0 ay hT o1 am ak x0 x1 x2 ax ae h;cases u1:(I==0)
  ·cases u2:Rd.tk o j ⟨#[93]⟩
   ·cases u3:((c:Int)==8)
    ·have S:(c==8)=false:=by simp at u3;simp;omega
     cases u4:Rd.tk o j ⟨#[44]⟩
     ·go_wp2_with fail
      refine(TM.out).mono ?_;rintro e w5⟨rfl,s,d⟩;have O:=d.size
      go_wp2_with (at_builtin;refine wpList_append_own _ rfl _ _ 75 rfl w.heap.size 3 i (.int .i64 0) 1 8 underlying75 hi hz A X rfl (by decide) _ _ _ rfl ((tI f d k).alloc _) ⟨w5.heap.size,0,none⟩ 1 1 [.int .i64 I] rfl rfl (cell_one_new _ _ _) (fun u P=>by simp at P;subst P;rfl) (by unfold maxLen;omega) (by omega) (by simp;omega) ?_;intro v' w6 v a q)
      have H:=Un s (tI f d k) k hg _ a;have F:=Td (tI f d k) (U.trans d) (Nat.le_refl _) _ a;clear q a s d f hR U;refine(uD _ y g p o j _ H b2 u2).mono ?_;rintro e w7⟨rfl,E,z⟩
      go_wp2_with fail
      refine(uD _ y g p o j _ E b2 u4).mono ?_;rintro e w8⟨rfl,M,D⟩
      go_wp2_with fail
      go_ret
      have e:=HP.out;rw[J.out,u1,u2,S,u4]at e;simp only[cond_true,cond_false,Rd.lI,Option.some.injEq,Prod.mk.injEq]at e;obtain⟨rfl,rfl⟩:=e;exact eN.nil M ((F.trans z).trans D)
     ·go_wp2_with fail
      refine(TM.out).mono ?_;rintro e w5⟨rfl,s,d⟩;have O:=d.size
      go_wp2_with (at_builtin;refine wpList_append_own _ rfl _ _ 75 rfl w.heap.size 3 i (.int .i64 0) 1 8 underlying75 hi hz A X rfl (by decide) _ _ _ rfl ((tI f d k).alloc _) ⟨w5.heap.size,0,none⟩ 1 1 [.int .i64 I] rfl rfl (cell_one_new _ _ _) (fun u P=>by simp at P;subst P;rfl) (by unfold maxLen;omega) (by omega) (by simp;omega) ?_;intro v' w6 v a q)
      have H:=Un s (tI f d k) k hg _ a;have F:=Td (tI f d k) (U.trans d) (Nat.le_refl _) _ a;clear q a s d f hR U;refine(uD _ y g p o j _ H b2 u2).mono ?_;rintro e w7⟨rfl,E,z⟩
      go_wp2_with fail
      refine(xD _ y g p o j _ E b2 u4).mono ?_;rintro e w8⟨rfl,M,D⟩
      go_wp2_with fail
      go_roundw
      case rel=>
       refine⟨c+1,ts++[I],j.aN,by go_num,by omega,by have:=S;simp at this;omega,by simp[al.out],?_,M,(F.trans z).trans D,?_⟩
       ·have:=tI (tI v z k) D k
        simpa using this
       ·have e:=J.out;rw[u1,u2,S,u4]at e;exact e.symm
      case measure=>simp[intOf];omega
    ·have S:(c==8)=true:=by simp at u3;simp;omega
     go_wp2_with fail
     refine(TM.out).mono ?_;rintro e w5⟨rfl,s,d⟩;have O:=d.size
     go_wp2_with (at_builtin;refine wpList_append_own _ rfl _ _ 75 rfl w.heap.size 3 i (.int .i64 0) 1 8 underlying75 hi hz A X rfl (by decide) _ _ _ rfl ((tI f d k).alloc _) ⟨w5.heap.size,0,none⟩ 1 1 [.int .i64 I] rfl rfl (cell_one_new _ _ _) (fun u P=>by simp at P;subst P;rfl) (by unfold maxLen;omega) (by omega) (by simp;omega) ?_;intro v' w6 v a q)
     have H:=Un s (tI f d k) k hg _ a;have F:=Td (tI f d k) (U.trans d) (Nat.le_refl _) _ a;clear q a s d f hR U;refine(uD _ y g p o j _ H b2 u2).mono ?_;rintro e w7⟨rfl,E,z⟩
     go_wp2_with fail
     go_ret
     have e:=HP.out;rw[J.out,u1,u2,S]at e;simp only[cond_true,cond_false,Rd.lI,Option.some.injEq,Prod.mk.injEq]at e;obtain⟨rfl,rfl⟩:=e;exact eN.nil E (F.trans z)
   ·go_wp2_with fail
    refine(TM.out).mono ?_;rintro e w5⟨rfl,s,d⟩;have O:=d.size
    go_wp2_with (at_builtin;refine wpList_append_own _ rfl _ _ 75 rfl w.heap.size 3 i (.int .i64 0) 1 8 underlying75 hi hz A X rfl (by decide) _ _ _ rfl ((tI f d k).alloc _) ⟨w5.heap.size,0,none⟩ 1 1 [.int .i64 I] rfl rfl (cell_one_new _ _ _) (fun u P=>by simp at P;subst P;rfl) (by unfold maxLen;omega) (by omega) (by simp;omega) ?_;intro v' w6 v a q)
    have H:=Un s (tI f d k) k hg _ a;have F:=Td (tI f d k) (U.trans d) (Nat.le_refl _) _ a;clear q a s d f hR U;refine(xD _ y g p o j _ H b2 u2).mono ?_;rintro e w7⟨rfl,E,z⟩;have N:=tI v z k
    obtain⟨g6,C,ah⟩:∃g6 C,v'=.slice (some ⟨g6,0,none⟩) (c+1) C:=by
     rcases N.2 with⟨_,hh⟩|⟨g6,C,bc,hv,_⟩
     ·omega
     ·exact⟨g6,C,hv⟩
    have HV:Hid (v'=.slice (some ⟨g6,0,none⟩) (c+1) C):=ah;rw[ah];clear ah;have e:=HP.out;rw[J.out,u1,u2]at e;simp only[cond_true,cond_false,Rd.lI]at e
    have o3:j.aN.okB=true:=by
     cases ho:j.aN.okB with
     |true=>rfl
     |false=>rw[ho]at e;cases e
    have HE:Hid ((bif j.aN.okB then some (some (Rd.dI 4 0 (ts++[I])),j.aN.leaf)else none)=some (res,Y)):=e;have HO:Hid (j.aN.okB=true):=o3;clear e o3
    go_wp2_with fail
    refine(Te _ y g p o j.aN _ (E.alloc _) (Rd.St.yK HO.out)).mono ?_;rintro e w8⟨rfl,M,D⟩
    go_wp2_with fail
    go_ret
    have e:=HE.out;rw[HO.out]at e;simp only[cond_true,Option.some.injEq,Prod.mk.injEq]at e;obtain⟨rfl,rfl⟩:=e
    have az:w7.heap.size≠y:=by have:=E.lt;omega
    refine⟨_,rfl,?_,M,((F.trans z).alloc _).trans D⟩;refine Cb (ts:=ts++[I]) (l:=.nil) (r:=.nil) az (Mc D rfl az) ?_ rfl rfl;rw[<-HV.out];refine aOz (B:=w.heap.size) (n:=c+1) ?_ k (by simp[al.out]) (by omega);have:=tI (N.alloc _) D k
    simpa using this
  ·go_wp2_with fail
   refine(TM.out).mono ?_;rintro e w5⟨rfl,s,d⟩
   go_wp2_with fail
   go_ret
   have e:=HP.out;rw[J.out,u1]at e;simp only[cond_true,Rd.lI,Option.some.injEq,Prod.mk.injEq]at e;obtain⟨rfl,rfl⟩:=e;exact eN.nil s (U.trans d)
theorem aGW (w:World)(f g b:Nat)(d:List Rd.Wd)(st:Rd.St)(h:Rdr w f g b d st)(o:kQ d)(res:Option Rd.Tr)(i:Rd.St)(a:Rd.continued d st=some (res,i)):
  Calls prog 157 #[.pointer (some ⟨f,0,none⟩)] w (eN f g b d w res i):=by
 unfold Rd.continued at a
 cases k:(decide (st.next<900)&&st.okB)with
 |false=>rw[k]at a;cases a
 |true=>
  rw[k]at a;simp only[Bool.and_eq_true,decide_eq_true_eq]at k;have n:=k.1
  cases e:Rd.tk d st ⟨#[91]⟩with
  |false=>
   rw[e]at a;simp only[cond_true,cond_false,Option.some.injEq,Prod.mk.injEq]at a;obtain⟨rfl,rfl⟩:=a;exact aPa w f g b d st h (by omega) e
  |true=>
   cases j:((Rd.aD d st.aN.next).kind==1)with
   |false=>
    rw[e,j]at a;simp only[cond_true,cond_false,Option.some.injEq,Prod.mk.injEq]at a;obtain⟨rfl,rfl⟩:=a;exact aPb w f g b d st h n e (by simp[bne,j])
   |true=>
    cases l:Rd.tk d st.aN.aN ⟨#[59]⟩with
    |false=>
     rw[e,j,l]at a;simp only[cond_true,cond_false,Option.some.injEq,Prod.mk.injEq]at a;obtain⟨rfl,rfl⟩:=a;exact aPc w f g b d st h n e (by simp[bne,j]) l
    |true=>
     rw[e,j,l]at a;exact aPd w f g b d st h n o e (by simp[bne,j]) l res i a
def jO (d g a:Nat)(h:List Rd.Wd)(fn:FuncId)(e f:Nat):Prop:=
 ∀(w:World) (st:Rd.St) (res:Option Rd.Tr) (b:Rd.St),Rdr w d g a h st->Rd.parse h f e none st=some (res,b)->Calls prog fn #[.pointer (some ⟨d,0,none⟩)] w (eN d g a h w res b)
variable {F:Option Rd.Tr->Rd.St->Rd.pJ}{y:Option Rd.Tr×Rd.St}
theorem pO {a:Rd.pJ}(h:Rd.pJ.next a F=some y):∃l st,a=some (l,st)/\F l st=some y:=by
 cases a with
 |none=>cases h
 |some x=>exact⟨x.1,x.2,rfl,h⟩
theorem aC {p:Prop}(h:p):Hid p:=h
theorem Hj {k:Int}{l r:Rd.Tr}(h:Rd.pJ.next (Rd.operOf k l (some r) st) F=some y):st.ok/\F (some (Rd.jI k l r)) st.node=some y:=by
 simp only[Rd.operOf]at h
 cases a:st.okB with
 |false=>rw[a]at h;cases h
 |true=>
  rw[a]at h;exact⟨Rd.St.yK a,h⟩
theorem aQa (v g j:Nat)(u:List Rd.Wd)(f:Nat)(IH:Hid (∀k,k<f->jO v g j u 68 2 k)):jO v g j u 47 0 f:=by
 intro w st res ad L d
 obtain⟨f0,rfl⟩:∃f0,f=f0+1:=by
  cases f with
  |zero=>cases d
  |succ f0=>exact⟨f0,rfl⟩
 obtain⟨l0,N,q,s⟩:=pO d;have p:Hid (Rd.parse u f0 2 none st=some (l0,N)):=q;have i:Hid (Rd.parse u f0 1 l0 N=some (res,ad)):=s;clear d q s
 go_enter func47,ntmps47
 go_wp2_with fail
 refine(IH.out f0 (by omega) _ st l0 N L p.out).mono ?_;rintro e w1⟨v1,rfl,X,aa,Y⟩;clear L p
 go_wp2_with fail
 go_loopg [3] f0 (fun k l wr=>∃lt a,k<=f0/\wP v wr lt l/\Rdr wr v g j u a/\aY v w wr/\Rd.parse u k 1 lt a=some (res,ad))
 case atStart=>exact⟨l0,N,Nat.le_refl _,X,aa,Y,i.out⟩
 case round=>
  obtain⟨lt,a,hk,hE,L,U,d⟩:=hrel;clear i X aa Y
  obtain⟨k,S⟩:∃k,gk=k+1:=by
   cases gk with
   |zero=>cases d
   |succ k=>exact⟨k,rfl⟩
  rw[S]at d;have J:Hid (gk=k+1):=S
  have ab:k<f0+1:=by omega
  clear S
  cases lt with
  |none=>
   simp only[Rd.parse,Option.some.injEq,Prod.mk.injEq]at d;obtain⟨rfl,rfl⟩:=d;rw[show _=Value.pointer none from hE];clear hE
   go_wp2_with fail
   go_ret
   exact eN.nil L U
  |some t=>
   obtain⟨⟨b,hb⟩,C⟩:=hE;rw[hb];rw[hb]at C;clear hb;rw[Rd.parse]at d
   cases ho:a.okB with
   |false=>rw[ho]at d;cases d
   |true=>
    rw[ho]at d;simp only[cond_true]at d;have ok:=Rd.St.yK ho;have b2:a.next<1000:=ok.1;clear ho ok;cases W:Rd.tk u a ⟨#[43]⟩
    ·cases u2:Rd.tk u a ⟨#[45]⟩
     ·rw[W,u2]at d;simp only[cond_false,Option.some.injEq,Prod.mk.injEq]at d;obtain⟨rfl,rfl⟩:=d
      go_wp2_with fail
      refine(uD _ v g j u a _ L b2 W).mono ?_;rintro e w2⟨rfl,M,D⟩
      go_wp2_with fail
      refine(uD _ v g j u a _ M b2 u2).mono ?_;rintro e w3⟨rfl,A,n⟩
      go_wp2_with fail
      go_ret
      exact⟨_,rfl,⟨⟨b,rfl⟩,fX.aT (D.trans n) C⟩,A,(U.trans D).trans n⟩
     ·rw[W,u2]at d;simp only[cond_true,cond_false]at d;obtain⟨r,h,q,s⟩:=pO d;have p:Hid (Rd.parse u k 2 none a.aN=some (r,h)):=q;have i:=aC s;clear d q s
      go_wp2_with fail
      refine(uD _ v g j u a _ L b2 W).mono ?_;rintro e w2⟨rfl,M,D⟩
      go_wp2_with fail
      refine(xD _ v g j u a _ M b2 u2).mono ?_;rintro e w3⟨rfl,A,n⟩
      go_wp2_with fail
      refine(IH.out k ab _ a.aN r h A p.out).mono ?_;rintro e w4⟨v4,rfl,x,o,y⟩;have P:fX v w4 t (.pointer (some ⟨b,0,none⟩)):=fX.aT ((D.trans n).trans y) C;have F:aY v w w4:=((U.trans D).trans n).trans y;clear U D n y L M A C p
      cases r with
      |none=>
       rw[show v4=Value.pointer none from x];clear x
       go_wp2_with fail
       refine(Ru _ _ _ _).mono ?_;rintro e w5⟨rfl,rfl⟩
       go_wp2_with fail
       go_roundg k
       case measure=>have:=J.out;omega
       case rel=>exact⟨none,h,by omega,rfl,o,F,i.out⟩
      |some r=>
       obtain⟨⟨b4,B⟩,E⟩:=x;rw[B];rw[B]at E;clear B;obtain⟨T,I⟩:=Hj i.out;clear i;have O:=aC I;have al:=o.lt;clear I
       go_wp2_with fail
       refine(Rx _ v g j u h _ _ _ o T).mono ?_;rintro e w5⟨rfl,R,z,H⟩;clear o
       go_wp2_with fail
       go_roundg k
       case measure=>have:=J.out;omega
       case rel=>exact⟨some (Rd.jI 7 t r),h.node,by omega,Cb (by omega) H (Or.inl ⟨rfl,rfl⟩) (fX.aT z P) (fX.aT z E),R,F.trans z,O.out⟩
    ·rw[W]at d;simp only[cond_true,cond_false]at d;obtain⟨r,h,q,s⟩:=pO d;have p:Hid (Rd.parse u k 2 none a.aN=some (r,h)):=q;have i:=aC s;clear d q s
     go_wp2_with fail
     refine(xD _ v g j u a _ L b2 W).mono ?_;rintro e w3⟨rfl,A,n⟩
     go_wp2_with fail
     refine(IH.out k ab _ a.aN r h A p.out).mono ?_;rintro e w4⟨v4,rfl,x,o,y⟩;have P:fX v w4 t (.pointer (some ⟨b,0,none⟩)):=fX.aT (n.trans y) C;have F:aY v w w4:=(U.trans n).trans y;clear U n y L A C p
     cases r with
     |none=>
      rw[show v4=Value.pointer none from x];clear x
      go_wp2_with fail
      refine(Ru _ _ _ _).mono ?_;rintro e w5⟨rfl,rfl⟩
      go_wp2_with fail
      go_roundg k
      case measure=>have:=J.out;omega
      case rel=>exact⟨none,h,by omega,rfl,o,F,i.out⟩
     |some r=>
      obtain⟨⟨b4,B⟩,E⟩:=x;rw[B];rw[B]at E;clear B;obtain⟨T,I⟩:=Hj i.out;clear i;have O:=aC I;have al:=o.lt;clear I
      go_wp2_with fail
      refine(Rx _ v g j u h _ _ _ o T).mono ?_;rintro e w5⟨rfl,R,z,H⟩;clear o
      go_wp2_with fail
      go_roundg k
      case measure=>have:=J.out;omega
      case rel=>exact⟨some (Rd.jI 6 t r),h.node,by omega,Cb (by omega) H (Or.inl ⟨rfl,rfl⟩) (fX.aT z P) (fX.aT z E),R,F.trans z,O.out⟩
theorem aIr (v g j:Nat)(u:List Rd.Wd)(f:Nat)(IH:Hid (∀k,k<f->jO v g j u 87 4 k)):jO v g j u 68 2 f:=by
 intro w st res ad L d
 obtain⟨f0,rfl⟩:∃f0,f=f0+1:=by
  cases f with
  |zero=>cases d
  |succ f0=>exact⟨f0,rfl⟩
 obtain⟨l0,N,q,s⟩:=pO d;have p:Hid (Rd.parse u f0 4 none st=some (l0,N)):=q;have i:Hid (Rd.parse u f0 3 l0 N=some (res,ad)):=s;clear d q s
 go_enter func68,ntmps68
 go_wp2_with fail
 refine(IH.out f0 (by omega) _ st l0 N L p.out).mono ?_;rintro e w1⟨v1,rfl,X,aa,Y⟩;clear L p
 go_wp2_with fail
 go_loopg [3] f0 (fun k l wr=>∃lt a,k<=f0/\wP v wr lt l/\Rdr wr v g j u a/\aY v w wr/\Rd.parse u k 3 lt a=some (res,ad))
 case atStart=>exact⟨l0,N,Nat.le_refl _,X,aa,Y,i.out⟩
 case round=>
  obtain⟨lt,a,hk,hE,L,U,d⟩:=hrel;clear i X aa Y
  obtain⟨k,S⟩:∃k,gk=k+1:=by
   cases gk with
   |zero=>cases d
   |succ k=>exact⟨k,rfl⟩
  rw[S]at d;have J:Hid (gk=k+1):=S
  have ab:k<f0+1:=by omega
  clear S
  cases lt with
  |none=>
   simp only[Rd.parse,Option.some.injEq,Prod.mk.injEq]at d;obtain⟨rfl,rfl⟩:=d;rw[show _=Value.pointer none from hE];clear hE
   go_wp2_with fail
   go_ret
   exact eN.nil L U
  |some t=>
   obtain⟨⟨b,hb⟩,C⟩:=hE;rw[hb];rw[hb]at C;clear hb;rw[Rd.parse]at d
   cases ho:a.okB with
   |false=>rw[ho]at d;cases d
   |true=>
    rw[ho]at d;simp only[cond_true]at d;have ok:=Rd.St.yK ho;have b2:a.next<1000:=ok.1;clear ho ok;cases W:Rd.tk u a ⟨#[42]⟩
    ·cases u2:Rd.tk u a ⟨#[47]⟩
     ·rw[W,u2]at d;simp only[cond_false,Option.some.injEq,Prod.mk.injEq]at d;obtain⟨rfl,rfl⟩:=d
      go_wp2_with fail
      refine(uD _ v g j u a _ L b2 W).mono ?_;rintro e w2⟨rfl,M,D⟩
      go_wp2_with fail
      refine(uD _ v g j u a _ M b2 u2).mono ?_;rintro e w3⟨rfl,A,n⟩
      go_wp2_with fail
      go_ret
      exact⟨_,rfl,⟨⟨b,rfl⟩,fX.aT (D.trans n) C⟩,A,(U.trans D).trans n⟩
     ·rw[W,u2]at d;simp only[cond_true,cond_false]at d;obtain⟨r,h,q,s⟩:=pO d;have p:Hid (Rd.parse u k 4 none a.aN=some (r,h)):=q;have i:=aC s;clear d q s
      go_wp2_with fail
      refine(uD _ v g j u a _ L b2 W).mono ?_;rintro e w2⟨rfl,M,D⟩
      go_wp2_with fail
      refine(xD _ v g j u a _ M b2 u2).mono ?_;rintro e w3⟨rfl,A,n⟩
      go_wp2_with fail
      refine(IH.out k ab _ a.aN r h A p.out).mono ?_;rintro e w4⟨v4,rfl,x,o,y⟩;have P:fX v w4 t (.pointer (some ⟨b,0,none⟩)):=fX.aT ((D.trans n).trans y) C;have F:aY v w w4:=((U.trans D).trans n).trans y;clear U D n y L M A C p
      cases r with
      |none=>
       rw[show v4=Value.pointer none from x];clear x
       go_wp2_with fail
       refine(Ru _ _ _ _).mono ?_;rintro e w5⟨rfl,rfl⟩
       go_wp2_with fail
       go_roundg k
       case measure=>have:=J.out;omega
       case rel=>exact⟨none,h,by omega,rfl,o,F,i.out⟩
      |some r=>
       obtain⟨⟨b4,B⟩,E⟩:=x;rw[B];rw[B]at E;clear B;obtain⟨T,I⟩:=Hj i.out;clear i;have O:=aC I;have al:=o.lt;clear I
       go_wp2_with fail
       refine(Rx _ v g j u h _ _ _ o T).mono ?_;rintro e w5⟨rfl,R,z,H⟩;clear o
       go_wp2_with fail
       go_roundg k
       case measure=>have:=J.out;omega
       case rel=>exact⟨some (Rd.jI 9 t r),h.node,by omega,Cb (by omega) H (Or.inl ⟨rfl,rfl⟩) (fX.aT z P) (fX.aT z E),R,F.trans z,O.out⟩
    ·rw[W]at d;simp only[cond_true,cond_false]at d;obtain⟨r,h,q,s⟩:=pO d;have p:Hid (Rd.parse u k 4 none a.aN=some (r,h)):=q;have i:=aC s;clear d q s
     go_wp2_with fail
     refine(xD _ v g j u a _ L b2 W).mono ?_;rintro e w3⟨rfl,A,n⟩
     go_wp2_with fail
     refine(IH.out k ab _ a.aN r h A p.out).mono ?_;rintro e w4⟨v4,rfl,x,o,y⟩;have P:fX v w4 t (.pointer (some ⟨b,0,none⟩)):=fX.aT (n.trans y) C;have F:aY v w w4:=(U.trans n).trans y;clear U n y L A C p
     cases r with
     |none=>
      rw[show v4=Value.pointer none from x];clear x
      go_wp2_with fail
      refine(Ru _ _ _ _).mono ?_;rintro e w5⟨rfl,rfl⟩
      go_wp2_with fail
      go_roundg k
      case measure=>have:=J.out;omega
      case rel=>exact⟨none,h,by omega,rfl,o,F,i.out⟩
     |some r=>
      obtain⟨⟨b4,B⟩,E⟩:=x;rw[B];rw[B]at E;clear B;obtain⟨T,I⟩:=Hj i.out;clear i;have O:=aC I;have al:=o.lt;clear I
      go_wp2_with fail
      refine(Rx _ v g j u h _ _ _ o T).mono ?_;rintro e w5⟨rfl,R,z,H⟩;clear o
      go_wp2_with fail
      go_roundg k
      case measure=>have:=J.out;omega
      case rel=>exact⟨some (Rd.jI 8 t r),h.node,by omega,Cb (by omega) H (Or.inl ⟨rfl,rfl⟩) (fX.aT z P) (fX.aT z E),R,F.trans z,O.out⟩
theorem aKD (h:1<=st.around):(st.around:Int)-1=((st.around-1:Nat):Int):=by omega
theorem aFT (h:st.fU=true):st.ok/\1<=st.around:=by
 simp only[Rd.St.fU,Bool.and_eq_true,decide_eq_true_eq]at h;exact⟨Rd.St.yK h.1,h.2⟩
theorem aK8 {k:Int}{x:Rd.Tr}(h:Rd.dU k (some x) st=some y):st.ok/\y=(some (Rd.eY k x),st.node):=by
 simp only[Rd.dU]at h
 cases a:st.okB with
 |false=>rw[a]at h;cases h
 |true=>
  rw[a]at h;exact⟨Rd.St.yK a,(Option.some.inj h).symm⟩
theorem aJJ (n g b:Nat)(v:List Rd.Wd)(f:Nat)(X:Hid (∀k,k<f->jO n g b v 87 4 k))(W:Hid (∀k,k<f->jO n g b v 106 5 k)):jO n g b v 87 4 f:=by
 intro w st res R M a
 obtain⟨f0,rfl⟩:∃f0,f=f0+1:=by
  cases f with
  |zero=>cases a
  |succ f0=>exact⟨f0,rfl⟩
 rw[Rd.parse]at a
 cases I:st.okB with
 |false=>rw[I]at a;cases a
 |true=>
  rw[I]at a;simp only[cond_true]at a;have ok:=Rd.St.yK I;have b1:st.next<1000:=ok.1;have b2:st.aN.around<1000:=ok.2.1;clear I ok;cases J:Rd.tk v st ⟨#[45]⟩
  ·rw[J]at a;simp only[cond_false]at a;have U:=aC a;clear a
   go_enter func87,ntmps87
   go_wp2_with fail
   refine(uD _ n g b v st _ M b1 J).mono ?_;rintro e w1⟨rfl,d,o⟩
   go_wp2_with fail
   refine(W.out f0 (by omega) _ st res R d U.out).mono ?_;rintro e H⟨T,rfl,l,h,p⟩
   go_wp2_with fail
   go_ret
   exact⟨_,rfl,l,h,o.trans p⟩
  ·rw[J]at a;simp only[cond_true]at a;obtain⟨x,j,D,i⟩:=pO a
   cases q:j.fU with
   |false=>rw[q]at i;cases i
   |true=>
    rw[q]at i;simp only[cond_true]at i;obtain⟨E,F⟩:=aFT q;have b3:j.around<1000:=E.2.1;have y:=aC D;have s:=aC i;clear a D i q E
    go_enter func87,ntmps87
    go_wp2_with fail
    refine(xD _ n g b v st _ M b1 J).mono ?_;rintro e w1⟨rfl,d,o⟩;have d2:=d.c2;have f2:=d.fz 2
    go_wp2_with fail
    refine(X.out f0 (by omega) _ st.aN.lF x j (d.Eg (st.aN.around+1) (by simp)) y.out).mono ?_;rintro e H⟨T,rfl,l,h,p⟩;have A:aY n w H:=(o.setCell 2 _).trans p;clear d2 f2 o p d M y;have d2:=h.c2;have f2:=h.fz 2;have C:=h.Eg (j.around-1) (aKD F);have Y:=h.lt
    cases x with
    |none=>
     rw[show T=Value.pointer none from l];clear l;have e:=s.out;simp only[Rd.dU,Option.some.injEq,Prod.mk.injEq]at e;obtain⟨rfl,rfl⟩:=e
     go_wp2_with fail
     refine(aIU _ _ _).mono ?_;rintro e w5⟨rfl,rfl⟩
     go_wp2_with fail
     go_ret
     exact eN.nil C (A.setCell 2 _)
    |some x=>
     obtain⟨⟨b4,u⟩,z⟩:=l;rw[u];rw[u]at z;clear u;obtain⟨P,S⟩:=aK8 s.out;simp only[Prod.mk.injEq]at S;obtain⟨rfl,rfl⟩:=S;have L:aY n H (H.setCell ⟨n,2,none⟩ (.int .i64 ((j.around:Int)-1))):=(aY.refl _ _).setCell 2 _;clear s
     go_wp2_with fail
     refine(aGA _ n g b v j.out _ _ C P).mono ?_;rintro e w5⟨rfl,N,B,r⟩;rw[Hg]at r
     have O:H.heap.size≠n:=by omega
     go_wp2_with fail
     go_ret
     refine⟨_,rfl,Cb O r (Or.inl ⟨rfl,rfl⟩) (fX.aT (L.trans B) z) rfl,N,(A.setCell 2 _).trans B⟩
theorem aGL (p g d:Nat)(q:List Rd.Wd)(f:Nat)(O:Hid (∀k,k<f->jO p g d q 47 0 k)):jO p g d q 130 6 f:=by
 intro w st res R M i
 obtain⟨f0,rfl⟩:∃f0,f=f0+1:=by
  cases f with
  |zero=>cases i
  |succ f0=>exact⟨f0,rfl⟩
 rw[Rd.parse]at i
 ·cases H:st.okB with
  |false=>rw[H]at i;cases i
  |true=>
   rw[H]at i;simp only[cond_true]at i;have ok:=Rd.St.yK H;have b1:st.next<1000:=ok.1;have b2:st.aN.around<1000:=ok.2.1;clear H ok;cases I:Rd.tk q st ⟨#[40]⟩
   ·rw[I]at i;simp only[cond_false,Option.some.injEq,Prod.mk.injEq]at i;obtain⟨rfl,rfl⟩:=i
    go_enter func130,ntmps130
    go_wp2_with fail
    refine(uD _ p g d q st _ M b1 I).mono ?_;rintro e T⟨rfl,h,j⟩
    go_wp2_with fail
    go_ret
    exact eN.nil h j
   ·rw[I]at i;simp only[cond_true]at i;obtain⟨x,a,E,b⟩:=pO i;unfold Rd.hY at b
    cases o:a.fU with
    |false=>rw[o]at b;cases b
    |true=>
     rw[o]at b;simp only[cond_true]at b;obtain⟨A,F⟩:=aFT o;have W:a.around<1000:=A.2.1;have b4:a.out.next<1000:=A.1;have B:=aC E;have r:=aC b;clear i E b o A
     go_enter func130,ntmps130
     go_wp2_with fail
     refine(xD _ p g d q st _ M b1 I).mono ?_;rintro e T⟨rfl,h,j⟩;have d2:=h.c2;have f2:=h.fz 2
     go_wp2_with fail
     refine(O.out f0 (by omega) _ st.aN.lF x a (h.Eg (st.aN.around+1) (by simp)) B.out).mono ?_;rintro e N⟨S,rfl,s,n,D⟩;have u:aY p w N:=(j.setCell 2 _).trans D;clear d2 f2 j D h M B;have d2:=n.c2;have f2:=n.fz 2;have v:=n.Eg (a.around-1) (aKD F);have P:=n.lt
     cases x with
     |none=>
      rw[show S=Value.pointer none from s];clear s;have e:=r.out;simp only[Option.some.injEq,Prod.mk.injEq]at e;obtain⟨rfl,rfl⟩:=e
      go_wp2_with fail
      go_ret
      exact eN.nil v (u.setCell 2 _)
     |some x=>
      obtain⟨⟨b5,z⟩,C⟩:=s;rw[z];rw[z]at C;clear z;have L:aY p N (N.setCell ⟨p,2,none⟩ (.int .i64 ((a.around:Int)-1))):=(aY.refl _ _).setCell 2 _;have e:=r.out;clear r;cases J:Rd.tk q a.out ⟨#[41]⟩
      ·simp only[J,cond_false,Option.some.injEq,Prod.mk.injEq]at e;obtain⟨rfl,rfl⟩:=e
       go_wp2_with fail
       refine(uD _ p g d q a.out _ v b4 J).mono ?_;rintro e U⟨rfl,y,l⟩
       go_wp2_with fail
       go_ret
       exact eN.nil y ((u.setCell 2 _).trans l)
      ·simp only[J,cond_true,Option.some.injEq,Prod.mk.injEq]at e;obtain⟨rfl,rfl⟩:=e
       go_wp2_with fail
       refine(xD _ p g d q a.out _ v b4 J).mono ?_;rintro e U⟨rfl,y,l⟩
       go_wp2_with fail
       go_ret
       exact⟨_,rfl,⟨⟨b5,rfl⟩,fX.aT (L.trans l) C⟩,y,(u.setCell 2 _).trans l⟩
 all_goals omega
end Go.Proofs.YtkmojpfpfoaloaaGreatDoor
