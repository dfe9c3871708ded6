import Derived.Test.YteghhlfmcjmnoaaGreatDoorCKn10
import Derived.Test.YteghhlfmcjmnoaaGreatDoorCKn05
import Derived.Test.YteghhlfmcjmnoaaGreatDoorCKn09
set_option linter.unusedSimpArgs false
set_option linter.unusedVariables false
set_option maxRecDepth 100000
set_option maxHeartbeats 2000000
namespace Go.Proofs.YteghhlfmcjmnoaaGreatDoor
open Go.RowKit
namespace Ab
def argWants:Option Bool->Int->Bool
 | none,_=>false
 | some s,r=>s&&(r==0)
theorem aLd (l:Option Bool)(r k:Int):argW l r k=if argWants l r then 0 else k:=by
 cases l with
 | none=>rfl
 | some s=>
  unfold argW argWants
  cases s with
  | false=>rfl
  | true=>cases h:(r==0)<;>simp
theorem aQI (p0 q0 p1 q1 p2 q2 p3 q3 c:Int):fitS p0 q0 p1 q1 p2 q2 p3 q3 (code c)=Nw.fits ([(p0,q0),(p1,q1),(p2,q2),(p3,q3)].map (Rf.vag (Mt.sym c))):=by
 obtain ⟨a,b,d,e⟩:=aDS c;unfold fitS;rw [a,b,d,e,aLM]
def codeO:Option Int->Int
 | none=>0
 | some c=>code c
theorem aLJ {hs:Bool}{g:Option Nat}{x y:Int}{a:Nat}(b:g.getD 0=a):firstF hs g x y=if hs=true/\a=0 then x else y:=by
 unfold firstF
 cases g with
 | none=>
  simp at b;subst b
  cases hs<;>simp
 | some m=>
  simp at b;subst b
  cases hs with
  | false=>simp
  | true=>
   by_cases h:m=0
   ·subst h;simp
   ·have:((m:Int)==0)=false:=by rw [beq_eq_false_iff_ne];omega
    simp [this,h]
theorem aQ8 {ns:List Rf.Nd}{n:Rf.Nd}{a:List Rf.V}{p0 q0 p1 q1 p2 q2 p3 q3:Int}{hs:Bool}{l r:Option Bool}{g:Option Nat}{lr rr:Int}{o:Option Int}(y:Rf.corners ns n=some a)(z:Pg.Cof a [(p0,q0),(p1,q1),(p2,q2),(p3,q3)])(t:n.pos=!hs)(A:g.getD 0=n.out.length)(f:(argWants l lr||argWants r rr)=Rf.waits ns n.args n.read)(b:Rf.next ns n=some o):
  nextZ p0 q0 p1 q1 p2 q2 p3 q3 hs l r g 0 lr rr=codeO o:=by
 unfold nextZ;rw [show ((0:Int) != 0)=false from rfl,cond_false,aLd,aLd];unfold Rf.next at b
 cases q:argWants l lr with
 | true=>
  rw [q,Bool.true_or] at f;rw [<-f] at b;simp at b;subst b;rfl
 | false=>
  rw [q,Bool.false_or] at f;simp only [Bool.false_eq_true,if_false]
  cases s:argWants r rr with
  | true=>
   rw [s] at f;rw [<-f] at b;simp at b;subst b;rfl
  | false=>
   rw [s] at f;rw [<-f] at b;simp only [Bool.false_eq_true,if_false,y,Option.map_some,Option.some.injEq] at b ⊢;rw [aLJ A]
   have d:∀ c,Rf.can a c=fitS p0 q0 p1 q1 p2 q2 p3 q3 (code c):=fun c=>by rw [z.can,aQI]
   have m:code 43=1:=rfl;have p:code 45=2:=rfl;have i:code 111=3:=rfl;have j:code 119=4:=rfl;have u:code (-1)=5:=rfl;have v:code 1=7:=rfl;have x:code 0=6:=rfl;have e:n.out.length=0↔n.out=[]:=List.length_eq_zero_iff;subst b;unfold Rf.tries
   by_cases k:hs=true/\n.out.length=0
   ·rw [if_pos k,if_pos ⟨by rw [t,k.1];rfl,e.1 k.2⟩];simp only [List.find?,d,m,p,i,j];unfold sgnF
    cases fitS p0 q0 p1 q1 p2 q2 p3 q3 1<;>simp only [cond_true,cond_false]<;>try rfl
    cases fitS p0 q0 p1 q1 p2 q2 p3 q3 2<;>simp only [cond_true,cond_false]<;>try rfl
    cases fitS p0 q0 p1 q1 p2 q2 p3 q3 3<;>simp only [cond_true,cond_false]<;>try rfl
    cases fitS p0 q0 p1 q1 p2 q2 p3 q3 4<;>rfl
   ·rw [if_neg k,if_neg (fun h=>k ⟨by have:=h.1;rw [t] at this;simpa using this,e.2 h.2⟩)];simp only [List.find?,d,u,v,x];unfold digF
    cases fitS p0 q0 p1 q1 p2 q2 p3 q3 5<;>simp only [cond_true,cond_false]<;>try rfl
    cases fitS p0 q0 p1 q1 p2 q2 p3 q3 7<;>simp only [cond_true,cond_false]<;>try rfl
    cases fitS p0 q0 p1 q1 p2 q2 p3 q3 6<;>rfl
end Ab
open Go.RowKit
theorem aPy (w:World)(k o:Nat)(p:Option Addr)(h:w.cell? ⟨k,o+25,none⟩=some (.pointer p)):Calls Tryz.prog 220 #[.pointer (some ⟨k,o,none⟩)] w fun e w'=>e=.returned (.int .i64 (if p.isSome then 8 else 1))/\w'=w:=by
 cases p with
 | none=>
  go_enter Tryz.func220,Tryz.ntmps220
  go_wp2_with fail
  go_ret
  exact ⟨rfl,rfl⟩
 | some a=>
  go_enter Tryz.func220,Tryz.ntmps220
  go_wp2_with fail
  go_ret
  exact ⟨rfl,rfl⟩
namespace Ab
def digZ (s:Bool)(r:Int):Int:=bif s then (bif decide (r>0) then Wr (r-1) else r) else r
def sDg (s:Bool)(r:Int):AS:=⟨.val (.agg [.ptr 0 0,.sint .i64 r])::List.replicate 22 .und,[(0,ext [.sbool s] 205)],1,[],[]⟩
def sDn (r:Int):AS:=⟨.val (.agg [.lit (.pointer none),.sint .i64 r])::List.replicate 22 .und,[],0,[],[]⟩
theorem aQB (s:Bool)(r:Int):((run Z (tabSp []) (fun _=>none) (drawA Z (tabSp [])) (fun _=>false) 300 [.code (bodyOf Tryz.f221),.top Tryz.f221] (sDg s r)).bind outcome).bind (outN true)=some ([],.one (.i .i64 (digZ s r)),0):=by kernel_rfl
theorem aQE (r:Int):((run Z (tabSp []) (fun _=>none) (drawA Z (tabSp [])) (fun _=>false) 300 [.code (bodyOf Tryz.f221),.top Tryz.f221] (sDn r)).bind outcome).bind (outN true)=some ([],.one (.i .i64 r),0):=by kernel_rfl
theorem aTm {w:World}{k o:Nat}{s:Bool}{pre post:List Value}(r:Int)(c:w.heap[k]?=some (.cells (pre++[Value.bool s]++post).toArray 205 (0,0)))(t:pre.length=o):Calls Tryz.prog 221 #[.agg #[.pointer (some ⟨k,o,none⟩),.int .i64 r]] w fun e w'=>e=.returned (.int .i64 (digZ s r))/\Below w.heap.size w w':=by
 obtain ⟨u,f,g⟩:=bnd (aQB s r);obtain ⟨x,h,i⟩:=bnd f;refine aBo (vs:=[.agg [.ptr 0 0,.sint .i64 r]]) (args:=[.agg #[.pointer (some ⟨k,o,none⟩),.int .i64 r]]) (φ:=fun b=>bif b==0 then some (k,o) else none) (s:=sDg s r) (aAj Tryz.func221 rfl rfl) (aAd (l:=[]) trivial) nobody rfl ⟨⟨[.pointer (some ⟨k,o,none⟩),.int .i64 r],rfl,⟨k,o,rfl,rfl⟩,rfl,trivial⟩,trivial⟩ (aBh rfl ?_ ?_ ?_) h _ (aAV i (aCK g aAc (Nat.le_refl _))) ?_
 ·intro b B q;have:=aAy q;simp [sDg] at this;obtain ⟨rfl,rfl⟩:=this;exact ⟨rfl,rfl,rfl,k,o,rfl,pre,[.bool s],post,c,t,rfl,trivial⟩
 ·intro b a;have:1<=b:=a
  cases b with
  | zero=>omega
  | succ b=>rfl
 ·intro b C D a
  cases b with
  | zero=>cases a;exact aAL c
  | succ b=>cases a
 ·rintro y z φ v w' ⟨j,A,m,n⟩ hrel p;have d:v=_:=(n w' v (aCu m hrel)).2;rw [d];exact ⟨rfl,RepF.below p j⟩
theorem aTp (w:World)(r:Int):Calls Tryz.prog 221 #[.agg #[.pointer none,.int .i64 r]] w fun e w'=>e=.returned (.int .i64 r)/\Below w.heap.size w w':=by
 obtain ⟨n,c,d⟩:=bnd (aQE r);obtain ⟨p,f,g⟩:=bnd c;refine aBo (vs:=[.agg [.lit (.pointer none),.sint .i64 r]]) (args:=[.agg #[.pointer none,.int .i64 r]]) (φ:=fun _=>none) (s:=sDn r) (aAj Tryz.func221 rfl rfl) (aAd (l:=[]) trivial) nobody rfl ⟨⟨[.pointer none,.int .i64 r],rfl,⟨rfl,rfl⟩,rfl,trivial⟩,trivial⟩ (aBh rfl (fun b B hB=>by simp [sDn,look] at hB) (fun _ _=>rfl) (fun b k o e=>by cases e)) f _ (aAV g (aCK d aAc (Nat.le_refl _))) ?_;rintro q t φ v w' ⟨h,u,i,j⟩ hrel m;have a:v=_:=(j w' v (aCu i hrel)).2;rw [a];exact ⟨rfl,RepF.below m h⟩
def i64V:AC->Option Int
 | .int .i64 n=>some n
 | .sint .i64 n=>some n
 | _=>none
def lwO:Option AC->Option Int
 | some (.lit (.pointer none))=>some 1
 | some (.ptr _ _)=>some 8
 | _=>none
def spD:Spec:=fun f _ ν _ bx vs=>
 bif f==221 then (match vs with
  | [.agg [.lit (.pointer none),c]]=>(i64V c).map fun r=>([],.val (.one (.sint .i64 r)),[],none)
  | [.agg [.ptr b 0,c]]=>(i64V c).bind fun r=>(bx b).bind fun B=>bif B.ty==205 then (match B.cs with | .sbool s::_=>some ([],.val (.one (.sint .i64 (digZ s r))),[],none) | _=>none) else none
  | _=>none)
 else bif f==220 then (match vs with
  | [.one (.ptr b 0)]=>(bx b).bind fun B=>bif B.ty==205 then (lwO (B.cs[25]?)).map fun n=>([],.val (.one (.int .i64 n)),[],none) else none
  | _=>none)
 else none
theorem aL7 {φ:Nat->Option (Nat×Nat)}{ν:List (Int×Nat)}{w:World}{c:AC}{r:Int}{x:Value}(h:i64V c=some r)(a:relC Z φ ν w c x):x=.int .i64 r:=by
 unfold i64V at h;split at h
 ·cases h;exact a
 ·cases h;exact a
 ·cases h
theorem aT3 (w0:World)(ψ:Nat->Option (Nat×Nat)):SpecOk Z w0 ψ spD:=by
 intro f d ν id bx vs ν' r p al h;unfold spD at h
 cases h1:f==221 with
 | true=>
  have:f=221:=by simpa using h1
  subst this;rw [h1] at h;simp only [cond_true] at h;refine ⟨(aAj Tryz.func221 rfl rfl).en,?_⟩;split at h
  ·obtain ⟨n,N,O⟩:=mpd h;cases O;intro _ μ hμ φ w l _ _ _ g a;obtain ⟨x,rfl,I,rfl,A⟩:=aME a
   match I,A with
   | [u,v],⟨H,h3,_⟩=>
    have hu:u=.pointer none:=H.1;have L:=aL7 N h3;subst hu L;refine (aTp w n).mono ?_;rintro e X ⟨rfl,Y⟩;exact ⟨_,rfl,Y,rfl⟩
   | [_],⟨_,h⟩=>exact h.elim
   | _::_::_::_,⟨_,_,h⟩=>exact h.elim
  ·rename_i b c;obtain ⟨n,N,O⟩:=bnd h;obtain ⟨B,P,j⟩:=bnd O
   cases z:(B.ty==205) with
   | false=>rw [z] at j;cases j
   | true=>
    rw [z] at j;simp only [cond_true] at j;split at j
    ·rename_i s ae ab;cases j;intro _ μ hμ φ w l _ _ _ g a;obtain ⟨k,o,pre,q,post,R,t,S,J⟩:=g b B P;rw [ab] at J;obtain ⟨x,rfl,I,rfl,A⟩:=aME a
     match I,A,q,J,t with
     | [u,v],⟨⟨k',o',D,T⟩,h3,_⟩,y::q,⟨k1,_⟩,t=>
      rw [R] at D;cases D;have L:=aL7 N h3;have A:y=.bool s:=k1;subst L A T
      have M:B.ty=205:=by simpa using z
      rw [M] at t;refine (aTm (pre:=pre) (post:=q++post) n (by simpa using t) S).mono ?_;rintro e X ⟨rfl,Y⟩;exact ⟨_,rfl,Y,rfl⟩
     | [_],⟨_,h⟩,_,_,_=>exact h.elim
     | _::_::_::_,⟨_,_,h⟩,_,_,_=>exact h.elim
    ·cases j
  ·cases h
 | false=>
  rw [h1] at h;simp only [cond_false] at h
  cases H:f==220 with
  | false=>rw [H] at h;cases h
  | true=>
   have:f=220:=by simpa using H
   subst this;rw [H] at h;simp only [cond_true] at h;refine ⟨(aAj Tryz.func220 rfl rfl).en,?_⟩;split at h
   ·rename_i b;obtain ⟨B,P,j⟩:=bnd h
    cases z:(B.ty==205) with
    | false=>rw [z] at j;cases j
    | true=>
     rw [z] at j;simp only [cond_true] at j
     have C:∀ (φ:Nat->Option (Nat×Nat)) (μ:List (Int×Nat)) (w:World) (l:List Value) (c:AC),B.cs[25]?=some c->BxOk Z φ μ w bx->All2 (relV Z φ μ w) [.one (.ptr b 0)] l->∃ k o x,l=[.pointer (some ⟨k,o,none⟩)]/\relC Z φ μ w c x/\w.cell? ⟨k,o+25,none⟩=some x:=by
      intro φ μ w l c F g a;obtain ⟨k,o,pre,I,post,R,t,S,J⟩:=g b B P;obtain ⟨x,rfl,k',o',D,T⟩:=aME a;rw [R] at D;cases D;obtain ⟨y,U,W⟩:=J.at F;refine ⟨k,o,y,by rw [T];rfl,W,?_⟩;rw [aD4 t,<-S];exact aM3 U
     obtain ⟨nn,E,e6⟩:=mpd j;cases e6;unfold lwO at E;split at E
     ·rename_i F;cases E;intro _ μ hμ φ w l _ _ _ g a;obtain ⟨k,o,x,rfl,m,i⟩:=C φ μ w l _ F g a;have m:x=.pointer none:=m.1;subst m;refine (aPy w k o none i).mono ?_;rintro e X ⟨rfl,rfl⟩;exact ⟨_,rfl,Below.refl _ _,rfl⟩
     ·rename_i b' af F;cases E;intro _ μ hμ φ w l _ _ _ g a;obtain ⟨k,o,x,rfl,m,i⟩:=C φ μ w l _ F g a;obtain ⟨k2,o2,_,m⟩:=m;subst m;refine (aPy w k o _ i).mono ?_;rintro e X ⟨rfl,rfl⟩;exact ⟨_,rfl,Below.refl _ _,rfl⟩
     ·cases E
   ·cases h
end Ab
open Go.RowKit
namespace Ab
def fWid2:List G->Option RG
 | [.ns [p0,q0,p1,q1,p2,q2,p3,q3],.i .i64 t]=>bif decide (t.natAbs<100) then some (.one (.i .i64 (widthsZ p0 q0 p1 q1 p2 q2 p3 q3 t))) else none
 | _=>none
theorem aRS:TEok Z 219 (teN true fWid2 noNd 0 [15,0]):=by
 refine aHS aPi ?_;intro c b h d e;unfold fWid2 at h;split at h
 ·rename_i f g i j k l m n t
  cases a:decide (t.natAbs<100) with
  | false=>rw [a] at h;cases h
  | true=>
   rw [a] at h;cases h
   have:t.natAbs<100:=by simpa using a
   exact ⟨rfl,aAe (by omega) aAc⟩
 ·cases h
noncomputable def tR:List (FuncId×TE):=(219,teN true fWid2 noNd 0 [15,0])::tN
theorem aVc:AllTE Z tR:=⟨aRS,aAW⟩
def wsB:Option Bool->Int->Bool->Bool->Bool
 | none,_,_,k=>k
 | some s,r,v,k=>bif s then (bif r==0 then v else k) else k
def dgO:Option Bool->Int->Int
 | none,r=>r
 | some s,r=>digZ s r
def rlK (p0 q0 p1 q1 p2 q2 p3 q3 t:Int)(x:Bool):Bool:=bif fitZ p0 q0 p1 q1 p2 q2 p3 q3 1 0 0 1 then (bif widthsZ p0 q0 p1 q1 p2 q2 p3 q3 t==1 then true else bif widthsZ p0 q0 p1 q1 p2 q2 p3 q3 t==-1 then false else x) else x
def wgt:Bool->Int
 | false=>1
 | true=>8
def readsZ (p0 q0 p1 q1 p2 q2 p3 q3:Int)(l r:Option Bool)(n:Bool)(lr rr:Int):Bool:=
 match l with
 | none=>false
 | some ls=>wsB (some ls) lr true (wsB r rr false (rlK p0 q0 p1 q1 p2 q2 p3 q3 (wgt n) (decide (dgO (some ls) lr<=dgO r rr))))
noncomputable def readsRun (zs:List Int)(hs:Bool)(l r:Option Bool)(g:Option Nat)(c n:Bool)(uns mt lr rr pl:Int):Option Tr:=run Z (orSp spD (tabSp tR)) bN (drawA Z (orSp spD (tabSp tR))) (fun _=>false) 2000 [.code (bodyOf Tryz.f208),.top Tryz.f208] (sNd zs hs l r g c n uns mt lr rr pl 45)
theorem aKO (p0 q0 p1 q1 p2 q2 p3 q3:Int)(hs:Bool)(l r:Option Bool)(g:Option Nat)(c n:Bool)(uns mt lr rr pl:Int):((readsRun [p0,q0,p1,q1,p2,q2,p3,q3] hs l r g c n uns mt lr rr pl).bind outcome).bind (outN true)=some ([],.one (.b (readsZ p0 q0 p1 q1 p2 q2 p3 q3 l r n lr rr)),0):=by
 cases l with
 | none=>kernel_rfl
 | some ls=>
  cases r with
  | none=>cases n<;>cases g<;>cases c<;>kernel_rfl
  | some rs=>cases n<;>cases g<;>cases c<;>kernel_rfl
theorem aIB {w:World}{k:Nat}{p0 q0 p1 q1 p2 q2 p3 q3:Int}{hs:Bool}{l r:Option (Nat×Bool)}{g:Option (Nat×Nat)}{c f:Option Nat}{uns mt lr rr pl:Int}{lp rp gv cv nv:Value}(h:NodeAt w k [p0,q0,p1,q1,p2,q2,p3,q3] hs uns mt lr rr pl lp rp gv cv nv)(d:∀ z∈[p0,q0,p1,q1,p2,q2,p3,q3],Bits 10 z)(i:ArgAt w l lp)(j:ArgAt w r rp)(m:GivAt w g gv)(o:ExtAt w 224 c cv)(p:ExtAt w 273 f nv):
  Calls Tryz.prog 208 #[.pointer (some ⟨k,0,none⟩)] w fun e w'=>e=.returned (.bool (readsZ p0 q0 p1 q1 p2 q2 p3 q3 (l.map (·.2)) (r.map (·.2)) f.isSome lr rr))/\Below w.heap.size w w':=by
 have W:=aKO p0 q0 p1 q1 p2 q2 p3 q3 hs (l.map (·.2)) (r.map (·.2)) (g.map (·.2)) c.isSome f.isSome uns mt lr rr pl;unfold readsRun at W
 have a:Tryz.f208.ntmps-1=45:=by kernel_rfl
 refine (aJs (sp:=orSp spD (tabSp tR)) (bodies:=bN) (n:=2000) (nt:=45) (fn:=Tryz.f208) (aAj Tryz.func208 rfl rfl) (fun _ _=>aFh (aT3 _ _) (aAd aVc)) aS2 h rfl d i j m o p a W aAc).mono ?_;rintro e w' ⟨v,rfl,b,d⟩;have b:v=_:=b.2;rw [b];exact ⟨rfl,d⟩
end Ab
open Go.RowKit
namespace Ab
theorem aJe (p:Int):(Nm.cmp p 0==0)=decide (p=0):=by
 rcases Int.lt_trichotomy p 0 with h | h | h
 ·rw [Nm.aAC h,decide_eq_false (by omega)];rfl
 ·rw [Nm.aAz h,decide_eq_true h];rfl
 ·rw [Nm.aAt h,decide_eq_false (by omega)];rfl
theorem aNc (p q:Int):sumZ p q=Pg.sumC (p,q):=by
 unfold sumZ Pg.sumC;rw [aJe,aJe]
 by_cases a:p=0
 ·by_cases b:q=0
  ·simp [a,b]
  ·simp [a,b]
 ·simp [a]
theorem aKS (a b c d e f rp g:Int):scaledZ a b c d e f rp g=Pg.scaled (a,b) (c,d) (e,f) (rp,g):=by
 unfold scaledZ Pg.scaled;rw [aNc,aNc]
theorem aTA (a b:Int):grZ a b=Pg.wmax a b:=by
 unfold grZ Pg.wmax
 rcases Int.lt_trichotomy a b with h | h | h
 ·rw [Nm.aAC h,if_pos h];rfl
 ·rw [Nm.aAz h,if_neg (by omega)];rfl
 ·rw [Nm.aAt h,if_neg (by omega)];rfl
theorem aK1 (p0 q0 p1 q1 p2 q2 p3 q3 t:Int):widthsZ p0 q0 p1 q1 p2 q2 p3 q3 t=Pg.widths [(p0,q0),(p1,q1),(p2,q2),(p3,q3)] t:=by
 unfold widthsZ Pg.widths;simp only [aTA,aKS]
theorem aQH (p0 q0 p1 q1 p2 q2 p3 q3:Int):fitZ p0 q0 p1 q1 p2 q2 p3 q3 1 0 0 1=Nw.fits [(p0,q0),(p1,q1),(p2,q2),(p3,q3)]:=by
 rw [aLM];have:∀ v:Rf.V,Rf.vag ⟨1,0,0,1⟩ v=v:=Pg.aC7;simp only [List.map_cons,List.map_nil,this]
def dgR:Option Bool->Nat->Option Nat
 | none,_=>some 0
 | some s,r=>if s then (if r=0 then none else some (r-1)) else some r
theorem aPo {l:Option Bool}{r a:Nat}(b:l=none->r=0)(hs:r<=1000000)(h:dgR l r=some a):dgO l r=(a:Int):=by
 cases l with
 | none=>simp [dgR] at h;subst h;rw [b rfl];rfl
 | some s=>
  unfold dgR at h;show digZ s r=(a:Int);unfold digZ
  cases s with
  | false=>simp at h;subst h;rfl
  | true=>
   simp at h;obtain ⟨c,d⟩:=h;rw [decide_eq_true (by omega:(r:Int)>0),cond_true,cond_true,aAv (by omega) (by omega)];omega
theorem aKc {l:Option Bool}{r:Nat}{v k:Bool}(h:dgR l r=none):wsB l r v k=v:=by
 cases l with
 | none=>simp [dgR] at h
 | some s=>
  unfold dgR at h
  cases s with
  | false=>simp at h
  | true=>simp at h;subst h;rfl
theorem aKd {l:Option Bool}{r a:Nat}{v k:Bool}(h:dgR l r=some a):wsB l r v k=k:=by
 cases l with
 | none=>rfl
 | some s=>
  unfold dgR at h
  cases s with
  | false=>rfl
  | true=>
   simp at h
   have:((r:Int)==0)=false:=by rw [beq_eq_false_iff_ne];omega
   simp [wsB,this]
theorem aOD {ns:List Rf.Nd}{n:Rf.Nd}{d:List Rf.V}{p0 q0 p1 q1 p2 q2 p3 q3:Int}{m:Bool}{r:Option Bool}{lr rr:Nat}{sd:Nat}(B:n.t.length=4)(x:Rf.corners ns n=some d)(o:d.length=4)(q:Pg.Cof d [(p0,q0),(p1,q1),(p2,q2),(p3,q3)])(y:lr<=1000000)(z:rr<=1000000)(p:r=none->rr=0)(A:Rf.digits ns n 0=some (dgR (some m) lr))(d1:Rf.digits ns n 1=some (dgR r rr))(hs:Rf.side ns n=some sd):
  readsZ p0 q0 p1 q1 p2 q2 p3 q3 (some m) r n.nest lr rr=decide (sd=0):=by
 unfold Rf.side at hs;rw [if_neg (by omega),A] at hs;simp only [Option.bind_some] at hs;unfold readsZ;simp only
 cases g:dgR (some m) lr with
 | none=>
  rw [g] at hs;simp at hs;subst hs;rw [aKc g];rfl
 | some a=>
  rw [g] at hs;rw [aKd g];simp only at hs;rw [d1] at hs;simp only [Option.bind_some] at hs
  cases i:dgR r rr with
  | none=>
   rw [i] at hs;simp at hs;subst hs;rw [aKc i];rfl
  | some b=>
   rw [i] at hs;rw [aKd i];simp only [x,Option.map_some,Option.some.injEq] at hs;rw [aPo (by intro h;cases h) y g,aPo p z i];unfold rlK;rw [aQH,aK1,<-q.fits]
   have s:((wgt n.nest):Int)=(if n.nest then 8 else 1):=by cases n.nest<;>rfl
   rw [s]
   have j:decide ((a:Int)<=(b:Int))=decide (a<=b):=by rw [decide_eq_decide];omega
   rw [j]
   cases f:Nw.fits d with
   | false=>
    rw [f] at hs;simp at hs;rw [cond_false]
    by_cases e:a<=b
    ·simp [e] at hs ⊢;exact hs.symm
    ·simp [e] at hs ⊢;omega
   | true=>
    rw [f] at hs;simp only [if_true] at hs;rw [cond_true,<-q.wider o f];generalize Rf.wider (if n.nest=true then 8 else 1) d=c at*
    by_cases k:c=1
    ·subst k;simp at hs;subst hs;rfl
    ·by_cases l:c=-1
     ·subst l;simp at hs;subst hs;rfl
     ·have u:(c==1)=false:=by rw [beq_eq_false_iff_ne];exact k
      have v:(c==-1)=false:=by rw [beq_eq_false_iff_ne];exact l
      rw [u,v,cond_false,cond_false];rw [if_neg k,if_neg l] at hs
      by_cases e:a<=b
      ·rw [if_pos e] at hs;subst hs;simp [e]
      ·rw [if_neg e] at hs;subst hs;simp [e]
end Ab
open Go.RowKit
def cfAt (len k:Nat):Nat:=if k=0 then 0 else 1+(k-1)%(len-1)
theorem aKi (w:World)(g cap len k:Nat)(t:Int)(x:2<=len)(b:len<=1000000)(y:k<=1000000)(a:w.cell? ⟨g,cfAt len k,none⟩=some (.int .i64 t)):Calls Tryz.prog 229 #[.slice (some ⟨g,0,none⟩) len cap,.int .i64 k] w fun e w'=>e=.returned (.int .i64 t)/\w'=w:=by
 have i:¬((len:Int)-1<1):=by omega
 have l:¬((k:Int)<0):=by omega
 rcases Nat.eq_zero_or_pos k with rfl | hp
 ·have a:w.cell? ⟨g,0,none⟩=some (.int .i64 t):=a
  have m:(0:Int)<len:=by omega
  have n:0<len:=by omega
  go_enter Tryz.func229,Tryz.ntmps229
  go_wp2_with fail
  go_ret
  exact ⟨rfl,rfl⟩
 ·have c:cfAt len k=1+(k-1)%(len-1):=by unfold cfAt;rw [if_neg (by omega)]
  rw [c] at a;have o:=Nat.mod_lt (k-1) (show 0<len-1 by omega)
  have p:((k:Int)-1).tmod ((len:Int)-1)=(((k-1)%(len-1):Nat):Int):=by
   rw [Int.tmod_eq_emod_of_nonneg (by omega)]
   have d:(k:Int)-1=((k-1:Nat):Int):=by omega
   have f:(len:Int)-1=((len-1:Nat):Int):=by omega
   rw [d,f,Int.natCast_emod]
  generalize (k-1)%(len-1)=j at*;have q:((k:Int)==0)=false:=beq_eq_false_iff_ne.2 (by omega)
  have h:¬((len:Int)-1=0):=by omega
  have r:(((len:Int)-1)==0)=false:=beq_eq_false_iff_ne.2 h
  have s:(1:Int)+(j:Int)<len:=by omega
  have u:((1:Int)+(j:Int)).toNat=1+j:=by omega
  have v:(0:Int)<=1+(j:Int):=by omega
  go_enter Tryz.func229,Tryz.ntmps229
  go_wp2_with fail
  go_ret
  exact ⟨rfl,rfl⟩
open Go.RowKit
namespace Ab
def sCon (kd:Int)(zs:List Int)(k:Int):AS:=⟨.val (.one (.ptr 0 0))::.val (.one (.sint .i64 k))::List.replicate 34 .und,[(0,ext (.int .i64 kd::.any::numCs true 0 8) 224)],1,zs.map fun z=>(z,1),[]⟩
noncomputable def bC:FuncId->Option Func:=fun f=>bif f==230 then some Tryz.f230 else none
theorem aQg:BodiesOk Z bC:=by
 intro f b h;unfold bC at h
 cases a:f==230 with
 | true=>
  rw [a] at h;cases h
  have:f=230:=by simpa using a
  subst this;exact ⟨(aAj Tryz.func230 rfl rfl).at',(aAj Tryz.func230 rfl rfl).en⟩
 | false=>rw [a] at h;cases h
noncomputable def conRun (kd:Int)(zs:List Int)(k:Int):Option (List Prop×RG×Nat):=((run Z (tabSp tN) bC (drawA Z (tabSp tN)) (fun _=>false) 2000 [.code (bodyOf Tryz.f216),.top Tryz.f216] (sCon kd zs k)).bind outcome).bind (outN true)
def serL (kd p q s r k:Int):List Int:=
 [bif decide (k>0) then (bif (kd==13)||(kd==11) then 0 else 0) else 0,bif decide (k>0) then (bif (kd==13)||(kd==11) then s*fac1 kd k else p*fac1 kd k) else p*fac1 kd k,
  bif decide (k>0) then (bif (kd==13)||(kd==11) then r else q) else q,bif decide (k>0) then (bif (kd==13)||(kd==11) then r*fac2 kd k else q*fac2 kd k) else q*fac2 kd k]
def serN (kd k:Int):List Prop:=
 [decide (k>0)=true->((kd==13)||(kd==11))=true->(fac1 kd k).natAbs<1000000000000000000,decide (k>0)=true->((kd==13)||(kd==11))=true->(fac2 kd k).natAbs<1000000000000000000,
  decide (k>0)=true->((kd==13)||(kd==11))=false->(fac1 kd k).natAbs<1000000000000000000,decide (k>0)=true->((kd==13)||(kd==11))=false->(fac2 kd k).natAbs<1000000000000000000,
  decide (k>0)=false->(fac1 kd k).natAbs<1000000000000000000,decide (k>0)=false->(fac2 kd k).natAbs<1000000000000000000]
section
variable (p q s r a b c d k:Int)
theorem con2:conRun 2 [p,q,s,r,a,b,c,d] k=some ([0<=k/\k<=100000000],.one (.ns [bif k==0 then 0 else 0,bif k==0 then 4 else Wr (k*k),bif k==0 then 1 else 1,bif k==0 then 1 else Wr (Wr (2*k)+1)]),1):=by kernel_rfl
theorem con3:conRun 3 [p,q,s,r,a,b,c,d] k=some ([(eterm k).natAbs<1000000000000000000],.one (.ns [eterm k,1,1,0]),1):=by kernel_rfl
theorem con10:conRun 10 [p,q,s,r,a,b,c,d] k=some ([],.one (.ns [a,b,c,d]),1):=by kernel_rfl
theorem con11:conRun 11 [p,q,s,r,a,b,c,d] k=some (serN 11 k,.one (.ns (serL 11 p q s r k)),2):=by kernel_rfl
theorem con12:conRun 12 [p,q,s,r,a,b,c,d] k=some (serN 12 k,.one (.ns (serL 12 p q s r k)),2):=by kernel_rfl
theorem con13:conRun 13 [p,q,s,r,a,b,c,d] k=some (serN 13 k,.one (.ns (serL 13 p q s r k)),2):=by kernel_rfl
end
theorem aPr {kd:Int}{a:Rf.Op}{k:Nat}(s:k<=1000000)(h:(kd=11/\a=.exp)\/(kd=12/\a=.ln1p)\/(kd=13/\a=.atan)):fac1 kd k=(Rf.shape a k).1/\fac2 kd k=(Rf.shape a k).2:=by
 have q:(k:Int)*k<=1000000*1000000:=Int.mul_le_mul (by omega) (by omega) (by omega) (by omega);have d:0<=(k:Int)*k:=Int.mul_nonneg (by omega) (by omega);have e:Wr ((k:Int)*k)=(k:Int)*k:=aAv (by omega) (by omega);have f:Wr (4*(k:Int))=4*k:=aAv (by omega) (by omega);have g:Wr (4*(k:Int)+2)=4*k+2:=aAv (by omega) (by omega);have i:Wr (2*(k:Int))=2*k:=aAv (by omega) (by omega);have j:Wr (2*(k:Int)+1)=2*k+1:=aAv (by omega) (by omega);have l:Wr ((k:Int)+1)=k+1:=aAv (by omega) (by omega)
 have m:((k:Int)+1).tdiv 2=(((k+1)/2:Nat):Int):=by
  rw [Int.tdiv_eq_ediv_of_nonneg (by omega)];omega
 have n:Wr ((((k+1)/2:Nat):Int))=(((k+1)/2:Nat):Int):=aAv (by omega) (by omega);have r:(((k+1)/2:Nat):Int)*(((k+1)/2:Nat):Int)<=1000000*1000000:=Int.mul_le_mul (by omega) (by omega) (by omega) (by omega);have o:0<=(((k+1)/2:Nat):Int)*(((k+1)/2:Nat):Int):=Int.mul_nonneg (by omega) (by omega);have p:Wr ((((k+1)/2:Nat):Int)*(((k+1)/2:Nat):Int))=(((k+1)/2:Nat):Int)*(((k+1)/2:Nat):Int):=aAv (by omega) (by omega)
 by_cases b:k=0
 ·subst b
  rcases h with ⟨rfl,rfl⟩ | ⟨rfl,rfl⟩ | ⟨rfl,rfl⟩<;>exact ⟨rfl,rfl⟩
 ·have c:((k:Int)==0)=false:=beq_eq_false_iff_ne.2 (by omega)
  rcases h with ⟨rfl,rfl⟩ | ⟨rfl,rfl⟩ | ⟨rfl,rfl⟩
  ·refine ⟨rfl,?_⟩;show Wr (Wr (4*(k:Int))+2)=((4*k+2:Nat):Int);rw [f,g];omega
  ·unfold fac1 fac2 Rf.shape;simp only [c,b,if_true,if_false,show ((12:Int)==11)=false from rfl,show ((12:Int)==13)=false from rfl,cond_false,l,m,n,p]
   refine ⟨?_,?_⟩<;>simp
  ·unfold fac1 fac2 Rf.shape;simp only [c,b,if_true,if_false,show ((13:Int)==11)=false from rfl,show ((13:Int)==13)=true from rfl,cond_false,cond_true,e,i,j,reduceCtorEq]
   refine ⟨?_,?_⟩<;>simp
end Ab
open Go.RowKit
namespace Ab
theorem aT0 {n:Rf.Nd}{kd p q s r g h:Int}{k:Nat}(x:k<=1000000)(i:(kd=11/\n.op=.exp)\/(kd=12/\n.op=.ln1p)\/(kd=13/\n.op=.atan))(y:0<g)(z:0<h)(A:n.p=g*p)(B:n.q=g*q)(C:n.p*n.p=h*s)(D:n.q*n.q=h*r):∃ f a b c d,0<f/\serL kd p q s r k=[a,b,c,d]/\Rf.constant n k=some (Pg.msc f ⟨a,b,c,d⟩):=by
 obtain ⟨t,u⟩:=aPr x i
 have l:Rf.constant n k=some (if n.op≠.ln1p/\0<k then ⟨0,(Rf.shape n.op k).1*(n.p*n.p),n.q*n.q,(Rf.shape n.op k).2*(n.q*n.q)⟩ else ⟨0,(Rf.shape n.op k).1*n.p,n.q,(Rf.shape n.op k).2*n.q⟩):=by
  unfold Rf.constant
  rcases i with ⟨_,e⟩ | ⟨_,e⟩ | ⟨_,e⟩<;>rw [e]
 by_cases j:n.op≠.ln1p/\0<k
 ·rw [if_pos j] at l
  have m:((kd==13)||(kd==11))=true:=by
   rcases i with ⟨rfl,_⟩ | ⟨rfl,e⟩ | ⟨rfl,_⟩
   ·rfl
   ·exact absurd e j.1
   ·rfl
  refine ⟨h,0,s*fac1 kd k,r,r*fac2 kd k,z,?_,?_⟩
  ·unfold serL;rw [decide_eq_true (by omega:(k:Int)>0),m];rfl
  ·rw [l,t,u,C,D];unfold Pg.msc
   congr 2<;>simp only<;>grind
 ·rw [if_neg j] at l
  have m:serL kd p q s r k=[0,p*fac1 kd k,q,q*fac2 kd k]:=by
   unfold serL
   by_cases v:k=0
   ·subst v;rfl
   ·have:n.op=.ln1p:=by
     rcases i with ⟨_,e⟩ | ⟨_,e⟩ | ⟨_,e⟩
     ·exact absurd ⟨by rw [e];decide,by omega⟩ j
     ·exact e
     ·exact absurd ⟨by rw [e];decide,by omega⟩ j
    have o:kd=12:=by
     rcases i with ⟨_,e⟩ | ⟨e,_⟩ | ⟨_,e⟩
     ·rw [e] at this;cases this
     ·exact e
     ·rw [e] at this;cases this
    subst o
    cases decide ((k:Int)>0)<;>rfl
  refine ⟨g,0,p*fac1 kd k,q,q*fac2 kd k,y,m,?_⟩;rw [l,t,u,A,B];unfold Pg.msc
  congr 2<;>simp only<;>grind
theorem aVa {n:Rf.Nd}{k:Nat}(i:k<=1000000)(a:n.op=.pi):Rf.constant n k=some ⟨bif (k:Int)==0 then 0 else 0,bif (k:Int)==0 then 4 else Wr ((k:Int)*k),bif (k:Int)==0 then 1 else 1,bif (k:Int)==0 then 1 else Wr (Wr (2*(k:Int))+1)⟩:=by
 have h:(k:Int)*k<=1000000*1000000:=Int.mul_le_mul (by omega) (by omega) (by omega) (by omega);have c:0<=(k:Int)*k:=Int.mul_nonneg (by omega) (by omega);have d:Wr ((k:Int)*k)=(k:Int)*k:=aAv (by omega) (by omega);have e:Wr (2*(k:Int))=2*k:=aAv (by omega) (by omega);have f:Wr (2*(k:Int)+1)=2*k+1:=aAv (by omega) (by omega);unfold Rf.constant;rw [a]
 by_cases b:k=0
 ·subst b;rfl
 ·have g:((k:Int)==0)=false:=beq_eq_false_iff_ne.2 (by omega);simp only [b,if_false,g,cond_false,d,e,f];simp
theorem e_eq {n:Rf.Nd}{k:Nat}(m:k<=1000000)(b:n.op=.e):Rf.constant n k=some ⟨eterm k,1,1,0⟩:=by
 have f:Wr ((k:Int)+1)=k+1:=aAv (by omega) (by omega);have g:Wr (2*((k:Int)+1))=2*(k+1):=aAv (by omega) (by omega);have h:(2*((k:Int)+1)).tdiv 3=2*(k+1)/3:=Int.tdiv_eq_ediv_of_nonneg (by omega);have i:Wr (2*((k:Int)+1)/3)=2*(k+1)/3:=aAv (by omega) (by omega);have j:(k:Int).tmod 3=(k:Int)%3:=Int.tmod_eq_emod_of_nonneg (by omega);unfold Rf.constant;rw [b];simp only;congr 2;unfold Rf.eterm eterm
 by_cases c:k=0
 ·subst c;rfl
 ·have l:((k:Int)==0)=false:=beq_eq_false_iff_ne.2 (by omega);rw [if_neg c,l,cond_false,j,f,g,h,i]
  by_cases d:k%3=2
  ·have a:((k:Int)%3==2)=true:=by rw [beq_iff_eq];omega
   rw [if_pos d,a,cond_true];omega
  ·have a:((k:Int)%3==2)=false:=by rw [beq_eq_false_iff_ne];omega
   rw [if_neg d,a,cond_false]
end Ab
open Go.RowKit
namespace Ab
def wrt (cs:List AC)(ty:TypeId):Box:=⟨cs,ty,false,false,false⟩
theorem aJI {C:Cfg}{w:World}{φ:Nat->Option (Nat×Nat)}{s:AS}(t:s.dirty=[])(f:∀ b B,look s.boxes b=some B->B.own=false/\B.tip=false/\∃ k o,φ b=some (k,o)/\Seg C φ s.nums w k o B.ty B.cs)(n:∀ b b' B B' k o o',look s.boxes b=some B->look s.boxes b'=some B'->φ b=some (k,o)->φ b'=some (k,o')->b=b'\/(B.ro=true/\B'.ro=true))(p:∀ b,s.next<=b->φ b=none)(q:∀ b k o,φ b=some (k,o)->k<w.heap.size):RepW C w φ φ s w:=by
 refine ⟨fun b B hB=>?_,fun b B k o hB ho=>?_,fun b b' B B' k o o' d c i j=>?_,fun b B hB ht=>?_,p,q,fun k _ _=>rfl,On.refl _ _,fun b x e=>e,fun b B k o d c=>(by rw [(f b B d).1] at c;cases c)⟩
 ·obtain ⟨_,_,k,o,d,h,m,g,c,i,j⟩:=f b B hB;exact ⟨k,o,h,m,g,d,c,i,j⟩
 ·have:=(f b B hB).1;rw [ho] at this;cases this
 ·obtain ⟨_,l,_⟩:=f b B d;obtain ⟨_,r,_⟩:=f b' B' c
  rcases n b b' B B' k o o' d c i j with e | ⟨r1,r2⟩
  ·exact Or.inl e
  ·exact Or.inr ⟨r1,r2,fun ⟨a,_⟩=>(by rw [l] at a;cases a),fun a=>(by rw [l] at a;cases a)⟩
 ·have:=(f b B hB).2.1;rw [ht] at this;cases this
inductive WT where
 | ret (r:AT) (s:AS)
 | br (t:Bool) (a b:WT)
 | need (p:List Prop) (o:WT)
theorem aRq {w0 w:World}{ψ φ:Nat->Option (Nat×Nat)}{s:AS}{rb:List Nat}(l:Holds (rebP s.nums rb))(a:RepW Z w0 ψ φ s w):RepW Z w0 ψ φ (rebS rb s) w:=by
 refine ⟨?_,a.own,a.inj,a.tip,a.fresh,a.lt,a.low,a.on,a.base,a.exa⟩;intro b B j;obtain ⟨k,o,d,e,c,f,g,h,i⟩:=a.box b B j;exact ⟨k,o,d,e,c,f,g,h,i.mono (aGH l)⟩
end Ab
open Go.RowKit
namespace Ab
def opCalls (f:FuncId)(o:Oper):Bool:=
 match o.op with
 | .call { callee:=.value (.func g),..}=>g==f
 | _=>false
def opApp (o:Oper):Bool:=
 match o.op with
 | .call { callee:=.builtin .append,..}=>true
 | _=>false
def atOp (p:Oper->Bool):List (K (List AT))->Bool
 | .ops all (i::_)::_=>match all[i]? with | some o=>p o | none=>false
 | _=>false
def idxOp (p:Oper->Bool):List Oper->Nat->Option Nat
 | [],_=>none
 | o::r,i=>bif p o then some i else idxOp p r (i+1)
def contOp (p:Oper->Bool):Code->List (K (List AT))->Option (List (K (List AT)))
 | .region _ ops false,ks=>(idxOp p ops.toList 0).map fun j=>.ops ops ((List.range ops.size).drop (j+1))::ks
 | .seq a b,ks=>match contOp p a (.code b::ks) with | some r=>some r | none=>contOp p b ks
 | .block id b,ks=>contOp p b (.blk id::ks)
 | .cond _ a b,ks=>match contOp p a ks with | some r=>some r | none=>contOp p b ks
 | _,_=>none
def aft (p:Oper->Bool)(fn:Func):List (K (List AT)):=(contOp p (bodyOf fn) [.top fn]).getD []
def callAt (C:Cfg)(s:AS):List (K (List AT))->Option (FuncId×List AV×Option Tmp×List (K (List AT)))
 | .ops all (i::rest)::ks=>(all[i]?).bind fun o=>
  match gd all s.tmps o with
  | .yes=>match evalOp C.P (evO s.tmps) (look s.boxes) o.op with
   | some (.call f vs)=>some (f,vs,o.dst,.ops all rest::ks)
   | _=>none
  | _=>none
 | _=>none
theorem aAx {C:Cfg}{R:Ending->World->Prop}{w0:World}{ψ φ:Nat->Option (Nat×Nat)}{s:AS}{a:Act}{w:World}{ks ks2:List (K (List AT))}{kcs:List (K Act)}{f:FuncId}{vs:List AV}{dst:Option Tmp}(h:callAt C s ks=some (f,vs,dst,ks2))(l:Enters C.P f)(g:noFr ks=true){φ1:Nat->Option (Nat×Nat)}{ν1:List (Int×Nat)}{w1:World}(m:SR C φ1 ν1 w1 ks kcs)(n:Rep C w0 ψ φ s a w)
  (H:∀ xs:List Value,All2 (relV C φ s.nums w) vs xs->Calls C.P f xs.toArray w fun e w'=>∃ v,e=.returned v/\∀ kcs2,noFr ks2=true->(∀ φ' ν' w'',SR C φ' ν' w'' ks2 kcs2)->sem C.P R kcs2 .normal (a.put dst v) w'):sem C.P R kcs .normal a w:=by
 unfold callAt at h;split at h
 ·rename_i all i b j;obtain ⟨o,q,d⟩:=bnd h;split at d
  ·rename_i x;split at d
   ·rename_i y k z;cases d
    match kcs,m with
    | .ops all' r'::kcs',⟨e1,e2,hsr2⟩=>
     subst e1 e2;show wpOps C.P all' (sem C.P R kcs') (i::b) a w;rw [wpOps_cons];have p:=aL0 (all:=all') (o:=o) n.tmps;rw [x] at p;obtain ⟨xs,r,t⟩:=aAZ (o:=o) (aB2 n.tmps) n.wd.box (fun _=>rfl) (fun y k e=>by cases e;exact l) z;unfold wpOp;simp only [q];rw [if_pos p];refine Or.inl ?_;unfold Oper.wp;rw [r];show Calls C.P f xs.toArray w _;refine (H xs t).mono ?_;rintro e w' ⟨v,rfl,u⟩
     have c:noFr j=true:=by simpa [noFr] using g
     exact u (.ops all' b::kcs') (by simpa [noFr] using g) fun φ' ν' w''=>⟨rfl,rfl,SR.any c hsr2⟩
   ·cases d
  ·cases d
 ·cases h
def keepC (kb:List Nat):AC->Bool
 | .int _ _=>true
 | .bool _=>true
 | .sint _ _=>true
 | .sbool _=>true
 | .lit _=>true
 | .ptr b _=>kb.contains b
 | _=>false
def keepT (kb kt:List Nat):Nat->List AT->List AT
 | _,[]=>[]
 | i,t::r=>(bif kt.contains i then (match t with | .val (.one c)=>bif keepC kb c then t else .top | .und=>.und | _=>.top) else .top)::keepT kb kt (i+1) r
theorem aMf {C:Cfg}{φ a:Nat->Option (Nat×Nat)}{ν f:List (Int×Nat)}{w w2:World}{kb:List Nat}{c:AC}{x:Value}(h:keepC kb c=true)(g:∀ b,kb.contains b=true->a b=φ b)(r:relC C φ ν w c x):relC C a f w2 c x:=by
 cases c<;>simp only [keepC] at h<;>try (first | exact r | cases h)
 obtain ⟨k,o,d,e⟩:=r;exact ⟨k,o,by rw [g _ h];exact d,e⟩
theorem aHq {C:Cfg}{φ φ2:Nat->Option (Nat×Nat)}{ν ν2:List (Int×Nat)}{w w2:World}{kb kt:List Nat}(hφ:∀ b,kb.contains b=true->φ2 b=φ b):∀ (i:Nat) (ts:List AT) (xs:List Value),All2 (relT C φ ν w) ts xs->All2 (relT C φ2 ν2 w2) (keepT kb kt i ts) xs
 | _,[],[],_=>trivial
 | _,[],_::_,h=>h.elim
 | _,_::_,[],h=>h.elim
 | i,t::r,x::xs,⟨h1,h2⟩=>by
  refine ⟨?_,aHq hφ (i+1) r xs h2⟩
  cases kt.contains i with
  | false=>trivial
  | true=>
   simp only [cond_true];split
   ·rename_i c
    cases hc:keepC kb c with
    | false=>trivial
    | true=>exact aMf hc hφ h1
   ·exact h1
   ·trivial
theorem aAM {C:Cfg}{w0 c:World}{ψ e φ d:Nat->Option (Nat×Nat)}{s s2:AS}{a:Act}{w w':World}{dst:Option Tmp}{v:Value}{r:AT}{kb kt:List Nat}(f:Rep C w0 ψ φ s a w)(g:RepW C c e d s2 w')(h:s2.tmps=putT (keepT kb kt 0 s.tmps) dst r)(i:∀ b,kb.contains b=true->d b=φ b)(j:relT C d s2.nums w' r v):Rep C c e d s2 (a.put dst v) w':=by
 refine ⟨g,by rw [aAw];exact f.defers,?_⟩;rw [h];exact aA9 (aHq i 0 _ _ f.tmps) dst j
inductive XT where
 | ret (r:AT) (s:AS)
 | stp (ks:List (K (List AT))) (s:AS)
 | br (t:Bool) (a b:XT)
 | need (p:List Prop) (o:XT)
def XT.ok (G:AT->AS->Prop)(H:List (K (List AT))->AS->Prop):XT->Prop
 | .ret r s=>G r s
 | .stp ks s=>H ks s
 | .br t a b=>(t=true->a.ok G H)/\(t=false->b.ok G H)
 | .need p o=>Holds p/\o.ok G H
def nrm (kb kt:List Nat)(nx:Nat)(rb:List Nat)(s:AS):Option (AS×List Prop):=(norm kb kt nx s).map fun s'=>(rebS rb s',rebP s'.nums rb)
def outX (nr ns:AS->Option (AS×List Prop)):Tr->Option XT
 | .ret r s=>(nr s).map fun x=>match x.2 with | []=>.ret r x.1 | p::ps=>.need (p::ps) (.ret r x.1)
 | .stop ks s=>(ns s).map fun x=>match x.2 with | []=>.stp ks x.1 | p::ps=>.need (p::ps) (.stp ks x.1)
 | .br t a b=>(outX nr ns a).bind fun x=>(outX nr ns b).map fun y=>.br t x y
 | .need p t=>(outX nr ns t).map (.need p)
theorem aEe {nr ns:AS->Option (AS×List Prop)}{G:AT->AS->Prop}{H:List (K (List AT))->AS->Prop}:∀ {tr:Tr} {xt:XT},outX nr ns tr=some xt->xt.ok G H->tr.ok (fun r s=>∃ s' p,nr s=some (s',p)/\Holds p/\G r s') fun ks s=>∃ s' p,ns s=some (s',p)/\Holds p/\H ks s'
 | .ret r s,xt,h,hk=>by
  simp only [outX] at h;obtain ⟨⟨s',q⟩,h1,h2⟩:=mpd h
  cases q with
  | nil=>simp only at h2;subst h2;exact ⟨s',[],h1,aAc,hk⟩
  | cons p ps=>simp only at h2;subst h2;exact ⟨s',_,h1,hk.1,hk.2⟩
 | .stop ks s,xt,h,hk=>by
  simp only [outX] at h;obtain ⟨⟨s',q⟩,h1,h2⟩:=mpd h
  cases q with
  | nil=>simp only at h2;subst h2;exact ⟨s',[],h1,aAc,hk⟩
  | cons p ps=>simp only at h2;subst h2;exact ⟨s',_,h1,hk.1,hk.2⟩
 | .br t a b,xt,h,hk=>by
  simp only [outX] at h;obtain ⟨x,h1,h2⟩:=bnd h;obtain ⟨y,h3,rfl⟩:=mpd h2;exact ⟨fun e=>aEe h1 (hk.1 e),fun e=>aEe h3 (hk.2 e)⟩
 | .need p t,xt,h,hk=>by
  simp only [outX] at h;obtain ⟨x,h1,rfl⟩:=mpd h;exact ⟨hk.1,aEe h1 hk.2⟩
theorem aMA {w0 w:World}{ψ φ:Nat->Option (Nat×Nat)}{kb kt:List Nat}{nx:Nat}{rb:List Nat}{s s':AS}{p:List Prop}{a:Act}(h:nrm kb kt nx rb s=some (s',p))(e:Holds p)(f:∀ b x,ψ b=some x->kb.contains b=true)(g:Rep Z w0 ψ φ s a w):Rep Z w0 ψ (rst kb φ) s' a w:=by
 unfold nrm at h;obtain ⟨t,c,d⟩:=mpd h;cases d;exact aMT e (aMz c f g)
theorem aIw {w0 w:World}{ψ φ:Nat->Option (Nat×Nat)}{kb kt:List Nat}{nx:Nat}{rb:List Nat}{s s':AS}{p:List Prop}(h:nrm kb kt nx rb s=some (s',p))(d:Holds p)(e:∀ b x,ψ b=some x->kb.contains b=true)(f:RepW Z w0 ψ φ s w):RepW Z w0 ψ (rst kb φ) s' w:=by
 unfold nrm at h;obtain ⟨t,a,c⟩:=mpd h;cases c;exact aRq d (aJw a e f)
theorem aAP {f:FuncId}{fn:Func}(F:Fn f fn){w:World}{φ:Nat->Option (Nat×Nat)}{s:AS}{vs:List AV}{args:List Value}(hs:s.tmps=vs.map .val++List.replicate (fn.ntmps-vs.length) .und)(b:All2 (relV Z φ s.nums w) vs args)(d:RepW Z w φ φ s w){R:Ending->World->Prop}
  (h:∀ (kcs:List (K Act)) (φ':Nat->Option (Nat×Nat)) (a:Act) (w':World),SR Z φ' s.nums w' [.code (bodyOf fn),.top fn] kcs->Rep Z w φ φ' s a w'->sem Z.P R kcs .normal a w'):Calls Tryz.prog f args.toArray w R:=by
 refine calls_of_wp (P:=Z.P) F.at' F.body ?_;have c:=b.len
 exact h [.code (bodyOf fn),.top fn] φ _ w ⟨rfl,rfl,trivial⟩ ⟨d,rfl,by
  rw [hs];simp only [Array.toList_append,Array.toList_replicate,List.size_toArray];rw [<-c]
  exact (aFZ b).append (aFY _)⟩
end Ab
namespace Rf
open Nw
def fn (o:Op):Prop:=o=.sqrt\/o=.exp\/o=.ln1p\/o=.atan
def ConOk (n:Nd):Prop:=n.op=.pi\/n.op=.e\/(n.op=.cf/\2<=n.terms.length/\∀ a∈n.terms,Bits 40 a)\/(fn n.op/\0<n.p/\0<n.q)
def Pos (ns:List Nd)(a:Nat):Prop:=∃ x,ns[a]?=some x/\x.pos=true
def first (t:List V):Prop:=fits t=true->wider 8 t≠-1
structure NestOk (ns:List Nd) (rho:Nat->Nat) (c i:Nat) (n:Nd) (a:Nat):Prop where
 ex:∃ base ck,rho i=base+ck+1/\c<=ck/\n.k+ck<=3000/\rho a<base/\(¬(n.read=[0]/\n.out=[])->c<ck)/\
  (n.op≠.sqrt->∃ x,n.x=some x/\x<ns.length/\rho x+1<base/\Pos ns x/\(∀ s,n.square=some s->s<ns.length/\rho s<base/\Pos ns s))
 op:fn n.op
 first:first n.t
 pos:Pos ns a
inductive Shp (ns:List Nd) (rho:Nat->Nat) (c i:Nat) (n:Nd):Prop where
 | con (ht:n.t=[]) (ha:n.args=[]) (hp:n.probe=false) (hc:ConOk n)
 | frac (v:V) (ht:n.t=[v]) (ha:n.args=[]) (hp:n.probe=false) (hv:fits [vag n.told v]=true\/(n.pos=false/\n.out=[]/\v.1<0/\0<v.2))
 | una (v w:V) (a:Nat) (ht:n.t=[v,w]) (ha:n.args=[a]) (hp:n.probe=true->n.pos=true/\fn n.op/\n.out=[]/\Pos ns a/\rho a+3100<=rho i/\n.k=0)
 | bin (a b:Nat) (v w x y:V) (ht:n.t=[v,w,x,y]) (ha:n.args=[a,b]) (hp:n.probe=false)
 | nest (a:Nat) (v w x y:V) (ht:n.t=[v,w,x,y]) (ha:n.args=[a]) (hp:n.probe=false) (hn:n.nest=true) (ok:NestOk ns rho c i n a)
structure NInv (ns:List Nd) (rho:Nat->Nat) (c i:Nat) (n:Nd):Prop where
 len:n.read.length=n.args.length
 arg:∀ (j a:Nat),n.args[j]?=some a->a<ns.length/\rho a<rho i
 rd:∀ (j a r:Nat) (x:Nd),n.args[j]?=some a->n.read[j]?=some r->ns[a]?=some x->r<=x.out.length
 hadl:n.had.length=n.out.length+1
 had0:n.had[0]?=some one
 fst:n.out=[]->n.told=one
 outu:n.out.length+c<=3000
 ku:n.k+c<=3000
 readu:∀ r∈n.read,r+c<=3000
 toldb:MBits (2*n.out.length+1) n.told
 hadb:∀ (j:Nat) (m:Mt),n.had[j]?=some m->MBits (2*j+1) m
 up:n.pos=true->Up n.told/\∀ m∈n.had,Up m
 tb:∀ v∈n.t,Bits 13000 v.1/\Bits 13000 v.2
 pb:Bits 6100 n.p
 qb:Bits 6100 n.q
 partb:MBits (1+n.k*18500) n.part
 shp:Shp ns rho c i n
theorem NInv.ok {ns:List Nd}{rho:Nat->Nat}{c i:Nat}{n:Nd}(h:NInv ns rho c i n):Ok n:=by
 have o:=h.outu;have p:=h.ku;refine ⟨fun v hv=>⟨aAg (h.tb v hv).1 (by decide),aAg (h.tb v hv).2 (by decide)⟩,mb h.toldb (by omega),?_,mb h.partb ?_,aAg h.pb (by decide),aAg h.qb (by decide),?_,by omega,by omega⟩
 ·intro m g;obtain ⟨j,f,e⟩:=List.getElem_of_mem g;have q:=h.hadl;exact mb (h.hadb j m (by rw [List.getElem?_eq_getElem f,e])) (by omega)
 ·have:n.k*18500<=3000*18500:=Nat.mul_le_mul_right _ (by omega);omega
 ·intro r l;have:=h.readu r l;omega
where
 mb {m:Mt} {a b:Nat} (h:MBits a m) (hab:a<=b):MBits b m:=⟨aAg h.a hab,aAg h.b hab,aAg h.c hab,aAg h.d hab⟩
theorem MBits.mono {m:Mt}{a b:Nat}(h:MBits a m)(hab:a<=b):MBits b m:=⟨aAg h.a hab,aAg h.b hab,aAg h.c hab,aAg h.d hab⟩
structure Le (ns ns':List Nd):Prop where
 len:ns.length<=ns'.length
 at':∀ (i:Nat) (n:Nd),ns[i]?=some n->∃ n',ns'[i]?=some n'/\n'.pos=n.pos/\n.out.length<=n'.out.length
theorem Le.refl (ns:List Nd):Le ns ns:=⟨Nat.le_refl _,fun i n h=>⟨n,h,rfl,Nat.le_refl _⟩⟩
theorem Le.trans {a b c:List Nd}(h:Le a b)(h':Le b c):Le a c:=⟨Nat.le_trans h.len h'.len,fun i n hn=>by
 obtain ⟨n1,h1,h2,h3⟩:=h.at' i n hn;obtain ⟨n2,h4,h5,h6⟩:=h'.at' i n1 h1
 exact ⟨n2,h4,h5.trans h2,Nat.le_trans h3 h6⟩⟩
theorem Le.more (ns ms:List Nd):Le ns (ns++ms):=⟨by simp,fun i n h=>⟨n,by rw [List.getElem?_append_left (List.getElem?_eq_some_iff.1 h).1];exact h,rfl,Nat.le_refl _⟩⟩
theorem Le.set {ns:List Nd}{i:Nat}{n n':Nd}(h:ns[i]?=some n)(b:n'.pos=n.pos)(c:n.out.length<=n'.out.length):Le ns (ns.set i n'):=by
 refine ⟨by simp,fun k m hm=>?_⟩
 by_cases a:i=k
 ·subst a;rw [h] at hm;cases hm;refine ⟨n',?_,b,c⟩;rw [List.getElem?_set_self (List.getElem?_eq_some_iff.1 h).1]
 ·exact ⟨m,by rw [List.getElem?_set_ne a];exact hm,rfl,Nat.le_refl _⟩
theorem Pos.le {ns b:List Nd}{a:Nat}(h:Pos ns a)(i:Le ns b):Pos b a:=by
 obtain ⟨x,c,d⟩:=h;obtain ⟨e,f,g,_⟩:=i.at' a x c;exact ⟨e,f,g.trans d⟩
theorem Pos.lt {ns:List Nd}{a:Nat}(h:Pos ns a):a<ns.length:=by
 obtain ⟨x,b,_⟩:=h;exact (List.getElem?_eq_some_iff.1 b).1
theorem NInv.mono {ns o:List Nd}{rho f:Nat->Nat}{c c' i:Nat}{n:Nd}(h:NInv ns rho c i n)(p:Le ns o)(l:∀ k,k<ns.length->f k=rho k)(D:i<ns.length)(H:c'<=c):NInv o f c' i n:=by
 have t:∀ (j a:Nat),n.args[j]?=some a->a<o.length/\f a<f i:=by
  intro j a d;obtain ⟨g,q⟩:=h.arg j a d;have:=p.len;rw [l a g,l i D];exact ⟨by omega,q⟩
 refine ⟨h.len,t,?_,h.hadl,h.had0,h.fst,by have:=h.outu;omega,by have:=h.ku;omega,fun r m=>by have:=h.readu r m;omega,h.toldb,h.hadb,h.up,h.tb,h.pb,h.qb,h.partb,?_⟩
 ·intro j a r x d m F;obtain ⟨g,_⟩:=h.arg j a d;obtain ⟨W,q,_,u⟩:=p.at' a ns[a] (List.getElem?_eq_getElem g);rw [q] at F;cases F;exact Nat.le_trans (h.rd j a r _ d m (List.getElem?_eq_getElem g)) u
 ·cases h.shp with
  | con ht d hp H=>exact .con ht d hp H
  | frac v ht d hp hv=>exact .frac v ht d hp hv
  | una v w a ht d hp=>
   refine .una v w a ht d fun e=>?_
   obtain ⟨g,q,u,A,B,C⟩:=hp e;exact ⟨g,q,u,A.le p,by rw [l a A.lt,l i D];exact B,C⟩
  | bin a b v w x y ht d hp=>exact .bin a b v w x y ht d hp
  | nest a v w x y ht d hp hn ok=>
   refine .nest a v w x y ht d hp hn ?_;obtain ⟨⟨z,I,g,q,u,A,B,C⟩,J,L,E⟩:=ok;refine ⟨⟨z,I,by rw [l i D];exact g,by omega,u,by rw [l a E.lt];exact A,fun e=>by have:=B e;omega,fun e=>?_⟩,J,L,E.le p⟩;obtain ⟨x,M,N,O,P,R⟩:=C e;have:=p.len;refine ⟨x,M,by omega,by rw [l x N];exact O,P.le p,fun s hs=>?_⟩;obtain ⟨S,T,U⟩:=R s hs;exact ⟨by omega,by rw [l s S];exact T,U.le p⟩
structure Inv (ns:List Nd) (rho:Nat->Nat) (c:Nat):Prop where
 at':∀ (i:Nat) (n:Nd),ns[i]?=some n->NInv ns rho c i n
theorem Inv.tick {ns:List Nd}{rho:Nat->Nat}{c c':Nat}(h:Inv ns rho c)(hc:c'<=c):Inv ns rho c':=
 ⟨fun i n hn=>(h.at' i n hn).mono (Le.refl _) (fun _ _=>rfl) (List.getElem?_eq_some_iff.1 hn).1 hc⟩
theorem Inv.put {ns:List Nd}{rho:Nat->Nat}{c i:Nat}{n n':Nd}(h:Inv ns rho c)(e:ns[i]?=some n)(g:n'.pos=n.pos)(j:n.out.length<=n'.out.length)(f:NInv ns rho c i n'):
  put ns i n'=some (ns.set i n')/\Inv (ns.set i n') rho c/\Le ns (ns.set i n'):=by
 have a:=(List.getElem?_eq_some_iff.1 e).1;have b:=Le.set e g j;refine ⟨?_,⟨fun k m hm=>?_⟩,b⟩
 ·unfold Rf.put;rw [if_pos ⟨f.ok,a⟩]
 ·by_cases d:i=k
  ·subst d;rw [List.getElem?_set_self a] at hm;cases hm;exact f.mono b (fun _ _=>rfl) a (Nat.le_refl _)
  ·rw [List.getElem?_set_ne d] at hm;exact (h.at' k m hm).mono b (fun _ _=>rfl) (List.getElem?_eq_some_iff.1 hm).1 (Nat.le_refl _)
def rank (rho:Nat->Nat)(k r:Nat):Nat->Nat:=fun i=>if i=k then r else rho i
theorem Inv.more {ns:List Nd}{rho:Nat->Nat}{c r:Nat}{n':Nd}(h:Inv ns rho c)(d:NInv ns (rank rho ns.length r) c ns.length n'):
  more ns n'=some (ns++[n'])/\Inv (ns++[n']) (rank rho ns.length r) c/\Le ns (ns++[n'])/\(∀ k,k<ns.length->rank rho ns.length r k=rho k)/\rank rho ns.length r ns.length=r:=by
 have g:=Le.more ns [n']
 have A:∀ k,k<ns.length->rank rho ns.length r k=rho k:=fun k z=>by unfold rank;rw [if_neg (by omega)]
 refine ⟨?_,⟨fun k m hm=>?_⟩,g,A,by simp [rank]⟩
 ·unfold Rf.more;rw [if_pos d.ok]
 ·by_cases z:k<ns.length
  ·rw [List.getElem?_append_left z] at hm;exact (h.at' k m hm).mono g A z (Nat.le_refl _)
  ·rw [List.getElem?_append_right (by omega)] at hm
   have:k=ns.length:=by
    have:=(List.getElem?_eq_some_iff.1 hm).1;simp at this;omega
   subst this;simp at hm;subst hm
   -- the new node itself
   refine ⟨d.len,?_,?_,d.hadl,d.had0,d.fst,d.outu,d.ku,d.readu,d.toldb,d.hadb,d.up,d.tb,d.pb,d.qb,d.partb,?_⟩
   ·intro j a f;obtain ⟨i,l⟩:=d.arg j a f;exact ⟨by simp;omega,l⟩
   ·intro j a r x f u B;obtain ⟨i,_⟩:=d.arg j a f;rw [List.getElem?_append_left i] at B;exact d.rd j a r x f u B
   ·cases d.shp with
    | con ht f hp hc=>exact .con ht f hp hc
    | frac v ht f hp hv=>exact .frac v ht f hp hv
    | una v w a ht f hp=>
     refine .una v w a ht f fun e=>?_
     obtain ⟨i,l,o,p,q,t⟩:=hp e;exact ⟨i,l,o,p.le g,q,t⟩
    | bin a b v w x y ht f hp=>exact .bin a b v w x y ht f hp
    | nest a v w x y ht f hp hn ok=>
     refine .nest a v w x y ht f hp hn ?_;obtain ⟨⟨n,C,i,l,o,p,q,t⟩,D,E,F⟩:=ok;refine ⟨⟨n,C,i,l,o,p,q,fun e=>?_⟩,D,E,F.le g⟩;obtain ⟨x,H,O,I,J,L⟩:=t e;refine ⟨x,H,by simp;omega,I,J.le g,fun s hs=>?_⟩;obtain ⟨P,M,N⟩:=L s hs;exact ⟨by simp;omega,M,N.le g⟩
end Rf
namespace Rf
open Nw
section
variable {ns:List Nd} {rho:Nat->Nat} {c i:Nat} {n:Nd}
theorem aBW (h:Inv ns rho c)(g:NInv ns rho c i n){sd a:Nat}(d:n.args[sd]?=some a):∃ m x r,ns[a]?=some x/\n.read[sd]?=some r/\x.had[r]?=some m/\ends ns n sd=some (vat m (1,0),vat m (0,1)):=by
 obtain ⟨l,_⟩:=g.arg sd a d;have b:ns[a]?=some ns[a]:=List.getElem?_eq_getElem l
 have e:sd<n.read.length:=by rw [g.len];exact (List.getElem?_eq_some_iff.1 d).1
 have f:n.read[sd]?=some n.read[sd]:=List.getElem?_eq_getElem e;have k:=g.rd sd a _ _ d f b;have o:=(h.at' a _ b).hadl;have j:ns[a].had[n.read[sd]]?=some (ns[a].had[n.read[sd]]'(by omega)):=List.getElem?_eq_getElem _;refine ⟨_,_,_,b,f,j,?_⟩;unfold ends;simp only [d,b,f,j,Option.bind_some,Option.map_some]
theorem aG2 (h:Inv ns rho c)(e:NInv ns rho c i n):∃ l,bare ns n=some l:=by
 cases e.shp with
 | con ht ha hp hc=>exact ⟨_,by unfold bare;rw [ht]⟩
 | frac v ht ha hp hv=>exact ⟨_,by unfold bare;rw [ht]⟩
 | una v w a ht ha hp=>
  obtain ⟨m,x,r,_,_,_,d⟩:=aBW h e (sd:=0) (a:=a) (by rw [ha];rfl);exact ⟨_,by unfold bare;rw [ht];simp only [d];rfl⟩
 | bin a b v w x y ht ha hp=>
  obtain ⟨m,x,r,_,_,_,d⟩:=aBW h e (sd:=0) (a:=a) (by rw [ha];rfl);obtain ⟨g,j,k,_,_,_,f⟩:=aBW h e (sd:=1) (a:=b) (by rw [ha];rfl);exact ⟨_,by unfold bare;rw [ht];simp only [d,f,ha];rfl⟩
 | nest a v w x y ht ha hp hn ok=>
  obtain ⟨m,x,r,_,_,_,d⟩:=aBW h e (sd:=0) (a:=a) (by rw [ha];rfl);exact ⟨_,by unfold bare;rw [ht];simp only [d,ha];rfl⟩
theorem aAA (h:Inv ns rho c)(b:NInv ns rho c i n):∃ o,next ns n=some o:=by
 obtain ⟨l,a⟩:=aG2 h b
 unfold next corners
 rw [a];split
 ·exact ⟨_,rfl⟩
 ·exact ⟨_,rfl⟩
theorem aKJ {o:Int}(h:next ns n=some (some o)):∃ l,bare ns n=some l/\o∈tries n/\can (l.map (vag n.told)) o=true:=by
 unfold next at h
 split at h
 ·simp at h
 ·unfold corners at h
  cases a:bare ns n with
  | none=>rw [a] at h;simp at h
  | some l=>
   rw [a] at h;simp only [Option.map_some,Option.some.injEq] at h;obtain ⟨b,c⟩:=aN3 h;exact ⟨l,rfl,c,b⟩
theorem aFI {v:V}(j:n.t=[v])(k:n.args=[])(e:n.out=[]->n.told=one)(a:fits [vag n.told v]=true\/(n.pos=false/\n.out=[]/\v.1<0/\0<v.2)):next ns n≠some none:=by
 unfold next corners bare
 rw [j,k];simp only [waits,Bool.false_eq_true,if_false,Option.map_some,List.map_cons,List.map_nil];unfold tries;intro h;simp only [Option.some.injEq] at h;split at h
 ·rename_i b
  rcases a with a | ⟨_,_,v1,v2⟩
  ·rw [e b.2,aC7] at h a;have d:=List.find?_eq_none.1 h
   rcases (fits1 v).1 a with ⟨f,g,i⟩ | ⟨f,g,i⟩
   ·refine absurd ?_ (d 43 (by simp));unfold can;simp only [List.map_cons,List.map_nil];rw [fits1];simp [vag,Mt.sym,Mt.ag1,Mt.ag2];omega
   ·refine absurd ?_ (d 43 (by simp));unfold can;simp only [List.map_cons,List.map_nil];rw [fits1];simp [vag,Mt.sym,Mt.ag1,Mt.ag2];omega
  ·rw [e b.2,aC7] at h;obtain ⟨s,c⟩:=aNP v1 v2;rw [c] at h;cases h
 ·rename_i b
  rcases a with a | ⟨v1,v2,_,_⟩
  ·obtain ⟨s,c⟩:=aLq a;rw [c] at h;cases h
  ·exact b ⟨v1,v2⟩
theorem aGi (h:Inv ns rho (c+1))(z:ns[i]?=some n)(r:n.probe=false){o:Int}(Y:next ns n=some (some o)):
  ∃ n',put ns i {n with out:=n.out++[o],told:=n.told.mul (Mt.sym o),had:=n.had++[n.told.mul (Mt.sym o)]}=some (ns.set i n')/\Inv (ns.set i n') rho c/\Le ns (ns.set i n')/\n'.out.length=n.out.length+1:=by
 have p:=h.at' i n z;obtain ⟨l,F,f,D⟩:=aKJ Y;have M:=(List.getElem?_eq_some_iff.1 z).1;have s:n.had.length=n.out.length+1:=p.hadl
 have k:MBits (2*(n.out.length+1)+1) (n.told.mul (Mt.sym o)):=by
  have:=aHw p.toldb o;exact MBits.mono this (by omega)
 have u:n.pos=true->Up (n.told.mul (Mt.sym o)):=by
  intro d;refine aUf (p.up d).1 ?_;unfold tries at f;rw [if_neg (by rw [d];simp)] at f;exact f
 have A:NInv ns rho c i {n with out:=n.out++[o],told:=n.told.mul (Mt.sym o),had:=n.had++[n.told.mul (Mt.sym o)]}:=by
  have q:=p.mono (c':=c) (Le.refl _) (fun _ _=>rfl) M (by omega);refine ⟨p.len,q.arg,q.rd,by simp [s],?_,fun e=>by simp at e,?_,q.ku,q.readu,?_,?_,?_,q.tb,q.pb,q.qb,q.partb,?_⟩
  ·show (n.had++_)[0]?=_;rw [List.getElem?_append_left (by omega)];exact p.had0
  ·have:=p.outu;simp;omega
  ·simpa using k
  ·intro j m g;simp only at g
   by_cases X:j<n.had.length
   ·rw [List.getElem?_append_left X] at g;exact p.hadb j m g
   ·rw [List.getElem?_append_right (by omega)] at g
    have B:j=n.had.length:=by
     have:=(List.getElem?_eq_some_iff.1 g).1;simp at this;omega
    subst B;simp at g;subst g;rw [s];exact k
  ·intro d;refine ⟨u d,fun m g=>?_⟩;simp at g
   rcases g with g | rfl
   ·exact (p.up d).2 m g
   ·exact u d
  ·cases q.shp with
   | con f ha r D=>exact .con f ha r D
   | frac v f ha r hv=>
    refine .frac v f ha r (Or.inl ?_)
    have N:bare ns n=some [v]:=by unfold bare;rw [f]
    rw [N] at F;cases F;show fits [vag (n.told.mul (Mt.sym o)) v]=true;rw [aIR];exact D
   | una v w a f ha hp'=>exact .una v w a f ha fun e=>by simp only at e;rw [r] at e;cases e
   | bin a b v w x y f ha r=>exact .bin a b v w x y f ha r
   | nest a v w x y f ha r z ok=>
    refine .nest a v w x y f ha r z ?_
    have C:NestOk ns rho (c+1) i n a:=by
     cases p.shp with
     | con ht' ha' hp' hc'=>rw [f] at ht';cases ht'
     | frac v' ht' ha' hp' hv'=>rw [f] at ht';cases ht'
     | una v' w' a' ht' ha' hp'=>rw [f] at ht';cases ht'
     | bin a' b' v' w' x' y' ht' ha' hp'=>rw [ha] at ha';cases ha'
     | nest a' v' w' x' y' ht' ha' hp' hn' ok'=>rw [ha] at ha';cases ha';exact ok'
    obtain ⟨⟨H,ck,I,J,L,h4,h5,h6⟩,O,P,R⟩:=ok;obtain ⟨⟨t,E,S,k2,T,U,k5,W⟩,_,_,_⟩:=C;exact ⟨⟨t,E,S,by omega,T,U,fun _=>by omega,W⟩,O,P,R⟩
 obtain ⟨I,J,L⟩:=(h.tick (show c<=c+1 by omega)).put z (n':={n with out:=n.out++[o],told:=n.told.mul (Mt.sym o),had:=n.had++[n.told.mul (Mt.sym o)]}) rfl (by simp) A;exact ⟨_,I,J,L,by simp⟩
theorem aGt {a b:Nat}{x y:Mt}(hx:MBits a x)(hy:MBits b y):MBits (a+b+1) (x.mul y):=
 ⟨aAH (aAk hx.a hy.a) (aAk hx.b hy.c),aAH (aAk hx.a hy.b) (aAk hx.b hy.d),aAH (aAk hx.c hy.a) (aAk hx.d hy.c),aAH (aAk hx.c hy.b) (aAk hx.d hy.d)⟩
theorem aDc {k m:Nat}(h:k<2^m):Bits m (k:Int):=by unfold Bits;simpa using h
theorem aBC {k:Nat}(h:k<16777216):Bits 24 (k:Int):=aDc (by simpa using h)
theorem aEi (a:Op){k:Nat}(b:k<=3001):Bits 24 (shape a k).1/\Bits 24 (shape a k).2/\0<(shape a k).1/\0<(shape a k).2:=by
 have c:k*k<=3001*3001:=Nat.mul_le_mul b b;unfold shape;split
 ·split
  ·exact ⟨aDc (k:=1) (by decide),aDc (k:=1) (by decide),by decide,by decide⟩
  ·have e:(k+1)/2*((k+1)/2)<=3001*3001:=Nat.mul_le_mul (by omega) (by omega);have d:0<(k+1)/2*((k+1)/2):=Nat.mul_pos (by omega) (by omega);exact ⟨aBC (by omega),aBC (by omega),by simp only;omega,by simp only;omega⟩
 ·split
  ·split
   ·exact ⟨aDc (k:=1) (by decide),aDc (k:=1) (by decide),by decide,by decide⟩
   ·have d:0<k*k:=Nat.mul_pos (by omega) (by omega);exact ⟨aBC (by omega),aBC (by omega),by simp only;omega,by simp only;omega⟩
  ·exact ⟨aDc (k:=1) (by decide),aBC (by omega),by simp,by simp only;omega⟩
theorem aCn (h:ConOk n){k:Nat}(r:k<=3000)(pb:Bits 6100 n.p)(d:Bits 6100 n.q):∃ m,constant n k=some m/\MBits 18400 m:=by
 have c:∀ z:Int,z.natAbs<=4->Bits 18400 z:=fun z hz=>aAg (n:=3) (by unfold Bits;omega) (by decide)
 have s:k*k<=3000*3000:=Nat.mul_le_mul r r;obtain ⟨i,j,_,_⟩:=aEi n.op (k:=k) (by omega)
 have f:n.op=.exp\/n.op=.ln1p\/n.op=.atan->∃ m,constant n k=some m/\MBits 18400 m:=by
  intro ho
  have e:constant n k=some (if n.op≠.ln1p/\0<k then ⟨0,(shape n.op k).1*(n.p*n.p),n.q*n.q,(shape n.op k).2*(n.q*n.q)⟩ else ⟨0,(shape n.op k).1*n.p,n.q,(shape n.op k).2*n.q⟩):=by
   unfold constant
   rcases ho with ho | ho | ho<;>simp only [ho]
  refine ⟨_,e,?_⟩;split
  ·exact ⟨c 0 (by decide),aAg (aAk i (aAk pb pb)) (by decide),aAg (aAk d d) (by decide),aAg (aAk j (aAk d d)) (by decide)⟩
  ·exact ⟨c 0 (by decide),aAg (aAk i pb) (by decide),aAg d (by decide),aAg (aAk j d) (by decide)⟩
 rcases h with h | h | ⟨h,h1,h2⟩ | ⟨h,h1,h2⟩
 ·refine ⟨_,by unfold constant;rw [h],?_⟩;split
  ·exact ⟨c 0 (by decide),c 4 (by decide),c 1 (by decide),c 1 (by decide)⟩
  ·exact ⟨c 0 (by decide),aAg (aBC (by omega)) (by decide),c 1 (by decide),aAg (aBC (by omega)) (by decide)⟩
 ·refine ⟨_,by unfold constant;rw [h],?_⟩;refine ⟨?_,c 1 (by decide),c 1 (by decide),c 0 (by decide)⟩;show Bits 18400 (eterm k);unfold eterm;split
  ·exact c 2 (by decide)
  ·split
   ·exact aAg (aBC (by omega)) (by decide)
   ·exact c 1 (by decide)
 ·have g:(if k=0 then 0 else 1+(k-1)%(n.terms.length-1))<n.terms.length:=by
   split
   ·omega
   ·have:=Nat.mod_lt (k-1) (show 0<n.terms.length-1 by omega);omega
  refine ⟨_,by unfold constant;rw [h];simp only;rw [List.getElem?_eq_getElem g];rfl,?_⟩;exact ⟨aAg (h2 _ (List.getElem_mem g)) (by decide),c 1 (by decide),c 1 (by decide),c 0 (by decide)⟩
 ·rcases h with h | h
  ·obtain ⟨a,b,t,u,v,l,o⟩:=aFd h1 h2 pb d;refine ⟨_,by unfold constant;rw [h];simp only;rw [t];rfl,?_⟩;exact ⟨aAg (aAk l d) (by decide),aAg (aAk o pb) (by decide),aAg (aAk o d) (by decide),aAg (aAk l d) (by decide)⟩
  ·exact f h
theorem aIc (h:Inv ns rho (c+1))(p:ns[i]?=some n)(l:n.t=[]):∃ m n',constant n n.k=some m/\put ns i {n with part:=n.part.mul m,k:=n.k+1}=some (ns.set i n')/\Inv (ns.set i n') rho c/\Le ns (ns.set i n')/\n'.out=n.out:=by
 have d:=h.at' i n p;have r:=(List.getElem?_eq_some_iff.1 p).1;have f:=d.mono (c':=c) (Le.refl _) (fun _ _=>rfl) r (by omega)
 have s:n.args=[]/\n.probe=false/\ConOk n:=by
  cases d.shp with
  | con l g j o=>exact ⟨g,j,o⟩
  | frac v ht' g j hv=>rw [l] at ht';cases ht'
  | una v w a ht' g j=>rw [l] at ht';cases ht'
  | bin a b v w x y ht' g j=>rw [l] at ht';cases ht'
  | nest a v w x y ht' g j p ok=>rw [l] at ht';cases ht'
 obtain ⟨g,j,o⟩:=s;have u:=d.ku;obtain ⟨m,e,z⟩:=aCn o (k:=n.k) (by omega) d.pb d.qb
 have q:NInv ns rho c i {n with part:=n.part.mul m,k:=n.k+1}:=by
  refine ⟨d.len,f.arg,f.rd,d.hadl,d.had0,d.fst,f.outu,by simp only;omega,f.readu,d.toldb,d.hadb,d.up,f.tb,f.pb,f.qb,?_,.con l g j ?_⟩
  ·refine MBits.mono (aGt d.partb z) ?_;simp only;rw [Nat.add_mul];omega
  ·exact o
 obtain ⟨A,B,C⟩:=(h.tick (show c<=c+1 by omega)).put p (n':={n with part:=n.part.mul m,k:=n.k+1}) rfl (Nat.le_refl _) q;exact ⟨m,_,e,A,B,C,rfl⟩
end
end Rf
end Go.Proofs.YteghhlfmcjmnoaaGreatDoor
