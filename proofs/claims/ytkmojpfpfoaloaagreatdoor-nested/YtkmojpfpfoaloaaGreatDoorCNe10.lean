import Derived.Test.YtkmojpfpfoaloaaGreatDoorCNe09
import Derived.Test.YtkmojpfpfoaloaaGreatDoorCNe04
import Derived.Test.YtkmojpfpfoaloaaGreatDoorCNe08
set_option linter.all false
set_option maxRecDepth 100000
set_option maxHeartbeats 2000000
namespace Go.Proofs.YtkmojpfpfoaloaaGreatDoor
open Go.Proofs.Tryz
open Go.RowKit
namespace Ab
open Rf (Nd Inv aZ)
def xR (d:Bool)(b mt e g f:Int)(lp rp a nst gv:AC):bO:=Em (Ln d b mt e g f lp rp a nst gv) 98
def tY (c:Int):bO:=Em [.sint .i64 c] 84
def sWn (ns:List (Int×Nat))(d:Bool)(b mt e g f c:Int)(lp rp a nst gv:AC)(ex:List (Nat×bO))(dirty:List Nat)(h:List AT):AS:=⟨h,(0,xR d b mt e g f lp rp a nst gv)::(6,tY c)::ex,7,ns,dirty⟩
def sW (i:List Int)(d:Bool)(b mt e g f c:Int)(lp rp a nst gv:AC)(ex:List (Nat×bO))(h:List AT):AS:=sWn (i.map fun z=>(z,10)) d b mt e g f c lp rp a nst gv ex [] h
def mW (m:Nat):List AT:=.val (.one (.ptr 0 0))::.val (.one (.ptr 6 0))::List.replicate m .gC
def slot (l:List (Nat×AT)):Nat->Nat->List AT
 |_,0=>[]
 |i,m+1=>(match l.find? (fun x=>x.1==i)with|some x=>x.2|none=>.top)::slot l (i+1) m
def sl0 (m:Nat):List AT:=slot [] 0 m
noncomputable def bW:FuncId->Option Func:=fun f=>bif f==100 then some f100 else none
theorem rK:bV Z bW:=by
 intro f fn h;unfold bW at h
 cases a:f==100 with
 |true=>
  rw[a]at h;cases h
  have:f=100:=by simpa using a
  subst this;exact⟨(bI func100 rfl rfl).at',(bI func100 rfl rfl).en⟩
 |false=>rw[a]at h;cases h
theorem Ku {φ:Nat->Option (Nat×Nat)}{ν:List (Int×Nat)}{n:World}:∀(a:List Int) (i:Nat) (e:List Value),All2 (relC Z φ ν n) (bH true i a.length) e->(∀(j:Nat) (z:Int),a[j]?=some z->∃b,ν[i+j]?=some (z,b))->bD true n a e
 | [],i,[],_,_=>trivial
 | [],i,_::_,h,_=>h.elim
 |z::a,i,[],h,_=>by simp[bH]at h;exact h.elim
 |z::a,i,[x],h,_=>by simp[bH]at h;exact h.2.elim
 |z::a,i,x::y::e,h,d=>by
  have l:All2 (relC Z φ ν n) (.sg i::.dg true i::bH true (i+1) a.length) (x::y::e):=h;obtain⟨⟨s,q,f,k⟩,⟨u,r,f1,f2,f3⟩,o⟩:=l;obtain⟨b,g⟩:=d 0 z rfl;rw[Nat.add_zero]at g;rw[g]at f f1;cases f;cases f1;exact⟨k,f2,Ku a (i+1) e o fun j y p=>by rw[show i+1+j=i+(j+1) by omega];exact d (j+1) y (by simpa using p)⟩
def phW (k a:Nat)(ex:Nat->Option (Nat×Nat)):Nat->Option (Nat×Nat):=fun b=>if b=0 then some (k,0)else if b=6 then some (a,0)else if b<6 then ex b else none
theorem aSE (k a:Nat)(ex:Nat->Option (Nat×Nat)):phW k a ex 0=some (k,0):=rfl
theorem aSF (k a:Nat)(ex:Nat->Option (Nat×Nat)):phW k a ex 6=some (a,0):=rfl
theorem aVm (k a:Nat)(ex:Nat->Option (Nat×Nat)){b:Nat}(h:7<=b):phW k a ex b=none:=by
 unfold phW;rw[if_neg (by omega),if_neg (by omega),if_neg (by omega)]
variable {n:World}{k:Nat}{q:Nat->Option (Nat×Nat)}
theorem aRc {i:Nat}{ex:List (Nat×bO)}{s:List Int}{a:Bool}{v mt l j o c:Int}{lp rp gv J T:Value}{lpC rpC gvC cvC nvC:AC}(hn:NodeAt n k s a v mt l j o lp rp gv J T)(h8:s.length=8)(P:∀z∈s,Bits 10 z)(H:n.heap[i]?=some (.cells #[.int .i64 c] 84 (0,0)))
  (hl:relC Z (phW k i q) (s.map fun z=>(z,10)) n lpC lp) (hr:relC Z (phW k i q) (s.map fun z=>(z,10)) n rpC rp) (hg:relC Z (phW k i q) (s.map fun z=>(z,10)) n gvC gv) (hc:relC Z (phW k i q) (s.map fun z=>(z,10)) n cvC J) (hm:relC Z (phW k i q) (s.map fun z=>(z,10)) n nvC T)
  (u:∀b B,look ex b=some B->B.own=false/\B.tip=false/\B.ro=true/\∃r f,phW k i q b=some (r,f)/\r≠k/\r≠i/\Seg Z (phW k i q) (s.map fun z=>(z,10)) n r f B.ty B.cs) (S:∀b r f,q b=some (r,f)->r<n.heap.size) (W:List AT):
  RepW Z n (phW k i q) (phW k i q) (sW s a v mt l j o c lpC rpC cvC nvC gvC ex W) n:=by
 obtain⟨I,N,h2⟩:=hn.ex
 have F:k≠i:=by
  intro e;subst e;rw[N]at H;have:=(Obj.cells.inj (Option.some.inj H)).2.1;exact absurd this (by decide)
 have R:All2 (relC Z (phW k i q) (s.map fun z=>(z,10)) n) (Ln a v mt l j o lpC rpC cvC nvC gvC) (.bool a::I++[J,.int .i64 mt,lp,.int .i64 l,rp,.int .i64 j,gv,.int .i64 v,T,.int .i64 o]):=by
  have hx:All2 (relC Z (phW k i q) (s.map fun z=>(z,10)) n) (bH true 0 8) I:=by
   rw[<-h8]
   exact tU s I 0 _ h2 P fun d z hz=>by rw[Nat.zero_add,List.getElem?_map,hz];rfl
  exact All2.append (show All2 (relC Z (phW k i q) (s.map fun z=>(z,10)) n) (.sbool a::bH true 0 8) (.bool a::I)from⟨rfl,hx⟩) ⟨hc,rfl,hl,rfl,hr,rfl,hg,rfl,hm,rfl,trivial⟩
 have s0:Seg Z (phW k i q) (s.map fun z=>(z,10)) n k 0 98 (Ln a v mt l j o lpC rpC cvC nvC gvC):=⟨[],_,[],by simpa using N,rfl,R⟩
 have s6:Seg Z (phW k i q) (s.map fun z=>(z,10)) n i 0 84 [.sint .i64 c]:=⟨[],[.int .i64 c],[],by simpa using H,rfl,rfl,trivial⟩
 have p:∀b B,look (sW s a v mt l j o c lpC rpC cvC nvC gvC ex W).boxes b=some B->(b=0/\B=xR a v mt l j o lpC rpC cvC nvC gvC)\/(b=6/\B=tY c)\/look ex b=some B:=by
  intro b B h;simp only[sW,sWn,look]at h
  cases L:(0==b)with
  |true=>
   rw[L]at h;simp only[cond_true,Option.some.injEq]at h;exact Or.inl ⟨(show 0=b by simpa using L).symm,h.symm⟩
  |false=>
   rw[L]at h;simp only[cond_false]at h
   cases M:(6==b)with
   |true=>
    rw[M]at h;simp only[cond_true,Option.some.injEq]at h;exact Or.inr (Or.inl ⟨(show 6=b by simpa using M).symm,h.symm⟩)
   |false=>
    rw[M]at h;exact Or.inr (Or.inr h)
 refine aOf rfl ?_ ?_ (fun b P=>aVm k i q P) ?_
 ·intro b B O
  rcases p b B O with⟨rfl,rfl⟩|⟨rfl,rfl⟩|h
  ·exact⟨rfl,rfl,k,0,rfl,s0⟩
  ·exact⟨rfl,rfl,i,0,rfl,s6⟩
  ·obtain⟨Y,g2,_,r,f,x,_,_,g4⟩:=u b B h;exact⟨Y,g2,r,f,x,g4⟩
 ·intro b C B A U f o' O y E g
  rcases p b B O with⟨rfl,rfl⟩|⟨rfl,rfl⟩|h
  ·rw[aSE]at E;cases E
   rcases p C A y with⟨rfl,rfl⟩|⟨rfl,rfl⟩|h'
   ·exact Or.inl rfl
   ·rw[aSF]at g;cases g;exact absurd rfl F
   ·obtain⟨_,_,_,r,f,x,D,_⟩:=u C A h';rw[g]at x;cases x;exact absurd rfl D
  ·rw[aSF]at E;cases E
   rcases p C A y with⟨rfl,rfl⟩|⟨rfl,rfl⟩|h'
   ·rw[aSE]at g;cases g;exact absurd rfl F
   ·exact Or.inl rfl
   ·obtain⟨_,_,_,r,f,x,_,D,_⟩:=u C A h';rw[g]at x;cases x;exact absurd rfl D
  ·obtain⟨_,_,X,r,f,x,D,g6,_⟩:=u b B h;rw[E]at x;cases x
   rcases p C A y with⟨rfl,rfl⟩|⟨rfl,rfl⟩|h'
   ·rw[aSE]at g;cases g;exact absurd rfl D
   ·rw[aSF]at g;cases g;exact absurd rfl g6
   ·exact Or.inr ⟨X,(u C A h').2.2.1⟩
 ·intro b U f h;unfold phW at h;split at h
  ·cases h;exact gU N
  ·split at h
   ·cases h;exact gU H
   ·split at h
    ·exact S b U f h
    ·cases h
variable {I:Nat->Option (Nat×Nat)}{s:AS}
theorem aOl {g:World}{D:Nat}{zs:List Int}{ns:List (Int×Nat)}{hs:Bool}{uns mt lr rr pl c:Int}{lpC rpC gvC cvC nvC:AC}(A:RepW Z n (phW k D q) I s g)(h0:look s.boxes 0=some (xR hs uns mt lr rr pl lpC rpC cvC nvC gvC))(h6:look s.boxes 6=some (tY c))(hk:n.shape? k=some (98,27))(hf:n.shape? D=some (84,1))(h8:zs.length=8)(hz:∀(j:Nat) (z:Int),zs[j]?=some z->∃b,s.nums[j]?=some (z,b)):
  (∃lp rp gv S X,NodeAt g k zs hs uns mt lr rr pl lp rp gv S X/\relC Z I s.nums g lpC lp/\relC Z I s.nums g rpC rp/\relC Z I s.nums g gvC gv/\relC Z I s.nums g cvC S/\relC Z I s.nums g nvC X)/\g.heap[D]?=some (.cells #[.int .i64 c] 84 (0,0)):=by
 have p0:=A.base 0 (k,0) rfl;have p6:=A.base 6 (D,0) rfl;constructor
 ·obtain⟨k',o,x,a,l,B,p,M,E⟩:=A.box 0 _ h0;rw[p0]at B;cases B;have i:x=[]:=List.length_eq_zero_iff.1 M;subst i;have d:=A.on.shape hk;unfold World.shape? at d;rw[p]at d;simp only[Option.some.injEq,Prod.mk.injEq,List.size_toArray,List.nil_append,List.length_append]at d;have F:=E.len;have C:(xR hs uns mt lr rr pl lpC rpC cvC nvC gvC).cs.length=27:=rfl;have f:l=[]:=List.length_eq_zero_iff.1 (by omega);subst f;simp only[List.nil_append,List.append_nil]at p;have r:All2 (relC Z I s.nums g) (.sbool hs::bH true 0 8++[cvC,.sint .i64 mt,lpC,.sint .i64 lr,rpC,.sint .i64 rr,gvC,.sint .i64 uns,nvC,.sint .i64 pl]) a:=E
  match a,r,F,p with
  |y::a,⟨v,U⟩,F,p=>
   have W:a.length=26:=by rw[C]at F;simp at F;omega
   have e:a=a.take 16++a.drop 16:=(List.take_append_drop 16 a).symm
   have ga:All2 (relC Z I s.nums g) (bH true 0 8) (a.take 16):=by
    have:=U.take 16
    simpa[bH]using this
   have gb:=U.drop 16;have u:All2 (relC Z I s.nums g) [cvC,.sint .i64 mt,lpC,.sint .i64 lr,rpC,.sint .i64 rr,gvC,.sint .i64 uns,nvC,.sint .i64 pl] (a.drop 16):=gb;have hold:bD true g zs (a.take 16):=Ku zs 0 _ (by rw[h8];exact ga) (by simpa using hz);have v:y=.bool hs:=v
   match hd:a.drop 16,u with
   | [a0,a1,N,Y,O,a5,P,a7,R,a9],u=>
    obtain⟨b0,b1,b2,H,b4,b5,b6,J,b8,L,_⟩:=u;have b1:a1=.int .i64 mt:=b1;have H:Y=.int .i64 lr:=H;have b5:a5=.int .i64 rr:=b5;have J:a7=.int .i64 uns:=J;have L:a9=.int .i64 pl:=L;refine⟨N,O,P,a0,R,⟨a.take 16,?_,hold⟩,b2,b4,b6,b0,b8⟩
    have T:a=a.take 16++[a0,.int .i64 mt,N,.int .i64 lr,O,.int .i64 rr,P,.int .i64 uns,R,.int .i64 pl]:=by
     rw[<-b1,<-H,<-b5,<-J,<-L,<-hd];exact e
    rw[p,v];generalize a.take 16=t at T;subst T;rfl
 ·obtain⟨k',o,x,a,l,B,p,M,E⟩:=A.box 6 _ h6;rw[p6]at B;cases B;have i:x=[]:=List.length_eq_zero_iff.1 M;subst i;have d:=A.on.shape hf;unfold World.shape? at d;rw[p]at d;simp only[Option.some.injEq,Prod.mk.injEq,List.size_toArray,List.nil_append,List.length_append]at d;have r:All2 (relC Z I s.nums g) [.sint .i64 c] a:=E
  match a,r with
  | [y],⟨v,_⟩=>
   have v:y=.int .i64 c:=v
   have f:l=[]:=by have:=d.2;simpa using this
   subst f;rw[p,v];rfl
  |_::_::_,⟨_,h⟩=>exact h.elim
theorem NodeAt.shape {n:World}{k:Nat}{zs:List Int}{hs:Bool}{uns mt lr rr pl:Int}{lp rp gv J d:Value}(h:NodeAt n k zs hs uns mt lr rr pl lp rp gv J d)(h8:zs.length=8):n.shape? k=some (98,27):=by
 obtain⟨e,a,b⟩:=h.ex;have:=Mp zs e b;unfold World.shape?;rw[a];simp;omega
theorem Xu {w:Nat}{c:Int}(h:n.heap[w]?=some (.cells #[.int .i64 c] 84 (0,0))):n.shape? w=some (84,1):=by
 unfold World.shape?;rw[h];rfl
theorem Oq {g:World}{d:Nat}(a:RepW Z n (phW k d q) I s g)(i:s.dirty.all (fun b=>b==0||b==6)=true):Chg n g [k,d]:=by
 refine⟨a.on,fun j l f=>a.low j l fun b h o e=>?_⟩;have:=List.all_eq_true.1 i b h;simp only[Bool.or_eq_true,beq_iff_eq]at this
 rcases this with rfl|rfl
 ·rw[a.base 0 (k,0) rfl]at e;cases e;exact f (by simp)
 ·rw[a.base 6 (d,0) rfl]at e;cases e;exact f (by simp)
theorem Chg.below {w b:World}{d:List Nat}{b0:Nat}(h:Chg w b d)(f:b0<=w.heap.size)(a:∀k∈d,b0<=k):Below b0 w b:=
 ⟨h.on.os,h.on.tape,h.on.output,h.on.size,fun k g=>h.low k (by omega) fun e=>by have:=a k e;omega⟩
def Fu (s:AS):List (K (List AT))->Option (TypeId×TypeId×TypeId×AT×AT×Option Tmp×List (K (List AT)))
 |.ops all (i::a)::b=>(all[i]?).bind fun o=>
  match gd all s.tmps o with
  |.yes=>match o.op with
   |.call { callee:=.builtin .append,args:=args,argTypes:=ts}=>match ts.toList,args.toList with
    | [t,d],[x,y]=>some (t,d,o.type,iS s.tmps x,iS s.tmps y,o.dst,.ops all a::b)
    |_,_=>none
   |_=>none
  |_=>none
 |_=>none
variable {R:Ending->World->Prop}{φ:Nat->Option (Nat×Nat)}
theorem aOX {T:fF}{a:Act}{b:World}{M ks2:List (K (List AT))}{l:List (K Act)}{t t' ty:TypeId}{sv xv:AT}{dst:Option Tmp}(h:Fu s M=some (t,t',ty,sv,xv,dst,ks2))(p:noFr M=true){O:Nat->Option (Nat×Nat)}{r:List (Int×Nat)}{D:World}(L:SR T O r D M l)(J:Rep T n q φ s a b)
  (H:∀U W,relT T φ s.nums b sv U->relT T φ s.nums b xv W->∃v F,(Builtin.append_ #[t,t'] ty #[U,W]).run T.P b=.ok v F/\∀g,noFr ks2=true->(∀E B A,SR T E B A ks2 g)->fZ T.P R g .normal (a.put dst v) F):fZ T.P R l .normal a b:=by
 unfold Fu at h;split at h
 ·rename_i all i j N;obtain⟨o,ho,k⟩:=aU h;split at k
  ·rename_i hg;split at k
   ·rename_i args ts I;split at k
    ·rename_i t0 ak x y X Y;cases k
     match l,L with
     |.ops d r'::f,⟨q1,q2,z⟩=>
      subst q1 q2;show wpOps T.P d (fZ T.P R f) (i::j) a b;rw[wpOps_cons];have S:=Pb (all:=d) (o:=o) J.tmps;rw[hg]at S
      have ea:args=#[x,y]:=by apply Array.toList_inj.1;rw[Y]
      have et:ts=#[t,t']:=by apply Array.toList_inj.1;rw[X]
      subst ea et;obtain⟨v,F,r1,r2⟩:=H _ _ (tQ J.tmps x) (tQ J.tmps y);unfold wpOp;simp only[ho];rw[if_pos S];refine Or.inl ?_;unfold Oper.wp
      have r3:(execOp a.eval o).run T.P b=.ok (.value v) F:=by
       unfold execOp;rw[I];show((do pure (Next.value (<-Builtin.append_ #[t,t'] o.type (#[x,y].map a.eval))):Sem Next).run T.P b)=_
       have e:#[x,y].map a.eval=#[a.eval x,a.eval y]:=by simp
       rw[e,Sem.run_bind,r1];rfl
      rw[r3]
      have u:noFr N=true:=by simpa[noFr]using p
      exact r2 (.ops d j::f) (by simpa[noFr]using p) fun E B A=>⟨rfl,rfl,SR.any u z⟩
    ·cases k
   ·cases k
  ·cases k
 ·cases h
theorem aIb (m:Nat):∀(r c:Nat),Builtin.growBy m r c<=(c+768)*2^r
 |0,c=>by simp[Builtin.growBy]
 |r+1,c=>by
  have e:(c+768)*2^(r+1)=((c+768)*2)*2^r:=by rw[Nat.pow_succ];grind
  unfold Builtin.growBy;split
  ·have a:1<=2^(r+1):=Nat.one_le_two_pow;have:(c+768)*1<=(c+768)*2^(r+1):=Nat.mul_le_mul_left _ a;omega
  ·refine Nat.le_trans (aIb m r _) ?_;rw[e];exact Nat.mul_le_mul_right _ (by omega)
theorem aRL {need cap:Nat}(a:cap<need)(b:need<=100000):Builtin.nextslicecap need cap<=2000000:=by
 unfold Builtin.nextslicecap;split
 ·omega
 ·split
  ·omega
  ·refine Nat.le_trans (aIb need 4 cap) ?_;rw[show(2:Nat)^4=16 from rfl];omega
variable {i:TypeInfo}
theorem aMt {P:Program}{t r e v ty:TypeId}{size p W u:Nat}{b s:Option Addr}{old new:Array Value}{z:Value}(B:P.underlying t=some (.slice e))(q:P.underlying r=some (.slice v))(o:iE P e=some size)(hi:P.info? e=some i)(l:i.bytes<=1000000)
  (C:∀n,(zeroValue e).run P n=.ok z n)
  (hold:∀d,d.heap=n.heap->(Builtin.firstCells size k (.slice b k p)).run P d=.ok old d) (g:∀d,d.heap=n.heap->(Builtin.firstCells size W (.slice s W u)).run P d=.ok new d) (h:¬k+W<=p) (A:k+W<=100000):
  ∃a,k+W<=a/\(Builtin.append_ #[t,r] ty #[.slice b k p,.slice s W u]).run P n=.ok (.slice (some ⟨n.heap.size,0,none⟩) (k+W) a) {n with heap:=n.heap.push (.cells (old++new++Builtin.zeroCells z.cells (a-(k+W))) e),drawn:=n.drawn+1}:=by
 have D:¬((k+W:Nat):Int)>IntKind.i64.max:=by
  have:IntKind.i64.max=9223372036854775807:=by decide
  omega
 have x:¬(IntKind.i64.max<(k:Int)+(W:Int)):=by
  have:IntKind.i64.max=9223372036854775807:=by decide
  omega
 have y:¬(Builtin.nextslicecap (k+W) p*i.bytes>2^48):=by
  have:=aRL (need:=k+W) (cap:=p) (by omega) A;have:Builtin.nextslicecap (k+W) p*i.bytes<=2000000*1000000:=Nat.mul_le_mul this l;omega
 have j:¬(281474976710656<Builtin.nextslicecap (k+W) p*i.bytes):=by simpa using y
 refine⟨(Question.appendCap (k+W) p e).cut (n.tape n.drawn (.appendCap (k+W) p e)),by simp[Question.cut],?_⟩
 have f:¬((9223372036854775807:Int)<(k:Int)+(W:Int)):=by omega
 have d1:=hold n.drew rfl;have d2:=g n.drew rfl;simp[Builtin.append_,underlying,B,q,tO o,Builtin.lenOf,h,typeInfo,hi,f,j,Question.forced,d1,d2,C,newRow];rfl
def RowOf (w:World)(e:TypeId)(f:List Value)(v:Value)(g:Option Nat):Prop:=
 (v=.slice none 0 0/\f=[]/\g=none)\/∃b d,∃a:List Value,g=some b/\v=.slice (some ⟨b,0,none⟩) f.length d/\w.heap[b]?=some (.cells (f++a).toArray e (0,0))/\f.length<=d/\d<=f.length+a.length
theorem aHJ (z:Array Value)(n:Nat):(Builtin.zeroCells z n).size=n*z.size:=by
 simp[Builtin.zeroCells]
theorem aMv {bt:List TypeId}{P:Program}{t t' e ty:TypeId}{z:Value}(hu:P.underlying t=some (.slice e))(F:P.underlying t'=some (.slice e))(E:iE P e=some 1)(hi:P.info? e=some i)(R:i.bytes<=1000000)(hz:∀n,(zeroValue e).run P n=.ok z n)(Y:z.cells.size=1)(O:bt.contains e=true)
   {d:List Value} {f xv x:Value} {M:Option Nat} (D:RowOf n e d f M) {xc:Nat} {r H:List Value} {ab:TypeId} (hx:n.heap[k]?=some (.cells (r++[x]++H).toArray ab (0,0))) (X:xv=.slice (some ⟨k,r.length,none⟩) 1 xc) (W:One x) (ae:d.length<=99999):
  ∃I h b,(Builtin.append_ #[t,t'] ty #[f,xv]).run P n=.ok I h/\RowOf h e (d++[x]) I (some b)/\(M=some b\/n.heap.size<=b)/\On bt n h/\∀j,j<n.heap.size->j≠b->h.heap[j]?=n.heap[j]?:=by
 subst X
 have A:∀h,h.heap=n.heap->(Builtin.firstCells 1 1 (.slice (some ⟨k,r.length,none⟩) 1 xc)).run P h=.ok #[x] h:=fun h U=>Xb (ys:=[x]) (by rw[U];exact hx) rfl
 have y:∀(L:Option Addr) (l:Nat),f=.slice L d.length l->¬d.length+1<=l->(∀h,h.heap=n.heap->(Builtin.firstCells 1 d.length (.slice L d.length l)).run P h=.ok d.toArray h)->∃I h b,(Builtin.append_ #[t,t'] ty #[f,.slice (some ⟨k,r.length,none⟩) 1 xc]).run P n=.ok I h/\RowOf h e (d++[x]) I (some b)/\(M=some b\/n.heap.size<=b)/\On bt n h/\∀j,j<n.heap.size->j≠b->h.heap[j]?=n.heap[j]?:=by
  intro L l hv hc hold;obtain⟨q,c1,c2⟩:=aMt (ty:=ty) hu F E hi R hz hold A hc (by omega);subst hv;refine⟨_,_,n.heap.size,c2,Or.inr ⟨n.heap.size,q,(Builtin.zeroCells z.cells (q-(d.length+1))).toList,rfl,by simp,?_,by simpa using c1,?_⟩,Or.inr (Nat.le_refl _),⟨rfl,rfl,rfl,by simp,fun j o s=>Or.inl ?_⟩,fun j s _=>?_⟩
  ·rw[Array.getElem?_push_size];congr 2;apply Array.toList_inj.1;simp
  ·have hl:=aHJ z.cells (q-(d.length+1));rw[Y]at hl;simp[hl];omega
  ·obtain⟨S,T⟩:=Array.getElem?_eq_some_iff.1 s;rw[Array.getElem?_push_lt S,T]
  ·rw[Array.getElem?_push_lt s,Array.getElem?_eq_getElem s]
 rcases D with⟨N,J,B⟩|⟨b,l,p,N,J,B,h4,h5⟩
 ·subst J
  exact y none 0 N (by simp) fun h _=>aDF
 ·by_cases hc:d.length+1<=l
  ·subst J;have pl:=aHL (ty:=ty) (a:=⟨b,0,none⟩) (sLen:=d.length) hu F E (A n rfl) hc;obtain⟨h,s1,u⟩:=Rt (P:=P) d.length [x] 0 n (d++p) B (by simp;omega) (by simpa using W)
   have e1:(⟨b,0,none⟩:Addr).add (d.length*1)=⟨b,d.length,none⟩:=by rw[Fb];simp
   rw[e1,show(#[x]:Array Value).toList=[x]from rfl,s1]at pl;simp only[Result.andThen_ok]at pl;rw[Nat.add_zero,Nj _ _ _ (by simp;omega)]at u
   have t1:(d++p).take d.length=d:=by simp
   have t2:(d++p).drop (d.length+[x].length)=p.drop 1:=by simp
   rw[t1,t2]at u;refine⟨_,h,b,pl,Or.inr ⟨b,l,p.drop 1,rfl,by simp,u.cD,by simpa using hc,by simp;omega⟩,Or.inl N,⟨u.os,u.tape,u.output,by rw[u.size];exact Nat.le_refl _,fun j o s=>?_⟩,fun j _ s=>u.others j s⟩
   by_cases C:j=b
   ·subst C;rw[B]at s;cases s;refine Or.inr ⟨O,?_⟩;unfold World.shape?;rw[u.cD,B];simp;omega
   ·exact Or.inl (by rw[u.others j C];exact s)
  ·exact y _ l J hc fun h U=>Xb (pre:=[]) (ys:=d) (by rw[U];exact B) (by simp)
def pR (d:Nat)(p:Oper->Bool):Code->List (K (List AT))->Option (List (K (List AT)))
 |.region _ ops false,e=>(Ah p ops.toList 0).map fun j=>.ops ops ((List.range ops.size).drop (j+d))::e
 |.seq a b,e=>match pR d p a (.code b::e)with|some r=>some r|none=>pR d p b e
 |.block id b,e=>pR d p b (.cD id::e)
 |.cond _ a b,e=>match pR d p a e with|some r=>some r|none=>pR d p b e
 |_,_=>none
def eF (p:Oper->Bool)(fn:Func):List (K (List AT)):=(pR 0 p (aF fn) [.top fn]).getD []
def Jf (d a:List Nat)(f:Nat)(e b:List Nat)(g:Nat)(s:AS):Option (AS×List Prop):=match fG d a f [] s with|some r=>some r|none=>fG e b g [] s
def Cr (f:Nat->Option (Nat×Nat))(ns:AS->Option (AS×List Prop)):Prop:=∀e φ s d p a w,ns s=some (d,p)->Holds p->Rep Z e f φ s a w->∃b,Rep Z e f b d a w
variable {d:List Nat}{w:Nat}
theorem jK {j:List Nat}{k:List Nat}(f:∀b x,q b=some x->d.contains b=true):Cr q (fG d j w k):=fun n φ s l p a e h g i=>⟨_,aNN h g f i⟩
theorem aVb {g:List Nat}{n i:List Nat}(o:∀b x,q b=some x->d.contains b=true)(u:∀b x,q b=some x->n.contains b=true):Cr q (Jf d g w n i k):=by
 intro y φ s v p a f h j l;unfold Jf at h;split at h
 ·rename_i r e;cases h;exact⟨_,aNN e j o l⟩
 ·exact⟨_,aNN h j u l⟩
theorem cE {sp:Spec}{h:FuncId->Option Func}{stp:List (K (List AT))->Bool}(u:SpecOk Z n q sp)(I:bV Z h){rb:List Nat}{ns:AS->Option (AS×List Prop)}(T:∀b x,q b=some x->d.contains b=true)(J:Cr q ns){e:Nat}{U:List (K (List AT))}{xt:XT}
  (ht:(run Z sp h (aO Z sp) stp e U s).bind (eD (fG d [] w rb) ns)=some xt) (G:AT->AS->Prop) (H:List (K (List AT))->AS->Prop) (L:xt.ok G H)
  (hG:∀r o j v l,G r o->(∀b,r=.val (.one (.bool b))\/r=.val (.one (.sbool b))->v=.bool b)->(∀k z,r=.val (.one (.sint k z))\/r=.val (.one (.int k z))->v=.int k z)->RepW Z n q j o l->R (.returned v) l)
  (hH:∀i o,H i o->noFr i=true/\∀(g:List (K Act)) (j:Nat->Option (Nat×Nat)) (a:Act) (l:World),(∀C B Y,SR Z C B Y i g)->Rep Z n q j o a l->fZ Z.P R g .normal a l):
  ∀(g:List (K Act)) (φ:Nat->Option (Nat×Nat)) (a:Act) (f:World),SR Z φ s.nums f U g->Rep Z n q φ s a f->fZ Z.P R g .normal a f:=by
 intro g φ a f O hr;obtain⟨tr,h1,h2⟩:=aU ht;refine vB u I (rD mixed u) _ _ ?_ ?_ e U s tr h1 (Kh h2 L) g φ a f O hr
 ·rintro i o⟨W,p,D,E,F⟩ A j a' l y M;obtain⟨hf,hk⟩:=hH i W F;obtain⟨X,N⟩:=J _ _ _ _ _ _ _ D E M;exact hk A X a' l (fun C B Y=>SR.any hf y) N
 ·rintro r o j v l⟨W,p,D,E,F⟩ hv S;refine hG r W _ v l F ?_ ?_ (Zt D E T S)
  ·rintro b(rfl|rfl)<;>exact hv
  ·rintro k z(rfl|rfl)<;>exact hv
abbrev P0:AT:=.val (.one (.ptr 0 0))
abbrev P6:AT:=.val (.one (.ptr 6 0))
abbrev litT (v:Value):AT:=.val (.one (.lit v))
abbrev dJ (z:Int):AT:=.val (.one (.sint .i64 z))
theorem uC {ν:List (Int×Nat)}{w:World}{b:Nat}{x:Value}(a:φ b=some (k,0))(h:dM Z φ ν w (.one (.ptr b 0)) x):x=aA k:=by
 obtain⟨f,o,d,e⟩:=h;rw[a]at d;cases d
 simpa[aA]using e
end Ab
namespace Rf
open Nw
def dW (n:Nat)(v:V):Prop:=Bits n v.1/\Bits n v.2
theorem dW.mono {n m:Nat}{B:V}(h:dW n B)(a:n<=m):dW m B:=⟨eG h.1 a,eG h.2 a⟩
variable {a b:Nat}
theorem aLb {m:Mt}{B:V}(e:cY a m)(hv:dW b B):dW (a+b+1) (eU m B):=⟨pA (fW e.a hv.1) (fW e.b hv.2),pA (fW e.c hv.1) (fW e.d hv.2)⟩
theorem aQs {m:Mt}{B:V}(e:cY a m)(hv:dW b B):dW (a+b+1) (fH m B):=⟨pA (fW e.d hv.1) (fW (yI e.b) hv.2),pA (fW e.a hv.2) (fW (yI e.c) hv.1)⟩
theorem Fa {n:Nat}{t:List V}{x Y:V}(f:∀v∈t,dW n v)(d:dW a x)(e:dW b Y):dW (n+(a+b)+3) (bM t x Y):=by
 unfold bM;split
 ·rename_i p q r s;have g:=f p (by simp);have h:=f q (by simp);have j:=f r (by simp);have k:=f s (by simp)
  exact ⟨pA (pA (pA (fW g.1 (fW d.1 e.1)) (fW h.1 (fW d.1 e.2))) (eG (fW j.1 (fW d.2 e.1)) (by omega))) (eG (fW k.1 (fW d.2 e.2)) (by omega)),
   pA (pA (pA (fW g.2 (fW d.1 e.1)) (fW h.2 (fW d.1 e.2))) (eG (fW j.2 (fW d.2 e.1)) (by omega))) (eG (fW k.2 (fW d.2 e.2)) (by omega))⟩
 ·exact⟨by unfold Bits;simp;exact Nat.pow_pos (by decide),by unfold Bits;simp;exact Nat.pow_pos (by decide)⟩
theorem aKj {m:Mt}(e:cY a m):dW a (eU m (1,0))/\dW a (eU m (0,1)):=by
 have f:eU m (1,0)=(m.a,m.c):=by simp[eU,Mt.at1,Mt.at2]
 have g:eU m (0,1)=(m.b,m.d):=by simp[eU,Mt.at1,Mt.at2]
 rw[f,g];exact⟨⟨e.a,e.c⟩,e.b,e.d⟩
theorem aOK:dW 6001 ((1,0):V)/\dW 6001 ((0,1):V):=by
 have a:Bits 6001 0:=aW;have b:Bits 6001 1:=eB (by decide);exact⟨⟨b,a⟩,a,b⟩
section
variable {ns:List Nd} {rho:Nat->Nat} {c i:Nat} {n:Nd}
theorem Sa (h:Inv ns rho c)(d:aZ ns rho c i n){sd:Nat}(f:n.args[sd]?=some a){e:V×V}(g:ends ns n sd=some e):dW 6001 e.1/\dW 6001 e.2:=by
 obtain⟨m,x,r,b,k,l,o⟩:=Eu h d f;rw[o]at g;cases g;have j:=h.at' a x b;have p:=j.lO r m l;have u:=d.rd sd a r x f k b;have s:=j.iV;obtain⟨k1,q⟩:=aKj p;exact⟨k1.mono (by omega),q.mono (by omega)⟩
theorem aMC (h:Inv ns rho c)(p:aZ ns rho c i n){L:List V}(f:bare ns n=some L):∀v∈L,dW 60000000 v:=by
 have g:=p.tb;have d:∀v∈n.t,dW 13000 v:=g;unfold bare at f
 cases p.shp with
 |fI g j B hc=>
  rw[g]at f;cases f;obtain⟨k1,D⟩:=aKj p.iB;have E:=p.ku
  have A:1+n.k*18500<=60000000:=by
   have:n.k*18500<=3000*18500:=Nat.mul_le_mul_right _ (by omega);omega
  intro v hv;simp at hv
  rcases hv with rfl|rfl
  ·exact k1.mono A
  ·exact D.mono A
 |gH v g j B hv=>
  rw[g]at f d;cases f;intro u o;exact(d u o).mono (by decide)
 |kP v w a g j B=>
  rw[g]at f d;obtain⟨e,s,rfl⟩:=Option.map_eq_some_iff.1 f;obtain⟨b1,b2⟩:=Sa h p (sd:=0) (a:=a) (by rw[j];rfl) s
  have A:cY 13000 ⟨v.1,w.1,v.2,w.2⟩:=⟨(d v (by simp)).1,(d w (by simp)).1,(d v (by simp)).2,(d w (by simp)).2⟩
  intro u o;simp at o
  rcases o with rfl|rfl
  ·exact(aLb A b1).mono (by decide)
  ·exact(aLb A b2).mono (by decide)
 |bin a b v w x y g j B=>
  rw[g]at f d;obtain⟨e,s,C⟩:=Option.bind_eq_some_iff.1 f;obtain⟨r,z,rfl⟩:=Option.map_eq_some_iff.1 C;rw[if_pos (by rw[j];rfl)]at z;obtain⟨b1,b2⟩:=Sa h p (sd:=0) (a:=a) (by rw[j];rfl) s;obtain⟨q,b4⟩:=Sa h p (sd:=1) (a:=b) (by rw[j];rfl) z;intro u o;simp at o
  rcases o with rfl|rfl|rfl|rfl
  ·exact(Fa d b1 q).mono (by decide)
  ·exact(Fa d b1 b4).mono (by decide)
  ·exact(Fa d b2 q).mono (by decide)
  ·exact(Fa d b2 b4).mono (by decide)
 |nest a v w x y g j B F ok=>
  rw[g]at f d;obtain⟨e,s,C⟩:=Option.bind_eq_some_iff.1 f;obtain⟨r,z,rfl⟩:=Option.map_eq_some_iff.1 C;rw[if_neg (by rw[j];simp)]at z;cases z;obtain⟨b1,b2⟩:=Sa h p (sd:=0) (a:=a) (by rw[j];rfl) s;obtain⟨q,b4⟩:=aOK;intro u o;simp at o
  rcases o with rfl|rfl|rfl|rfl
  ·exact(Fa d b1 q).mono (by decide)
  ·exact(Fa d b1 b4).mono (by decide)
  ·exact(Fa d b2 q).mono (by decide)
  ·exact(Fa d b2 b4).mono (by decide)
theorem aJe (h:Inv ns rho c)(a:aZ ns rho c i n){L:List V}(d:corners ns n=some L):∀v∈L,dW 70000000 v:=by
 unfold corners at d;obtain⟨b,e,rfl⟩:=Option.map_eq_some_iff.1 d;intro v hv;rw[List.mem_map]at hv;obtain⟨u,f,rfl⟩:=hv;have g:=a.iV;exact(aQs a.jF (aMC h a e u f)).mono (by omega)
end
end Rf
namespace Pg
open Rf Nw
variable {ns:List Nd}{y x:Nd}{a:Nat}
theorem Su {w:Nat}(d:y.args[w]?=some a)(e:y.read[w]?=some 0)(f:ns[a]?=some x)(b:x.dP[0]?=some one):ends ns y w=some ((1,0),(0,1)):=by
 unfold Rf.ends;rw[d];simp only[Option.bind_some,f,e,b,Option.map_some];rw[Ko,Ko]
theorem Rk {B Y y z:V}:bM [B,Y,y,z] (1,0) (1,0)=B/\bM [B,Y,y,z] (1,0) (0,1)=Y/\bM [B,Y,y,z] (0,1) (1,0)=y/\bM [B,Y,y,z] (0,1) (0,1)=z:=by
 unfold bM
 refine⟨?_,?_,?_,?_⟩<;>ext<;>simp
theorem Nx (l:List V):l.map (fH one)=l:=by
 conv=>rhs;rw[<-List.map_id l]
 exact List.map_congr_left fun v _=>Fm v
theorem aFA (d:y.t=[])(b:y.part=one)(a:y.told=one):corners ns y=some [(1,0),(0,1)]:=by
 unfold Rf.corners;rw[Yt d,b,a,Option.map_some,Nx,Ko,Ko]
variable {B:V}
theorem Xa {Y:V}(g:y.t=[B,Y])(e:y.args[0]?=some a)(f:y.read[0]?=some 0)(h:ns[a]?=some x)(d:x.dP[0]?=some one)(b:y.told=one):corners ns y=some [B,Y]:=by
 unfold Rf.corners;rw[Sn g,Su e f h d,b,Option.map_some,Option.map_some,Nx];unfold eU Mt.at1 Mt.at2;simp
theorem Xg {Y d z:V}{b:Nat}{j:Nd}(r:y.t=[B,Y,d,z])(f:y.args=[a,b])(i:y.read=[0,0])(s:ns[a]?=some x)(k:x.dP[0]?=some one)(h:ns[b]?=some j)(e:j.dP[0]?=some one)(g:y.told=one):corners ns y=some [B,Y,d,z]:=by
 unfold Rf.corners;rw[Cv r,Su (a:=a) (by rw[f];rfl) (by rw[i];rfl) s k,g,Option.bind_some,if_pos (by rw[f];rfl),Su (a:=b) (by rw[f];rfl) (by rw[i];rfl) h e,Option.map_some,Option.map_some,Nx];obtain⟨l,o,p,q⟩:=@Rk B Y d z;simp only[l,o,p,q]
theorem aH0 {Y b z:V}(l:y.t=[B,Y,b,z])(e:y.args=[a])(k:y.read=[0])(o:ns[a]?=some x)(f:x.dP[0]?=some one)(d:y.told=one):corners ns y=some [B,Y,b,z]:=by
 unfold Rf.corners;rw[Cv l,Su (a:=a) (by rw[e];rfl) (by rw[k];rfl) o f,d,Option.bind_some,if_neg (by rw[e];simp),Option.map_some,Option.map_some,Nx];obtain⟨g,h,i,j⟩:=@Rk B Y b z;simp only[g,h,i,j]
variable {L:List V}
theorem aHZ (i:y.t.length=4)(f:corners ns y=some L):L.length=4:=by
 obtain⟨u,v,a,z,e⟩:=four i;unfold Rf.corners at f;obtain⟨b,d,rfl⟩:=Option.map_eq_some_iff.1 f;rw[Cv e]at d;obtain⟨j,k,h⟩:=Option.bind_eq_some_iff.1 d;obtain⟨g,o,rfl⟩:=Option.map_eq_some_iff.1 h;rfl
theorem Hn {d:Int}(a:0<d)(x:Int):x.natAbs<=(d*x).natAbs:=by
 rw[Int.natAbs_mul];exact Nat.le_mul_of_pos_left _ (by omega)
theorem aSC (h:B∈pad L):B∈L\/B=(0,0):=by
 unfold pad at h;split at h
 ·simp at h;exact Or.inr h
 ·simp at h
  rcases h with h|h
  ·exact Or.inl (by simp[h])
  ·exact Or.inr h
 ·simp at h
  rcases h with h|h|h
  ·exact Or.inl (by simp[h])
  ·exact Or.inl (by simp[h])
  ·exact Or.inr h
 ·simp at h
  rcases h with h|h|h|h
  ·exact Or.inl (by simp[h])
  ·exact Or.inl (by simp[h])
  ·exact Or.inl (by simp[h])
  ·exact Or.inr h
 ·exact Or.inl h
theorem eL.bits {cs:List V}{N:Nat}(h:eL L cs)(f:∀v∈L,dW N v):∀v∈cs,v.1.natAbs<2^N/\v.2.natAbs<2^N:=by
 obtain⟨d,a,e⟩:=h.ex;intro v hv
 have g:sc d v∈pad L:=by rw[e];exact List.mem_map_of_mem hv
 have b:dW N (sc d v):=by
  rcases aSC g with h1|h1
  ·exact f _ h1
  ·rw[h1];exact⟨by unfold Bits;simp;exact Nat.pow_pos (by decide),by unfold Bits;simp;exact Nat.pow_pos (by decide)⟩
 obtain⟨b1,b2⟩:=b;unfold Bits at b1 b2;exact⟨Nat.lt_of_le_of_lt (Hn a v.1) b1,Nat.lt_of_le_of_lt (Hn a v.2) b2⟩
theorem aNF {p q l:Int}(a:0<l):∀(k:Nat) (t:Int),near (l*p) (l*q) k t=near p q k t
 |0,_=>rfl
 |k+1,t=>by
  have e:t*t*(l*p)/(l*q)=t*t*p/q:=by
   rw[show t*t*(l*p)=l*(t*t*p) by grind];exact Int.mul_ediv_mul_of_pos _ _ a
  unfold near;rw[e,aNF a k]
end Pg
namespace Ab
open Rf (Nd Inv aZ)
section
variable {w w':World} {b0 fb:Nat} {own own':Nat->Option Own} {at1 at2:Nat->Nat} {D:List Nat} {i:Nat} {n n':Nd} {s:Rf.St} {rho:Nat->Nat} {c:Nat}
theorem Net.step (h:Net w b0 own at1 fb s)(x:Inv s.nodes rho c){g:List Nd}{cl:Int}(e:∀j,j<s.nodes.length->j≠i->g[j]?=s.nodes[j]?)(q:Pg.Go s.nodes g)(hc:Chg w w' D)(v:yX w own i D)(l:∀k o,k<w.heap.size->own k=some o->o≠.pd i->own' k=some o)(p:∀a,a<s.nodes.length->at2 a=at1 a)(d:w'.heap[fb]?=some (.cells #[.int .i64 cl] 84 (0,0)))(b:∀j m,g[j]?=some m->(j=i\/s.nodes.length<=j)->cL w' b0 own' at2 g j m):Net w' b0 own' at2 fb ⟨g,cl⟩:=by
 refine⟨fun j m r=>?_,d,h.Qf⟩
 by_cases hi:j=i
 ·exact b j m r (Or.inl hi)
 ·by_cases u:j<s.nodes.length
  ·have f:s.nodes[j]?=some m:=by rw[<-e j u hi];exact r
   exact(h.nd j m f).aT hc v hi u q l p (x.at' j m f)
  ·exact b j m r (Or.inr (by omega))
theorem Net.put (h:Net w b0 own at1 fb s)(r:Inv s.nodes rho c)(u:s.nodes[i]?=some n){cl:Int}(g:Pg.Go s.nodes (s.nodes.set i n'))(hc:Chg w w' D)(q:yX w own i D)(f:∀k o,k<w.heap.size->own k=some o->own' k=some o)(a:w'.heap[fb]?=some (.cells #[.int .i64 cl] 84 (0,0)))(d:cL w' b0 own' at1 (s.nodes.set i n') i n'):Net w' b0 own' at1 fb ⟨s.nodes.set i n',cl⟩:=by
 refine h.step (i:=i) r (fun j _ b=>List.getElem?_set_ne (fun e=>b e.symm)) g hc q (fun k o l e _=>f k o l e) (fun _ _=>rfl) a ?_;intro j m b p
 rcases p with rfl|hl
 ·rw[List.getElem?_set_self (List.getElem?_eq_some_iff.1 u).1]at b;cases b;exact d
 ·have:=(List.getElem?_eq_some_iff.1 b).1;simp at this;omega
structure rR (n n':Nd):Prop where
 pos:n'.pos=n.pos
 t:n'.t=n.t
 args:n'.args=n.args
 op:n'.op=n.op
 aR:n'.aR=n.aR
 nest:n'.nest=n.nest
 p:n'.p=n.p
 q:n'.q=n.q
 terms:n'.terms=n.terms
 x:n'.x=n.x
 eX:n'.eX=n.eX
theorem rR.constant (h:rR n n')(k:Nat):Rf.constant n' k=Rf.constant n k:=by
 unfold Rf.constant;rw[h.op,h.p,h.q,h.terms]
theorem iZ.same {w:World}{d:Nat}{v:Int}(h:iZ w b0 own at1 i n d v)(a:rR n n')(p:n'.k=n.k):iZ w b0 own at1 i n' d v:=by
 obtain⟨q,r,fst,b,e,f,g,j,l,o⟩:=h;refine⟨q,r,fst,b,by rw[a.op];exact e,f,g,j,?_,?_⟩
 ·rw[a.op,a.args,a.t];exact l
 ·rw[a.op,p,a.x,a.eX];exact o
theorem Blk.oW (E:∀k g,k<w.heap.size->own k=some g->own' k=some g){v q0 p1 j o C p3 q3 mt X:Int}{gv f u:Value}(h:Blk w b0 own at1 i n v q0 p1 j o C p3 q3 mt X gv f u)(F:rR n n')(hc:Chg w w' D)(hD:yX w own i D)(hI:Inv s.nodes rho c)(hn:s.nodes[i]?=some n){r0 s0 r1 s1 r2 s2 r3 s3 B:Int}{gv':Value}(O:n'.k=n.k/\B=mt\/n.t=[]/\n'.k=n.k+1/\B=mt+1)
  (T:NodeAt w' (at1 i) [r0,s0,r1,s1,r2,s2,r3,s3] (!n'.pos) (fL n') B (gX n') (fY n') X (eS at1 (lArg n')) (eS at1 (rArg n')) gv' f u) (hg:gB w' b0 own' i n'.out gv'):Blk w' b0 own' at1 i n' r0 s0 r1 s1 r2 s2 r3 s3 B X gv' f u:=by
 have hN:=hI.at' i n hn;refine⟨T,hg,?_,?_,?_⟩
 ·intro r;rw[F.t]at r;obtain⟨L,cb,M,P⟩:=h.fI r;refine⟨?_,cb,M,(P.aT hc.on).of F.constant⟩
  rcases O with⟨k1,W⟩|⟨_,k1,W⟩
  ·rw[k1,W];exact L
  ·rw[k1,W,L];simp
 ·intro r;rw[F.t]at r;exact h.oA r
 ·refine⟨fun e=>h.nst.1 (by rw[<-F.nest];exact e),fun U=>?_⟩;obtain⟨nb,L,⟨cs,M⟩,P⟩:=h.nst.2 (by rw[<-F.nest];exact U);refine⟨nb,L,⟨cs,hc.at M ?_⟩,fun r J=>?_⟩
  ·intro O
   rcases hD nb O _ _ _ M with⟨e,_⟩|⟨e,_⟩|e<;>exact absurd e (by decide)
  ·rw[F.t]at r;rw[F.args]at J
   have R:n'.k=n.k:=by
    rcases O with⟨k1,_⟩|⟨e,_⟩
    ·exact k1
    ·rw[e]at r;simp at r
   have H:∃a,n.args=[a]/\Rf.jN s.nodes rho c i n a:=by
    cases hN.shp with
    |fI z _ _ _=>rw[z]at r;simp at r
    |gH q z _ _ _=>rw[z]at r;simp at r
    |kP q p a z _ _=>rw[z]at r;simp at r
    |bin a b q p x y z A _=>rw[A]at J;simp at J
    |nest a q p x y z A _ _ ok=>exact⟨a,A,ok⟩
   obtain⟨a,A,ok⟩:=H;obtain⟨base,ck,_,_,_,_,_,hx⟩:=ok.ex
   have S:∀a,a∈n.args->a<s.nodes.length:=by
    intro a J;obtain⟨d,hj,e⟩:=List.getElem_of_mem J;exact(hN.arg d a (by rw[List.getElem?_eq_getElem hj,e])).1
   refine((P r J).aT (own':=own') (at2:=at1) (N:=s.nodes.length) hc hD (fun k g l e _=>E k g l e) (fun _=>Or.inr fun k l e=>E k _ l e) (fun _ _=>rfl) (fun a e=>S a (List.mem_of_getElem? e)) ?_ ?_).same F R
   ·intro I x e;obtain⟨x',Y,g2,_⟩:=hx I;rw[Y]at e;cases e;exact g2
   ·intro I sq e;obtain⟨x',Y,g2,_,_,g5⟩:=hx I;exact(g5 sq e).1
end
end Ab
namespace Rf
open Nw
def nextP (ns:List Nd)(n:Nd):Option (Option Int):=if n.aR then some none else next ns n
noncomputable def step1 (f:Nat)(s:St)(i:Nat)(n:Nd):Option (St×Bool):=
 (nextP s.nodes n).bind fun o=>match o with
 |some c=>if s.clock-1<0 then some (⟨s.nodes,s.clock-1⟩,false)else(give s i n c).map fun a=>(a,true)
 |none=>reads (sym f) s i n
theorem aKZ (f:Nat)(s:St)(i j:Nat):sym (f+1) s i j=(s.nodes[i]?).bind fun n=>match n.out[j]? with
  |some c=>some (s,some c)
  |none=>(step1 f s i n).bind fun x=>if x.2 then sym f x.1 i j else some (x.1,none):=by
 rw[sym]
 cases s.nodes[i]? with
 |none=>rfl
 |some n=>
  simp only[Option.bind_some]
  cases n.out[j]? with
  |some c=>rfl
  |none=>
   simp only;unfold step1 nextP
   cases (if n.aR=true then some none else next s.nodes n)with
   |none=>rfl
   |some o=>
    simp only[Option.bind_some]
    cases o with
    |none=>rfl
    |some g=>
     simp only;split
     ·rfl
     ·cases give s i n g with
      |none=>rfl
      |some a=>rfl
section
variable {ns:List Nd} {rho:Nat->Nat} {c i:Nat} {n:Nd}{s:St}
theorem aF2 (o:s.clock=(c:Int))(N:c<=3000)(h:Inv s.nodes rho c)(E:s.nodes[i]?=some n)(Y:n.t≠[])(M:nextP s.nodes n=some none):
  ∃j A z p a r,side s.nodes n=some j/\wide s i n j=some A/\A.clock=(c:Int)/\Inv A.nodes z c/\gN s.nodes rho i A.nodes z/\A.nodes[i]?=some p/\p.args[j]?=some a/\p.read[j]?=some r/\p.out=n.out/\(p.aR=true->j=0)/\
   ((∃v w,n.t=[v,w]/\n.args=[a]/\j=0/\A=s/\p=n)\/(∃v w x y,n.t=[v,w,x,y]/\j<n.args.length/\j<=1/\A=s/\p=n/\n.aR=false)\/(∃a0 v w x y,n.t=[v,w,x,y]/\n.args=[a0]/\j=1/\r=0/\n.aR=false/\jN s.nodes rho c i n a0/\n.nest=true/\∃r0 d,n.read=[r0]/\deeper s.nodes n=some d/\a=d.2/\p={n with args:=n.args++[d.2],read:=n.read++[0]}/\put d.1 i p=some A.nodes)):=by
 unfold nextP at M;have q:=h.at' i n E
 cases q.shp with
 |fI f g l hc=>exact absurd f Y
 |gH v f g l hv=>
  rw[l]at M;simp only[Bool.false_eq_true,if_false]at M;exact absurd M (aGn f g q.fst hv)
 |kP v w a f g l=>
  obtain⟨r,H⟩:∃r,n.read=[r]:=List.length_eq_one_iff.1 (by rw[q.len,g];rfl);refine⟨0,s,rho,n,a,r,aKT f,?_,o,h,gN.refl _ _ _,E,by rw[g];rfl,by rw[H];rfl,rfl,fun _=>rfl,Or.inl ⟨v,w,f,g,rfl,rfl,rfl⟩⟩;unfold wide;rw[if_neg (by rw[g];simp)]
 |bin a b v w x y f g l=>
  obtain⟨j,k,D⟩:=Sy h q
  have R:j<n.args.length:=by rw[g];simp;omega
  refine⟨j,s,rho,n,n.args[j],n.read[j]'(by rw[q.len];exact R),k,?_,o,h,gN.refl _ _ _,E,List.getElem?_eq_getElem _,List.getElem?_eq_getElem _,rfl,fun e=>(by rw[l]at e;cases e),Or.inr (Or.inl ⟨v,w,x,y,f,R,D,rfl,rfl,l⟩)⟩;unfold wide;rw[if_neg (by omega)]
 |nest a v w x y f g l F ok=>
  obtain⟨r,H⟩:∃r,n.read=[r]:=List.length_eq_one_iff.1 (by rw[q.len,g];rfl);obtain⟨j,k,D⟩:=Sy h q
  by_cases hz:j=0
  ·subst hz;refine⟨0,s,rho,n,a,r,k,?_,o,h,gN.refl _ _ _,E,by rw[g];rfl,by rw[H];rfl,rfl,fun _=>rfl,Or.inr (Or.inl ⟨v,w,x,y,f,by rw[g];simp,by omega,rfl,rfl,l⟩)⟩;unfold wide;rw[if_neg (by rw[g];simp)]
  ·have P:j=1:=by omega
   subst P
   have O:¬(n.read=[0]/\n.out=[]):=by
    rintro⟨k1,k2⟩;rw[aGy h q f g F ok.first ok.pos k1 k2]at k;simp at k
   obtain⟨I,J,d,n',S,w2,w3,T,C⟩:=aLe (cl:=s.clock) h N E f g l ok O;have B:=S;unfold wide at B;rw[if_pos (by rw[g];rfl)]at B;obtain⟨L,d1,d2⟩:=Option.bind_eq_some_iff.1 B;obtain⟨ae,d3,U⟩:=Option.map_eq_some_iff.1 d2;cases U
   have u:I[i]?=some {n with args:=n.args++[L.2],read:=n.read++[0]}:=by
    unfold put at d3;split at d3
    ·rename_i X;cases d3;exact List.getElem?_set_self X.2
    ·cases d3
   have W:d=L.2:=by
    rw[T]at u;have:=congrArg Nd.args (Option.some.inj u);rw[C]at this;simp at this;exact this
   subst W;exact⟨1,⟨I,s.clock⟩,J,n',L.2,0,k,S,o,w2,w3,T,by rw[C];simp[g],by rw[C];simp[H],by rw[C],fun e=>(by rw[C]at e;simp only at e;rw[l]at e;cases e),Or.inr (Or.inr ⟨a,v,w,x,y,f,g,rfl,rfl,l,ok,F,r,L,H,d1,rfl,C,by rw[C];exact d3⟩)⟩
variable {w:Nat}
theorem aOa (A:s.clock=(c:Int))(E:c<=3000)(h:Inv s.nodes rho c)(B:s.nodes[i]?=some n)(hf:c+rho i+1<=w)(j:nextP s.nodes n=some none):
  ∃N b,reads (sym w) s i n=some (N,b)/\(b=true->∃u U,U<c/\N.clock=(U:Int)/\Inv N.nodes u U/\gN s.nodes rho i N.nodes u/\∃o,N.nodes[i]?=some o/\o.out=n.out):=by
 have hi:=(List.getElem?_eq_some_iff.1 B).1;have C:=h.at' i n B;unfold reads
 by_cases l:n.t=[]
 ·rw[if_pos l]
  cases c with
  |zero=>
   have F:pK n:=by
    cases C.shp with
    |fI l R S hc=>exact hc
    |gH v g R S hv=>rw[l]at g;cases g
    |kP v d a g R S=>rw[l]at g;cases g
    |bin a b v d x y g R S=>rw[l]at g;cases g
    |nest a v d x y g R S B ok=>rw[l]at g;cases g
   have au:=C.ku;obtain⟨m,m1,m2⟩:=Fe F (k:=n.k) (by omega) C.pb C.qb
   have ab:Ok {n with part:=n.part.mul m,k:=n.k+1}:=by
    have j:=C.ok;refine⟨j.t,j.told,j.dP,cY.mono (Zg C.iB m2) ?_,j.p,j.q,j.read,j.out,by simp only;omega⟩;have:n.k*18500<=3000*18500:=Nat.mul_le_mul_right _ (by omega);omega
   have J:put s.nodes i {n with part:=n.part.mul m,k:=n.k+1}=some (s.nodes.set i {n with part:=n.part.mul m,k:=n.k+1}):=by
    unfold put;rw[if_pos ⟨ab,hi⟩]
   rw[m1,Option.bind_some,J,Option.map_some];refine⟨_,_,rfl,fun e=>?_⟩;rw[A]at e;exact absurd e (by decide)
  |succ c=>
   obtain⟨m,o,m1,m2,m3,m4,m5⟩:=aJb h B l;rw[m1,Option.bind_some,m2,Option.map_some];have H:(s.nodes.set i o)[i]?=some o:=List.getElem?_set_self hi
   have I:o.pos=n.pos:=by
    obtain⟨m,k1,k2,_⟩:=m4.at' i n B;rw[H]at k1;cases k1;exact k2
   exact⟨_,_,rfl,fun _=>⟨rho,c,by omega,by simp only;rw[A];omega,m3,gN.set B I (by rw[m5];exact Nat.le_refl _),o,H,m5⟩⟩
 ·rw[if_neg l];obtain⟨sd,T,z,n1,a,r,e1,e2,e3,e4,e5,O,P,X,e9,W,_⟩:=aF2 A E h B l j;rw[e1,Option.bind_some,e2,Option.bind_some,O,Option.bind_some,P,Option.bind_some,X,Option.bind_some];have D:=e4.at' i n1 O;obtain⟨la,ra⟩:=D.arg sd a P;have L:T.nodes[a]?=some T.nodes[a]:=List.getElem?_eq_getElem la;have av:z i=rho i:=e5.agree i hi;obtain⟨x,x1,x2⟩:=total w T a r z c e3 E e4 _ L (D.rd sd a r _ P X L) (by omega);rw[x1,Option.bind_some];obtain⟨s2,o2⟩:=x
  cases o2 with
  |none=>exact⟨_,_,rfl,fun e=>by cases e⟩
  |some v=>
   obtain⟨aj,c2,y1,y2,y3,y4,o,y5,y6⟩:=x2.ex v rfl;simp only at y2 y3 y4 y5;have aa:s2.nodes[i]?=some n1:=y4.same i n1 O ra;have Y:i<T.nodes.length:=(List.getElem?_eq_some_iff.1 O).1;obtain⟨s3,b,z1,z2⟩:=Yj y2 y3 (by omega) aa P X y5 y6 W;refine⟨s3,b,z1,fun hb=>?_⟩;obtain⟨M,c3,q1,q2,q3,q4,n3,q5,q6⟩:=z2 hb;refine⟨M,c3,by omega,q2,q3,?_,n3,q5,by rw[q6,e9]⟩;exact(e5.trans hi ((y4.up ra).trans Y q4))
theorem aP6 {f:Nat}(d:s.clock=(c:Int))(v:c<=3000)(h:Inv s.nodes rho c)(p:s.nodes[i]?=some n)(F:c+rho i+1<=f):
  ∃l b,step1 f s i n=some (l,b)/\(b=true->∃a q,q<c/\l.clock=(q:Int)/\Inv l.nodes a q/\gN s.nodes rho i l.nodes a/\∃k,l.nodes[i]?=some k/\n.out.length<=k.out.length):=by
 have hi:=(List.getElem?_eq_some_iff.1 p).1;have E:=h.at' i n p;unfold step1
 obtain⟨o,j⟩:∃o,nextP s.nodes n=some o:=by
  unfold nextP;split
  ·exact⟨_,rfl⟩
  ·exact pO h E
 rw[j,Option.bind_some]
 cases o with
 |none=>
  obtain⟨l,b,C,D⟩:=aOa d v h p F j;refine⟨l,b,C,fun e=>?_⟩;obtain⟨a,q,k1,x,H,I,k,J,L⟩:=D e;exact⟨a,q,k1,x,H,I,k,J,by rw[L];exact Nat.le_refl _⟩
 |some g=>
  have y:n.aR=false:=by
   unfold nextP at j
   cases w:n.aR with
   |false=>rfl
   |true=>rw[w]at j;simp at j
  unfold nextP at j;rw[y]at j;simp only[Bool.false_eq_true,if_false]at j;simp only
  cases c with
  |zero=>
   rw[if_pos (by rw[d];decide)];exact⟨_,_,rfl,fun e=>by cases e⟩
  |succ c=>
   rw[if_neg (by rw[d];omega)];obtain⟨k,z,A,B,M⟩:=Yn h p y j;unfold give;rw[z,Option.map_some,Option.map_some];have r:(s.nodes.set i k)[i]?=some k:=List.getElem?_set_self hi
   have u:k.pos=n.pos:=by
    obtain⟨m,k1,x,_⟩:=B.at' i n p;rw[r]at k1;cases k1;exact x
   exact⟨_,_,rfl,fun _=>⟨rho,c,by omega,by simp only;rw[d];omega,A,gN.set p u (by omega),k,r,by omega⟩⟩
theorem Ut:∀(f:Nat) (s:St) (i j:Nat) (a:St) (v:Int),sym f s i j=some (a,some v)->∃e,a.nodes[i]?=some e/\e.out[j]?=some v
 |0,s,i,j,a,v,h=>by simp[sym]at h
 |f+1,s,i,j,a,v,h=>by
  rw[aKZ]at h;obtain⟨n,g,h⟩:=Option.bind_eq_some_iff.1 h
  cases b:n.out[j]? with
  |some c=>
   rw[b]at h;cases h;exact⟨n,g,b⟩
  |none=>
   rw[b]at h;obtain⟨x,k,h⟩:=Option.bind_eq_some_iff.1 h
   by_cases d:x.2=true
   ·rw[if_pos d]at h;exact Ut f x.1 i j a v h
   ·rw[if_neg d]at h;cases h
theorem Xc {y:St×Bool}(j:s.nodes[i]?=some n)(h:after s i w=some y):(s.clock<1->y.2=false)/\(1<=s.clock->∃a,settle (s.nodes.set i {n with read:=bump n.read w}) i {n with read:=bump n.read w}=some a/\y=(⟨a,s.clock-1⟩,true)):=by
 unfold after at h;rw[j,Option.bind_some]at h;obtain⟨ns,b,d⟩:=Option.bind_eq_some_iff.1 h
 have e:ns=s.nodes.set i {n with read:=bump n.read w}:=by
  unfold put at b;split at b
  ·cases b;rfl
  ·cases b
 subst e;constructor
 ·intro hc;rw[if_pos (by omega)]at d;cases d;rfl
 ·intro hc;rw[if_neg (by omega)]at d;obtain⟨a,f,g⟩:=Option.map_eq_some_iff.1 d;exact⟨a,f,g.symm⟩
theorem aPU (h:Inv ns rho (c+1))(d:ns[i]?=some n){a r:Nat}{x:Nd}(e:n.args[w]?=some a)(f:n.read[w]?=some r)(g:ns[a]?=some x)(b:r<x.out.length):Inv (ns.set i {n with read:=bump n.read w}) rho c:=((h.tick (show c<=c+1 by omega)).put d (n':={n with read:=bump n.read w}) rfl (Nat.le_refl _) (aKb h d e f g b)).2.1
end
end Rf
namespace Ab
open Rf (Nd Inv aZ)
theorem Chg.alloc (w:World)(o:Obj):Chg w (w.alloc o) []:=Chg.eH ((Below.refl _ _).alloc (Nat.le_refl _) o)
variable {n:World}{k:Nat}{R:Ending->World->Prop}
theorem aEY {a:Nat}{r:Int}(H:∀f,Chg n f []->Calls prog 66 #[aA k,.int .i64 r,aA a] f fun e d=>∃z,e=.returned (.int .i64 z)/\R (.returned (.int .i64 z)) d):Calls prog 45 #[.agg #[aA k,.int .i64 r],aA a] n R:=by
 have g:=hid (H _ (Chg.alloc n (.cells #[aA k,.int .i64 r] 81)));clear H;unfold aA at*
 go_enter func45,ntmps45
 go_wp2_with fail
 refine(g.out).mono ?_;rintro e d⟨z,rfl,b⟩;have h:=hid b;clear b
 go_wp2_with fail
 exact h.out
theorem NodeAt.cell {n:World}{k:Nat}{s:List Int}{a:Bool}{v mt l j o:Int}{lp rp gv J f:Value}(h:NodeAt n k s a v mt l j o lp rp gv J f)(h8:s.length=8):n.cell? ⟨k,17,none⟩=some J/\n.cell? ⟨k,23,none⟩=some gv:=by
 obtain⟨g,i,p⟩:=h.ex;have r:=Mp s g p;rw[h8]at r
 have e:∀b d,([J,.int .i64 mt,lp,.int .i64 l,rp,.int .i64 j,gv,.int .i64 v,f,.int .i64 o]:List Value)[b]?=some d->(Value.bool a::g++[J,.int .i64 mt,lp,.int .i64 l,rp,.int .i64 j,gv,.int .i64 v,f,.int .i64 o]).toArray[17+b]?=some d:=by
  intro b d q;rw[List.getElem?_toArray,List.getElem?_append_right (by simp;omega)];rw[show 17+b-(Value.bool a::g).length=b by simp;omega];exact q
 exact⟨bK i (e 0 J rfl),bK i (e 6 gv rfl)⟩
theorem aIv {a cb:Nat}(hc:n.cell? ⟨k,17,none⟩=some (aA cb))(H:Calls prog 118 #[aA k,aA a] n fun e f=>∃b,e=.returned (.bool b)/\R (.returned (.bool b)) f):Calls prog 99 #[aA k,aA a] n R:=by
 have g:=hid H;clear H;unfold aA at*
 go_enter func99,ntmps99
 go_wp2_with fail
 refine(g.out).mono ?_;rintro e f⟨z,rfl,d⟩;have h:=hid d;clear d
 go_wp2_with fail
 exact h.out
theorem aIu {h:Nat}{b:Bool}(hc:n.cell? ⟨k,17,none⟩=some aB)(H:Calls prog 119 #[aA k] n fun e d=>e=.returned (.bool b)/\(b=true->Calls prog 120 #[aA k,aA h] d fun e d=>∃b,e=.returned (.bool b)/\R (.returned (.bool b)) d)/\(b=false->Calls prog 121 #[aA k,aA h] d fun e d=>∃b,e=.returned (.bool b)/\R (.returned (.bool b)) d)):Calls prog 99 #[aA k,aA h] n R:=by
 have j:=hid H;clear H;unfold aA aB at*
 go_enter func99,ntmps99
 go_wp2_with fail
 refine(j.out).mono ?_;rintro e d⟨rfl,i,a⟩
 cases b with
 |true=>
  have f:=hid (i rfl);clear i a
  go_wp2_with fail
  refine(f.out).mono ?_;rintro e d⟨z,rfl,a⟩;have g:=hid a;clear a
  go_wp2_with fail
  exact g.out
 |false=>
  have f:=hid (a rfl);clear i a
  go_wp2_with fail
  refine(f.out).mono ?_;rintro e d⟨z,rfl,a⟩;have g:=hid a;clear a
  go_wp2_with fail
  exact g.out
structure Ct (k fb:Nat) (j:Nat) (R:Ending->World->Prop) (J:Nat->World->Prop):Prop where
 ex:∀m w,J m w->∃gb len cap,(∃gv,w.cell? ⟨k,23,none⟩=some gv/\(gv=.slice gb len cap))/\len<=1000000/\
  ((len<=j/\Calls prog 83 #[aA k,aA fb] w fun e w'=>∃ b,e=.returned (.bool b)/\(b=true->∃ m',m'<m/\J m' w')/\(b=false->R (.returned (.int .i64 0)) w'))\/
   (j<len/\∃g c,gb=some ⟨g,0,none⟩/\w.cell? ⟨g,j,none⟩=some (.int .i64 c)/\R (.returned (.int .i64 c)) w))
theorem aIG {i p:Nat}{J:Nat->World->Prop}{m:Nat}(N:p<=1000000)(q:Ct k i p R J)(o:J m n):Calls prog 66 #[aA k,.int .i64 p,aA i] n R:=by
 have v:=hid q;have h:=hid o;clear q o;unfold aA
 go_enter func66,ntmps66
 go_wp2_with fail
 go_loopg [] m (fun B wr=>J B wr)
 case atStart=>exact h.out
 case round=>
  obtain⟨M,len,z,⟨gv,I,A⟩,O,f⟩:=v.out.ex _ _ hrel;subst A;have H:=hid hrel;clear hrel h
  rcases f with⟨C,hc⟩|⟨D,g,c,rfl,L,l⟩
  ·have HC:=hid hc;clear hc
   have F:((len:Int)<=(p:Int)):=by omega
   go_wp2_with fail
   refine(HC.out).mono ?_;rintro e T⟨b,rfl,a,d⟩
   cases b with
   |true=>
    obtain⟨E,k1,r⟩:=a rfl;have x:=hid k1;have y:=hid r;clear k1 r a d
    go_wp2_with fail
    go_roundg E
    case measure=>exact x.out
    case rel=>exact y.out
   |false=>
    have u:=hid (d rfl);clear a d
    go_wp2_with fail
    exact u.out
  ·have s:=hid l;clear l
   have F:¬((len:Int)<=(p:Int)):=by omega
   have P:¬((p:Int)<0):=by omega
   have S:((p:Int)<(len:Int)):=by omega
   go_wp2_with fail
   exact s.out
section
variable {w w':World} {b0 fb:Nat} {own own':Nat->Option Own} {at1 at2:Nat->Nat} {D:List Nat} {i:Nat} {n n':Nd} {s:Rf.St} {rho:Nat->Nat} {c:Nat}{v:Int}
theorem wX {N:Nat}(a:N<=10000000*k)(h:v.natAbs<2^N):Bits k v:=Nat.lt_of_lt_of_le h (Nat.pow_le_pow_right (by decide) a)
variable {j o C:Int}
theorem nO {x p1 p3 d:Int}{l:List Rf.V}(p:Inv s.nodes rho c)(r:s.nodes[i]?=some n)(q:Rf.corners s.nodes n=some l)(hc:Pg.eL l [(v,x),(p1,j),(o,C),(p3,d)]):∀z∈[v,x,p1,j,o,C,p3,d],Bits 10 z:=by
 have h:=hc.bits (Rf.aJe p (p.at' i n r) q)
 have a:∀z:Int,z.natAbs<2^70000000->Bits 10 z:=fun z b=>wX (N:=70000000) (by decide) b
 have e:=h (v,x) (by simp);have f:=h (p1,j) (by simp);have g:=h (o,C) (by simp);have k:=h (p3,d) (by simp);intro z b;simp at b
 rcases b with rfl|rfl|rfl|rfl|rfl|rfl|rfl|rfl
 ·exact a _ e.1
 ·exact a _ e.2
 ·exact a _ f.1
 ·exact a _ f.2
 ·exact a _ g.1
 ·exact a _ g.2
 ·exact a _ k.1
 ·exact a _ k.2
theorem Tf (o:Option Nat):One (eS at1 o):=by cases o<;>rfl
variable {gv:Value}
theorem gB.one {out:List Int}(h:gB w b0 own i out gv):One gv:=by
 rcases h with⟨rfl,_⟩|⟨g,b,a,rfl,_⟩<;>rfl
variable {mt:Int}{f u:Value}
theorem Blk.Dz {x p1 p3 e d:Int}(h:Blk w b0 own at1 i n v x p1 j o C p3 e mt d gv f u):One gv/\One f/\One u:=by
 refine⟨h.Ag.one,?_,?_⟩
 ·by_cases b:n.t=[]
  ·obtain⟨_,g,rfl,_⟩:=h.fI b;rfl
  ·rw[h.oA b];rfl
 ·cases a:n.nest with
  |false=>rw[h.nst.1 a];rfl
  |true=>obtain⟨k,rfl,_⟩:=h.nst.2 a;rfl
theorem NodeAt.arg {s:List Int}{a:Bool}{l:Int}{lp rp J e:Value}(h:NodeAt w k s a v mt l j o lp rp gv J e)(h8:s.length=8)(p:∀z∈s,Bits 10 z)(o1:One lp)(o2:One rp)(o3:One gv)(o4:One J)(o5:One e):iG w (some (k,a)) (aA k):=by
 obtain⟨d,g,f⟩:=h.ex;have u:=Mp s d f;refine⟨rfl,d++[J,.int .i64 mt,lp,.int .i64 l,rp,.int .i64 j,gv,.int .i64 v,e,.int .i64 o],by simpa using g,by simp;omega,?_⟩;have q:∀y∈d,One y:=Kc (C:=Z) (φ:=fun _=>none) (ν:=s.map fun z=>(z,10)) (w:=w) (tU s d 0 _ f p fun b z r=>by rw[Nat.zero_add,List.getElem?_map,r];rfl);intro y hy;rw[List.mem_append]at hy
 rcases hy with hy|hy
 ·exact q y hy
 ·simp only[List.mem_cons,List.not_mem_nil,or_false]at hy
  rcases hy with rfl|rfl|rfl|rfl|rfl|rfl|rfl|rfl|rfl|rfl<;>first|assumption|rfl
def sgO (ns:List Nd)(o:Option Nat):Option Bool:=o.map fun a=>match ns[a]? with|some x=>!x.pos|none=>false
def xG (ns:List Nd)(at':Nat->Nat)(o:Option Nat):Option (Nat×Bool):=o.map fun a=>(at' a,match ns[a]? with|some x=>!x.pos|none=>false)
theorem Ua (ns:List Nd)(at':Nat->Nat)(o:Option Nat):(xG ns at' o).map (·.2)=sgO ns o:=by cases o<;>rfl
variable {M:Option Nat}
theorem Net.Fv (h:Net w b0 own at1 fb s)(j:Inv s.nodes rho c)(p:∀a,M=some a->a<s.nodes.length):iG w (xG s.nodes at1 M) (eS at1 M):=by
 cases M with
 |none=>rfl
 |some a=>
  have k:=p a rfl;have f:s.nodes[a]?=some s.nodes[a]:=List.getElem?_eq_getElem k;obtain⟨u,y,p1,z,v,A,p3,B,mt,x,gv,q,r,g,l,b,d⟩:=(h.nd a _ f).ex;obtain⟨o1,o2,o3⟩:=g.Dz
  have e:xG s.nodes at1 (some a)=some (at1 a,!(s.nodes[a]).pos):=by unfold xG;simp[f]
  rw[e];exact g.nd.arg rfl (nO j f b d) (Tf _) (Tf _) o1 o2 o3
theorem aNw (b:aZ s.nodes rho c i n):∀a,lArg n=some a->a<s.nodes.length:=by
 intro a h;unfold lArg at h;split at h
 ·exact(b.arg 0 a h).1
 ·cases h
theorem aSJ (b:aZ s.nodes rho c i n):∀a,rArg n=some a->a<s.nodes.length:=by
 intro a h;unfold rArg at h;split at h
 ·exact(b.arg 1 a h).1
 ·split at h
  ·exact(b.arg 0 a h).1
  ·cases h
structure Seen (w:World) (b0:Nat) (own:Nat->Option Own) (at1:Nat->Nat) (ns:List Nd) (i:Nat) (n:Nd) (p0 q0 p1 q1 p2 q2 p3 q3 mt pl:Int) (gv cv nv:Value) (l:List Rf.V) (g:Option (Nat×Nat)) (cc nn:Option Nat):Prop where
 cD:Blk w b0 own at1 i n p0 q0 p1 q1 p2 q2 p3 q3 mt pl gv cv nv
 Ck:Rf.corners ns n=some l
 Gb:Pg.eL l [(p0,q0),(p1,q1),(p2,q2),(p3,q3)]
 bits:∀z∈[p0,q0,p1,q1,p2,q2,p3,q3],Bits 10 z
 la:iG w (xG ns at1 (lArg n)) (eS at1 (lArg n))
 ra:iG w (xG ns at1 (rArg n)) (eS at1 (rArg n))
 gat:GivAt w g gv
 aX9:(g.map (·.2)).getD 0=n.out.length
 cat:ExtAt w 132 cc cv
 nat:ExtAt w 206 nn nv
 Jg:nn.isSome=n.nest
theorem Net.seen (h:Net w b0 own at1 fb s)(p:Inv s.nodes rho c)(x:s.nodes[i]?=some n):∃A E p1 F B H p3 I mt C gv o q l g e d,Seen w b0 own at1 s.nodes i n A E p1 F B H p3 I mt C gv o q l g e d:=by
 obtain⟨A,E,p1,F,B,H,p3,I,mt,C,gv,o,q,b,l,f,j⟩:=(h.nd i n x).ex;have J:=p.at' i n x
 obtain⟨g,O,v⟩:∃g,GivAt w g gv/\(g.map (·.2)).getD 0=n.out.length:=by
  rcases b.Ag with⟨rfl,a⟩|⟨g,r,M,rfl,a,R,S,T,U⟩
  ·exact⟨none,rfl,by rw[a];rfl⟩
  ·exact⟨some (g,n.out.length),⟨r,rfl,_,a⟩,rfl⟩
 obtain⟨e,u⟩:∃e,ExtAt w 132 e o:=by
  by_cases L:n.t=[]
  ·obtain⟨_,N,rfl,a⟩:=b.fI L;exact⟨some N,rfl,a.cD⟩
  ·exact⟨none,b.oA L⟩
 obtain⟨d,y,z⟩:∃d,ExtAt w 206 d q/\d.isSome=n.nest:=by
  cases k:n.nest with
  |false=>exact⟨none,b.nst.1 k,rfl⟩
  |true=>
   obtain⟨P,rfl,a,_⟩:=b.nst.2 k;exact⟨some P,⟨rfl,a⟩,rfl⟩
 exact⟨A,E,p1,F,B,H,p3,I,mt,C,gv,o,q,l,g,e,d,b,f,j,nO p x f j,h.Fv p (aNw J),h.Fv p (aSJ J),O,v,u,y,z⟩
theorem aQw (z:aZ s.nodes rho c i n):(dA (sgO s.nodes (lArg n)) (gX n)||dA (sgO s.nodes (rArg n)) (fY n))=Rf.waits s.nodes n.args n.read:=by
 have A:∀a,a∈n.args->∃x,s.nodes[a]?=some x:=by
  intro a d;obtain⟨j,E,e⟩:=List.getElem_of_mem d;exact⟨_,List.getElem?_eq_getElem (z.arg j a (by rw[List.getElem?_eq_getElem E,e])).1⟩
 have h:∀(a r:Nat) (x:Nd),s.nodes[a]?=some x->dA (sgO s.nodes (some a)) (r:Int)=(!x.pos&&r==0):=by
  intro a r x e;unfold sgO dA;simp only[Option.map_some,e];congr 1;rw[Bool.eq_iff_iff];simp
 cases z.shp with
 |fI f d _ _=>
  unfold lArg rArg gX fY;rw[f,d];simp[sgO,dA,Rf.waits]
 |gH v f d _ _=>
  unfold lArg rArg gX fY;rw[f,d];simp[sgO,dA,Rf.waits]
 |kP v u a f d _=>
  obtain⟨r,g⟩:∃r,n.read=[r]:=List.length_eq_one_iff.1 (by rw[z.len,d];rfl);obtain⟨x,e⟩:=A a (by rw[d];simp)
  have o:lArg n=none:=by unfold lArg;rw[f];rfl
  have p:rArg n=some a:=by unfold rArg;rw[f,d];rfl
  have q:fY n=r:=by unfold fY;rw[f,g];rfl
  rw[o,p,q,h a r x e,d,g];simp[sgO,dA,Rf.waits,e]
 |bin a b v u x y f d _=>
  obtain⟨r,k,g⟩:∃r k,n.read=[r,k]:=by
   have:=z.len;rw[d]at this
   match hh:n.read,this with
   | [r,k],_=>exact⟨r,k,rfl⟩
  obtain⟨x1,l⟩:=A a (by rw[d];simp);obtain⟨x2,B⟩:=A b (by rw[d];simp)
  have o:lArg n=some a:=by unfold lArg;rw[f,d];rfl
  have p:rArg n=some b:=by unfold rArg;rw[f,d];rfl
  have q:gX n=r:=by unfold gX;rw[f,g];rfl
  have C:fY n=k:=by unfold fY;rw[f,g];rfl
  rw[o,p,q,C,h a r x1 l,h b k x2 B,d,g];simp[Rf.waits,l,B]
 |nest a v u x y f d _ _ _=>
  obtain⟨r,g⟩:∃r,n.read=[r]:=List.length_eq_one_iff.1 (by rw[z.len,d];rfl);obtain⟨x1,l⟩:=A a (by rw[d];simp)
  have o:lArg n=some a:=by unfold lArg;rw[f,d];rfl
  have p:rArg n=none:=by unfold rArg;rw[f,d];rfl
  have q:gX n=r:=by unfold gX;rw[f,g];rfl
  rw[o,p,q,h a r x1 l,d,g];simp[sgO,dA,Rf.waits,l]
variable {l:List Rf.V}{g:Option (Nat×Nat)}
theorem Seen.next {J O p1 L p3 P N:Int}{I:Option Nat}(h:Seen w b0 own at1 s.nodes i n J O p1 j L C p3 P mt N gv f u l g M I)(B:aZ s.nodes rho c i n){o:Option Int}(k:Rf.nextP s.nodes n=some o):Calls prog 98 #[aA (at1 i)] w fun e w'=>e=.returned (.int .i64 (eI o))/\Chg w w' []:=by
 refine(aLN h.cD.nd h.bits h.la h.ra h.gat h.cat h.nat).mono ?_;rintro e w'⟨rfl,F⟩;refine⟨?_,Chg.eH F⟩;congr 2;unfold Rf.nextP at k
 cases d:n.aR with
 |true=>
  rw[d]at k;simp only[if_true,Option.some.injEq]at k;subst k
  have z:fL n≠0:=by
   unfold fL;rw[d,if_pos rfl]
   have r:Rf.fn n.op:=by
    cases B.shp with
    |fI q E a hc=>rw[d]at a;cases a
    |gH v q E a hv=>rw[d]at a;cases a
    |kP v w A q p a=>exact(a d).2.1
    |bin A b v w x y q p a=>rw[d]at a;cases a
    |nest A v w x y q p a H ok=>rw[d]at a;cases a
   rcases r with e|e|e|e<;>rw[e]<;>decide
  unfold sQ;rw[show(fL n != 0)=true from by simpa using z];rfl
 |false=>
  rw[d]at k;simp only[Bool.false_eq_true,if_false]at k
  have z:fL n=0:=by unfold fL;rw[d];rfl
  rw[z,Ua,Ua];exact aSq h.Ck h.Gb (by simp) h.aX9 (aQw B) k
theorem aH3 {sd:Nat}{o:Option Nat}{r:Nat}(b:n.args[sd]?=o)(g:o=none->r=0)(f:∀a,o=some a->n.read[sd]?=some r/\∃x,s.nodes[a]?=some x):Rf.digits s.nodes n sd=some (vH (sgO s.nodes o) r):=by
 unfold Rf.digits
 cases o with
 |none=>
  rw[if_neg (by have:=List.getElem?_eq_none_iff.1 b;omega)];rfl
 |some a=>
  obtain⟨d,x,e⟩:=f a rfl;rw[if_pos (List.getElem?_eq_some_iff.1 b).1,b];simp only[Option.bind_some,e,d,Option.map_some,sgO,vH]
  cases x.pos<;>simp
theorem Seen.reads {q0 p1 p2 p3 q3 pl:Int}{nn:Option Nat}(h:Seen w b0 own at1 s.nodes i n v q0 p1 j p2 C p3 q3 mt pl gv f u l g M nn)(H:aZ s.nodes rho c i n){J:Nat}(S:Rf.side s.nodes n=some J):Calls prog 119 #[aA (at1 i)] w fun e w'=>e=.returned (.bool (decide (n.t.length=4/\J=0)))/\Chg w w' []:=by
 refine(aJH h.cD.nd h.bits h.la h.ra h.gat h.cat h.nat).mono ?_;rintro e w'⟨rfl,Y⟩;refine⟨?_,Chg.eH Y⟩;congr 2;rw[Ua,Ua,h.Jg]
 by_cases q:n.t.length=4
 ·have U:∀a,a∈n.args->∃x,s.nodes[a]?=some x:=by
   intro a B;obtain⟨d,L,e⟩:=List.getElem_of_mem B;exact⟨_,List.getElem?_eq_getElem (H.arg d a (by rw[List.getElem?_eq_getElem L,e])).1⟩
  have N:lArg n=n.args[0]?:=by unfold lArg;rw[if_pos q]
  have hr:rArg n=n.args[1]?:=by unfold rArg;rw[if_pos q]
  have O:gX n=n.read.getD 0 0:=by unfold gX;rw[if_pos q]
  have P:fY n=n.read.getD 1 0:=by unfold fY;rw[if_pos q]
  have T:∀d,n.read.getD d 0<=1000000:=by
   intro d;rw[List.getD_eq_getElem?_getD]
   cases e:n.read[d]? with
   |none=>simp
   |some r=>have:=H.jE r (List.mem_of_getElem? e);simp;omega
  have E:∀(d a:Nat),n.args[d]?=some a->n.read[d]?=some (n.read.getD d 0):=by
   intro d a e;have L:=(List.getElem?_eq_some_iff.1 e).1;rw[List.getD_eq_getElem?_getD,List.getElem?_eq_getElem (by rw[H.len];exact L)];rfl
  obtain⟨a0,A⟩:∃a0,n.args[0]?=some a0:=by
   cases H.shp with
   |fI F B _ _=>rw[F]at q;simp at q
   |gH p F B _ _=>rw[F]at q;simp at q
   |kP p k a F B _=>rw[F]at q;simp at q
   |bin a b p k x y F B _=>exact⟨a,by rw[B];rfl⟩
   |nest a p k x y F B _ _ _=>exact⟨a,by rw[B];rfl⟩
  have z:n.args[1]?=none->n.read.getD 1 0=0:=by
   intro e;have:=List.getElem?_eq_none_iff.1 e;rw[List.getD_eq_getElem?_getD,List.getElem?_eq_none_iff.2 (by rw[H.len];exact this)];rfl
  have d0:=aH3 (s:=s) (n:=n) (sd:=0) (o:=some a0) (r:=n.read.getD 0 0) A (fun e=>by cases e) fun a e=>⟨E 0 a0 A,U a (by cases e;exact List.mem_of_getElem? A)⟩
  have d1:=aH3 (s:=s) (n:=n) (sd:=1) (o:=n.args[1]?) (r:=n.read.getD 1 0) rfl z fun a e=>⟨E 1 a e,U a (List.mem_of_getElem? e)⟩
  have R:∃W,sgO s.nodes (some a0)=some W:=⟨_,rfl⟩
  obtain⟨W,I⟩:=R;rw[N,hr,O,P,A,I];rw[I]at d0;rw[aPV q h.Ck (Pg.aHZ q h.Ck) h.Gb (T 0) (T 1) ?_ d0 d1 S]
  ·simp[q]
  ·intro e;refine z ?_
   cases X:n.args[1]? with
   |none=>rfl
   |some a=>rw[X]at e;simp[sgO]at e
 ·have N:lArg n=none:=by unfold lArg;rw[if_neg q]
  rw[N];simp[q,sgO,oH]
end
end Ab
end Go.Proofs.YtkmojpfpfoaloaaGreatDoor
