import Derived.Test.YteghhlfmcjmnoaaGreatDoorCKn05
import Derived.Test.YteghhlfmcjmnoaaGreatDoorCKn12
import Derived.Test.YteghhlfmcjmnoaaGreatDoorCKn10
set_option linter.unusedSimpArgs false
set_option linter.unusedVariables false
set_option maxRecDepth 100000
set_option maxHeartbeats 2000000
namespace Go.Proofs.YteghhlfmcjmnoaaGreatDoor
open Go.RowKit
namespace Ab
def appAt (s:AS):List (K (List AT))->Option (TypeId×TypeId×TypeId×AT×AT×Option Tmp×List (K (List AT)))
 | .ops all (i::rest)::ks=>(all[i]?).bind fun o=>
  match gd all s.tmps o with
  | .yes=>match o.op with
   | .call { callee:=.builtin .append,args:=args,argTypes:=ts}=>match ts.toList,args.toList with
    | [t,t'],[x,y]=>some (t,t',o.type,evO s.tmps x,evO s.tmps y,o.dst,.ops all rest::ks)
    | _,_=>none
   | _=>none
  | _=>none
 | _=>none
theorem aNK {C:Cfg}{R:Ending->World->Prop}{w0:World}{ψ φ:Nat->Option (Nat×Nat)}{s:AS}{a:Act}{w:World}{ks ks2:List (K (List AT))}{kcs:List (K Act)}{t t' ty:TypeId}{sv xv:AT}{dst:Option Tmp}(h:appAt s ks=some (t,t',ty,sv,xv,dst,ks2))(g:noFr ks=true){φ1:Nat->Option (Nat×Nat)}{ν1:List (Int×Nat)}{w1:World}(l:SR C φ1 ν1 w1 ks kcs)(m:Rep C w0 ψ φ s a w)
  (H:∀ v1 v2,relT C φ s.nums w sv v1->relT C φ s.nums w xv v2->∃ v w',(Builtin.append_ #[t,t'] ty #[v1,v2]).run C.P w=.ok v w'/\∀ kcs2,noFr ks2=true->(∀ φ' ν' w'',SR C φ' ν' w'' ks2 kcs2)->sem C.P R kcs2 .normal (a.put dst v) w'):sem C.P R kcs .normal a w:=by
 unfold appAt at h;split at h
 ·rename_i all i b j;obtain ⟨o,u,c⟩:=bnd h;split at c
  ·rename_i B;split at c
   ·rename_i f D k;split at c
    ·rename_i J E x y F I;cases c
     match kcs,l with
     | .ops all' r'::kcs',⟨q1,q2,hsr2⟩=>
      subst q1 q2;show wpOps C.P all' (sem C.P R kcs') (i::b) a w;rw [wpOps_cons];have n:=aL0 (all:=all') (o:=o) m.tmps;rw [B] at n
      have p:f=#[x,y]:=by apply Array.toList_inj.1;rw [I]
      have q:D=#[t,t']:=by apply Array.toList_inj.1;rw [F]
      subst p q;obtain ⟨v,w',z,A⟩:=H _ _ (aB2 m.tmps x) (aB2 m.tmps y);unfold wpOp;simp only [u];rw [if_pos n];refine Or.inl ?_;unfold Oper.wp
      have r:(execOp a.eval o).run C.P w=.ok (.value v) w':=by
       unfold execOp;rw [k];show ((do pure (Next.value (<-Builtin.append_ #[t,t'] o.type (#[x,y].map a.eval))):Sem Next).run C.P w)=_
       have e:#[x,y].map a.eval=#[a.eval x,a.eval y]:=by simp
       rw [e,Sem.run_bind,z];rfl
      rw [r]
      have d:noFr j=true:=by simpa [noFr] using g
      exact A (.ops all' b::kcs') (by simpa [noFr] using g) fun φ' ν' w''=>⟨rfl,rfl,SR.any d hsr2⟩
    ·cases c
   ·cases c
  ·cases c
 ·cases h
theorem aHo (m:Nat):∀ (r c:Nat),Builtin.growBy m r c<=(c+768)*2^r
 | 0,c=>by simp [Builtin.growBy]
 | r+1,c=>by
  have e:(c+768)*2^(r+1)=((c+768)*2)*2^r:=by rw [Nat.pow_succ];grind
  unfold Builtin.growBy;split
  ·have h1:1<=2^(r+1):=Nat.one_le_two_pow;have:(c+768)*1<=(c+768)*2^(r+1):=Nat.mul_le_mul_left _ h1;omega
  ·refine Nat.le_trans (aHo m r _) ?_;rw [e];exact Nat.mul_le_mul_right _ (by omega)
theorem aQj {need cap:Nat}(a:cap<need)(b:need<=100000):Builtin.nextslicecap need cap<=2000000:=by
 unfold Builtin.nextslicecap;split
 ·omega
 ·split
  ·omega
  ·refine Nat.le_trans (aHo need 4 cap) ?_;rw [show (2:Nat)^4=16 from rfl];omega
theorem aGX {P:Program}{t t' e u ty:TypeId}{size sLen a n xc:Nat}{b xb:Option Addr}{d new:Array Value}{o:Value}{i:TypeInfo}{w:World}(v:P.underlying t=some (.slice e))(k:P.underlying t'=some (.slice u))(l:szOf P e=some size)(x:P.info? e=some i)(m:i.bytes<=1000000)
  (y:∀ w,(zeroValue e).run P w=.ok o w)
  (f:∀ w',w'.heap=w.heap->(Builtin.firstCells size sLen (.slice b sLen a)).run P w'=.ok d w') (g:∀ w',w'.heap=w.heap->(Builtin.firstCells size n (.slice xb n xc)).run P w'=.ok new w') (h:¬sLen+n<=a) (hs:sLen+n<=100000):
  ∃ cap,sLen+n<=cap/\(Builtin.append_ #[t,t'] ty #[.slice b sLen a,.slice xb n xc]).run P w=.ok (.slice (some ⟨w.heap.size,0,none⟩) (sLen+n) cap) {w with heap:=w.heap.push (.cells (d++new++Builtin.zeroCells o.cells (cap-(sLen+n))) e),drawn:=w.drawn+1}:=by
 have z:¬((sLen+n:Nat):Int)>IntKind.i64.max:=by
  have:IntKind.i64.max=9223372036854775807:=by decide
  omega
 have p:¬(IntKind.i64.max<(sLen:Int)+(n:Int)):=by
  have:IntKind.i64.max=9223372036854775807:=by decide
  omega
 have q:¬(Builtin.nextslicecap (sLen+n) a*i.bytes>2^48):=by
  have:=aQj (need:=sLen+n) (cap:=a) (by omega) hs;have:Builtin.nextslicecap (sLen+n) a*i.bytes<=2000000*1000000:=Nat.mul_le_mul this m;omega
 have j:¬(281474976710656<Builtin.nextslicecap (sLen+n) a*i.bytes):=by simpa using q
 refine ⟨(Question.appendCap (sLen+n) a e).cut (w.tape w.drawn (.appendCap (sLen+n) a e)),by simp [Question.cut],?_⟩
 have c:¬((9223372036854775807:Int)<(sLen:Int)+(n:Int)):=by omega
 have r:=f w.drew rfl;have s:=g w.drew rfl;simp [Builtin.append_,underlying,v,k,aAE l,Builtin.lenOf,h,typeInfo,x,c,j,Question.forced,r,s,y,newRow];rfl
def RowOf (w:World)(e:TypeId)(xs:List Value)(v:Value)(g:Option Nat):Prop:=
 (v=.slice none 0 0/\xs=[]/\g=none)\/∃ b cap,∃ rest:List Value,g=some b/\v=.slice (some ⟨b,0,none⟩) xs.length cap/\w.heap[b]?=some (.cells (xs++rest).toArray e (0,0))/\xs.length<=cap/\cap<=xs.length+rest.length
theorem aD0 (z:Array Value)(n:Nat):(Builtin.zeroCells z n).size=n*z.size:=by
 simp [Builtin.zeroCells]
theorem aQe {bt:List TypeId}{P:Program}{t t' e ty:TypeId}{i:TypeInfo}{A:Value}(R:P.underlying t=some (.slice e))(s:P.underlying t'=some (.slice e))(u:szOf P e=some 1)(hi:P.info? e=some i)(H:i.bytes<=1000000)(hz:∀ w,(zeroValue e).run P w=.ok A w)(I:A.cells.size=1)(J:bt.contains e=true)
  {w:World} {xs:List Value} {v xv x:Value} {g:Option Nat} (y:RowOf w e xs v g) {k xc:Nat} {pre post:List Value} {L:TypeId} (hx:w.heap[k]?=some (.cells (pre++[x]++post).toArray L (0,0))) (M:xv=.slice (some ⟨k,pre.length,none⟩) 1 xc) (N:One x) (S:xs.length<=99999):
  ∃ v' w' b,(Builtin.append_ #[t,t'] ty #[v,xv]).run P w=.ok v' w'/\RowOf w' e (xs++[x]) v' (some b)/\(g=some b\/w.heap.size<=b)/\On bt w w'/\∀ j,j<w.heap.size->j≠b->w'.heap[j]?=w.heap[j]?:=by
 subst M
 have l:∀ w',w'.heap=w.heap->(Builtin.firstCells 1 1 (.slice (some ⟨k,pre.length,none⟩) 1 xc)).run P w'=.ok #[x] w':=fun w' hw=>aBr (ys:=[x]) (by rw [hw];exact hx) rfl
 have m:∀ (F:Option Addr) (c:Nat),v=.slice F xs.length c->¬xs.length+1<=c->(∀ w',w'.heap=w.heap->(Builtin.firstCells 1 xs.length (.slice F xs.length c)).run P w'=.ok xs.toArray w')->∃ v' w' b,(Builtin.append_ #[t,t'] ty #[v,.slice (some ⟨k,pre.length,none⟩) 1 xc]).run P w=.ok v' w'/\RowOf w' e (xs++[x]) v' (some b)/\(g=some b\/w.heap.size<=b)/\On bt w w'/\∀ j,j<w.heap.size->j≠b->w'.heap[j]?=w.heap[j]?:=by
  intro F c hv p q;obtain ⟨f,X,Y⟩:=aGX (ty:=ty) R s u hi H hz q l p (by omega);subst hv;refine ⟨_,_,w.heap.size,Y,Or.inr ⟨w.heap.size,f,(Builtin.zeroCells A.cells (f-(xs.length+1))).toList,rfl,by simp,?_,by simpa using X,?_⟩,Or.inr (Nat.le_refl _),⟨rfl,rfl,rfl,by simp,fun j o hj=>Or.inl ?_⟩,fun j hj _=>?_⟩
  ·rw [Array.getElem?_push_size];congr 2;apply Array.toList_inj.1;simp
  ·have O:=aD0 A.cells (f-(xs.length+1));rw [I] at O;simp [O];omega
  ·obtain ⟨C,D⟩:=Array.getElem?_eq_some_iff.1 hj;rw [Array.getElem?_push_lt C,D]
  ·rw [Array.getElem?_push_lt hj,Array.getElem?_eq_getElem hj]
 rcases y with ⟨E,z,n⟩ | ⟨b,c,d,E,z,n,h4,h5⟩
 ·subst z
  exact m none 0 E (by simp) fun w' _=>aDr
 ·by_cases p:xs.length+1<=c
  ·subst z;have B:=aEV (ty:=ty) (a:=⟨b,0,none⟩) (sLen:=xs.length) R s u (l w rfl) p;obtain ⟨w',s1,h⟩:=aBu (P:=P) xs.length [x] 0 w (xs++d) n (by simp;omega) (by simpa using N)
   have T:(⟨b,0,none⟩:Addr).add (xs.length*1)=⟨b,xs.length,none⟩:=by rw [aB3];simp
   rw [T,show (#[x]:Array Value).toList=[x] from rfl,s1] at B;simp only [Result.andThen_ok] at B;rw [Nat.add_zero,aCD _ _ _ (by simp;omega)] at h
   have U:(xs++d).take xs.length=xs:=by simp
   have W:(xs++d).drop (xs.length+[x].length)=d.drop 1:=by simp
   rw [U,W] at h;refine ⟨_,w',b,B,Or.inr ⟨b,c,d.drop 1,rfl,by simp,h.blk,by simpa using p,by simp;omega⟩,Or.inl E,⟨h.os,h.tape,h.output,by rw [h.size];exact Nat.le_refl _,fun j o hj=>?_⟩,fun j _ hj=>h.others j hj⟩
   by_cases r:j=b
   ·subst r;rw [n] at hj;cases hj;refine Or.inr ⟨J,?_⟩;unfold World.shape?;rw [h.blk,n];simp;omega
   ·exact Or.inl (by rw [h.others j r];exact hj)
  ·exact m _ c z p fun w' hw=>aBr (pre:=[]) (ys:=xs) (by rw [hw];exact n) (by simp)
end Ab
open Go.RowKit
namespace Ab
def contD (d:Nat)(p:Oper->Bool):Code->List (K (List AT))->Option (List (K (List AT)))
 | .region _ ops false,ks=>(idxOp p ops.toList 0).map fun j=>.ops ops ((List.range ops.size).drop (j+d))::ks
 | .seq a b,ks=>match contD d p a (.code b::ks) with | some r=>some r | none=>contD d p b ks
 | .block id b,ks=>contD d p b (.blk id::ks)
 | .cond _ a b,ks=>match contD d p a ks with | some r=>some r | none=>contD d p b ks
 | _,_=>none
def bef (p:Oper->Bool)(fn:Func):List (K (List AT)):=(contD 0 p (bodyOf fn) [.top fn]).getD []
def nrmE (ka kta:List Nat)(na:Nat)(kb ktb:List Nat)(nb:Nat)(s:AS):Option (AS×List Prop):=match nrm ka kta na [] s with | some r=>some r | none=>nrm kb ktb nb [] s
def NrmR (ψ:Nat->Option (Nat×Nat))(ns:AS->Option (AS×List Prop)):Prop:=∀ w0 φ s s' p a w,ns s=some (s',p)->Holds p->Rep Z w0 ψ φ s a w->∃ φ',Rep Z w0 ψ φ' s' a w
theorem aA7 {ψ:Nat->Option (Nat×Nat)}{kb kt:List Nat}{nx:Nat}{rb:List Nat}(hψ:∀ b x,ψ b=some x->kb.contains b=true):NrmR ψ (nrm kb kt nx rb):=fun w0 φ s s' p a w h hp hr=>⟨_,aMA h hp hψ hr⟩
theorem aTL {ψ:Nat->Option (Nat×Nat)}{i c:List Nat}{j:Nat}{kb d:List Nat}{nb:Nat}(k:∀ b x,ψ b=some x->i.contains b=true)(l:∀ b x,ψ b=some x->kb.contains b=true):NrmR ψ (nrmE i c j kb d nb):=by
 intro m φ s n p a w h f g;unfold nrmE at h;split at h
 ·rename_i r e;cases h;exact ⟨_,aMA e f k g⟩
 ·exact ⟨_,aMA h f l g⟩
theorem xrun' {w0:World}{ψ:Nat->Option (Nat×Nat)}{sp:Spec}{bodies:FuncId->Option Func}{stp:List (K (List AT))->Bool}{R:Ending->World->Prop}(e:SpecOk Z w0 ψ sp)(q:BodiesOk Z bodies){kb:List Nat}{nx:Nat}{rb:List Nat}{ns:AS->Option (AS×List Prop)}(M:∀ b x,ψ b=some x->kb.contains b=true)(t:NrmR ψ ns){n:Nat}{ks:List (K (List AT))}{s:AS}{A:XT}
  (N:(run Z sp bodies (drawA Z sp) stp n ks s).bind (outX (nrm kb [] nx rb) ns)=some A) (G:AT->AS->Prop) (H:List (K (List AT))->AS->Prop) (u:A.ok G H)
  (O:∀ r s' φ' v w',G r s'->(∀ b,r=.val (.one (.bool b))\/r=.val (.one (.sbool b))->v=.bool b)->(∀ k z,r=.val (.one (.sint k z))\/r=.val (.one (.int k z))->v=.int k z)->RepW Z w0 ψ φ' s' w'->R (.returned v) w')
  (S:∀ ks' s',H ks' s'->noFr ks'=true/\∀ (kcs:List (K Act)) (φ':Nat->Option (Nat×Nat)) (a:Act) (w':World),(∀ φ1 ν1 w1,SR Z φ1 ν1 w1 ks' kcs)->Rep Z w0 ψ φ' s' a w'->sem Z.P R kcs .normal a w'):
  ∀ (kcs:List (K Act)) (φ:Nat->Option (Nat×Nat)) (a:Act) (w:World),SR Z φ s.nums w ks kcs->Rep Z w0 ψ φ s a w->sem Z.P R kcs .normal a w:=by
 intro kcs φ a w o L;obtain ⟨B,C,D⟩:=bnd N;refine aBY e q (aAI mixed e) _ _ ?_ ?_ n ks s B C (aEe D u) kcs φ a w o L
 ·rintro ks' s' ⟨g,p,h,i,j⟩ c φ' J w' d l;obtain ⟨E,F⟩:=S ks' g j;obtain ⟨I,f⟩:=t _ _ _ _ _ _ _ h i l;exact F c I J w' (fun φ1 ν1 w1=>SR.any E d) f
 ·rintro r s' φ' v w' ⟨g,p,h,i,j⟩ y m;refine O r g _ v w' j ?_ ?_ (aIw h i M m)
  ·rintro b (rfl | rfl)<;>exact y
  ·rintro k z (rfl | rfl)<;>exact y
abbrev P0:AT:=.val (.one (.ptr 0 0))
abbrev P6:AT:=.val (.one (.ptr 6 0))
abbrev litT (v:Value):AT:=.val (.one (.lit v))
abbrev sintT (z:Int):AT:=.val (.one (.sint .i64 z))
theorem aBp {φ:Nat->Option (Nat×Nat)}{ν:List (Int×Nat)}{w:World}{b k:Nat}{x:Value}(d:φ b=some (k,0))(h:relV Z φ ν w (.one (.ptr b 0)) x):x=ptrB k:=by
 obtain ⟨e,o,a,c⟩:=h;rw [d] at a;cases a
 simpa [ptrB] using c
end Ab
namespace Rf
open Nw
def VBits (n:Nat)(v:V):Prop:=Bits n v.1/\Bits n v.2
theorem VBits.mono {n m:Nat}{v:V}(h:VBits n v)(hnm:n<=m):VBits m v:=⟨aAg h.1 hnm,aAg h.2 hnm⟩
theorem aJ6 {a b:Nat}{m:Mt}{v:V}(hm:MBits a m)(hv:VBits b v):VBits (a+b+1) (vat m v):=⟨aAH (aAk hm.a hv.1) (aAk hm.b hv.2),aAH (aAk hm.c hv.1) (aAk hm.d hv.2)⟩
theorem aO4 {a b:Nat}{m:Mt}{v:V}(hm:MBits a m)(hv:VBits b v):VBits (a+b+1) (vag m v):=⟨aAH (aAk hm.d hv.1) (aAk (aBw hm.b) hv.2),aAH (aAk hm.a hv.2) (aAk (aBw hm.c) hv.1)⟩
theorem aBj {n a b:Nat}{t:List V}{x y:V}(e:∀ v∈t,VBits n v)(c:VBits a x)(d:VBits b y):VBits (n+(a+b)+3) (tensor t x y):=by
 unfold tensor;split
 ·rename_i p q r s;have f:=e p (by simp);have g:=e q (by simp);have h:=e r (by simp);have i:=e s (by simp)
  exact ⟨aAH (aAH (aAH (aAk f.1 (aAk c.1 d.1)) (aAk g.1 (aAk c.1 d.2))) (aAg (aAk h.1 (aAk c.2 d.1)) (by omega))) (aAg (aAk i.1 (aAk c.2 d.2)) (by omega)),
   aAH (aAH (aAH (aAk f.2 (aAk c.1 d.1)) (aAk g.2 (aAk c.1 d.2))) (aAg (aAk h.2 (aAk c.2 d.1)) (by omega))) (aAg (aAk i.2 (aAk c.2 d.2)) (by omega))⟩
 ·exact ⟨by unfold Bits;simp;exact Nat.pow_pos (by decide),by unfold Bits;simp;exact Nat.pow_pos (by decide)⟩
theorem aJh {a:Nat}{m:Mt}(e:MBits a m):VBits a (vat m (1,0))/\VBits a (vat m (0,1)):=by
 have f:vat m (1,0)=(m.a,m.c):=by simp [vat,Mt.at1,Mt.at2]
 have g:vat m (0,1)=(m.b,m.d):=by simp [vat,Mt.at1,Mt.at2]
 rw [f,g];exact ⟨⟨e.a,e.c⟩,e.b,e.d⟩
theorem aNw:VBits 6001 ((1,0):V)/\VBits 6001 ((0,1):V):=by
 have a:Bits 6001 0:=bits0;have b:Bits 6001 1:=bits1 (by decide);exact ⟨⟨b,a⟩,a,b⟩
section
variable {ns:List Nd} {rho:Nat->Nat} {c i:Nat} {n:Nd}
theorem aDI (h:Inv ns rho c)(f:NInv ns rho c i n){sd a:Nat}(g:n.args[sd]?=some a){e:V×V}(j:ends ns n sd=some e):VBits 6001 e.1/\VBits 6001 e.2:=by
 obtain ⟨m,x,r,d,l,o,p⟩:=aBW h f g;rw [p] at j;cases j;have b:=h.at' a x d;have k:=b.hadb r m o;have t:=f.rd sd a r x g l d;have u:=b.outu;obtain ⟨q,s⟩:=aJh k;exact ⟨q.mono (by omega),s.mono (by omega)⟩
theorem aLi (h:Inv ns rho c)(m:NInv ns rho c i n){l:List V}(g:bare ns n=some l):∀ v∈l,VBits 60000000 v:=by
 have f:=m.tb;have d:∀ v∈n.t,VBits 13000 v:=f;unfold bare at g
 cases m.shp with
 | con f ha hp hc=>
  rw [f] at g;cases g;obtain ⟨E,F⟩:=aJh m.partb;have H:=m.ku
  have q:1+n.k*18500<=60000000:=by
   have:n.k*18500<=3000*18500:=Nat.mul_le_mul_right _ (by omega);omega
  intro v D;simp at D
  rcases D with rfl | rfl
  ·exact E.mono q
  ·exact F.mono q
 | frac v f ha hp D=>
  rw [f] at g d;cases g;intro u j;exact (d u j).mono (by decide)
 | una v w a f ha hp=>
  rw [f] at g d;obtain ⟨e,s,rfl⟩:=Option.map_eq_some_iff.1 g;obtain ⟨o,p⟩:=aDI h m (sd:=0) (a:=a) (by rw [ha];rfl) s
  have q:MBits 13000 ⟨v.1,w.1,v.2,w.2⟩:=⟨(d v (by simp)).1,(d w (by simp)).1,(d v (by simp)).2,(d w (by simp)).2⟩
  intro u j;simp at j
  rcases j with rfl | rfl
  ·exact (aJ6 q o).mono (by decide)
  ·exact (aJ6 q p).mono (by decide)
 | bin a b v w x y f ha hp=>
  rw [f] at g d;obtain ⟨e,s,C⟩:=Option.bind_eq_some_iff.1 g;obtain ⟨r,z,rfl⟩:=Option.map_eq_some_iff.1 C;rw [if_pos (by rw [ha];rfl)] at z;obtain ⟨o,p⟩:=aDI h m (sd:=0) (a:=a) (by rw [ha];rfl) s;obtain ⟨A,B⟩:=aDI h m (sd:=1) (a:=b) (by rw [ha];rfl) z;intro u j;simp at j
  rcases j with rfl | rfl | rfl | rfl
  ·exact (aBj d o A).mono (by decide)
  ·exact (aBj d o B).mono (by decide)
  ·exact (aBj d p A).mono (by decide)
  ·exact (aBj d p B).mono (by decide)
 | nest a v w x y f ha hp hn ok=>
  rw [f] at g d;obtain ⟨e,s,C⟩:=Option.bind_eq_some_iff.1 g;obtain ⟨r,z,rfl⟩:=Option.map_eq_some_iff.1 C;rw [if_neg (by rw [ha];simp)] at z;cases z;obtain ⟨o,p⟩:=aDI h m (sd:=0) (a:=a) (by rw [ha];rfl) s;obtain ⟨A,B⟩:=aNw;intro u j;simp at j
  rcases j with rfl | rfl | rfl | rfl
  ·exact (aBj d o A).mono (by decide)
  ·exact (aBj d o B).mono (by decide)
  ·exact (aBj d p A).mono (by decide)
  ·exact (aBj d p B).mono (by decide)
theorem aIf (h:Inv ns rho c)(a:NInv ns rho c i n){l:List V}(e:corners ns n=some l):∀ v∈l,VBits 70000000 v:=by
 unfold corners at e;obtain ⟨b,f,rfl⟩:=Option.map_eq_some_iff.1 e;intro v d;rw [List.mem_map] at d;obtain ⟨u,g,rfl⟩:=d;have j:=a.outu;exact (aO4 a.toldb (aLi h a f u g)).mono (by omega)
end
end Rf
namespace Pg
open Rf Nw
theorem aEC {ns:List Nd}{n:Nd}{sd a:Nat}{x:Nd}(b:n.args[sd]?=some a)(c:n.read[sd]?=some 0)(d:ns[a]?=some x)(e:x.had[0]?=some one):ends ns n sd=some ((1,0),(0,1)):=by
 unfold Rf.ends;rw [b];simp only [Option.bind_some,d,c,e,Option.map_some];rw [aEn,aEn]
theorem tens {u v y z:V}:tensor [u,v,y,z] (1,0) (1,0)=u/\tensor [u,v,y,z] (1,0) (0,1)=v/\tensor [u,v,y,z] (0,1) (1,0)=y/\tensor [u,v,y,z] (0,1) (0,1)=z:=by
 unfold tensor
 refine ⟨?_,?_,?_,?_⟩<;>ext<;>simp
theorem aFc (l:List V):l.map (vag one)=l:=by
 conv=>rhs;rw [<-List.map_id l]
 exact List.map_congr_left fun v _=>aC7 v
theorem aEZ {ns:List Nd}{n:Nd}(b:n.t=[])(c:n.part=one)(a:n.told=one):corners ns n=some [(1,0),(0,1)]:=by
 unfold Rf.corners;rw [aF2 b,c,a,Option.map_some,aFc,aEn,aEn]
theorem aCY {ns:List Nd}{n:Nd}{u v:V}{a:Nat}{x:Nd}(c:n.t=[u,v])(d:n.args[0]?=some a)(e:n.read[0]?=some 0)(f:ns[a]?=some x)(g:x.had[0]?=some one)(b:n.told=one):corners ns n=some [u,v]:=by
 unfold Rf.corners;rw [aEx c,aEC d e f g,b,Option.map_some,Option.map_some,aFc];unfold vat Mt.at1 Mt.at2;simp
theorem aCZ {ns:List Nd}{n:Nd}{u v y z:V}{a b:Nat}{x g:Nd}(m:n.t=[u,v,y,z])(c:n.args=[a,b])(h:n.read=[0,0])(o:ns[a]?=some x)(p:x.had[0]?=some one)(d:ns[b]?=some g)(e:g.had[0]?=some one)(f:n.told=one):corners ns n=some [u,v,y,z]:=by
 unfold Rf.corners;rw [aBF m,aEC (a:=a) (by rw [c];rfl) (by rw [h];rfl) o p,f,Option.bind_some,if_pos (by rw [c];rfl),aEC (a:=b) (by rw [c];rfl) (by rw [h];rfl) d e,Option.map_some,Option.map_some,aFc];obtain ⟨i,j,k,l⟩:=@tens u v y z;simp only [i,j,k,l]
theorem aHb {ns:List Nd}{n:Nd}{u v y z:V}{a:Nat}{x:Nd}(h:n.t=[u,v,y,z])(c:n.args=[a])(i:n.read=[0])(j:ns[a]?=some x)(k:x.had[0]?=some one)(b:n.told=one):corners ns n=some [u,v,y,z]:=by
 unfold Rf.corners;rw [aBF h,aEC (a:=a) (by rw [c];rfl) (by rw [i];rfl) j k,b,Option.bind_some,if_neg (by rw [c];simp),Option.map_some,Option.map_some,aFc];obtain ⟨d,e,f,g⟩:=@tens u v y z;simp only [d,e,f,g]
theorem aHa {ns:List Nd}{n:Nd}{l:List V}(f:n.t.length=4)(c:corners ns n=some l):l.length=4:=by
 obtain ⟨u,v,y,z,e⟩:=four f;unfold Rf.corners at c;obtain ⟨b,a,rfl⟩:=Option.map_eq_some_iff.1 c;rw [aBF e] at a;obtain ⟨h,i,d⟩:=Option.bind_eq_some_iff.1 a;obtain ⟨g,j,rfl⟩:=Option.map_eq_some_iff.1 d;rfl
theorem aES {d:Int}(a:0<d)(x:Int):x.natAbs<=(d*x).natAbs:=by
 rw [Int.natAbs_mul];exact Nat.le_mul_of_pos_left _ (by omega)
theorem aRe {l:List V}{v:V}(h:v∈pad l):v∈l\/v=(0,0):=by
 unfold pad at h;split at h
 ·simp at h;exact Or.inr h
 ·simp at h
  rcases h with h | h
  ·exact Or.inl (by simp [h])
  ·exact Or.inr h
 ·simp at h
  rcases h with h | h | h
  ·exact Or.inl (by simp [h])
  ·exact Or.inl (by simp [h])
  ·exact Or.inr h
 ·simp at h
  rcases h with h | h | h | h
  ·exact Or.inl (by simp [h])
  ·exact Or.inl (by simp [h])
  ·exact Or.inl (by simp [h])
  ·exact Or.inr h
 ·exact Or.inl h
theorem Cof.bits {l cs:List V}{N:Nat}(h:Cof l cs)(j:∀ v∈l,VBits N v):∀ v∈cs,v.1.natAbs<2^N/\v.2.natAbs<2^N:=by
 obtain ⟨d,a,e⟩:=h.ex;intro v i
 have f:sc d v∈pad l:=by rw [e];exact List.mem_map_of_mem i
 have g:VBits N (sc d v):=by
  rcases aRe f with h1 | h1
  ·exact j _ h1
  ·rw [h1];exact ⟨by unfold Bits;simp;exact Nat.pow_pos (by decide),by unfold Bits;simp;exact Nat.pow_pos (by decide)⟩
 obtain ⟨b,c⟩:=g;unfold Bits at b c;exact ⟨Nat.lt_of_le_of_lt (aES a v.1) b,Nat.lt_of_le_of_lt (aES a v.2) c⟩
theorem aMr {p q g:Int}(a:0<g):∀ (k:Nat) (t:Int),near (g*p) (g*q) k t=near p q k t
 | 0,_=>rfl
 | k+1,t=>by
  have e:t*t*(g*p)/(g*q)=t*t*p/q:=by
   rw [show t*t*(g*p)=g*(t*t*p) by grind];exact Int.mul_ediv_mul_of_pos _ _ a
  unfold near;rw [e,aMr a k]
end Pg
open Go.RowKit
namespace Ab
open Rf (Nd Inv NInv)
section
variable {w w':World} {b0 fb:Nat} {own own':Nat->Option Own} {at1 at2:Nat->Nat} {D:List Nat} {i:Nat} {n n':Nd} {s:Rf.St} {rho:Nat->Nat} {c:Nat}
theorem Net.step (h:Net w b0 own at1 fb s)(t:Inv s.nodes rho c){b:List Nd}{cl:Int}(e:∀ j,j<s.nodes.length->j≠i->b[j]?=s.nodes[j]?)(p:Pg.Go s.nodes b)(u:Chg w w' D)(v:IsD w own i D)(l:∀ k o,k<w.heap.size->own k=some o->o≠.pd i->own' k=some o)(q:∀ a,a<s.nodes.length->at2 a=at1 a)(f:w'.heap[fb]?=some (.cells #[.int .i64 cl] 195 (0,0)))(d:∀ j m,b[j]?=some m->(j=i\/s.nodes.length<=j)->NodeOk w' b0 own' at2 b j m):Net w' b0 own' at2 fb ⟨b,cl⟩:=by
 refine ⟨fun j m hj=>?_,f,h.fb0⟩
 by_cases n:j=i
 ·exact d j m hj (Or.inl n)
 ·by_cases r:j<s.nodes.length
  ·have g:s.nodes[j]?=some m:=by rw [<-e j r n];exact hj
   exact (h.nd j m g).keep u v n r p l q (t.at' j m g)
  ·exact d j m hj (Or.inr (by omega))
theorem Net.put (h:Net w b0 own at1 fb s)(q:Inv s.nodes rho c)(r:s.nodes[i]?=some n){cl:Int}(p:Pg.Go s.nodes (s.nodes.set i n'))(t:Chg w w' D)(u:IsD w own i D)(d:∀ k o,k<w.heap.size->own k=some o->own' k=some o)(a:w'.heap[fb]?=some (.cells #[.int .i64 cl] 195 (0,0)))(f:NodeOk w' b0 own' at1 (s.nodes.set i n') i n'):Net w' b0 own' at1 fb ⟨s.nodes.set i n',cl⟩:=by
 refine h.step (i:=i) q (fun j _ b=>List.getElem?_set_ne (fun e=>b e.symm)) p t u (fun k o l e _=>d k o l e) (fun _ _=>rfl) a ?_;intro j m b g
 rcases g with rfl | hl
 ·rw [List.getElem?_set_self (List.getElem?_eq_some_iff.1 r).1] at b;cases b;exact f
 ·have:=(List.getElem?_eq_some_iff.1 b).1;simp at this;omega
structure SameN (n n':Nd):Prop where
 pos:n'.pos=n.pos
 t:n'.t=n.t
 args:n'.args=n.args
 op:n'.op=n.op
 probe:n'.probe=n.probe
 nest:n'.nest=n.nest
 p:n'.p=n.p
 q:n'.q=n.q
 terms:n'.terms=n.terms
 x:n'.x=n.x
 square:n'.square=n.square
theorem SameN.constant (h:SameN n n')(k:Nat):Rf.constant n' k=Rf.constant n k:=by
 unfold Rf.constant;rw [h.op,h.p,h.q,h.terms]
theorem NstAt.same {w:World}{nb:Nat}{pl:Int}(h:NstAt w b0 own at1 i n nb pl)(hs:SameN n n')(o:n'.k=n.k):NstAt w b0 own at1 i n' nb pl:=by
 obtain ⟨c,d,a,b,e,f,g,j,l,m⟩:=h;refine ⟨c,d,a,b,by rw [hs.op];exact e,f,g,j,?_,?_⟩
 ·rw [hs.op,hs.args,hs.t];exact l
 ·rw [hs.op,o,hs.x,hs.square];exact m
theorem Blk.upd (g:∀ k o,k<w.heap.size->own k=some o->own' k=some o){p0 q0 p1 q1 p2 q2 p3 q3 mt pl:Int}{gv cv nv:Value}(h:Blk w b0 own at1 i n p0 q0 p1 q1 p2 q2 p3 q3 mt pl gv cv nv)(hs:SameN n n')(J:Chg w w' D)(U:IsD w own i D)(hI:Inv s.nodes rho c)(hn:s.nodes[i]?=some n){W X Y s1 r2 s2 r3 s3 mt':Int}{gv':Value}(B:n'.k=n.k/\mt'=mt\/n.t=[]/\n'.k=n.k+1/\mt'=mt+1)
  (L:NodeAt w' (at1 i) [W,X,Y,s1,r2,s2,r3,s3] (!n'.pos) (unsZ n') mt' (lRd n') (rRd n') pl (ptrV at1 (lArg n')) (ptrV at1 (rArg n')) gv' cv nv) (hg:GivOk w' b0 own' i n'.out gv'):Blk w' b0 own' at1 i n' W X Y s1 r2 s2 r3 s3 mt' pl gv' cv nv:=by
 have M:=hI.at' i n hn;refine ⟨L,hg,?_,?_,?_⟩
 ·intro d;rw [hs.t] at d;obtain ⟨z,cb,A,F⟩:=h.con d;refine ⟨?_,cb,A,(F.keep J.on).of hs.constant⟩
  rcases B with ⟨r,H⟩ | ⟨_,r,H⟩
  ·rw [r,H];exact z
  ·rw [r,H,z];simp
 ·intro d;rw [hs.t] at d;exact h.nocon d
 ·refine ⟨fun e=>h.nst.1 (by rw [<-hs.nest];exact e),fun hne=>?_⟩;obtain ⟨O,z,⟨cs,A⟩,F⟩:=h.nst.2 (by rw [<-hs.nest];exact hne);refine ⟨O,z,⟨cs,J.at A ?_⟩,fun d q=>?_⟩
  ·intro B
   rcases U O B _ _ _ A with ⟨e,_⟩ | ⟨e,_⟩ | e<;>exact absurd e (by decide)
  ·rw [hs.t] at d;rw [hs.args] at q
   have C:n'.k=n.k:=by
    rcases B with ⟨r,_⟩ | ⟨e,_⟩
    ·exact r
    ·rw [e] at d;simp at d
   have m:∃ a,n.args=[a]/\Rf.NestOk s.nodes rho c i n a:=by
    cases M.shp with
    | con ht' _ _ _=>rw [ht'] at d;simp at d
    | frac v ht' _ _ _=>rw [ht'] at d;simp at d
    | una v u a ht' _ _=>rw [ht'] at d;simp at d
    | bin a b v u x y ht' f _=>rw [f] at q;simp at q
    | nest a v u x y ht' f _ _ I=>exact ⟨a,f,I⟩
   obtain ⟨a,f,I⟩:=m;obtain ⟨P,ck,_,_,_,_,_,R⟩:=I.ex
   have E:∀ a,a∈n.args->a<s.nodes.length:=by
    intro a q;obtain ⟨j,hj,e⟩:=List.getElem_of_mem q;exact (M.arg j a (by rw [List.getElem?_eq_getElem hj,e])).1
   refine ((F d q).keep (own':=own') (at2:=at1) (N:=s.nodes.length) J U (fun k o l e _=>g k o l e) (fun _=>Or.inr fun k l e=>g k _ l e) (fun _ _=>rfl) (fun a e=>E a (List.mem_of_getElem? e)) ?_ ?_).same hs C
   ·intro p x e;obtain ⟨x',S,T,_⟩:=R p;rw [S] at e;cases e;exact T
   ·intro p sq e;obtain ⟨x',S,T,_,_,g5⟩:=R p;exact (g5 sq e).1
end
end Ab
namespace Rf
open Nw
def nextP (ns:List Nd)(n:Nd):Option (Option Int):=if n.probe then some none else next ns n
noncomputable def step1 (f:Nat)(s:St)(i:Nat)(n:Nd):Option (St×Bool):=
 (nextP s.nodes n).bind fun o=>match o with
 | some c=>if s.clock-1<0 then some (⟨s.nodes,s.clock-1⟩,false) else (give s i n c).map fun s1=>(s1,true)
 | none=>reads (sym f) s i n
theorem aJS (f:Nat)(s:St)(i j:Nat):sym (f+1) s i j=(s.nodes[i]?).bind fun n=>match n.out[j]? with
  | some c=>some (s,some c)
  | none=>(step1 f s i n).bind fun x=>if x.2 then sym f x.1 i j else some (x.1,none):=by
 rw [sym]
 cases s.nodes[i]? with
 | none=>rfl
 | some n=>
  simp only [Option.bind_some]
  cases n.out[j]? with
  | some c=>rfl
  | none=>
   simp only;unfold step1 nextP
   cases (if n.probe=true then some none else next s.nodes n) with
   | none=>rfl
   | some o=>
    simp only [Option.bind_some]
    cases o with
    | none=>rfl
    | some g=>
     simp only;split
     ·rfl
     ·cases give s i n g with
      | none=>rfl
      | some s1=>rfl
section
variable {ns:List Nd} {rho:Nat->Nat} {c i:Nat} {n:Nd}
theorem aFp {s:St}(g:s.clock=(c:Int))(F:c<=3000)(h:Inv s.nodes rho c)(A:s.nodes[i]?=some n)(ht:n.t≠[])(C:nextP s.nodes n=some none):
  ∃ sd s1 rho1 n1 a r,side s.nodes n=some sd/\wide s i n sd=some s1/\s1.clock=(c:Int)/\Inv s1.nodes rho1 c/\Mid s.nodes rho i s1.nodes rho1/\s1.nodes[i]?=some n1/\n1.args[sd]?=some a/\n1.read[sd]?=some r/\n1.out=n.out/\(n1.probe=true->sd=0)/\
   ((∃ v w,n.t=[v,w]/\n.args=[a]/\sd=0/\s1=s/\n1=n)\/(∃ v w x y,n.t=[v,w,x,y]/\sd<n.args.length/\sd<=1/\s1=s/\n1=n/\n.probe=false)\/(∃ a0 v w x y,n.t=[v,w,x,y]/\n.args=[a0]/\sd=1/\r=0/\n.probe=false/\NestOk s.nodes rho c i n a0/\n.nest=true/\∃ r0 d,n.read=[r0]/\deeper s.nodes n=some d/\a=d.2/\n1={n with args:=n.args++[d.2],read:=n.read++[0]}/\put d.1 i n1=some s1.nodes)):=by
 unfold nextP at C;have j:=h.at' i n A
 cases j.shp with
 | con ht' ha hp hc=>exact absurd ht' ht
 | frac v ht' ha hp hv=>
  rw [hp] at C;simp only [Bool.false_eq_true,if_false] at C;exact absurd C (aFI ht' ha j.fst hv)
 | una v w a ht' ha hp=>
  obtain ⟨r,o⟩:∃ r,n.read=[r]:=List.length_eq_one_iff.1 (by rw [j.len,ha];rfl);refine ⟨0,s,rho,n,a,r,aJO ht',?_,g,h,Mid.refl _ _ _,A,by rw [ha];rfl,by rw [o];rfl,rfl,fun _=>rfl,Or.inl ⟨v,w,ht',ha,rfl,rfl,rfl⟩⟩;unfold wide;rw [if_neg (by rw [ha];simp)]
 | bin a b v w x y ht' ha hp=>
  obtain ⟨sd,f,p⟩:=aDR h j
  have H:sd<n.args.length:=by rw [ha];simp;omega
  refine ⟨sd,s,rho,n,n.args[sd],n.read[sd]'(by rw [j.len];exact H),f,?_,g,h,Mid.refl _ _ _,A,List.getElem?_eq_getElem _,List.getElem?_eq_getElem _,rfl,fun e=>(by rw [hp] at e;cases e),Or.inr (Or.inl ⟨v,w,x,y,ht',H,p,rfl,rfl,hp⟩)⟩;unfold wide;rw [if_neg (by omega)]
 | nest a v w x y ht' ha hp hne ok=>
  obtain ⟨r,o⟩:∃ r,n.read=[r]:=List.length_eq_one_iff.1 (by rw [j.len,ha];rfl);obtain ⟨sd,f,p⟩:=aDR h j
  by_cases Y:sd=0
  ·subst Y;refine ⟨0,s,rho,n,a,r,f,?_,g,h,Mid.refl _ _ _,A,by rw [ha];rfl,by rw [o];rfl,rfl,fun _=>rfl,Or.inr (Or.inl ⟨v,w,x,y,ht',by rw [ha];simp,by omega,rfl,rfl,hp⟩)⟩;unfold wide;rw [if_neg (by rw [ha];simp)]
  ·have D:sd=1:=by omega
   subst D
   have E:¬(n.read=[0]/\n.out=[]):=by
    rintro ⟨U,W⟩;rw [aFS h j ht' ha hne ok.first ok.pos U W] at f;simp at f
   obtain ⟨q,u,d,M,I,N,O,J,m⟩:=aKa (cl:=s.clock) h F A ht' ha hp ok E;have l:=I;unfold wide at l;rw [if_pos (by rw [ha];rfl)] at l;obtain ⟨B,P,R⟩:=Option.bind_eq_some_iff.1 l;obtain ⟨S,z,T⟩:=Option.map_eq_some_iff.1 R;cases T
   have k:q[i]?=some {n with args:=n.args++[B.2],read:=n.read++[0]}:=by
    unfold put at z;split at z
    ·rename_i X;cases z;exact List.getElem?_set_self X.2
    ·cases z
   have L:d=B.2:=by
    rw [J] at k;have:=congrArg Nd.args (Option.some.inj k);rw [m] at this;simp at this;exact this
   subst L;exact ⟨1,⟨q,s.clock⟩,u,M,B.2,0,f,I,g,N,O,J,by rw [m];simp [ha],by rw [m];simp [o],by rw [m],fun e=>(by rw [m] at e;simp only at e;rw [hp] at e;cases e),Or.inr (Or.inr ⟨a,v,w,x,y,ht',ha,rfl,rfl,hp,ok,hne,r,B,o,P,rfl,m,by rw [m];exact z⟩)⟩
theorem aMS {f:Nat}{s:St}(l:s.clock=(c:Int))(H:c<=3000)(h:Inv s.nodes rho c)(o:s.nodes[i]?=some n)(hf:c+rho i+1<=f)(d:nextP s.nodes n=some none):
  ∃ s' b,reads (sym f) s i n=some (s',b)/\(b=true->∃ rho' c',c'<c/\s'.clock=(c':Int)/\Inv s'.nodes rho' c'/\Mid s.nodes rho i s'.nodes rho'/\∃ n',s'.nodes[i]?=some n'/\n'.out=n.out):=by
 have I:=(List.getElem?_eq_some_iff.1 o).1;have u:=h.at' i n o;unfold reads
 by_cases g:n.t=[]
 ·rw [if_pos g]
  cases c with
  | zero=>
   have z:ConOk n:=by
    cases u.shp with
    | con g ha hp hc=>exact hc
    | frac v ht' ha hp hv=>rw [g] at ht';cases ht'
    | una v w a ht' ha hp=>rw [g] at ht';cases ht'
    | bin a b v w x y ht' ha hp=>rw [g] at ht';cases ht'
    | nest a v w x y ht' ha hp o ok=>rw [g] at ht';cases ht'
   have aj:=u.ku;obtain ⟨m,R,S⟩:=aCn z (k:=n.k) (by omega) u.pb u.qb
   have N:Ok {n with part:=n.part.mul m,k:=n.k+1}:=by
    have d:=u.ok;refine ⟨d.t,d.told,d.had,MBits.mono (aGt u.partb S) ?_,d.p,d.q,d.read,d.out,by simp only;omega⟩;have:n.k*18500<=3000*18500:=Nat.mul_le_mul_right _ (by omega);omega
   have A:put s.nodes i {n with part:=n.part.mul m,k:=n.k+1}=some (s.nodes.set i {n with part:=n.part.mul m,k:=n.k+1}):=by
    unfold put;rw [if_pos ⟨N,I⟩]
   rw [R,Option.bind_some,A,Option.map_some];refine ⟨_,_,rfl,fun e=>?_⟩;rw [l] at e;exact absurd e (by decide)
  | succ c=>
   obtain ⟨m,n',R,S,m3,m4,X⟩:=aIc h o g;rw [R,Option.bind_some,S,Option.map_some];have B:(s.nodes.set i n')[i]?=some n':=List.getElem?_set_self I
   have C:n'.pos=n.pos:=by
    obtain ⟨m,Y,k2,_⟩:=m4.at' i n o;rw [B] at Y;cases Y;exact k2
   exact ⟨_,_,rfl,fun _=>⟨rho,c,by omega,by simp only;rw [l];omega,m3,Mid.set o C (by rw [X];exact Nat.le_refl _),n',B,X⟩⟩
 ·rw [if_neg g];obtain ⟨sd,J,j,n1,a,r,e1,e2,e3,e4,e5,L,M,T,e9,U,_⟩:=aFp l H h o g d;rw [e1,Option.bind_some,e2,Option.bind_some,L,Option.bind_some,M,Option.bind_some,T,Option.bind_some];have D:=e4.at' i n1 L;obtain ⟨la,ra⟩:=D.arg sd a M;have E:J.nodes[a]?=some J.nodes[a]:=List.getElem?_eq_getElem la;have ak:j i=rho i:=e5.agree i I;obtain ⟨x,x1,x2⟩:=total f J a r j c e3 H e4 _ E (D.rd sd a r _ M T E) (by omega);rw [x1,Option.bind_some];obtain ⟨s2,o2⟩:=x
  cases o2 with
  | none=>exact ⟨_,_,rfl,fun e=>by cases e⟩
  | some v=>
   obtain ⟨af,c2,y1,y2,y3,W,n',y5,y6⟩:=x2.ex v rfl;simp only at y2 y3 W y5;have O:s2.nodes[i]?=some n1:=W.same i n1 L ra;have P:i<J.nodes.length:=(List.getElem?_eq_some_iff.1 L).1;obtain ⟨s3,b,z1,z2⟩:=aEU y2 y3 (by omega) O M T y5 y6 U;refine ⟨s3,b,z1,fun hb=>?_⟩;obtain ⟨F,c3,q1,q2,q3,q4,n3,q5,q6⟩:=z2 hb;refine ⟨F,c3,by omega,q2,q3,?_,n3,q5,by rw [q6,e9]⟩;exact (e5.trans I ((W.up ra).trans P q4))
theorem aOL {f:Nat}{s:St}(d:s.clock=(c:Int))(t:c<=3000)(h:Inv s.nodes rho c)(j:s.nodes[i]?=some n)(I:c+rho i+1<=f):
  ∃ s' b,step1 f s i n=some (s',b)/\(b=true->∃ rho' c',c'<c/\s'.clock=(c':Int)/\Inv s'.nodes rho' c'/\Mid s.nodes rho i s'.nodes rho'/\∃ n',s'.nodes[i]?=some n'/\n.out.length<=n'.out.length):=by
 have v:=(List.getElem?_eq_some_iff.1 j).1;have x:=h.at' i n j;unfold step1
 obtain ⟨o,a⟩:∃ o,nextP s.nodes n=some o:=by
  unfold nextP;split
  ·exact ⟨_,rfl⟩
  ·exact aAA h x
 rw [a,Option.bind_some]
 cases o with
 | none=>
  obtain ⟨s',b,y,z⟩:=aMS d t h j I a;refine ⟨s',b,y,fun e=>?_⟩;obtain ⟨rho',c',p,q,A,B,n',C,D⟩:=z e;exact ⟨rho',c',p,q,A,B,n',C,by rw [D];exact Nat.le_refl _⟩
 | some g=>
  have u:n.probe=false:=by
   unfold nextP at a
   cases r:n.probe with
   | false=>rfl
   | true=>rw [r] at a;simp at a
  unfold nextP at a;rw [u] at a;simp only [Bool.false_eq_true,if_false] at a;simp only
  cases c with
  | zero=>
   rw [if_pos (by rw [d];decide)];exact ⟨_,_,rfl,fun e=>by cases e⟩
  | succ c=>
   rw [if_neg (by rw [d];omega)];obtain ⟨n',E,F,H,J⟩:=aGi h j u a;unfold give;rw [E,Option.map_some,Option.map_some];have k:(s.nodes.set i n')[i]?=some n':=List.getElem?_set_self v
   have l:n'.pos=n.pos:=by
    obtain ⟨m,p,q,_⟩:=H.at' i n j;rw [k] at p;cases p;exact q
   exact ⟨_,_,rfl,fun _=>⟨rho,c,by omega,by simp only;rw [d];omega,F,Mid.set j l (by omega),n',k,by omega⟩⟩
theorem aGQ:∀ (f:Nat) (s:St) (i j:Nat) (s':St) (v:Int),sym f s i j=some (s',some v)->∃ n',s'.nodes[i]?=some n'/\n'.out[j]?=some v
 | 0,s,i,j,s',v,h=>by simp [sym] at h
 | f+1,s,i,j,s',v,h=>by
  rw [aJS] at h;obtain ⟨n,hn,h⟩:=Option.bind_eq_some_iff.1 h
  cases ho:n.out[j]? with
  | some c=>
   rw [ho] at h;cases h;exact ⟨n,hn,ho⟩
  | none=>
   rw [ho] at h;obtain ⟨x,hx,h⟩:=Option.bind_eq_some_iff.1 h
   by_cases h2:x.2=true
   ·rw [if_pos h2] at h;exact aGQ f x.1 i j s' v h
   ·rw [if_neg h2] at h;cases h
theorem aDu {s:St}{sd:Nat}{y:St×Bool}(j:s.nodes[i]?=some n)(h:after s i sd=some y):(s.clock<1->y.2=false)/\(1<=s.clock->∃ ns1,settle (s.nodes.set i {n with read:=bump n.read sd}) i {n with read:=bump n.read sd}=some ns1/\y=(⟨ns1,s.clock-1⟩,true)):=by
 unfold after at h;rw [j,Option.bind_some] at h;obtain ⟨c,a,b⟩:=Option.bind_eq_some_iff.1 h
 have e:c=s.nodes.set i {n with read:=bump n.read sd}:=by
  unfold put at a;split at a
  ·cases a;rfl
  ·cases a
 subst e;constructor
 ·intro g;rw [if_pos (by omega)] at b;cases b;rfl
 ·intro g;rw [if_neg (by omega)] at b;obtain ⟨ns1,d,f⟩:=Option.map_eq_some_iff.1 b;exact ⟨ns1,d,f.symm⟩
theorem aOB (h:Inv ns rho (c+1))(hn:ns[i]?=some n){sd a r:Nat}{x:Nd}(ha:n.args[sd]?=some a)(hr:n.read[sd]?=some r)(hx:ns[a]?=some x)(hlt:r<x.out.length):Inv (ns.set i {n with read:=bump n.read sd}) rho c:=((h.tick (show c<=c+1 by omega)).put hn (n':={n with read:=bump n.read sd}) rfl (Nat.le_refl _) (aJa h hn ha hr hx hlt)).2.1
end
end Rf
open Go.RowKit
namespace Ab
open Rf (Nd Inv NInv)
theorem Chg.alloc (w:World)(o:Obj):Chg w (w.alloc o) []:=Chg.aAi ((Below.refl _ _).alloc (Nat.le_refl _) o)
theorem aEw {w:World}{k fb:Nat}{r:Int}{R:Ending->World->Prop}(H:∀ w1,Chg w w1 []->Calls Tryz.prog 161 #[ptrB k,.int .i64 r,ptrB fb] w1 fun e w'=>∃ z,e=.returned (.int .i64 z)/\R (.returned (.int .i64 z)) w'):Calls Tryz.prog 125 #[.agg #[ptrB k,.int .i64 r],ptrB fb] w R:=by
 have b:=hid (H _ (Chg.alloc w (.cells #[ptrB k,.int .i64 r] 192)));clear H;unfold ptrB at*
 go_enter Tryz.func125,Tryz.ntmps125
 go_wp2_with fail
 refine (b.out).mono ?_;rintro e w' ⟨z,rfl,a⟩;have c:=hid a;clear a
 go_wp2_with fail
 exact c.out
theorem NodeAt.cell {w:World}{k:Nat}{zs:List Int}{hs:Bool}{uns mt lr rr pl:Int}{lp rp gv cv nv:Value}(h:NodeAt w k zs hs uns mt lr rr pl lp rp gv cv nv)(g:zs.length=8):w.cell? ⟨k,17,none⟩=some cv/\w.cell? ⟨k,23,none⟩=some gv:=by
 obtain ⟨a,b,d⟩:=h.ex;have c:=aBR zs a d;rw [g] at c
 have e:∀ j v,([cv,.int .i64 mt,lp,.int .i64 lr,rp,.int .i64 rr,gv,.int .i64 uns,nv,.int .i64 pl]:List Value)[j]?=some v->(Value.bool hs::a++[cv,.int .i64 mt,lp,.int .i64 lr,rp,.int .i64 rr,gv,.int .i64 uns,nv,.int .i64 pl]).toArray[17+j]?=some v:=by
  intro j v f;rw [List.getElem?_toArray,List.getElem?_append_right (by simp;omega)];rw [show 17+j-(Value.bool hs::a).length=j by simp;omega];exact f
 exact ⟨aAa b (e 0 cv rfl),aAa b (e 6 gv rfl)⟩
theorem aHF {w:World}{k fb cb:Nat}{R:Ending->World->Prop}(f:w.cell? ⟨k,17,none⟩=some (ptrB cb))(H:Calls Tryz.prog 207 #[ptrB k,ptrB fb] w fun e w'=>∃ b,e=.returned (.bool b)/\R (.returned (.bool b)) w'):Calls Tryz.prog 197 #[ptrB k,ptrB fb] w R:=by
 have c:=hid H;clear H;unfold ptrB at*
 go_enter Tryz.func197,Tryz.ntmps197
 go_wp2_with fail
 refine (c.out).mono ?_;rintro e w' ⟨z,rfl,a⟩;have d:=hid a;clear a
 go_wp2_with fail
 exact d.out
theorem aHE {w:World}{k fb:Nat}{b:Bool}{R:Ending->World->Prop}(h:w.cell? ⟨k,17,none⟩=some nilP)(H:Calls Tryz.prog 208 #[ptrB k] w fun e w'=>e=.returned (.bool b)/\(b=true->Calls Tryz.prog 209 #[ptrB k,ptrB fb] w' fun e w'=>∃ b,e=.returned (.bool b)/\R (.returned (.bool b)) w')/\(b=false->Calls Tryz.prog 210 #[ptrB k,ptrB fb] w' fun e w'=>∃ b,e=.returned (.bool b)/\R (.returned (.bool b)) w')):Calls Tryz.prog 197 #[ptrB k,ptrB fb] w R:=by
 have g:=hid H;clear H;unfold ptrB nilP at*
 go_enter Tryz.func197,Tryz.ntmps197
 go_wp2_with fail
 refine (g.out).mono ?_;rintro e w' ⟨rfl,f,a⟩
 cases b with
 | true=>
  have c:=hid (f rfl);clear f a
  go_wp2_with fail
  refine (c.out).mono ?_;rintro e w' ⟨z,rfl,a⟩;have d:=hid a;clear a
  go_wp2_with fail
  exact d.out
 | false=>
  have c:=hid (a rfl);clear f a
  go_wp2_with fail
  refine (c.out).mono ?_;rintro e w' ⟨z,rfl,a⟩;have d:=hid a;clear a
  go_wp2_with fail
  exact d.out
structure SymStep (k fb:Nat) (j:Nat) (R:Ending->World->Prop) (J:Nat->World->Prop):Prop where
 ex:∀ m w,J m w->∃ gb len cap,(∃ gv,w.cell? ⟨k,23,none⟩=some gv/\(gv=.slice gb len cap))/\len<=1000000/\
  ((len<=j/\Calls Tryz.prog 182 #[ptrB k,ptrB fb] w fun e w'=>∃ b,e=.returned (.bool b)/\(b=true->∃ m',m'<m/\J m' w')/\(b=false->R (.returned (.int .i64 0)) w'))\/
   (j<len/\∃ g c,gb=some ⟨g,0,none⟩/\w.cell? ⟨g,j,none⟩=some (.int .i64 c)/\R (.returned (.int .i64 c)) w))
theorem aHP {w:World}{k fb j:Nat}{R:Ending->World->Prop}{J:Nat->World->Prop}{m:Nat}(T:j<=1000000)(q:SymStep k fb j R J)(r:J m w):Calls Tryz.prog 161 #[ptrB k,.int .i64 j,ptrB fb] w R:=by
 have s:=hid q;have i:=hid r;clear q r;unfold ptrB
 go_enter Tryz.func161,Tryz.ntmps161
 go_wp2_with fail
 go_loopg [] m (fun gk wr=>J gk wr)
 case atStart=>exact i.out
 case round=>
  obtain ⟨L,a,A,⟨M,N,B⟩,O,h⟩:=s.out.ex _ _ hrel;subst B;have F:=hid hrel;clear hrel i
  rcases h with ⟨C,l⟩ | ⟨D,g,c,rfl,P,n⟩
  ·have t:=hid l;clear l
   have u:((a:Int)<=(j:Int)):=by omega
   go_wp2_with fail
   refine (t.out).mono ?_;rintro e S ⟨b,rfl,d,f⟩
   cases b with
   | true=>
    obtain ⟨E,o,p⟩:=d rfl;have v:=hid o;have x:=hid p;clear o p d f
    go_wp2_with fail
    go_roundg E
    case measure=>exact v.out
    case rel=>exact x.out
   | false=>
    have y:=hid (f rfl);clear d f
    go_wp2_with fail
    exact y.out
  ·have z:=hid n;clear n
   have u:¬((a:Int)<=(j:Int)):=by omega
   have H:¬((j:Int)<0):=by omega
   have I:((j:Int)<(a:Int)):=by omega
   go_wp2_with fail
   exact z.out
end Ab
open Go.RowKit
namespace Ab
open Rf (Nd Inv NInv)
section
variable {w w':World} {b0 fb:Nat} {own own':Nat->Option Own} {at1 at2:Nat->Nat} {D:List Nat} {i:Nat} {n n':Nd} {s:Rf.St} {rho:Nat->Nat} {c:Nat}
theorem aBL {N u:Nat}(hN:N<=10000000*u){z:Int}(h:z.natAbs<2^N):Bits u z:=Nat.lt_of_lt_of_le h (Nat.pow_le_pow_right (by decide) hN)
theorem bits10 {p0 q0 p1 q1 p2 q2 p3 q3:Int}{l:List Rf.V}(j:Inv s.nodes rho c)(k:s.nodes[i]?=some n)(m:Rf.corners s.nodes n=some l)(o:Pg.Cof l [(p0,q0),(p1,q1),(p2,q2),(p3,q3)]):∀ z∈[p0,q0,p1,q1,p2,q2,p3,q3],Bits 10 z:=by
 have h:=o.bits (Rf.aIf j (j.at' i n k) m)
 have a:∀ z:Int,z.natAbs<2^70000000->Bits 10 z:=fun z b=>aBL (N:=70000000) (by decide) b
 have d:=h (p0,q0) (by simp);have e:=h (p1,q1) (by simp);have f:=h (p2,q2) (by simp);have g:=h (p3,q3) (by simp);intro z b;simp at b
 rcases b with rfl | rfl | rfl | rfl | rfl | rfl | rfl | rfl
 ·exact a _ d.1
 ·exact a _ d.2
 ·exact a _ e.1
 ·exact a _ e.2
 ·exact a _ f.1
 ·exact a _ f.2
 ·exact a _ g.1
 ·exact a _ g.2
theorem aEI (o:Option Nat):One (ptrV at1 o):=by cases o<;>rfl
theorem GivOk.one {a:List Int}{gv:Value}(h:GivOk w b0 own i a gv):One gv:=by
 rcases h with ⟨rfl,_⟩ | ⟨g,cap,rest,rfl,_⟩<;>rfl
theorem Blk.ones {p0 q0 p1 q1 p2 q2 p3 q3 mt pl:Int}{gv cv nv:Value}(h:Blk w b0 own at1 i n p0 q0 p1 q1 p2 q2 p3 q3 mt pl gv cv nv):One gv/\One cv/\One nv:=by
 refine ⟨h.giv.one,?_,?_⟩
 ·by_cases b:n.t=[]
  ·obtain ⟨_,c,rfl,_⟩:=h.con b;rfl
  ·rw [h.nocon b];rfl
 ·cases a:n.nest with
  | false=>rw [h.nst.1 a];rfl
  | true=>obtain ⟨d,rfl,_⟩:=h.nst.2 a;rfl
theorem NodeAt.arg {k:Nat}{zs:List Int}{hs:Bool}{uns mt lr rr pl:Int}{lp rp gv cv nv:Value}(h:NodeAt w k zs hs uns mt lr rr pl lp rp gv cv nv)(g:zs.length=8)(e:∀ z∈zs,Bits 10 z)(i:One lp)(l:One rp)(m:One gv)(n:One cv)(o:One nv):ArgAt w (some (k,hs)) (ptrB k):=by
 obtain ⟨a,d,b⟩:=h.ex;have f:=aBR zs a b;refine ⟨rfl,a++[cv,.int .i64 mt,lp,.int .i64 lr,rp,.int .i64 rr,gv,.int .i64 uns,nv,.int .i64 pl],by simpa using d,by simp;omega,?_⟩;have c:∀ y∈a,One y:=aDa (C:=Z) (φ:=fun _=>none) (ν:=zs.map fun z=>(z,10)) (w:=w) (aBe zs a 0 _ b e fun j z hz=>by rw [Nat.zero_add,List.getElem?_map,hz];rfl);intro y hy;rw [List.mem_append] at hy
 rcases hy with hy | hy
 ·exact c y hy
 ·simp only [List.mem_cons,List.not_mem_nil,or_false] at hy
  rcases hy with rfl | rfl | rfl | rfl | rfl | rfl | rfl | rfl | rfl | rfl<;>first | assumption | rfl
def sgO (ns:List Nd)(o:Option Nat):Option Bool:=o.map fun a=>match ns[a]? with | some x=>!x.pos | none=>false
def argO (ns:List Nd)(at':Nat->Nat)(o:Option Nat):Option (Nat×Bool):=o.map fun a=>(at' a,match ns[a]? with | some x=>!x.pos | none=>false)
theorem aF1 (ns:List Nd)(at':Nat->Nat)(o:Option Nat):(argO ns at' o).map (·.2)=sgO ns o:=by cases o<;>rfl
theorem Net.argAt (h:Net w b0 own at1 fb s)(n:Inv s.nodes rho c){o:Option Nat}(p:∀ a,o=some a->a<s.nodes.length):ArgAt w (argO s.nodes at1 o) (ptrV at1 o):=by
 cases o with
 | none=>rfl
 | some a=>
  have i:=p a rfl;have b:s.nodes[a]?=some s.nodes[a]:=List.getElem?_eq_getElem i;obtain ⟨q,r,t,u,v,x,y,z,A,B,C,D,E,g,l,d,f⟩:=(h.nd a _ b).ex;obtain ⟨j,k,m⟩:=g.ones
  have e:argO s.nodes at1 (some a)=some (at1 a,!(s.nodes[a]).pos):=by unfold argO;simp [b]
  rw [e];exact g.nd.arg rfl (bits10 n b d f) (aEI _) (aEI _) j k m
theorem aMg (b:NInv s.nodes rho c i n):∀ a,lArg n=some a->a<s.nodes.length:=by
 intro a h;unfold lArg at h;split at h
 ·exact (b.arg 0 a h).1
 ·cases h
theorem aRj (b:NInv s.nodes rho c i n):∀ a,rArg n=some a->a<s.nodes.length:=by
 intro a h;unfold rArg at h;split at h
 ·exact (b.arg 1 a h).1
 ·split at h
  ·exact (b.arg 0 a h).1
  ·cases h
structure Seen (w:World) (b0:Nat) (own:Nat->Option Own) (at1:Nat->Nat) (ns:List Nd) (i:Nat) (n:Nd) (p0 q0 p1 q1 p2 q2 p3 q3 mt pl:Int) (gv cv nv:Value) (l:List Rf.V) (g:Option (Nat×Nat)) (cc nn:Option Nat):Prop where
 blk:Blk w b0 own at1 i n p0 q0 p1 q1 p2 q2 p3 q3 mt pl gv cv nv
 cor:Rf.corners ns n=some l
 cof:Pg.Cof l [(p0,q0),(p1,q1),(p2,q2),(p3,q3)]
 bits:∀ z∈[p0,q0,p1,q1,p2,q2,p3,q3],Bits 10 z
 la:ArgAt w (argO ns at1 (lArg n)) (ptrV at1 (lArg n))
 ra:ArgAt w (argO ns at1 (rArg n)) (ptrV at1 (rArg n))
 gat:GivAt w g gv
 glen:(g.map (·.2)).getD 0=n.out.length
 cat:ExtAt w 224 cc cv
 nat:ExtAt w 273 nn nv
 nsm:nn.isSome=n.nest
theorem Net.seen (h:Net w b0 own at1 fb s)(j:Inv s.nodes rho c)(r:s.nodes[i]?=some n):∃ p0 q0 p1 q1 p2 q2 p3 q3 mt pl gv cv nv l g cc nn,Seen w b0 own at1 s.nodes i n p0 q0 p1 q1 p2 q2 p3 q3 mt pl gv cv nv l g cc nn:=by
 obtain ⟨p0,q0,p1,q1,p2,q2,p3,q3,mt,pl,gv,cv,nv,b,l,d,e⟩:=(h.nd i n r).ex;have u:=j.at' i n r
 obtain ⟨g,y,k⟩:∃ g,GivAt w g gv/\(g.map (·.2)).getD 0=n.out.length:=by
  rcases b.giv with ⟨rfl,a⟩ | ⟨g,m,v,rfl,a,B,C,D,E⟩
  ·exact ⟨none,rfl,by rw [a];rfl⟩
  ·exact ⟨some (g,n.out.length),⟨m,rfl,_,a⟩,rfl⟩
 obtain ⟨cc,o⟩:∃ cc,ExtAt w 224 cc cv:=by
  by_cases x:n.t=[]
  ·obtain ⟨_,z,rfl,a⟩:=b.con x;exact ⟨some z,rfl,a.blk⟩
  ·exact ⟨none,b.nocon x⟩
 obtain ⟨nn,p,q⟩:∃ nn,ExtAt w 273 nn nv/\nn.isSome=n.nest:=by
  cases f:n.nest with
  | false=>exact ⟨none,b.nst.1 f,rfl⟩
  | true=>
   obtain ⟨A,rfl,a,_⟩:=b.nst.2 f;exact ⟨some A,⟨rfl,a⟩,rfl⟩
 exact ⟨p0,q0,p1,q1,p2,q2,p3,q3,mt,pl,gv,cv,nv,l,g,cc,nn,b,d,e,bits10 j r d e,h.argAt j (aMg u),h.argAt j (aRj u),y,k,o,p,q⟩
theorem aO7 (o:NInv s.nodes rho c i n):(argWants (sgO s.nodes (lArg n)) (lRd n)||argWants (sgO s.nodes (rArg n)) (rRd n))=Rf.waits s.nodes n.args n.read:=by
 have p:∀ a,a∈n.args->∃ x,s.nodes[a]?=some x:=by
  intro a d;obtain ⟨j,A,e⟩:=List.getElem_of_mem d;exact ⟨_,List.getElem?_eq_getElem (o.arg j a (by rw [List.getElem?_eq_getElem A,e])).1⟩
 have f:∀ (a r:Nat) (x:Nd),s.nodes[a]?=some x->argWants (sgO s.nodes (some a)) (r:Int)=(!x.pos&&r==0):=by
  intro a r x e;unfold sgO argWants;simp only [Option.map_some,e];congr 1;rw [Bool.eq_iff_iff];simp
 cases o.shp with
 | con ht d _ _=>
  unfold lArg rArg lRd rRd;rw [ht,d];simp [sgO,argWants,Rf.waits]
 | frac v ht d _ _=>
  unfold lArg rArg lRd rRd;rw [ht,d];simp [sgO,argWants,Rf.waits]
 | una v u a ht d _=>
  obtain ⟨r,g⟩:∃ r,n.read=[r]:=List.length_eq_one_iff.1 (by rw [o.len,d];rfl);obtain ⟨x,e⟩:=p a (by rw [d];simp)
  have h:lArg n=none:=by unfold lArg;rw [ht];rfl
  have k:rArg n=some a:=by unfold rArg;rw [ht,d];rfl
  have l:rRd n=r:=by unfold rRd;rw [ht,g];rfl
  rw [h,k,l,f a r x e,d,g];simp [sgO,argWants,Rf.waits,e]
 | bin a b v u x y ht d _=>
  obtain ⟨r,r',g⟩:∃ r r',n.read=[r,r']:=by
   have:=o.len;rw [d] at this
   match hh:n.read,this with
   | [r,r'],_=>exact ⟨r,r',rfl⟩
  obtain ⟨q,m⟩:=p a (by rw [d];simp);obtain ⟨B,t⟩:=p b (by rw [d];simp)
  have h:lArg n=some a:=by unfold lArg;rw [ht,d];rfl
  have k:rArg n=some b:=by unfold rArg;rw [ht,d];rfl
  have l:lRd n=r:=by unfold lRd;rw [ht,g];rfl
  have z:rRd n=r':=by unfold rRd;rw [ht,g];rfl
  rw [h,k,l,z,f a r q m,f b r' B t,d,g];simp [Rf.waits,m,t]
 | nest a v u x y ht d _ _ _=>
  obtain ⟨r,g⟩:∃ r,n.read=[r]:=List.length_eq_one_iff.1 (by rw [o.len,d];rfl);obtain ⟨q,m⟩:=p a (by rw [d];simp)
  have h:lArg n=some a:=by unfold lArg;rw [ht,d];rfl
  have k:rArg n=none:=by unfold rArg;rw [ht,d];rfl
  have l:lRd n=r:=by unfold lRd;rw [ht,g];rfl
  rw [h,k,l,f a r q m,d,g];simp [sgO,argWants,Rf.waits,m]
theorem Seen.next {p0 q0 p1 q1 p2 q2 p3 q3 mt pl:Int}{gv cv nv:Value}{l:List Rf.V}{g:Option (Nat×Nat)}{p q:Option Nat}(h:Seen w b0 own at1 s.nodes i n p0 q0 p1 q1 p2 q2 p3 q3 mt pl gv cv nv l g p q)(k:NInv s.nodes rho c i n){o:Option Int}(d:Rf.nextP s.nodes n=some o):Calls Tryz.prog 196 #[ptrB (at1 i)] w fun e w'=>e=.returned (.int .i64 (codeO o))/\Chg w w' []:=by
 refine (aKI h.blk.nd h.bits h.la h.ra h.gat h.cat h.nat).mono ?_;rintro e w' ⟨rfl,m⟩;refine ⟨?_,Chg.aAi m⟩;congr 2;unfold Rf.nextP at d
 cases a:n.probe with
 | true=>
  rw [a] at d;simp only [if_true,Option.some.injEq] at d;subst d
  have f:unsZ n≠0:=by
   unfold unsZ;rw [a,if_pos rfl]
   have j:Rf.fn n.op:=by
    cases k.shp with
    | con ht ha hp' hc=>rw [a] at hp';cases hp'
    | frac v ht ha hp' hv=>rw [a] at hp';cases hp'
    | una v w a' ht ha' hp'=>exact (hp' a).2.1
    | bin a' b v w x y ht ha' hp'=>rw [a] at hp';cases hp'
    | nest a' v w x y ht ha' hp' hn' ok=>rw [a] at hp';cases hp'
   rcases j with e | e | e | e<;>rw [e]<;>decide
  unfold nextZ;rw [show (unsZ n != 0)=true from by simpa using f];rfl
 | false=>
  rw [a] at d;simp only [Bool.false_eq_true,if_false] at d
  have f:unsZ n=0:=by unfold unsZ;rw [a];rfl
  rw [f,aF1,aF1];exact aQ8 h.cor h.cof (by simp) h.glen (aO7 k) d
theorem aHg {sd:Nat}{o:Option Nat}{r:Nat}(b:n.args[sd]?=o)(f:o=none->r=0)(e:∀ a,o=some a->n.read[sd]?=some r/\∃ x,s.nodes[a]?=some x):Rf.digits s.nodes n sd=some (dgR (sgO s.nodes o) r):=by
 unfold Rf.digits
 cases o with
 | none=>
  rw [if_neg (by have:=List.getElem?_eq_none_iff.1 b;omega)];rfl
 | some a=>
  obtain ⟨c,x,d⟩:=e a rfl;rw [if_pos (List.getElem?_eq_some_iff.1 b).1,b];simp only [Option.bind_some,d,c,Option.map_some,sgO,dgR]
  cases x.pos<;>simp
theorem Seen.reads {p0 q0 p1 q1 p2 q2 p3 q3 mt pl:Int}{gv cv nv:Value}{l:List Rf.V}{g:Option (Nat×Nat)}{P R:Option Nat}(h:Seen w b0 own at1 s.nodes i n p0 q0 p1 q1 p2 q2 p3 q3 mt pl gv cv nv l g P R)(z:NInv s.nodes rho c i n){sd:Nat}(F:Rf.side s.nodes n=some sd):Calls Tryz.prog 208 #[ptrB (at1 i)] w fun e w'=>e=.returned (.bool (decide (n.t.length=4/\sd=0)))/\Chg w w' []:=by
 refine (aIB h.blk.nd h.bits h.la h.ra h.gat h.cat h.nat).mono ?_;rintro e w' ⟨rfl,N⟩;refine ⟨?_,Chg.aAi N⟩;congr 2;rw [aF1,aF1,h.nsm]
 by_cases d:n.t.length=4
 ·have H:∀ a,a∈n.args->∃ x,s.nodes[a]?=some x:=by
   intro a p;obtain ⟨j,D,e⟩:=List.getElem_of_mem p;exact ⟨_,List.getElem?_eq_getElem (z.arg j a (by rw [List.getElem?_eq_getElem D,e])).1⟩
  have A:lArg n=n.args[0]?:=by unfold lArg;rw [if_pos d]
  have L:rArg n=n.args[1]?:=by unfold rArg;rw [if_pos d]
  have B:lRd n=n.read.getD 0 0:=by unfold lRd;rw [if_pos d]
  have C:rRd n=n.read.getD 1 0:=by unfold rRd;rw [if_pos d]
  have I:∀ j,n.read.getD j 0<=1000000:=by
   intro j;rw [List.getD_eq_getElem?_getD]
   cases e:n.read[j]? with
   | none=>simp
   | some r=>have:=z.readu r (List.mem_of_getElem? e);simp;omega
  have m:∀ (j a:Nat),n.args[j]?=some a->n.read[j]?=some (n.read.getD j 0):=by
   intro j a e;have D:=(List.getElem?_eq_some_iff.1 e).1;rw [List.getD_eq_getElem?_getD,List.getElem?_eq_getElem (by rw [z.len];exact D)];rfl
  obtain ⟨a0,k⟩:∃ a0,n.args[0]?=some a0:=by
   cases z.shp with
   | con ht p _ _=>rw [ht] at d;simp at d
   | frac v ht p _ _=>rw [ht] at d;simp at d
   | una v u a ht p _=>rw [ht] at d;simp at d
   | bin a b v u x y ht p _=>exact ⟨a,by rw [p];rfl⟩
   | nest a v u x y ht p _ _ _=>exact ⟨a,by rw [p];rfl⟩
  have f:n.args[1]?=none->n.read.getD 1 0=0:=by
   intro e;have:=List.getElem?_eq_none_iff.1 e;rw [List.getD_eq_getElem?_getD,List.getElem?_eq_none_iff.2 (by rw [z.len];exact this)];rfl
  have J:=aHg (s:=s) (n:=n) (sd:=0) (o:=some a0) (r:=n.read.getD 0 0) k (fun e=>by cases e) fun a e=>⟨m 0 a0 k,H a (by cases e;exact List.mem_of_getElem? k)⟩
  have M:=aHg (s:=s) (n:=n) (sd:=1) (o:=n.args[1]?) (r:=n.read.getD 1 0) rfl f fun a e=>⟨m 1 a e,H a (List.mem_of_getElem? e)⟩
  have E:∃ ls,sgO s.nodes (some a0)=some ls:=⟨_,rfl⟩
  obtain ⟨ls,q⟩:=E;rw [A,L,B,C,k,q];rw [q] at J;rw [aOD d h.cor (Pg.aHa d h.cor) h.cof (I 0) (I 1) ?_ J M F]
  ·simp [d]
  ·intro e;refine f ?_
   cases O:n.args[1]? with
   | none=>rfl
   | some a=>rw [O] at e;simp [sgO] at e
 ·have A:lArg n=none:=by unfold lArg;rw [if_neg d]
  rw [A];simp [d,sgO,readsZ]
end
end Ab
end Go.Proofs.YteghhlfmcjmnoaaGreatDoor
