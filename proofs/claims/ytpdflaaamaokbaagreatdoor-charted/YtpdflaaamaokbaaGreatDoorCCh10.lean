import Derived.Test.YtpdflaaamaokbaaGreatDoorCCh09
import Derived.Test.YtpdflaaamaokbaaGreatDoorCCh04
import Derived.Test.YtpdflaaamaokbaaGreatDoorCCh08
set_option linter.all false
set_option maxRecDepth 100000
set_option maxHeartbeats 2000000
namespace Go.Proofs.YtpdflaaamaokbaaGreatDoor
open List renaming getElem?_map->j8,length_eq_zero_iff->j9,size_toArray->k8,nil_append->k9,length_append->l4,getElem?_set_self->l5,getElem?_eq_some_iff->l7,getElem_of_mem->l8,getElem?_eq_getElem->l9,mem_of_getElem?->n4,length_eq_one_iff->n5,getElem?_eq_none_iff->n6,getD_eq_getElem?_getD->n7
open Option renaming map_eq_some_iff->n8,bind_eq_some_iff->n9,bind_some->o8,map_some->o9
open Nat renaming add_zero->p7,zero_add->p8,le_refl->p9,pow_pos->q7,mul_le_mul_right->q8,lt_of_le_of_lt->q9,le_trans->s4
open Option.some renaming inj->s8,injEq->s9
open Go.Builtin renaming append_->u7,zeroCells->u9,firstCells->w9
open Or renaming inr->z6
open _root_.Array renaming toList_inj->z7,getElem?_push_lt->z8
open Go.World renaming shape?->A0
open Bool renaming false_eq_true->A5
open Go.Proofs.Tryz
open Go.RowKit
namespace Ab
open Rf (Nd Inv aY)
def xX (d:Bool)(b mt e g f:Int)(lp rp a nst gv:AC):bL:=Ff (Mh d b mt e g f lp rp a nst gv) 120
def tZ (c:Int):bL:=Ff [.sint .i64 c] 109
def sWn (ns:LV)(d:Bool)(b mt e g f c:Int)(lp rp a nst gv:AC)(ex:List (Nat×bL))(dirty:NU)(h:List AT):AS:=⟨h,(0,xX d b mt e g f lp rp a nst gv)::(6,tZ c)::ex,7,ns,dirty⟩
def sW (i:LN)(d:Bool)(b mt e g f c:Int)(lp rp a nst gv:AC)(ex:List (Nat×bL))(h:List AT):AS:=sWn (i.map λz=>(z,10)) d b mt e g f c lp rp a nst gv ex [] h
def nG (m:Nat):List AT:=.val (.one (.ptr 0 0))::.val (.one (.ptr 6 0))::List.replicate m .gG
def slot (l:List (Nat×AT)):Nat->Nat->List AT
 |_,0=>[]
 |i,m+1=>(match l.find? (λx=>x.1==i)with|some x=>x.2|none=>.top)::slot l (i+1) m
def sl0 (m:Nat):List AT:=slot [] 0 m
noncomputable def bW:XW:=λf=>bif f==133 then some f133 else none
theorem rS:bQ Z bW:=by
 intro f fn h;unfold bW at h
 cases a:f==133 with
 |true=>
  rw[a]at h;cases h
  have:f=133:=by simpa using a
  subst this;exact⟨(bD func133 rfl rfl).at',(bD func133 rfl rfl).en⟩
 |false=>rw[a]at h;cases h
theorem Ld {φ:LI}{ν:LV}{n:World}:∀(a:LN) (i:Nat) (e:LB),All2 (relC Z φ ν n) (bH true i a.length) e->(∀(j:Nat) (z:Int),a[j]?=some z->∃b,ν[i+j]?=some (z,b))->Hold true n a e
 | [],i,[],_,_=>trivial
 | [],i,_::_,h,_=>h.elim
 |z::a,i,[],h,_=>by simp[bH]at h;exact h.elim
 |z::a,i,[x],h,_=>by simp[bH]at h;exact h.2.elim
 |z::a,i,x::y::e,h,d=>by
  have l:All2 (relC Z φ ν n) (.sg i::.dg true i::bH true (i+1) a.length) (x::y::e):=h;obtain⟨⟨s,q,f,k⟩,⟨u,r,f1,f2,f3⟩,o⟩:=l;obtain⟨b,g⟩:=d 0 z rfl;rw[p7]at g;rw[g]at f f1;cases f;cases f1;exact⟨k,f2,Ld a (i+1) e o λj y p=>by rw[show i+1+j=i+(j+1) by omega];exact d (j+1) y (by simpa using p)⟩
def phW (k a:Nat)(ex:LI):LI:=λb=>if b=0 then some (k,0)else if b=6 then some (a,0)else if b<6 then ex b else none
theorem aTB (k a:Nat)(ex:LI):phW k a ex 0=some (k,0):=rfl
theorem aTC (k a:Nat)(ex:LI):phW k a ex 6=some (a,0):=rfl
theorem aWo (k a:Nat)(ex:LI){b:Nat}(h:7<=b):phW k a ex b=none:=by
 unfold phW;rw[if_neg (by omega),if_neg (by omega),if_neg (by omega)]
variable {n:World}{k:Nat}{q:LI}
theorem aR0 {d:Nat}{ex:List (Nat×bL)}{s:LN}{i:Bool}{v mt r y x c:Int}{lp rp gv Y S:Value}{lpC rpC gvC cvC nvC:AC}(hn:NodeAt n k s i v mt r y x lp rp gv Y S)(h8:s.length=8)(O:∀z∈s,Bits 10 z)(H:n.heap[d]?=some (.cells #[.int .i64 c] 109 (0,0)))
  (hl:relC Z (phW k d q) (s.map λz=>(z,10)) n lpC lp) (hr:relC Z (phW k d q) (s.map λz=>(z,10)) n rpC rp) (hg:relC Z (phW k d q) (s.map λz=>(z,10)) n gvC gv) (hc:relC Z (phW k d q) (s.map λz=>(z,10)) n cvC Y) (hm:relC Z (phW k d q) (s.map λz=>(z,10)) n nvC S)
  (l:∀b B,look ex b=some B->B.own=false/\B.tip=false/\B.ro=true/\∃g o,phW k d q b=some (g,o)/\g≠k/\g≠d/\Seg Z (phW k d q) (s.map λz=>(z,10)) n g o B.ty B.cs) (R:∀b g o,q b=some (g,o)->g<n.heap.size) (U:List AT):
  RepW Z n (phW k d q) (phW k d q) (sW s i v mt r y x c lpC rpC cvC nvC gvC ex U) n:=by
 obtain⟨I,M,h2⟩:=hn.ex
 have F:k≠d:=by
  intro e;subst e;rw[M]at H;have:=(Obj.cells.inj (s8 H)).2.1;exact absurd this (by decide)
 have P:All2 (relC Z (phW k d q) (s.map λz=>(z,10)) n) (Mh i v mt r y x lpC rpC cvC nvC gvC) (.bool i::I++[Y,.int .i64 mt,lp,.int .i64 r,rp,.int .i64 y,gv,.int .i64 v,S,.int .i64 x]):=by
  have hx:All2 (relC Z (phW k d q) (s.map λz=>(z,10)) n) (bH true 0 8) I:=by
   rw[<-h8]
   exact tV s I 0 _ h2 O λj z hz=>by rw[p8,j8,hz];rfl
  exact All2.append (show All2 (relC Z (phW k d q) (s.map λz=>(z,10)) n) (.sbool i::bH true 0 8) (.bool i::I)from⟨rfl,hx⟩) ⟨hc,rfl,hl,rfl,hr,rfl,hg,rfl,hm,rfl,trivial⟩
 have s0:Seg Z (phW k d q) (s.map λz=>(z,10)) n k 0 120 (Mh i v mt r y x lpC rpC cvC nvC gvC):=⟨[],_,[],by simpa using M,rfl,P⟩
 have s6:Seg Z (phW k d q) (s.map λz=>(z,10)) n d 0 109 [.sint .i64 c]:=⟨[],[.int .i64 c],[],by simpa using H,rfl,rfl,trivial⟩
 have f:∀b B,look (sW s i v mt r y x c lpC rpC cvC nvC gvC ex U).boxes b=some B->(b=0/\B=xX i v mt r y x lpC rpC cvC nvC gvC)\/(b=6/\B=tZ c)\/look ex b=some B:=by
  intro b B h;simp only[sW,sWn,look]at h
  cases J:(0==b)with
  |true=>
   rw[J]at h;simp only[cond_true,s9]at h;exact Or.inl ⟨(show 0=b by simpa using J).symm,h.symm⟩
  |false=>
   rw[J]at h;simp only[cond_false]at h
   cases L:(6==b)with
   |true=>
    rw[L]at h;simp only[cond_true,s9]at h;exact z6 (Or.inl ⟨(show 6=b by simpa using L).symm,h.symm⟩)
   |false=>
    rw[L]at h;exact z6 (z6 h)
 refine aOP rfl ?_ ?_ (λb O=>aWo k d q O) ?_
 .intro b B N
  rcases f b B N with⟨rfl,rfl⟩|⟨rfl,rfl⟩|h
  .exact⟨rfl,rfl,k,0,rfl,s0⟩
  .exact⟨rfl,rfl,d,0,rfl,s6⟩
  .obtain⟨X,g2,_,g,o,p,_,_,g4⟩:=l b B h;exact⟨X,g2,g,o,p,g4⟩
 .intro b C B A T o o' N u E a
  rcases f b B N with⟨rfl,rfl⟩|⟨rfl,rfl⟩|h
  .rw[aTB]at E;cases E
   rcases f C A u with⟨rfl,rfl⟩|⟨rfl,rfl⟩|h'
   .exact Or.inl rfl
   .rw[aTC]at a;cases a;exact absurd rfl F
   .obtain⟨_,_,_,g,o,p,D,_⟩:=l C A h';rw[a]at p;cases p;exact absurd rfl D
  .rw[aTC]at E;cases E
   rcases f C A u with⟨rfl,rfl⟩|⟨rfl,rfl⟩|h'
   .rw[aTB]at a;cases a;exact absurd rfl F
   .exact Or.inl rfl
   .obtain⟨_,_,_,g,o,p,_,D,_⟩:=l C A h';rw[a]at p;cases p;exact absurd rfl D
  .obtain⟨_,_,W,g,o,p,D,g6,_⟩:=l b B h;rw[E]at p;cases p
   rcases f C A u with⟨rfl,rfl⟩|⟨rfl,rfl⟩|h'
   .rw[aTB]at a;cases a;exact absurd rfl D
   .rw[aTC]at a;cases a;exact absurd rfl g6
   .exact z6 ⟨W,(l C A h').2.2.1⟩
 .intro b T o h;unfold phW at h;split at h
  .cases h;exact gZ M
  .split at h
   .cases h;exact gZ H
   .split at h
    .exact R b T o h
    .cases h
variable {C:LI}{s:AS}
theorem aOV {g:World}{E:Nat}{zs:LN}{ns:LV}{hs:Bool}{uns mt lr rr pl c:Int}{lpC rpC gvC cvC nvC:AC}(A:RepW Z n (phW k E q) C s g)(h0:look s.boxes 0=some (xX hs uns mt lr rr pl lpC rpC cvC nvC gvC))(h6:look s.boxes 6=some (tZ c))(hk:n.shape? k=some (120,27))(hf:n.shape? E=some (109,1))(h8:zs.length=8)(hz:∀(j:Nat) (z:Int),zs[j]?=some z->∃b,s.nums[j]?=some (z,b)):
  (∃lp rp gv S X,NodeAt g k zs hs uns mt lr rr pl lp rp gv S X/\relC Z C s.nums g lpC lp/\relC Z C s.nums g rpC rp/\relC Z C s.nums g gvC gv/\relC Z C s.nums g cvC S/\relC Z C s.nums g nvC X)/\g.heap[E]?=some (.cells #[.int .i64 c] 109 (0,0)):=by
 have p0:=A.base 0 (k,0) rfl;have p6:=A.base 6 (E,0) rfl;constructor
 .obtain⟨k',o,x,a,l,B,p,M,F⟩:=A.box 0 _ h0;rw[p0]at B;cases B;have i:x=[]:=j9.1 M;subst i;have d:=A.on.shape hk;unfold A0 at d;rw[p]at d;simp only[s9,Prod.mk.injEq,k8,k9,l4]at d;have H:=F.len;have D:(xX hs uns mt lr rr pl lpC rpC cvC nvC gvC).cs.length=27:=rfl;have f:l=[]:=j9.1 (by omega);subst f;simp only[k9,List.append_nil]at p;have r:All2 (relC Z C s.nums g) (.sbool hs::bH true 0 8++[cvC,.sint .i64 mt,lpC,.sint .i64 lr,rpC,.sint .i64 rr,gvC,.sint .i64 uns,nvC,.sint .i64 pl]) a:=F
  match a,r,H,p with
  |y::a,⟨v,U⟩,H,p=>
   have W:a.length=26:=by rw[D]at H;simp at H;omega
   have e:a=a.take 16++a.drop 16:=(List.take_append_drop 16 a).symm
   have ga:All2 (relC Z C s.nums g) (bH true 0 8) (a.take 16):=by
    have:=U.take 16
    simpa[bH]using this
   have gb:=U.drop 16;have u:All2 (relC Z C s.nums g) [cvC,.sint .i64 mt,lpC,.sint .i64 lr,rpC,.sint .i64 rr,gvC,.sint .i64 uns,nvC,.sint .i64 pl] (a.drop 16):=gb;have hold:Hold true g zs (a.take 16):=Ld zs 0 _ (by rw[h8];exact ga) (by simpa using hz);have v:y=.bool hs:=v
   match hd:a.drop 16,u with
   | [a0,a1,N,Y,O,a5,P,a7,R,a9],u=>
    obtain⟨b0,b1,b2,I,b4,b5,b6,J,b8,L,_⟩:=u;have b1:a1=.int .i64 mt:=b1;have I:Y=.int .i64 lr:=I;have b5:a5=.int .i64 rr:=b5;have J:a7=.int .i64 uns:=J;have L:a9=.int .i64 pl:=L;refine⟨N,O,P,a0,R,⟨a.take 16,?_,hold⟩,b2,b4,b6,b0,b8⟩
    have T:a=a.take 16++[a0,.int .i64 mt,N,.int .i64 lr,O,.int .i64 rr,P,.int .i64 uns,R,.int .i64 pl]:=by
     rw[<-b1,<-I,<-b5,<-J,<-L,<-hd];exact e
    rw[p,v];generalize a.take 16=t at T;subst T;rfl
 .obtain⟨k',o,x,a,l,B,p,M,F⟩:=A.box 6 _ h6;rw[p6]at B;cases B;have i:x=[]:=j9.1 M;subst i;have d:=A.on.shape hf;unfold A0 at d;rw[p]at d;simp only[s9,Prod.mk.injEq,k8,k9,l4]at d;have r:All2 (relC Z C s.nums g) [.sint .i64 c] a:=F
  match a,r with
  | [y],⟨v,_⟩=>
   have v:y=.int .i64 c:=v
   have f:l=[]:=by have:=d.2;simpa using this
   subst f;rw[p,v];rfl
  |_::_::_,⟨_,h⟩=>exact h.elim
theorem NodeAt.shape {n:World}{k:Nat}{zs:LN}{hs:Bool}{uns mt lr rr pl:Int}{lp rp gv Y d:Value}(h:NodeAt n k zs hs uns mt lr rr pl lp rp gv Y d)(h8:zs.length=8):n.shape? k=some (120,27):=by
 obtain⟨e,a,b⟩:=h.ex;have:=Ny zs e b;unfold A0;rw[a];simp;omega
theorem Zf {w:Nat}{c:Int}(h:n.heap[w]?=some (.cells #[.int .i64 c] 109 (0,0))):n.shape? w=some (109,1):=by
 unfold A0;rw[h];rfl
theorem Px {g:World}{d:Nat}(a:RepW Z n (phW k d q) C s g)(i:s.dirty.all (λb=>b==0||b==6)=true):Chg n g [k,d]:=by
 refine⟨a.on,λj l f=>a.low j l λb h o e=>?_⟩;have:=List.all_eq_true.1 i b h;simp only[Bool.or_eq_true,beq_iff_eq]at this
 rcases this with rfl|rfl
 .rw[a.base 0 (k,0) rfl]at e;cases e;exact f (by simp)
 .rw[a.base 6 (d,0) rfl]at e;cases e;exact f (by simp)
variable {f:NU}
theorem Chg.below {w b:World}{b0:Nat}(h:Chg w b f)(d:b0<=w.heap.size)(a:∀k∈f,b0<=k):Below b0 w b:=
 ⟨h.on.os,h.on.tape,h.on.output,h.on.size,λk g=>h.low k (by omega) λe=>by have:=a k e;omega⟩
def Gq (s:AS):List (K (List AT))->Option (TypeId×TypeId×TypeId×AT×AT×Option Tmp×List (K (List AT)))
 |.ops all (i::a)::b=>(all[i]?).bind λo=>
  match gd all s.tmps o with
  |.yes=>match o.op with
   |.call { callee:=.builtin .append,args:=args,argTypes:=ts}=>match ts.toList,args.toList with
    | [t,d],[x,y]=>some (t,d,o.type,iW s.tmps x,iW s.tmps y,o.dst,.ops all a::b)
    |_,_=>none
   |_=>none
  |_=>none
 |_=>none
variable {R:EW}{φ:LI}
theorem aPE {L:fE}{a:Act}{b:World}{N ks2:List (K (List AT))}{p:List (K Act)}{t t' ty:TypeId}{sv xv:AT}{dst:Option Tmp}(h:Gq s N=some (t,t',ty,sv,xv,dst,ks2))(r:noFr N=true){S:LI}{l:LV}{J:World}(M:SR L S l J N p)(I:Rep L n q φ s a b)
  (H:∀U W,relT L φ s.nums b sv U->relT L φ s.nums b xv W->∃v E,(u7 #[t,t'] ty #[U,W]).run L.P b=.ok v E/\∀g,noFr ks2=true->(∀D B A,SR L D B A ks2 g)->gD L.P R g .normal (a.put dst v) E):gD L.P R p .normal a b:=by
 unfold Gq at h;split at h
 .rename_i all i j O;obtain⟨o,ho,k⟩:=aS h;split at k
  .rename_i hg;split at k
   .rename_i args ts F;split at k
    .rename_i t0 ak x y X Y;cases k
     match p,M with
     |.ops d r'::f,⟨q1,q2,z⟩=>
      subst q1 q2;show wpOps L.P d (gD L.P R f) (i::j) a b;rw[wpOps_cons];have T:=Qd (all:=d) (o:=o) I.tmps;rw[hg]at T
      have ea:args=#[x,y]:=by apply z7.1;rw[Y]
      have et:ts=#[t,t']:=by apply z7.1;rw[X]
      subst ea et;obtain⟨v,E,r1,r2⟩:=H _ _ (tU I.tmps x) (tU I.tmps y);unfold wpOp;simp only[ho];rw[if_pos T];refine Or.inl ?_;unfold Oper.wp
      have r3:(execOp a.eval o).run L.P b=.ok (.value v) E:=by
       unfold execOp;rw[F];show((do pure (Next.value (<-u7 #[t,t'] o.type (#[x,y].map a.eval))):Sem Next).run L.P b)=_
       have e:#[x,y].map a.eval=#[a.eval x,a.eval y]:=by simp
       rw[e,Sem.run_bind,r1];rfl
      rw[r3]
      have u:noFr O=true:=by simpa[noFr]using r
      exact r2 (.ops d j::f) (by simpa[noFr]using r) λD B A=>⟨rfl,rfl,SR.any u z⟩
    .cases k
   .cases k
  .cases k
 .cases h
def RowOf (w:World)(e:TypeId)(f:LB)(v:Value)(g:FF):Prop:=
 (v=.slice none 0 0/\f=[]/\g=none)\/∃b d,∃a:LB,g=some b/\v=.slice (some ⟨b,0,none⟩) f.length d/\w.heap[b]?=some (.cells (f++a).toArray e (0,0))/\f.length<=d/\d<=f.length+a.length
theorem aHV (z:Array Value)(n:Nat):(u9 z n).size=n*z.size:=by
 simp[u9]
theorem aMV {bt:List TypeId}{P:Program}{t t' e ty:TypeId}{i:TypeInfo}{J:Value}(hu:P.underlying t=some (.slice e))(D:P.underlying t'=some (.slice e))(C:iS P e=some 1)(hi:P.info? e=some i)(O:i.bytes<=1000000)(hz:∀n,(zeroValue e).run P n=.ok J n)(X:J.cells.size=1)(N:bt.contains e=true)
   {d:LB} {g xv x:Value} {I:FF} (B:RowOf n e d g I) {xc:Nat} {q E:LB} {aa:TypeId} (hx:n.heap[k]?=some (.cells (q++[x]++E).toArray aa (0,0))) (W:xv=.slice (some ⟨k,q.length,none⟩) 1 xc) (U:One x) (ad:d.length<=99999):
  ∃F f b,(u7 #[t,t'] ty #[g,xv]).run P n=.ok F f/\RowOf f e (d++[x]) F (some b)/\(I=some b\/n.heap.size<=b)/\On bt n f/\∀j,j<n.heap.size->j≠b->f.heap[j]?=n.heap[j]?:=by
 subst W
 have y:∀f,f.heap=n.heap->(w9 1 1 (.slice (some ⟨k,q.length,none⟩) 1 xc)).run P f=.ok #[x] f:=λf T=>Yu (ys:=[x]) (by rw[T];exact hx) rfl
 have u:∀(L:Option Addr) (h:Nat),g=.slice L d.length h->¬d.length+1<=h->(∀f,f.heap=n.heap->(w9 1 d.length (.slice L d.length h)).run P f=.ok d.toArray f)->∃F f b,(u7 #[t,t'] ty #[g,.slice (some ⟨k,q.length,none⟩) 1 xc]).run P n=.ok F f/\RowOf f e (d++[x]) F (some b)/\(I=some b\/n.heap.size<=b)/\On bt n f/\∀j,j<n.heap.size->j≠b->f.heap[j]?=n.heap[j]?:=by
  intro L h hv hc hold;obtain⟨p,c1,c2⟩:=aKm (ty:=ty) hu D C hi O hz hold y hc (by omega);subst hv;refine⟨_,_,n.heap.size,c2,z6 ⟨n.heap.size,p,(u9 J.cells (p-(d.length+1))).toList,rfl,by simp,?_,by simpa using c1,?_⟩,z6 (p9 _),⟨rfl,rfl,rfl,by simp,λj o r=>Or.inl ?_⟩,λj r _=>?_⟩
  .rw[Array.getElem?_push_size];congr 2;apply z7.1;simp
  .have hl:=aHV J.cells (p-(d.length+1));rw[X]at hl;simp[hl];omega
  .obtain⟨R,S⟩:=Array.getElem?_eq_some_iff.1 r;rw[z8 R,S]
  .rw[z8 r,Array.getElem?_eq_getElem r]
 rcases B with⟨M,H,z⟩|⟨b,h,l,M,H,z,h4,h5⟩
 .subst H
  exact u none 0 M (by simp) λf _=>aDJ
 .by_cases hc:d.length+1<=h
  .subst H;have Y:=aHY (ty:=ty) (a:=⟨b,0,none⟩) (sLen:=d.length) hu D C (y n rfl) hc;obtain⟨f,s1,s⟩:=Tm (P:=P) d.length [x] 0 n (d++l) z (by simp;omega) (by simpa using U)
   have e1:(⟨b,0,none⟩:Addr).add (d.length*1)=⟨b,d.length,none⟩:=by rw[Fu];simp
   rw[e1,show(#[x]:Array Value).toList=[x]from rfl,s1]at Y;simp only[Result.andThen_ok]at Y;rw[p7,Oj _ _ _ (by simp;omega)]at s
   have t1:(d++l).take d.length=d:=by simp
   have t2:(d++l).drop (d.length+[x].length)=l.drop 1:=by simp
   rw[t1,t2]at s;refine⟨_,f,b,Y,z6 ⟨b,h,l.drop 1,rfl,by simp,s.bS,by simpa using hc,by simp;omega⟩,Or.inl M,⟨s.os,s.tape,s.output,by rw[s.size];exact p9 _,λj o r=>?_⟩,λj _ r=>s.others j r⟩
   by_cases A:j=b
   .subst A;rw[z]at r;cases r;refine z6 ⟨N,?_⟩;unfold A0;rw[s.bS,z];simp;omega
   .exact Or.inl (by rw[s.others j A];exact r)
  .exact u _ h H hc λf T=>Yu (pre:=[]) (ys:=d) (by rw[T];exact z) (by simp)
def qA (d:Nat)(p:Oper->Bool):Code->List (K (List AT))->Option (List (K (List AT)))
 |.region _ ops false,e=>(Ay p ops.toList 0).map λj=>.ops ops ((List.range ops.size).drop (j+d))::e
 |.seq a b,e=>match qA d p a (.code b::e)with|some r=>some r|none=>qA d p b e
 |.block id b,e=>qA d p b (.bS id::e)
 |.cond _ a b,e=>match qA d p a e with|some r=>some r|none=>qA d p b e
 |_,_=>none
def eH (p:Oper->Bool)(fn:Func):List (K (List AT)):=(qA 0 p (aF fn) [.top fn]).getD []
def Jx (d a:NU)(f:Nat)(e b:NU)(g:Nat)(s:AS):Option (AS×List Prop):=match fF d a f [] s with|some r=>some r|none=>fF e b g [] s
def Df (f:LI)(ns:AS->Option (AS×List Prop)):Prop:=∀e φ s d p a w,ns s=some (d,p)->Holds p->Rep Z e f φ s a w->∃b,Rep Z e f b d a w
variable {w:Nat}
theorem jI {j:NU}{k:NU}(e:∀b x,q b=some x->f.contains b=true):Df q (fF f j w k):=λn φ s l p a d h g i=>⟨_,aOk h g e i⟩
theorem aWb {g:NU}{n i:NU}(o:∀b x,q b=some x->f.contains b=true)(u:∀b x,q b=some x->n.contains b=true):Df q (Jx f g w n i k):=by
 intro y φ s v p a d h j l;unfold Jx at h;split at h
 .rename_i r e;cases h;exact⟨_,aOk e j o l⟩
 .exact⟨_,aOk h j u l⟩
theorem cC {sp:Spec}{h:XW}{stp:List (K (List AT))->Bool}(u:SpecOk Z n q sp)(I:bQ Z h){rb:NU}{ns:AS->Option (AS×List Prop)}(T:∀b x,q b=some x->f.contains b=true)(J:Df q ns){d:Nat}{U:List (K (List AT))}{xt:XT}
  (ht:(run Z sp h (aL Z sp) stp d U s).bind (eF (fF f [] w rb) ns)=some xt) (G:AT->AS->Prop) (H:List (K (List AT))->AS->Prop) (L:xt.ok G H)
  (hG:∀r o j v l,G r o->(∀b,r=.val (.one (.bool b))\/r=.val (.one (.sbool b))->v=.bool b)->(∀k z,r=.val (.one (.sint k z))\/r=.val (.one (.int k z))->v=.int k z)->RepW Z n q j o l->R (.returned v) l)
  (hH:∀i o,H i o->noFr i=true/\∀(g:List (K Act)) (j:LI) (a:Act) (l:World),(∀C B Y,SR Z C B Y i g)->Rep Z n q j o a l->gD Z.P R g .normal a l):
  ∀(g:List (K Act)) (φ:LI) (a:Act) (e:World),SR Z φ s.nums e U g->Rep Z n q φ s a e->gD Z.P R g .normal a e:=by
 intro g φ a e O hr;obtain⟨tr,h1,h2⟩:=aS ht;refine vC u I (rJ mixed u) _ _ ?_ ?_ d U s tr h1 (Lj h2 L) g φ a e O hr
 .rintro i o⟨W,p,D,E,F⟩ A j a' l y M;obtain⟨hf,hk⟩:=hH i W F;obtain⟨X,N⟩:=J _ _ _ _ _ _ _ D E M;exact hk A X a' l (λC B Y=>SR.any hf y) N
 .rintro r o j v l⟨W,p,D,E,F⟩ hv S;refine hG r W _ v l F ?_ ?_ (aJS D E T S)
  .rintro b(rfl|rfl)<;>exact hv
  .rintro k z(rfl|rfl)<;>exact hv
abbrev P0:AT:=.val (.one (.ptr 0 0))
abbrev P6:AT:=.val (.one (.ptr 6 0))
abbrev litT (v:Value):AT:=.val (.one (.lit v))
abbrev dP (z:Int):AT:=.val (.one (.sint .i64 z))
theorem uG {ν:LV}{w:World}{b:Nat}{x:Value}(a:φ b=some (k,0))(h:dU Z φ ν w (.one (.ptr b 0)) x):x=aA k:=by
 obtain⟨f,o,d,e⟩:=h;rw[a]at d;cases d
 simpa[aA]using e
end Ab
namespace Rf
open Nw
def dV (n:Nat)(v:V):Prop:=Bits n v.1/\Bits n v.2
theorem dV.mono {n m:Nat}{M:V}(h:dV n M)(a:n<=m):dV m M:=⟨eI h.1 a,eI h.2 a⟩
variable {a b:Nat}
theorem aLy {m:Mt}{M:V}(e:cW a m)(hv:dV b M):dV (a+b+1) (eX m M):=⟨pL (fY e.a hv.1) (fY e.b hv.2),pL (fY e.c hv.1) (fY e.d hv.2)⟩
theorem aQ9 {m:Mt}{M:V}(e:cW a m)(hv:dV b M):dV (a+b+1) (fG m M):=⟨pL (fY e.d hv.1) (fY (yO e.b) hv.2),pL (fY e.a hv.2) (fY (yO e.c) hv.1)⟩
theorem Ft {n:Nat}{t:List V}{x F:V}(f:∀v∈t,dV n v)(d:dV a x)(e:dV b F):dV (n+(a+b)+3) (bK t x F):=by
 unfold bK;split
 .rename_i p q r s;have g:=f p (by simp);have h:=f q (by simp);have j:=f r (by simp);have k:=f s (by simp)
  exact ⟨pL (pL (pL (fY g.1 (fY d.1 e.1)) (fY h.1 (fY d.1 e.2))) (eI (fY j.1 (fY d.2 e.1)) (by omega))) (eI (fY k.1 (fY d.2 e.2)) (by omega)),
   pL (pL (pL (fY g.2 (fY d.1 e.1)) (fY h.2 (fY d.1 e.2))) (eI (fY j.2 (fY d.2 e.1)) (by omega))) (eI (fY k.2 (fY d.2 e.2)) (by omega))⟩
 .exact⟨by unfold Bits;simp;exact q7 (by decide),by unfold Bits;simp;exact q7 (by decide)⟩
theorem aKG {m:Mt}(e:cW a m):dV a (eX m (1,0))/\dV a (eX m (0,1)):=by
 have f:eX m (1,0)=(m.a,m.c):=by simp[eX,Mt.at1,Mt.at2]
 have g:eX m (0,1)=(m.b,m.d):=by simp[eX,Mt.at1,Mt.at2]
 rw[f,g];exact⟨⟨e.a,e.c⟩,e.b,e.d⟩
theorem aPp:dV 6001 ((1,0):V)/\dV 6001 ((0,1):V):=by grind [dV,aW,eJ]
section
variable {ns:List Nd} {rho:NN} {c i:Nat} {n:Nd}
theorem Tv (h:Inv ns rho c)(d:aY ns rho c i n){sd:Nat}(f:n.args[sd]?=some a){e:V×V}(g:ends ns n sd=some e):dV 6001 e.1/\dV 6001 e.2:=by
 obtain⟨m,x,r,b,k,l,o⟩:=Fo h d f;rw[o]at g;cases g;have j:=h.at' a x b;have p:=j.lU r m l;have u:=d.rd sd a r x f k b;have s:=j.iX;obtain⟨k1,q⟩:=aKG p;exact⟨k1.mono (by omega),q.mono (by omega)⟩
theorem aM2 (h:Inv ns rho c)(p:aY ns rho c i n){D:List V}(f:bare ns n=some D):∀v∈D,dV 60000000 v:=by
 have g:=p.tb;have d:∀v∈n.t,dV 13000 v:=g;unfold bare at f
 cases p.shp with
 |fH g j B hc=>
  rw[g]at f;cases f;obtain⟨k1,E⟩:=aKG p.iF;have F:=p.ku
  have A:1+n.k*18500<=60000000:=by
   have:n.k*18500<=3000*18500:=q8 _ (by omega);omega
  intro v hv;simp at hv
  rcases hv with rfl|rfl
  .exact k1.mono A
  .exact E.mono A
 |gQ v g j B hv=>
  rw[g]at f d;cases f;intro u o;exact(d u o).mono (by decide)
 |kR v w a g j B=>
  rw[g]at f d;obtain⟨e,s,rfl⟩:=n8.1 f;obtain⟨b1,b2⟩:=Tv h p (sd:=0) (a:=a) (by rw[j];rfl) s
  have A:cW 13000 ⟨v.1,w.1,v.2,w.2⟩:=⟨(d v (by simp)).1,(d w (by simp)).1,(d v (by simp)).2,(d w (by simp)).2⟩
  intro u o;simp at o
  rcases o with rfl|rfl
  .exact(aLy A b1).mono (by decide)
  .exact(aLy A b2).mono (by decide)
 |bin a b v w x y g j B=>
  rw[g]at f d;obtain⟨e,s,C⟩:=n9.1 f;obtain⟨r,z,rfl⟩:=n8.1 C;rw[if_pos (by rw[j];rfl)]at z;obtain⟨b1,b2⟩:=Tv h p (sd:=0) (a:=a) (by rw[j];rfl) s;obtain⟨q,b4⟩:=Tv h p (sd:=1) (a:=b) (by rw[j];rfl) z;intro u o;simp at o
  rcases o with rfl|rfl|rfl|rfl
  .exact(Ft d b1 q).mono (by decide)
  .exact(Ft d b1 b4).mono (by decide)
  .exact(Ft d b2 q).mono (by decide)
  .exact(Ft d b2 b4).mono (by decide)
 |nest a v w x y g j B H ok=>
  rw[g]at f d;obtain⟨e,s,C⟩:=n9.1 f;obtain⟨r,z,rfl⟩:=n8.1 C;rw[if_neg (by rw[j];simp)]at z;cases z;obtain⟨b1,b2⟩:=Tv h p (sd:=0) (a:=a) (by rw[j];rfl) s;obtain⟨q,b4⟩:=aPp;intro u o;simp at o
  rcases o with rfl|rfl|rfl|rfl
  .exact(Ft d b1 q).mono (by decide)
  .exact(Ft d b1 b4).mono (by decide)
  .exact(Ft d b2 q).mono (by decide)
  .exact(Ft d b2 b4).mono (by decide)
theorem aJw (h:Inv ns rho c)(a:aY ns rho c i n){D:List V}(d:corners ns n=some D):∀v∈D,dV 70000000 v:=by
 unfold corners at d;obtain⟨b,e,rfl⟩:=n8.1 d;intro v hv;rw[List.mem_map]at hv;obtain⟨u,f,rfl⟩:=hv;have g:=a.iX;exact(aQ9 a.jF (aM2 h a e u f)).mono (by omega)
end
end Rf
namespace Pg
open Rf Nw
variable {ns:List Nd}{d x:Nd}{a:Nat}
theorem Ux {w:Nat}(e:d.args[w]?=some a)(f:d.read[w]?=some 0)(g:ns[a]?=some x)(b:x.dR[0]?=some one):ends ns d w=some ((1,0),(0,1)):=by
 unfold Rf.ends;rw[e];simp only[o8,g,f,b,o9];rw[Lb,Lb]
theorem Tc {M F y z:V}:bK [M,F,y,z] (1,0) (1,0)=M/\bK [M,F,y,z] (1,0) (0,1)=F/\bK [M,F,y,z] (0,1) (1,0)=y/\bK [M,F,y,z] (0,1) (0,1)=z:=by
 unfold bK
 refine⟨?_,?_,?_,?_⟩<;>ext<;>simp
theorem Ow (l:List V):l.map (fG one)=l:=by
 conv=>rhs;rw[<-List.map_id l]
 exact List.map_congr_left λv _=>Gi v
theorem aFN (e:d.t=[])(b:d.part=one)(a:d.told=one):corners ns d=some [(1,0),(0,1)]:=by
 unfold Rf.corners;rw[aGU e,b,a,o9,Ow,Lb,Lb]
variable {M:V}
theorem Ys {F:V}(h:d.t=[M,F])(f:d.args[0]?=some a)(g:d.read[0]?=some 0)(i:ns[a]?=some x)(e:x.dR[0]?=some one)(b:d.told=one):corners ns d=some [M,F]:=by
 unfold Rf.corners;rw[Ur h,Ux f g i e,b,o9,o9,Ow];unfold eX Mt.at1 Mt.at2;simp
theorem Yt {F y z:V}{b:Nat}{j:Nd}(r:d.t=[M,F,y,z])(f:d.args=[a,b])(i:d.read=[0,0])(s:ns[a]?=some x)(k:x.dR[0]?=some one)(h:ns[b]?=some j)(e:j.dR[0]?=some one)(g:d.told=one):corners ns d=some [M,F,y,z]:=by
 unfold Rf.corners;rw[Dk r,Ux (a:=a) (by rw[f];rfl) (by rw[i];rfl) s k,g,o8,if_pos (by rw[f];rfl),Ux (a:=b) (by rw[f];rfl) (by rw[i];rfl) h e,o9,o9,Ow];obtain⟨l,o,p,q⟩:=@Tc M F y z;simp only[l,o,p,q]
theorem aIe {F y z:V}(l:d.t=[M,F,y,z])(e:d.args=[a])(k:d.read=[0])(o:ns[a]?=some x)(f:x.dR[0]?=some one)(b:d.told=one):corners ns d=some [M,F,y,z]:=by
 unfold Rf.corners;rw[Dk l,Ux (a:=a) (by rw[e];rfl) (by rw[k];rfl) o f,b,o8,if_neg (by rw[e];simp),o9,o9,Ow];obtain⟨g,h,i,j⟩:=@Tc M F y z;simp only[g,h,i,j]
variable {D:List V}
theorem aId (i:d.t.length=4)(f:corners ns d=some D):D.length=4:=by
 obtain⟨u,v,y,z,e⟩:=four i;unfold Rf.corners at f;obtain⟨b,a,rfl⟩:=n8.1 f;rw[Dk e]at a;obtain⟨j,k,h⟩:=n9.1 a;obtain⟨g,o,rfl⟩:=n8.1 h;rfl
theorem Ig {d:Int}(a:0<d)(x:Int):x.natAbs<=(d*x).natAbs:=by
 rw[Int.natAbs_mul];exact Nat.le_mul_of_pos_left _ (by omega)
theorem aTz (h:M∈pad D):M∈D\/M=(0,0):=by
 unfold pad at h;split at h
 .simp at h;exact z6 h
 .simp at h
  rcases h with h|h
  .exact Or.inl (by simp[h])
  .exact z6 h
 .simp at h
  rcases h with h|h|h
  .exact Or.inl (by simp[h])
  .exact Or.inl (by simp[h])
  .exact z6 h
 .simp at h
  rcases h with h|h|h|h
  .exact Or.inl (by simp[h])
  .exact Or.inl (by simp[h])
  .exact Or.inl (by simp[h])
  .exact z6 h
 .exact Or.inl h
theorem eN.bits {cs:List V}{N:Nat}(h:eN D cs)(f:∀v∈D,dV N v):∀v∈cs,v.1.natAbs<2^N/\v.2.natAbs<2^N:=by
 obtain⟨d,a,e⟩:=h.ex;intro v hv
 have g:sc d v∈pad D:=by rw[e];exact List.mem_map_of_mem hv
 have b:dV N (sc d v):=by
  rcases aTz g with h1|h1
  .exact f _ h1
  .rw[h1];exact⟨by unfold Bits;simp;exact q7 (by decide),by unfold Bits;simp;exact q7 (by decide)⟩
 obtain⟨b1,b2⟩:=b;unfold Bits at b1 b2;exact⟨q9 (Ig a v.1) b1,q9 (Ig a v.2) b2⟩
theorem aOc {p q r:Int}(a:0<r):∀(k:Nat) (t:Int),near (r*p) (r*q) k t=near p q k t
 |0,_=>rfl
 |k+1,t=>by
  have e:t*t*(r*p)/(r*q)=t*t*p/q:=by
   rw[show t*t*(r*p)=r*(t*t*p) by grind];exact Int.mul_ediv_mul_of_pos _ _ a
  unfold near;rw[e,aOc a k]
end Pg
namespace Ab
open Rf (Nd Inv aY)
section
variable {w w':World} {b0 fb:Nat} {own own':Nat->Option Own} {at1 at2:NN} {D:NU} {i:Nat} {n n':Nd} {s:Rf.St} {rho:NN} {c:Nat}
theorem Net.step (h:Net w b0 own at1 fb s)(x:Inv s.nodes rho c){j:List Nd}{cl:Int}(f:∀b,b<s.nodes.length->b≠i->j[b]?=s.nodes[b]?)(q:Pg.Go s.nodes j)(hc:Chg w w' D)(v:zF w own i D)(l:∀k o,k<w.heap.size->own k=some o->o≠.pd i->own' k=some o)(p:∀a,a<s.nodes.length->at2 a=at1 a)(e:w'.heap[fb]?=some (.cells #[.int .i64 cl] 109 (0,0)))(d:∀b m,j[b]?=some m->(b=i\/s.nodes.length<=b)->cH w' b0 own' at2 j b m):Net w' b0 own' at2 fb ⟨j,cl⟩:=by
 refine⟨λb m r=>?_,e,h.Rm⟩
 by_cases hi:b=i
 .exact d b m r (Or.inl hi)
 .by_cases u:b<s.nodes.length
  .have g:s.nodes[b]?=some m:=by rw[<-f b u hi];exact r
   exact(h.nd b m g).aT hc v hi u q l p (x.at' b m g)
  .exact d b m r (z6 (by omega))
theorem Net.put (h:Net w b0 own at1 fb s)(r:Inv s.nodes rho c)(u:s.nodes[i]?=some n){cl:Int}(g:Pg.Go s.nodes (s.nodes.set i n'))(hc:Chg w w' D)(q:zF w own i D)(f:∀k o,k<w.heap.size->own k=some o->own' k=some o)(a:w'.heap[fb]?=some (.cells #[.int .i64 cl] 109 (0,0)))(d:cH w' b0 own' at1 (s.nodes.set i n') i n'):Net w' b0 own' at1 fb ⟨s.nodes.set i n',cl⟩:=by
 refine h.step (i:=i) r (λj _ b=>List.getElem?_set_ne (λe=>b e.symm)) g hc q (λk o l e _=>f k o l e) (λ_ _=>rfl) a ?_;intro j m b p
 rcases p with rfl|hl
 .rw[l5 (l7.1 u).1]at b;cases b;exact d
 .have:=(l7.1 b).1;simp at this;omega
structure rZ (n n':Nd):Prop where
 pos:n'.pos=n.pos
 t:n'.t=n.t
 args:n'.args=n.args
 op:n'.op=n.op
 aP:n'.aP=n.aP
 nest:n'.nest=n.nest
 p:n'.p=n.p
 q:n'.q=n.q
 terms:n'.terms=n.terms
 x:n'.x=n.x
 fA:n'.fA=n.fA
theorem rZ.constant (h:rZ n n')(k:Nat):Rf.constant n' k=Rf.constant n k:=by
 unfold Rf.constant;rw[h.op,h.p,h.q,h.terms]
theorem jA.same {w:World}{d:Nat}{v:Int}(h:jA w b0 own at1 i n d v)(a:rZ n n')(p:n'.k=n.k):jA w b0 own at1 i n' d v:=by
 obtain⟨q,r,fst,b,e,f,g,j,l,o⟩:=h;refine⟨q,r,fst,b,by rw[a.op];exact e,f,g,j,?_,?_⟩
 .rw[a.op,a.args,a.t];exact l
 .rw[a.op,p,a.x,a.fA];exact o
theorem Blk.pG (E:∀k o,k<w.heap.size->own k=some o->own' k=some o){v z p1 y p2 A p3 H mt Y:Int}{gv g u:Value}(h:Blk w b0 own at1 i n v z p1 y p2 A p3 H mt Y gv g u)(F:rZ n n')(hc:Chg w w' D)(hD:zF w own i D)(hI:Inv s.nodes rho c)(hn:s.nodes[i]?=some n){r0 s0 r1 s1 r2 s2 r3 s3 C:Int}{gv':Value}(P:n'.k=n.k/\C=mt\/n.t=[]/\n'.k=n.k+1/\C=mt+1)
  (U:NodeAt w' (at1 i) [r0,s0,r1,s1,r2,s2,r3,s3] (!n'.pos) (fL n') C (hV n') (gC n') Y (eV at1 (lArg n')) (eV at1 (rArg n')) gv' g u) (hg:gE w' b0 own' i n'.out gv'):Blk w' b0 own' at1 i n' r0 s0 r1 s1 r2 s2 r3 s3 C Y gv' g u:=by
 have hN:=hI.at' i n hn;refine⟨U,hg,?_,?_,?_⟩
 .intro q;rw[F.t]at q;obtain⟨M,cb,O,R⟩:=h.fH q;refine⟨?_,cb,O,(R.aT hc.on).of F.constant⟩
  rcases P with⟨k1,X⟩|⟨_,k1,X⟩
  .rw[k1,X];exact M
  .rw[k1,X,M];simp
 .intro q;rw[F.t]at q;exact h.oL q
 .refine⟨λe=>h.nst.1 (by rw[<-F.nest];exact e),λW=>?_⟩;obtain⟨nb,M,⟨cs,O⟩,R⟩:=h.nst.2 (by rw[<-F.nest];exact W);refine⟨nb,M,⟨cs,hc.at O ?_⟩,λq L=>?_⟩
  .intro P
   rcases hD nb P _ _ _ O with⟨e,_⟩|⟨e,_⟩|e<;>exact absurd e (by decide)
  .rw[F.t]at q;rw[F.args]at L
   have S:n'.k=n.k:=by
    rcases P with⟨k1,_⟩|⟨e,_⟩
    .exact k1
    .rw[e]at q;simp at q
   have I:∃a,n.args=[a]/\Rf.jM s.nodes rho c i n a:=by
    cases hN.shp with
    |fH r _ _ _=>rw[r]at q;simp at q
    |gQ f r _ _ _=>rw[r]at q;simp at q
    |kR f d a r _ _=>rw[r]at q;simp at q
    |bin a b f d x p r B _=>rw[B]at L;simp at L
    |nest a f d x p r B _ _ ok=>exact⟨a,B,ok⟩
   obtain⟨a,B,ok⟩:=I;obtain⟨base,ck,_,_,_,_,_,hx⟩:=ok.ex
   have T:∀a,a∈n.args->a<s.nodes.length:=by
    intro a L;obtain⟨j,hj,e⟩:=l8 L;exact(hN.arg j a (by rw[l9 hj,e])).1
   refine((R q L).aT (own':=own') (at2:=at1) (N:=s.nodes.length) hc hD (λk o l e _=>E k o l e) (λ_=>z6 λk l e=>E k _ l e) (λ_ _=>rfl) (λa e=>T a (n4 e)) ?_ ?_).same F S
   .intro J x e;obtain⟨x',g1,g2,_⟩:=hx J;rw[g1]at e;cases e;exact g2
   .intro J sq e;obtain⟨x',g1,g2,_,_,g5⟩:=hx J;exact(g5 sq e).1
end
end Ab
namespace Rf
open Nw
def nextP (ns:List Nd)(n:Nd):Option (Option Int):=if n.aP then some none else next ns n
noncomputable def step1 (f:Nat)(s:St)(i:Nat)(n:Nd):Option (St×Bool):=
 (nextP s.nodes n).bind λo=>match o with
 |some c=>if s.clock-1<0 then some (⟨s.nodes,s.clock-1⟩,false)else(give s i n c).map λa=>(a,true)
 |none=>reads (sym f) s i n
theorem aLl (f:Nat)(s:St)(i j:Nat):sym (f+1) s i j=(s.nodes[i]?).bind λn=>match n.out[j]? with
  |some c=>some (s,some c)
  |none=>(step1 f s i n).bind λx=>if x.2 then sym f x.1 i j else some (x.1,none):=by
 rw[sym]
 cases s.nodes[i]? with
 |none=>rfl
 |some n=>
  simp only[o8]
  cases n.out[j]? with
  |some c=>rfl
  |none=>
   simp only;unfold step1 nextP
   cases (if n.aP=true then some none else next s.nodes n)with
   |none=>rfl
   |some o=>
    simp only[o8]
    cases o with
    |none=>rfl
    |some g=>
     simp only;split
     .rfl
     .cases give s i n g with
      |none=>rfl
      |some a=>rfl
section
variable {ns:List Nd} {rho:NN} {c i:Nat} {n:Nd}{s:St}
theorem aGe (o:s.clock=(c:Int))(N:c<=3000)(h:Inv s.nodes rho c)(E:s.nodes[i]?=some n)(Y:n.t≠[])(M:nextP s.nodes n=some none):
  ∃j A z p a r,side s.nodes n=some j/\wide s i n j=some A/\A.clock=(c:Int)/\Inv A.nodes z c/\gX s.nodes rho i A.nodes z/\A.nodes[i]?=some p/\p.args[j]?=some a/\p.read[j]?=some r/\p.out=n.out/\(p.aP=true->j=0)/\
   ((∃v w,n.t=[v,w]/\n.args=[a]/\j=0/\A=s/\p=n)\/(∃v w x y,n.t=[v,w,x,y]/\j<n.args.length/\j<=1/\A=s/\p=n/\n.aP=false)\/(∃a0 v w x y,n.t=[v,w,x,y]/\n.args=[a0]/\j=1/\r=0/\n.aP=false/\jM s.nodes rho c i n a0/\n.nest=true/\∃r0 d,n.read=[r0]/\deeper s.nodes n=some d/\a=d.2/\p={n with args:=n.args++[d.2],read:=n.read++[0]}/\put d.1 i p=some A.nodes)):=by
 unfold nextP at M;have q:=h.at' i n E
 cases q.shp with
 |fH f g l hc=>exact absurd f Y
 |gQ v f g l hv=>
  rw[l]at M;simp only[A5,if_false]at M;exact absurd M (aGA f g q.fst.1 hv)
 |kR v w a f g l=>
  obtain⟨r,H⟩:∃r,n.read=[r]:=n5.1 (by rw[q.len,g];rfl);refine⟨0,s,rho,n,a,r,aLf f,?_,o,h,gX.refl _ _ _,E,by rw[g];rfl,by rw[H];rfl,rfl,λ_=>rfl,Or.inl ⟨v,w,f,g,rfl,rfl,rfl⟩⟩;unfold wide;rw[if_neg (by rw[g];simp)]
 |bin a b v w x y f g l=>
  obtain⟨j,k,D⟩:=Uj h q
  have R:j<n.args.length:=by rw[g];simp;omega
  refine⟨j,s,rho,n,n.args[j],n.read[j]'(by rw[q.len];exact R),k,?_,o,h,gX.refl _ _ _,E,l9 _,l9 _,rfl,λe=>(by rw[l]at e;cases e),z6 (Or.inl ⟨v,w,x,y,f,R,D,rfl,rfl,l⟩)⟩;unfold wide;rw[if_neg (by omega)]
 |nest a v w x y f g l F ok=>
  obtain⟨r,H⟩:∃r,n.read=[r]:=n5.1 (by rw[q.len,g];rfl);obtain⟨j,k,D⟩:=Uj h q
  by_cases hz:j=0
  .subst hz;refine⟨0,s,rho,n,a,r,k,?_,o,h,gX.refl _ _ _,E,by rw[g];rfl,by rw[H];rfl,rfl,λ_=>rfl,z6 (Or.inl ⟨v,w,x,y,f,by rw[g];simp,by omega,rfl,rfl,l⟩)⟩;unfold wide;rw[if_neg (by rw[g];simp)]
  .have P:j=1:=by omega
   subst P
   have O:¬(n.read=[0]/\n.out=[]):=by
    rintro⟨k1,k2⟩;rw[aGL h q f g F ok.first ok.pos k1 k2]at k;simp at k
   obtain⟨I,J,d,n',S,w2,w3,T,C⟩:=aLC (cl:=s.clock) h N E f g l ok O;have B:=S;unfold wide at B;rw[if_pos (by rw[g];rfl)]at B;obtain⟨L,d1,d2⟩:=n9.1 B;obtain⟨ae,d3,U⟩:=n8.1 d2;cases U
   have u:I[i]?=some {n with args:=n.args++[L.2],read:=n.read++[0]}:=by
    unfold put at d3;split at d3
    .rename_i X;cases d3;exact l5 X.2
    .cases d3
   have W:d=L.2:=by
    rw[T]at u;have:=congrArg Nd.args (s8 u);rw[C]at this;simp at this;exact this
   subst W;exact⟨1,⟨I,s.clock⟩,J,n',L.2,0,k,S,o,w2,w3,T,by rw[C];simp[g],by rw[C];simp[H],by rw[C],λe=>(by rw[C]at e;simp only at e;rw[l]at e;cases e),z6 (z6 ⟨a,v,w,x,y,f,g,rfl,rfl,l,ok,F,r,L,H,d1,rfl,C,by rw[C];exact d3⟩)⟩
variable {w:Nat}
theorem aOK (A:s.clock=(c:Int))(E:c<=3000)(h:Inv s.nodes rho c)(B:s.nodes[i]?=some n)(hf:c+rho i+1<=w)(j:nextP s.nodes n=some none):
  ∃N b,reads (sym w) s i n=some (N,b)/\(b=true->∃u U,U<c/\N.clock=(U:Int)/\Inv N.nodes u U/\gX s.nodes rho i N.nodes u/\∃o,N.nodes[i]?=some o/\o.out=n.out):=by
 have hi:=(l7.1 B).1;have C:=h.at' i n B;unfold reads
 by_cases l:n.t=[]
 .rw[if_pos l]
  cases c with
  |zero=>
   have F:pT n:=by
    cases C.shp with
    |fH l R S hc=>exact hc
    |gQ v g R S hv=>rw[l]at g;cases g
    |kR v d a g R S=>rw[l]at g;cases g
    |bin a b v d x y g R S=>rw[l]at g;cases g
    |nest a v d x y g R S B ok=>rw[l]at g;cases g
   have au:=C.ku;obtain⟨m,m1,m2⟩:=Fx F (k:=n.k) (by omega) C.pb C.qb
   have ab:Ok {n with part:=n.part.mul m,k:=n.k+1}:=by
    have j:=C.ok;refine⟨j.t,j.told,j.dR,cW.mono (aHn C.iF m2) ?_,j.p,j.q,j.read,j.out,by simp only;omega⟩;have:n.k*18500<=3000*18500:=q8 _ (by omega);omega
   have J:put s.nodes i {n with part:=n.part.mul m,k:=n.k+1}=some (s.nodes.set i {n with part:=n.part.mul m,k:=n.k+1}):=by
    unfold put;rw[if_pos ⟨ab,hi⟩]
   rw[m1,o8,J,o9];refine⟨_,_,rfl,λe=>?_⟩;rw[A]at e;exact absurd e (by decide)
  |succ c=>
   obtain⟨m,o,m1,m2,m3,m4,m5⟩:=aJt h B l;rw[m1,o8,m2,o9];have H:(s.nodes.set i o)[i]?=some o:=l5 hi
   have I:o.pos=n.pos:=by
    obtain⟨m,k1,k2,_⟩:=m4.at' i n B;rw[H]at k1;cases k1;exact k2
   exact⟨_,_,rfl,λ_=>⟨rho,c,by omega,by simp only;rw[A];omega,m3,gX.set B I (by rw[m5];exact p9 _),o,H,m5⟩⟩
 .rw[if_neg l];obtain⟨sd,T,z,n1,a,r,e1,e2,e3,e4,e5,O,P,X,e9,W,_⟩:=aGe A E h B l j;rw[e1,o8,e2,o8,O,o8,P,o8,X,o8];have D:=e4.at' i n1 O;obtain⟨la,ra⟩:=D.arg sd a P;have L:T.nodes[a]?=some T.nodes[a]:=l9 la;have av:z i=rho i:=e5.agree i hi;obtain⟨x,x1,x2⟩:=total w T a r z c e3 E e4 _ L (D.rd sd a r _ P X L) (by omega);rw[x1,o8];obtain⟨s2,o2⟩:=x
  cases o2 with
  |none=>exact⟨_,_,rfl,λe=>by cases e⟩
  |some v=>
   obtain⟨aj,c2,y1,y2,y3,y4,o,y5,y6⟩:=x2.ex v rfl;simp only at y2 y3 y4 y5;have aa:s2.nodes[i]?=some n1:=y4.same i n1 O ra;have Y:i<T.nodes.length:=(l7.1 O).1;obtain⟨s3,b,z1,z2⟩:=Zv y2 y3 (by omega) aa P X y5 y6 W;refine⟨s3,b,z1,λhb=>?_⟩;obtain⟨M,c3,q1,q2,q3,q4,n3,q5,q6⟩:=z2 hb;refine⟨M,c3,by omega,q2,q3,?_,n3,q5,by rw[q6,e9]⟩;exact(e5.trans hi ((y4.up ra).trans Y q4))
theorem aQP {f:Nat}(d:s.clock=(c:Int))(v:c<=3000)(h:Inv s.nodes rho c)(p:s.nodes[i]?=some n)(F:c+rho i+1<=f):
  ∃l b,step1 f s i n=some (l,b)/\(b=true->∃a q,q<c/\l.clock=(q:Int)/\Inv l.nodes a q/\gX s.nodes rho i l.nodes a/\∃k,l.nodes[i]?=some k/\n.out.length<=k.out.length):=by
 have hi:=(l7.1 p).1;have E:=h.at' i n p;unfold step1
 obtain⟨o,j⟩:∃o,nextP s.nodes n=some o:=by
  unfold nextP;split
  .exact⟨_,rfl⟩
  .exact sC h E
 rw[j,o8]
 cases o with
 |none=>
  obtain⟨l,b,C,D⟩:=aOK d v h p F j;refine⟨l,b,C,λe=>?_⟩;obtain⟨a,q,k1,x,H,I,k,J,L⟩:=D e;exact⟨a,q,k1,x,H,I,k,J,by rw[L];exact p9 _⟩
 |some g=>
  have y:n.aP=false:=by
   unfold nextP at j
   cases w:n.aP with
   |false=>rfl
   |true=>rw[w]at j;simp at j
  unfold nextP at j;rw[y]at j;simp only[A5,if_false]at j;simp only
  cases c with
  |zero=>
   rw[if_pos (by rw[d];decide)];exact⟨_,_,rfl,λe=>by cases e⟩
  |succ c=>
   rw[if_neg (by rw[d];omega)];obtain⟨k,z,A,B,M⟩:=aHc h p y j;unfold give;rw[z,o9,o9];have r:(s.nodes.set i k)[i]?=some k:=l5 hi
   have u:k.pos=n.pos:=by
    obtain⟨m,k1,x,_⟩:=B.at' i n p;rw[r]at k1;cases k1;exact x
   exact⟨_,_,rfl,λ_=>⟨rho,c,by omega,by simp only;rw[d];omega,A,gX.set p u (by omega),k,r,by omega⟩⟩
theorem Pm:∀(f:Nat) (s:St) (i j:Nat) (a:St) (v:Int),sym f s i j=some (a,some v)->∃e,a.nodes[i]?=some e/\e.out[j]?=some v
 |0,s,i,j,a,v,h=>by simp[sym]at h
 |f+1,s,i,j,a,v,h=>by
  rw[aLl]at h;obtain⟨n,g,h⟩:=n9.1 h
  cases b:n.out[j]? with
  |some c=>
   rw[b]at h;cases h;exact⟨n,g,b⟩
  |none=>
   rw[b]at h;obtain⟨x,k,h⟩:=n9.1 h
   by_cases d:x.2=true
   .rw[if_pos d]at h;exact Pm f x.1 i j a v h
   .rw[if_neg d]at h;cases h
theorem Yv {y:St×Bool}(j:s.nodes[i]?=some n)(h:after s i w=some y):(s.clock<1->y.2=false)/\(1<=s.clock->∃a,settle (s.nodes.set i {n with read:=bump n.read w}) i {n with read:=bump n.read w}=some a/\y=(⟨a,s.clock-1⟩,true)):=by
 unfold after at h;rw[j,o8]at h;obtain⟨ns,b,d⟩:=n9.1 h
 have e:ns=s.nodes.set i {n with read:=bump n.read w}:=by
  unfold put at b;split at b
  .cases b;rfl
  .cases b
 subst e;constructor
 .intro hc;rw[if_pos (by omega)]at d;cases d;rfl
 .intro hc;rw[if_neg (by omega)]at d;obtain⟨a,f,g⟩:=n8.1 d;exact⟨a,f,g.symm⟩
theorem aQE (h:Inv ns rho (c+1))(d:ns[i]?=some n){a r:Nat}{x:Nd}(e:n.args[w]?=some a)(f:n.read[w]?=some r)(g:ns[a]?=some x)(b:r<x.out.length):Inv (ns.set i {n with read:=bump n.read w}) rho c:=((h.tick (show c<=c+1 by omega)).put d (n':={n with read:=bump n.read w}) rfl (p9 _) (aKx h d e f g b)).2.1
end
end Rf
namespace Ab
open Rf (Nd Inv aY)
theorem Chg.alloc (w:World)(o:Obj):Chg w (w.alloc o) []:=Chg.eC ((Below.refl _ _).alloc (p9 _) o)
variable {n:World}{k:Nat}{R:EW}
theorem aFc {a:Nat}{r:Int}(H:∀f,Chg n f []->Calls prog 90 #[aA k,.int .i64 r,aA a] f λe d=>∃z,e=.returned (.int .i64 z)/\R (.returned (.int .i64 z)) d):Calls prog 61 #[.agg #[aA k,.int .i64 r],aA a] n R:=by
 have g:=hid (H _ (Chg.alloc n (.cells #[aA k,.int .i64 r] 106)));clear H;unfold aA at*
 go_enter func61,ntmps61
 go_wp2_with fail
 refine(g.out).mono ?_;rintro e d⟨z,rfl,b⟩;have h:=hid b;clear b
 go_wp2_with fail
 exact h.out
theorem NodeAt.cell {n:World}{k:Nat}{s:LN}{i:Bool}{v mt r y d:Int}{lp rp gv Y b:Value}(h:NodeAt n k s i v mt r y d lp rp gv Y b)(h8:s.length=8):n.cell? ⟨k,17,none⟩=some Y/\n.cell? ⟨k,23,none⟩=some gv:=by
 obtain⟨f,g,l⟩:=h.ex;have p:=Ny s f l;rw[h8]at p
 have e:∀j a,([Y,.int .i64 mt,lp,.int .i64 r,rp,.int .i64 y,gv,.int .i64 v,b,.int .i64 d]:LB)[j]?=some a->(Value.bool i::f++[Y,.int .i64 mt,lp,.int .i64 r,rp,.int .i64 y,gv,.int .i64 v,b,.int .i64 d]).toArray[17+j]?=some a:=by
  intro j a o;rw[List.getElem?_toArray,List.getElem?_append_right (by simp;omega)];rw[show 17+j-(Value.bool i::f).length=j by simp;omega];exact o
 exact⟨aX g (e 0 Y rfl),aX g (e 6 gv rfl)⟩
theorem aIK {a cb:Nat}(hc:n.cell? ⟨k,17,none⟩=some (aA cb))(H:Calls prog 147 #[aA k,aA a] n λe f=>∃b,e=.returned (.bool b)/\R (.returned (.bool b)) f):Calls prog 132 #[aA k,aA a] n R:=by
 have g:=hid H;clear H;unfold aA at*
 go_enter func132,ntmps132
 go_wp2_with fail
 refine(g.out).mono ?_;rintro e f⟨z,rfl,d⟩;have h:=hid d;clear d
 go_wp2_with fail
 exact h.out
theorem aIJ {h:Nat}{b:Bool}(hc:n.cell? ⟨k,17,none⟩=some aB)(H:Calls prog 148 #[aA k] n λe d=>e=.returned (.bool b)/\(b=true->Calls prog 149 #[aA k,aA h] d λe d=>∃b,e=.returned (.bool b)/\R (.returned (.bool b)) d)/\(b=false->Calls prog 150 #[aA k,aA h] d λe d=>∃b,e=.returned (.bool b)/\R (.returned (.bool b)) d)):Calls prog 132 #[aA k,aA h] n R:=by
 have j:=hid H;clear H;unfold aA aB at*
 go_enter func132,ntmps132
 go_wp2_with fail
 refine(j.out).mono ?_;rintro e d⟨rfl,i,a⟩
 cases b with
 |true=>
  have f:=hid (i rfl);clear i a
  go_wp2_with fail
  refine(f.out).mono ?_;rintro e d⟨z,rfl,a⟩;have g:=hid a;clear a
  go_wp2_with fail
  exact g.out
 |false=>
  have f:=hid (a rfl);clear i a
  go_wp2_with fail
  refine(f.out).mono ?_;rintro e d⟨z,rfl,a⟩;have g:=hid a;clear a
  go_wp2_with fail
  exact g.out
structure Di (k fb:Nat) (j:Nat) (R:EW) (J:Nat->World->Prop):Prop where
 ex:∀m w,J m w->∃gb len cap,(∃gv,w.cell? ⟨k,23,none⟩=some gv/\(gv=.slice gb len cap))/\len<=1000000/\
  ((len<=j/\Calls prog 113 #[aA k,aA fb] w λe w'=>∃ b,e=.returned (.bool b)/\(b=true->∃ m',m'<m/\J m' w')/\(b=false->R (.returned (.int .i64 0)) w'))\/
   (j<len/\∃g c,gb=some ⟨g,0,none⟩/\w.cell? ⟨g,j,none⟩=some (.int .i64 c)/\R (.returned (.int .i64 c)) w))
theorem aIX {i p:Nat}{J:Nat->World->Prop}{m:Nat}(N:p<=1000000)(q:Di k i p R J)(o:J m n):Calls prog 90 #[aA k,.int .i64 p,aA i] n R:=by
 have v:=hid q;have h:=hid o;clear q o;unfold aA
 go_enter func90,ntmps90
 go_wp2_with fail
 go_loopg [] m (λB wr=>J B wr)
 case atStart=>exact h.out
 case round=>
  obtain⟨M,len,z,⟨gv,I,A⟩,O,f⟩:=v.out.ex _ _ hrel;subst A;have H:=hid hrel;clear hrel h
  rcases f with⟨C,hc⟩|⟨D,g,c,rfl,L,l⟩
  .have HC:=hid hc;clear hc
   have F:((len:Int)<=(p:Int)):=by omega
   go_wp2_with fail
   refine(HC.out).mono ?_;rintro e T⟨b,rfl,a,d⟩
   cases b with
   |true=>
    obtain⟨E,k1,r⟩:=a rfl;have x:=hid k1;have y:=hid r;clear k1 r a d
    go_wp2_with fail
    go_roundg E
    case measure=>exact x.out
    case rel=>exact y.out
   |false=>
    have u:=hid (d rfl);clear a d
    go_wp2_with fail
    exact u.out
  .have s:=hid l;clear l
   have F:¬((len:Int)<=(p:Int)):=by omega
   have P:¬((p:Int)<0):=by omega
   have S:((p:Int)<(len:Int)):=by omega
   go_wp2_with fail
   exact s.out
section
variable {w w':World} {b0 fb:Nat} {own own':Nat->Option Own} {at1 at2:NN} {D:NU} {i:Nat} {n n':Nd} {s:Rf.St} {rho:NN} {c:Nat}{v:Int}
theorem wZ {N:Nat}(a:N<=10000000*k)(h:v.natAbs<2^N):Bits k v:=Nat.lt_of_lt_of_le h (Nat.pow_le_pow_right (by decide) a)
variable {z y e A H:Int}{l:List Rf.V}
theorem nY {p1 p3:Int}(o:Inv s.nodes rho c)(q:s.nodes[i]?=some n)(p:Rf.corners s.nodes n=some l)(hc:Pg.eN l [(v,z),(p1,y),(e,A),(p3,H)]):∀a∈[v,z,p1,y,e,A,p3,H],Bits 10 a:=by
 have h:=hc.bits (Rf.aJw o (o.at' i n q) p)
 have b:∀a:Int,a.natAbs<2^70000000->Bits 10 a:=λa d=>wZ (N:=70000000) (by decide) d
 have f:=h (v,z) (by simp);have g:=h (p1,y) (by simp);have j:=h (e,A) (by simp);have k:=h (p3,H) (by simp);intro a d;simp at d
 rcases d with rfl|rfl|rfl|rfl|rfl|rfl|rfl|rfl
 .exact b _ f.1
 .exact b _ f.2
 .exact b _ g.1
 .exact b _ g.2
 .exact b _ j.1
 .exact b _ j.2
 .exact b _ k.1
 .exact b _ k.2
theorem Vd (o:FF):One (eV at1 o):=by cases o<;>rfl
variable {gv:Value}
theorem gE.one {out:LN}(h:gE w b0 own i out gv):One gv:=by
 rcases h with⟨rfl,_⟩|⟨g,b,a,rfl,_⟩<;>rfl
variable {mt:Int}{g u:Value}
theorem Blk.Er {p1 p3 d:Int}(h:Blk w b0 own at1 i n v z p1 y e A p3 H mt d gv g u):One gv/\One g/\One u:=by
 refine⟨h.Aw.one,?_,?_⟩
 .by_cases b:n.t=[]
  .obtain⟨_,f,rfl,_⟩:=h.fH b;rfl
  .rw[h.oL b];rfl
 .cases a:n.nest with
  |false=>rw[h.nst.1 a];rfl
  |true=>obtain⟨j,rfl,_⟩:=h.nst.2 a;rfl
theorem NodeAt.arg {s:LN}{i:Bool}{r:Int}{lp rp Y d:Value}(h:NodeAt w k s i v mt r y e lp rp gv Y d)(h8:s.length=8)(l:∀z∈s,Bits 10 z)(o1:One lp)(o2:One rp)(o3:One gv)(o4:One Y)(o5:One d):iL w (some (k,i)) (aA k):=by
 obtain⟨b,g,f⟩:=h.ex;have q:=Ny s b f;refine⟨rfl,b++[Y,.int .i64 mt,lp,.int .i64 r,rp,.int .i64 y,gv,.int .i64 v,d,.int .i64 e],by simpa using g,by simp;omega,?_⟩;have o:∀a∈b,One a:=Kx (C:=Z) (φ:=λ_=>none) (ν:=s.map λz=>(z,10)) (w:=w) (tV s b 0 _ f l λj z p=>by rw[p8,j8,p];rfl);intro a hy;rw[List.mem_append]at hy
 rcases hy with hy|hy
 .exact o a hy
 .simp only[List.mem_cons,List.not_mem_nil,or_false]at hy
  rcases hy with rfl|rfl|rfl|rfl|rfl|rfl|rfl|rfl|rfl|rfl<;>first|assumption|rfl
def sgO (ns:List Nd)(o:FF):Option Bool:=o.map λa=>match ns[a]? with|some x=>!x.pos|none=>false
def xL (ns:List Nd)(at':NN)(o:FF):Option (Nat×Bool):=o.map λa=>(at' a,match ns[a]? with|some x=>!x.pos|none=>false)
theorem Vu (ns:List Nd)(at':NN)(o:FF):(xL ns at' o).map (·.2)=sgO ns o:=by cases o<;>rfl
variable {I:FF}
theorem Net.Gr (h:Net w b0 own at1 fb s)(j:Inv s.nodes rho c)(p:∀a,I=some a->a<s.nodes.length):iL w (xL s.nodes at1 I) (eV at1 I):=by
 cases I with
 |none=>rfl
 |some a=>
  have k:=p a rfl;have f:s.nodes[a]?=some s.nodes[a]:=l9 k;obtain⟨u,y,p1,z,v,A,p3,B,mt,x,gv,q,r,g,l,b,d⟩:=(h.nd a _ f).ex;obtain⟨o1,o2,o3⟩:=g.Er
  have e:xL s.nodes at1 (some a)=some (at1 a,!(s.nodes[a]).pos):=by unfold xL;simp[f]
  rw[e];exact g.nd.arg rfl (nY j f b d) (Vd _) (Vd _) o1 o2 o3
theorem aN2 (b:aY s.nodes rho c i n):∀a,lArg n=some a->a<s.nodes.length:=by
 intro a h;unfold lArg at h;split at h
 .exact(b.arg 0 a h).1
 .cases h
theorem aTG (b:aY s.nodes rho c i n):∀a,rArg n=some a->a<s.nodes.length:=by
 intro a h;unfold rArg at h;split at h
 .exact(b.arg 1 a h).1
 .split at h
  .exact(b.arg 0 a h).1
  .cases h
structure Seen (w:World) (b0:Nat) (own:Nat->Option Own) (at1:NN) (ns:List Nd) (i:Nat) (n:Nd) (p0 q0 p1 q1 p2 q2 p3 q3 mt pl:Int) (gv cv nv:Value) (l:List Rf.V) (g:Option (Nat×Nat)) (cc nn:FF):Prop where
 bS:Blk w b0 own at1 i n p0 q0 p1 q1 p2 q2 p3 q3 mt pl gv cv nv
 Cx:Rf.corners ns n=some l
 Gw:Pg.eN l [(p0,q0),(p1,q1),(p2,q2),(p3,q3)]
 bits:∀z∈[p0,q0,p1,q1,p2,q2,p3,q3],Bits 10 z
 la:iL w (xL ns at1 (lArg n)) (eV at1 (lArg n))
 ra:iL w (xL ns at1 (rArg n)) (eV at1 (rArg n))
 gat:GivAt w g gv
 aZ2:(g.map (·.2)).getD 0=n.out.length
 cat:ExtAt w 161 cc cv
 nat:ExtAt w 223 nn nv
 Jy:nn.isSome=n.nest
theorem Net.seen (h:Net w b0 own at1 fb s)(p:Inv s.nodes rho c)(x:s.nodes[i]?=some n):∃A E p1 F B H p3 I mt C gv o q l g e d,Seen w b0 own at1 s.nodes i n A E p1 F B H p3 I mt C gv o q l g e d:=by
 obtain⟨A,E,p1,F,B,H,p3,I,mt,C,gv,o,q,b,l,f,j⟩:=(h.nd i n x).ex;have J:=p.at' i n x
 obtain⟨g,O,v⟩:∃g,GivAt w g gv/\(g.map (·.2)).getD 0=n.out.length:=by
  rcases b.Aw with⟨rfl,a⟩|⟨g,r,M,rfl,a,R,S,T,U⟩
  .exact⟨none,rfl,by rw[a];rfl⟩
  .exact⟨some (g,n.out.length),⟨r,rfl,_,a⟩,rfl⟩
 obtain⟨e,u⟩:∃e,ExtAt w 161 e o:=by
  by_cases L:n.t=[]
  .obtain⟨_,N,rfl,a⟩:=b.fH L;exact⟨some N,rfl,a.bS⟩
  .exact⟨none,b.oL L⟩
 obtain⟨d,y,z⟩:∃d,ExtAt w 223 d q/\d.isSome=n.nest:=by
  cases k:n.nest with
  |false=>exact⟨none,b.nst.1 k,rfl⟩
  |true=>
   obtain⟨P,rfl,a,_⟩:=b.nst.2 k;exact⟨some P,⟨rfl,a⟩,rfl⟩
 exact⟨A,E,p1,F,B,H,p3,I,mt,C,gv,o,q,l,g,e,d,b,f,j,nY p x f j,h.Gr p (aN2 J),h.Gr p (aTG J),O,v,u,y,z⟩
theorem aRd (z:aY s.nodes rho c i n):(dB (sgO s.nodes (lArg n)) (hV n)||dB (sgO s.nodes (rArg n)) (gC n))=Rf.waits s.nodes n.args n.read:=by
 have A:∀a,a∈n.args->∃x,s.nodes[a]?=some x:=by
  intro a d;obtain⟨j,E,e⟩:=l8 d;exact⟨_,l9 (z.arg j a (by rw[l9 E,e])).1⟩
 have h:∀(a r:Nat) (x:Nd),s.nodes[a]?=some x->dB (sgO s.nodes (some a)) (r:Int)=(!x.pos&&r==0):=by
  intro a r x e;unfold sgO dB;simp only[o9,e];congr 1;rw[Bool.eq_iff_iff];simp
 cases z.shp with
 |fH f d _ _=>
  unfold lArg rArg hV gC;rw[f,d];simp[sgO,dB,Rf.waits]
 |gQ v f d _ _=>
  unfold lArg rArg hV gC;rw[f,d];simp[sgO,dB,Rf.waits]
 |kR v u a f d _=>
  obtain⟨r,g⟩:∃r,n.read=[r]:=n5.1 (by rw[z.len,d];rfl);obtain⟨x,e⟩:=A a (by rw[d];simp)
  have o:lArg n=none:=by unfold lArg;rw[f];rfl
  have p:rArg n=some a:=by unfold rArg;rw[f,d];rfl
  have q:gC n=r:=by unfold gC;rw[f,g];rfl
  rw[o,p,q,h a r x e,d,g];simp[sgO,dB,Rf.waits,e]
 |bin a b v u x y f d _=>
  obtain⟨r,k,g⟩:∃r k,n.read=[r,k]:=by
   have:=z.len;rw[d]at this
   match hh:n.read,this with
   | [r,k],_=>exact⟨r,k,rfl⟩
  obtain⟨x1,l⟩:=A a (by rw[d];simp);obtain⟨x2,B⟩:=A b (by rw[d];simp)
  have o:lArg n=some a:=by unfold lArg;rw[f,d];rfl
  have p:rArg n=some b:=by unfold rArg;rw[f,d];rfl
  have q:hV n=r:=by unfold hV;rw[f,g];rfl
  have C:gC n=k:=by unfold gC;rw[f,g];rfl
  rw[o,p,q,C,h a r x1 l,h b k x2 B,d,g];simp[Rf.waits,l,B]
 |nest a v u x y f d _ _ _=>
  obtain⟨r,g⟩:∃r,n.read=[r]:=n5.1 (by rw[z.len,d];rfl);obtain⟨x1,l⟩:=A a (by rw[d];simp)
  have o:lArg n=some a:=by unfold lArg;rw[f,d];rfl
  have p:rArg n=none:=by unfold rArg;rw[f,d];rfl
  have q:hV n=r:=by unfold hV;rw[f,g];rfl
  rw[o,p,q,h a r x1 l,d,g];simp[sgO,dB,Rf.waits,l]
theorem Seen.next {N p1 O p3 P:Int}{a:Option (Nat×Nat)}{M:FF}(h:Seen w b0 own at1 s.nodes i n N z p1 y O A p3 H mt P gv g u l a I M)(E:aY s.nodes rho c i n){o:Option Int}(k:Rf.nextP s.nodes n=some o):Calls prog 131 #[aA (at1 i)] w λe w'=>e=.returned (.int .i64 (eK o))/\Chg w w' []:=by
 refine(aMd h.bS.nd h.bits h.la h.ra h.gat h.cat h.nat).mono ?_;rintro e w'⟨rfl,J⟩;refine⟨?_,Chg.eC J⟩;congr 2;unfold Rf.nextP at k
 cases j:n.aP with
 |true=>
  rw[j]at k;simp only[if_true,s9]at k;subst k
  have B:fL n≠0:=by
   unfold fL;rw[j,if_pos rfl]
   have r:Rf.fn n.op:=by
    cases E.shp with
    |fH q F f hc=>rw[j]at f;cases f
    |gQ v q F f hv=>rw[j]at f;cases f
    |kR v w C q p f=>exact(f j).2.1
    |bin C b v w x d q p f=>rw[j]at f;cases f
    |nest C v w x d q p f L ok=>rw[j]at f;cases f
   rcases r with e|e|e|e<;>rw[e]<;>decide
  unfold sX;rw[show(fL n != 0)=true from by simpa using B];rfl
 |false=>
  rw[j]at k;simp only[A5,if_false]at k
  have B:fL n=0:=by unfold fL;rw[j];rfl
  rw[B,Vu,Vu];exact aTm h.Cx h.Gw (by simp) h.aZ2 (aRd E) k
theorem aIi {sd:Nat}{o:FF}{r:Nat}(b:n.args[sd]?=o)(g:o=none->r=0)(f:∀a,o=some a->n.read[sd]?=some r/\∃x,s.nodes[a]?=some x):Rf.digits s.nodes n sd=some (vJ (sgO s.nodes o) r):=by
 unfold Rf.digits
 cases o with
 |none=>
  rw[if_neg (by have:=n6.1 b;omega)];rfl
 |some a=>
  obtain⟨d,x,e⟩:=f a rfl;rw[if_pos (l7.1 b).1,b];simp only[o8,e,d,o9,sgO,vJ]
  cases x.pos<;>simp
theorem Seen.reads {p1 p2 p3 pl:Int}{d:Option (Nat×Nat)}{nn:FF}(h:Seen w b0 own at1 s.nodes i n v z p1 y p2 A p3 H mt pl gv g u l d I nn)(L:aY s.nodes rho c i n){N:Nat}(U:Rf.side s.nodes n=some N):Calls prog 148 #[aA (at1 i)] w λe w'=>e=.returned (.bool (decide (n.t.length=4/\N=0)))/\Chg w w' []:=by
 refine(aJZ h.bS.nd h.bits h.la h.ra h.gat h.cat h.nat).mono ?_;rintro e w'⟨rfl,hb⟩;refine⟨?_,Chg.eC hb⟩;congr 2;rw[Vu,Vu,h.Jy]
 by_cases q:n.t.length=4
 .have X:∀a,a∈n.args->∃x,s.nodes[a]?=some x:=by
   intro a E;obtain⟨j,O,e⟩:=l8 E;exact⟨_,l9 (L.arg j a (by rw[l9 O,e])).1⟩
  have P:lArg n=n.args[0]?:=by unfold lArg;rw[if_pos q]
  have hr:rArg n=n.args[1]?:=by unfold rArg;rw[if_pos q]
  have R:hV n=n.read.getD 0 0:=by unfold hV;rw[if_pos q]
  have S:gC n=n.read.getD 1 0:=by unfold gC;rw[if_pos q]
  have W:∀j,n.read.getD j 0<=1000000:=by
   intro j;rw[n7]
   cases e:n.read[j]? with
   |none=>simp
   |some r=>have:=L.jE r (n4 e);simp;omega
  have F:∀(j a:Nat),n.args[j]?=some a->n.read[j]?=some (n.read.getD j 0):=by
   intro j a e;have O:=(l7.1 e).1;rw[n7,l9 (by rw[L.len];exact O)];rfl
  obtain⟨a0,C⟩:∃a0,n.args[0]?=some a0:=by
   cases L.shp with
   |fH J E _ _=>rw[J]at q;simp at q
   |gQ k J E _ _=>rw[J]at q;simp at q
   |kR k f a J E _=>rw[J]at q;simp at q
   |bin a b k f x p J E _=>exact⟨a,by rw[E];rfl⟩
   |nest a k f x p J E _ _ _=>exact⟨a,by rw[E];rfl⟩
  have B:n.args[1]?=none->n.read.getD 1 0=0:=by
   intro e;have:=n6.1 e;rw[n7,n6.2 (by rw[L.len];exact this)];rfl
  have d0:=aIi (s:=s) (n:=n) (sd:=0) (o:=some a0) (r:=n.read.getD 0 0) C (λe=>by cases e) λa e=>⟨F 0 a0 C,X a (by cases e;exact n4 C)⟩
  have d1:=aIi (s:=s) (n:=n) (sd:=1) (o:=n.args[1]?) (r:=n.read.getD 1 0) rfl B λa e=>⟨F 1 a e,X a (n4 e)⟩
  have T:∃Y,sgO s.nodes (some a0)=some Y:=⟨_,rfl⟩
  obtain⟨Y,M⟩:=T;rw[P,hr,R,S,C,M];rw[M]at d0;rw[aQF q h.Cx (Pg.aId q h.Cx) h.Gw (W 0) (W 1) ?_ d0 d1 U]
  .simp[q]
  .intro e;refine B ?_
   cases e2:n.args[1]? with
   |none=>rfl
   |some a=>rw[e2]at e;simp[sgO]at e
 .have P:lArg n=none:=by unfold lArg;rw[if_neg q]
  rw[P];simp[q,sgO,oS]
end
noncomputable def kZ:List Int->List Int
 | [a,b,c,d,e,f,g,h]=>let t:=tw8 a b c d e f g h
  [hv t a,hv t b,hv t c,hv t d,hv t e,hv t f,hv t g,hv t h]
 |_=>[]
noncomputable def lT (cd p0 q0 p1 q1 p2 q2 p3 q3:Int):LN:=[fS cd*p0-fQ cd*q0,fP cd*q0-fR cd*p0,fS cd*p1-fQ cd*q1,fP cd*q1-fR cd*p1,fS cd*p2-fQ cd*q2,fP cd*q2-fR cd*p2,fS cd*p3-fQ cd*q3,fP cd*q3-fR cd*p3]
section
variable (p0 q0 p1 q1 p2 q2 p3 q3:Int) (hs:Bool) (uns mt lr rr pl c cd:Int) (lp rp cst nst gv gv2:Value)
def mY (a:List AT):AS:=sW [p0,q0,p1,q1,p2,q2,p3,q3] hs uns mt lr rr pl c (.lit lp) (.lit rp) (.lit cst) (.lit nst) (.lit gv) [] a
noncomputable def Rp:AS:=⟨slot [(27,P0),(31,litT gv),(33,.val (.one (.slc 19 0 1 1)))] 0 37,[(0,xX hs uns mt lr rr pl (.lit lp) (.lit rp) (.lit cst) (.lit nst) (.lit gv)),(6,tZ (IntKind.i64.wrap (c-1))),(19,⟨[.sint .i64 cd],62,true,true,true⟩)],20,(kZ (lT cd p0 q0 p1 q1 p2 q2 p3 q3)).map λz=>(z,19),[6,0]⟩
theorem aVX:(run Z (aE tN) bW (aL Z (aE tN)) (nH (aG 131)) 400 [.code (aF f113),.top f113] (mY p0 q0 p1 q1 p2 q2 p3 q3 hs uns mt lr rr pl c lp rp cst nst gv (nG 35))).bind (eF (fF [0,6] [] 7 []) (fF [0,6] [0,1,6] 7 []))
  = some (.stp (eH (aG 131) f113) (mY p0 q0 p1 q1 p2 q2 p3 q3 hs uns mt lr rr pl c lp rp cst nst gv (slot [(0,P0),(1,P6),(6,P0)] 0 37))):=by kernel_rfl
theorem aVY:(run Z (aE tN) bW (aL Z (aE tN)) (nH (λo=>aG 132 o||sZ o)) 400 (eE (aG 131) f113) (mY p0 q0 p1 q1 p2 q2 p3 q3 hs uns mt lr rr pl c lp rp cst nst gv (slot [(0,P0),(1,P6),(7,dP cd)] 0 37))).bind (eF (fF [0,6] [] 7 []) (Jx [0,6,19] [27,31,33] 20 [0,6] [10,11] 7))
  = some (.br (decide (cd=0)) (.stp (eH (aG 132) f113) (mY p0 q0 p1 q1 p2 q2 p3 q3 hs uns mt lr rr pl c lp rp cst nst gv (slot [(10,P0),(11,P6)] 0 37))) (.br (decide (c<1)) (.ret (.val (.one (.bool false))) (mY p0 q0 p1 q1 p2 q2 p3 q3 hs uns mt lr rr pl c lp rp cst nst gv (slot [] 0 37))) (.stp (eH sZ f113) (Rp p0 q0 p1 q1 p2 q2 p3 q3 hs uns mt lr rr pl c cd lp rp cst nst gv)))):=by kernel_rfl
theorem aVZ:(run Z (aE tN) bW (aL Z (aE tN)) (λ_=>false) 400 (eE sZ f113) (mY p0 q0 p1 q1 p2 q2 p3 q3 hs uns mt lr rr pl c lp rp cst nst gv (slot [(27,P0),(34,litT gv2)] 0 37))).bind (eF (fF [0,6] [] 7 []) (fF [0,6] [] 7 []))
  = some (.ret (.val (.one (.bool true))) ⟨slot [] 0 37,[(0,xX hs uns mt lr rr pl (.lit lp) (.lit rp) (.lit cst) (.lit nst) (.lit gv2)),(6,tZ c)],7,[(p0,10),(q0,10),(p1,10),(q1,10),(p2,10),(q2,10),(p3,10),(q3,10)],[0]⟩):=by kernel_rfl
theorem aV0 (b:Bool):(run Z (aE tN) bW (aL Z (aE tN)) (λ_=>false) 400 (eE (aG 132) f113) ⟨slot [(12,.val (.one (.sbool b)))] 0 37,[],0,[],[]⟩).bind (eF (fF [] [] 0 []) (fF [] [] 0 []))
  = some (.ret (.val (.one (.sbool b))) ⟨slot [] 0 37,[],0,[],[]⟩):=by kernel_rfl
end
variable {f:NU}
theorem pO {fb:Nat}(a:f.contains 0=true)(d:f.contains 6=true):∀b x,phW k fb (λ_=>none) b=some x->f.contains b=true:=by
 intro b x h;unfold phW at h;split at h
 .subst_vars;exact a
 .split at h
  .subst_vars;exact d
  .split at h<;>cases h
variable {q:LI}
theorem rK {w w':World}{C:LI}{s:AS}(d:RepW Z w q C s w')(e:s.dirty=[]):Chg w w' []:=⟨d.on,λj f _=>d.low j f λb a=>by rw[e]at a;cases a⟩
theorem Vg {w:World}(a:List AT):RepW Z w (λ_=>none) (λ_=>none) ⟨a,[],0,[],[]⟩ w:=
 aOP rfl (λb B h=>by simp[look]at h) (λb e B d k o f h=>by simp[look]at h) (λ_ _=>rfl) (λb k o h=>by cases h)
structure Pos2 (w:World) (k fb:Nat) (zs:LN) (hs:Bool) (uns mt lr rr pl c:Int) (lp rp gv cv nv:Value):Prop where
 nd:NodeAt w k zs hs uns mt lr rr pl lp rp gv cv nv
 fu:w.heap[fb]?=some (.cells #[.int .i64 c] 109 (0,0))
 bits:∀z∈zs,Bits 10 z
 h8:zs.length=8
 o1:One lp
 o2:One rp
 o3:One gv
 o4:One cv
 o5:One nv
section
variable {w w':World} {k fb:Nat} {zs:LN} {hs:Bool} {uns mt lr rr pl c:Int} {lp rp gv cv nv:Value}
theorem Pos2.rep (h:Pos2 w k fb zs hs uns mt lr rr pl c lp rp gv cv nv)(a:List AT):RepW Z w (phW k fb λ_=>none) (phW k fb λ_=>none) (sW zs hs uns mt lr rr pl c (.lit lp) (.lit rp) (.lit cv) (.lit nv) (.lit gv) [] a) w:=
 aR0 (lpC:=.lit lp) (rpC:=.lit rp) (gvC:=.lit gv) (cvC:=.lit cv) (nvC:=.lit nv) h.nd h.h8 h.bits h.fu ⟨rfl,h.o1⟩ ⟨rfl,h.o2⟩ ⟨rfl,h.o3⟩ ⟨rfl,h.o4⟩ ⟨rfl,h.o5⟩ (λb B e=>by simp[look]at e) (λb d o e=>by cases e) a
theorem Pos2.aT (h:Pos2 w k fb zs hs uns mt lr rr pl c lp rp gv cv nv)(hc:Chg w w' []):Pos2 w' k fb zs hs uns mt lr rr pl c lp rp gv cv nv:=
 ⟨h.nd.aT hc.on (hc.low _ h.nd.lt (by simp)),hc.at h.fu (by simp),h.bits,h.h8,h.o1,h.o2,h.o3,h.o4,h.o5⟩
theorem Pos2.out (h:Pos2 w k fb zs hs uns mt lr rr pl c lp rp gv cv nv){s:AS}(u:RepW Z w (phW k fb λ_=>none) q s w'){zs':LN}{hs':Bool}{uns' mt' lr' rr' pl' c':Int}{lp' rp' gv' cv' nv':Value}(o:look s.boxes 0=some (xX hs' uns' mt' lr' rr' pl' (.lit lp') (.lit rp') (.lit cv') (.lit nv') (.lit gv')))(p:look s.boxes 6=some (tZ c'))(h8:zs'.length=8)(v:∀(j:Nat) (z:Int),zs'[j]?=some z->∃b,s.nums[j]?=some (z,b))(r:∀z∈zs',Bits 10 z):Pos2 w' k fb zs' hs' uns' mt' lr' rr' pl' c' lp' rp' gv' cv' nv':=by
 obtain⟨⟨x,A,gv2,a,y,d,⟨rfl,e⟩,⟨rfl,f⟩,⟨rfl,g⟩,⟨rfl,i⟩,⟨rfl,l⟩⟩,n⟩:=aOV (ns:=[]) u o p (h.nd.shape h.h8) (Zf h.fu) h8 v;exact⟨d,n,r,h8,e,f,g,i,l⟩
end
theorem Oq {zs:LN}{w:Nat}:∀(j:Nat) (z:Int),zs[j]?=some z->∃b,(zs.map λz=>(z,w))[j]?=some (z,b):=λj z h=>⟨w,by rw[j8,h];rfl⟩
variable {w:World}{e:TypeId}{a:LB}{I:FF}
theorem RowOf.aT {w':World}{v:Value}(h:RowOf w e a v I)(hc:Chg w w' f)(q:∀b,I=some b->b∉f):RowOf w' e a v I:=by
 rcases h with h|⟨b,i,d,j,l,n,o,p⟩
 .exact Or.inl h
 .exact z6 ⟨b,i,d,j,l,hc.at n (q b j),o,p⟩
theorem RowOf.ty {x:Value}{b:Nat}(h:RowOf w e a x (some b)):∃cs:LB,w.heap[b]?=some (.cells cs.toArray e (0,0)):=by
 rcases h with⟨_,_,e⟩|⟨j,f,d,g,l,i,n,o⟩
 .cases e
 .cases g;exact⟨_,i⟩
theorem RowOf.one {v:Value}(h:RowOf w e a v I):One v:=by
 rcases h with⟨rfl,_⟩|⟨f,d,b,i,rfl,j,l,n⟩<;>rfl
theorem aLj:∃i d,Z.P.info? 62=some i/\i.bytes<=1000000/\(∀w,(zeroValue 62).run Z.P w=.ok d w)/\d.cells.size=1:=by
 have h:(Z.P.info? 62).map (λi=>(i.bytes,i.zero))=some (8,some (.int .i64 0)):=by kernel_rfl
 obtain⟨i,b,a⟩:=n8.1 h;simp only[Prod.mk.injEq]at a;obtain⟨e,f⟩:=a;exact⟨i,.int .i64 0,b,by rw[e];decide,λw=>by simp[zeroValue,typeInfo,b,f],rfl⟩
theorem aL0 {fb:Nat}{p0 q0 p1 q1 p2 q2 p3 q3:Int}{hs:Bool}{uns mt lr rr pl c cd:Int}{lp rp gv cv nv:Value}{xs:LB}{g:FF}(h:Pos2 w k fb [p0,q0,p1,q1,p2,q2,p3,q3] hs uns mt lr rr pl c lp rp gv cv nv)(bu:c<=3000)(S:RowOf w 62 xs gv g)(ar:xs.length<=99999)
  (ab:∀l,Chg w l []->Calls prog 131 #[aA k] l λe w'=>e=.returned (.int .i64 cd)/\Chg l w' [])
  (aa:cd=0->∀l,Chg w l []->Calls prog 132 #[aA k,aA fb] l λe w'=>∃b,e=.returned (.bool b)/\∀w2,Chg w' w2 []->R (.returned (.bool b)) w2)
  (bb:cd≠0->c<1->∀l,Chg w l []->R (.returned (.bool false)) l)
  (X:cd≠0->1<=c->∀z∈kZ (lT cd p0 q0 p1 q1 p2 q2 p3 q3),Bits 10 z)
  (ay:cd≠0->1<=c->∀l T b,Chg w l [k,fb,b]->Pos2 l k fb (kZ (lT cd p0 q0 p1 q1 p2 q2 p3 q3)) hs uns mt lr rr pl (c-1) lp rp T cv nv->RowOf l 62 (xs++[.int .i64 cd]) T (some b)->(g=some b\/w.heap.size<=b)->R (.returned (.bool true)) l):
  Calls prog 113 #[aA k,aA fb] w R:=by
 have F:=bD func113 rfl rfl;refine pM F (φ:=phW k fb λ_=>none) (vs:=[.one (.ptr 0 0),.one (.ptr 6 0)]) (args:=[aA k,aA fb]) (s:=mY p0 q0 p1 q1 p2 q2 p3 q3 hs uns mt lr rr pl c lp rp cv nv gv (nG 35)) (by kernel_rfl) ⟨⟨k,0,rfl,rfl⟩,⟨fb,0,rfl,rfl⟩,trivial⟩ (h.rep _) ?_;refine cC (dL jO) rS (pO rfl rfl) (jI (pO rfl rfl)) (aVX p0 q0 p1 q1 p2 q2 p3 q3 hs uns mt lr rr pl c lp rp cv nv gv) (λ_ _=>False) (λks s=>ks=eH (aG 131) f113/\s=mY p0 q0 p1 q1 p2 q2 p3 q3 hs uns mt lr rr pl c lp rp cv nv gv (slot [(0,P0),(1,P6),(6,P0)] 0 37)) ⟨rfl,rfl⟩ (λ_ _ _ _ _ h=>h.elim) ?_;rintro ks s⟨rfl,rfl⟩;refine⟨by kernel_rfl,λb8 bi a1 l av p=>?_⟩;have c1:=rK p.wd rfl;refine qI (f:=131) (vs:=[.one (.ptr 0 0)]) (dst:=some 7) (ks2:=eE (aG 131) f113) (by kernel_rfl) (bD func131 rfl rfl).en (by kernel_rfl) (av bi [] l) p ?_;intro ys af
 match ys,af with
 | [y],⟨q,_⟩=>
 rw[uG (p.wd.base 0 (k,0) rfl) q];refine(ab l c1).mono ?_;rintro e w2⟨rfl,c2⟩;refine⟨_,rfl,λaz bx ax=>?_⟩;have n:=c1.trans c2;have h2:=h.aT n
 have be:Rep Z w2 (phW k fb λ_=>none) (phW k fb λ_=>none) (mY p0 q0 p1 q1 p2 q2 p3 q3 hs uns mt lr rr pl c lp rp cv nv gv (slot [(0,P0),(1,P6),(7,dP cd)] 0 37)) (a1.put (some 7) (.int .i64 cd)) w2:=by
  refine pK (kb:=[0,6]) (kt:=[0,1]) (dst:=some 7) (r:=dP cd) p (h2.rep _) (by kernel_rfl) ?_ rfl;intro b U
  have W:b=0\/b=6:=by simpa using U
  rcases W with rfl|rfl
  .rw[p.wd.base 0 (k,0) rfl];rfl
  .rw[p.wd.base 6 (fb,0) rfl];rfl
 refine cC (dL jO) rS (pO rfl rfl) (aWb (pO rfl rfl) (pO rfl rfl)) (aVY p0 q0 p1 q1 p2 q2 p3 q3 hs uns mt lr rr pl c cd lp rp cv nv gv)
  (λr s=>r=.val (.one (.bool false))/\s.dirty=[]/\cd≠0/\c<1)
  (λks s=>(cd=0/\ks=eH (aG 132) f113/\s=mY p0 q0 p1 q1 p2 q2 p3 q3 hs uns mt lr rr pl c lp rp cv nv gv (slot [(10,P0),(11,P6)] 0 37))\/(cd≠0/\¬c<1/\ks=eH sZ f113/\s=Rp p0 q0 p1 q1 p2 q2 p3 q3 hs uns mt lr rr pl c cd lp rp cv nv gv))
  ⟨λe=>Or.inl ⟨of_decide_eq_true e,rfl,rfl⟩,λe=>⟨λe2=>⟨rfl,rfl,of_decide_eq_false e,of_decide_eq_true e2⟩,λe2=>z6 ⟨of_decide_eq_false e,of_decide_eq_false e2,rfl,rfl⟩⟩⟩ ?_ ?_ az _ _ _ (ax _ _ _) be
 .rintro r s N v J⟨rfl,hd,h0,h1⟩ hv _ bg;rw[hv false (Or.inl rfl)];exact bb h0 h1 J (n.trans (rK bg hd))
 .rintro ks s(⟨h0,rfl,rfl⟩|⟨h0,h1,rfl,rfl⟩)
  .refine⟨by kernel_rfl,λa0 N a3 J E a=>?_⟩;have c3:=n.trans (rK a.wd rfl);refine qI (f:=132) (vs:=[.one (.ptr 0 0),.one (.ptr 6 0)]) (dst:=some 12) (ks2:=eE (aG 132) f113) (by kernel_rfl) (bD func132 rfl rfl).en (by kernel_rfl) (E N [] J) a ?_;intro ys af
   match ys,af with
   | [y,z],⟨q,hz,_⟩=>
   rw[uG (a.wd.base 0 (k,0) rfl) q,uG (a.wd.base 6 (fb,0) rfl) hz];refine(aa h0 J c3).mono ?_;rintro e M⟨b,rfl,hR⟩;refine⟨_,rfl,λI ba H=>?_⟩;have ad:Rep Z M (λ_=>none) (λ_=>none) ⟨slot [(12,.val (.one (.sbool b)))] 0 37,[],0,[],[]⟩ (a3.put (some 12) (.bool b)) M:=pK (kb:=[]) (kt:=[]) (dst:=some 12) (r:=.val (.one (.sbool b))) a (Vg _) (by kernel_rfl) (λb U=>by simp at U) rfl;refine cC (dL jO) rS (λb x e=>by cases e) (jI (λb x e=>by cases e)) (aV0 b) (λr s=>r=.val (.one (.sbool b))/\s.dirty=[]) (λ_ _=>False) ⟨rfl,rfl⟩ ?_ (λ_ _ h=>h.elim) I _ _ _ (H _ _ _) ad;rintro r s bj v w5⟨rfl,hd⟩ hv _ L;rw[hv b (z6 rfl)];exact hR w5 (rK L hd)
  .refine⟨by kernel_rfl,λa0 N a3 J E a=>?_⟩
   have am:1<=c:=by omega
   have hB:=X h0 am
   have bh:IntKind.i64.wrap (c-1)=c-1:=by
    unfold IntKind.wrap;simp[IntKind.bits,IntKind.signed];omega
   have A:Chg w2 J [k,fb]:=Px a.wd rfl
   have d:Pos2 J k fb (kZ (lT cd p0 q0 p1 q1 p2 q2 p3 q3)) hs uns mt lr rr pl (c-1) lp rp gv cv nv:=by
    have:=h2.out a.wd (zs':=kZ (lT cd p0 q0 p1 q1 p2 q2 p3 q3)) (hs':=hs) (uns':=uns) (mt':=mt) (lr':=lr) (rr':=rr) (pl':=pl) (c':=IntKind.i64.wrap (c-1)) (lp':=lp) (rp':=rp) (gv':=gv) (cv':=cv) (nv':=nv) rfl rfl rfl Oq hB;rw[bh]at this;exact this
   have aq:∀b,g=some b->b ∉ [k,fb]:=by
    intro b U C;subst U;obtain⟨cs,ao⟩:=S.ty;simp at C
    rcases C with rfl|rfl
    .obtain⟨ys,q,_⟩:=h.nd.ex;rw[ao]at q;exact absurd (Obj.cells.inj (s8 q)).2.1 (by decide)
    .have q:=h.fu;rw[ao]at q;exact absurd (Obj.cells.inj (s8 q)).2.1 (by decide)
   have ae:RowOf J 62 xs gv g:=(S.aT n (λ_ _=>by simp)).aT A aq;refine aPE (t:=58) (t':=58) (ty:=58) (sv:=litT gv) (xv:=.val (.one (.slc 19 0 1 1))) (dst:=some 34) (ks2:=eE sZ f113) (by kernel_rfl) (by kernel_rfl) (E N [] J) a ?_;rintro v1 v2⟨bf,_⟩⟨k',o,a8,e',m,x1,x2,x3,x4,x5⟩;rw[bf];obtain⟨k2,o2,cb,ys,bq,y1,y2,y3,y4⟩:=a.wd.box 19 ⟨[.sint .i64 cd],62,true,true,true⟩ rfl;rw[x1]at y1;cases y1;subst y3
   match ys,y4 with
   | [y],⟨q,_⟩=>
   have q:y=.int .i64 cd:=q;subst q;obtain⟨i,zv,i1,i2,i3,i4⟩:=aLj;obtain⟨v',M,b,a1,a2,al,a4,a5⟩:=aMV (bt:=Z.bt) (P:=Z.P) (t:=58) (t':=58) (ty:=58) (e:=62) rfl rfl (by kernel_rfl) i1 i2 i3 i4 (by decide) ae (xv:=v2) (xc:=a8) y2 (by rw[x2];simp) rfl ar;refine⟨v',M,a1,λI ba H=>?_⟩
   have Y:b ∉ [k,fb]:=by
    rcases al with e|e
    .exact aq b e
    .intro C;simp at C;have l1:=d.nd.lt;have l2:=gZ d.fu
     rcases C with rfl|rfl<;>omega
   have B:Chg J M [b]:=⟨a4,λj hj hn=>a5 j hj (by simpa using hn)⟩
   have au:Pos2 M k fb (kZ (lT cd p0 q0 p1 q1 p2 q2 p3 q3)) hs uns mt lr rr pl (c-1) lp rp gv cv nv:=by
    refine⟨d.nd.aT a4 (B.low _ d.nd.lt ?_),B.at d.fu ?_,d.bits,d.h8,d.o1,d.o2,d.o3,d.o4,d.o5⟩
    .intro C;simp at C;exact Y (by simp[C])
    .intro C;simp at C;exact Y (by simp[C])
   have ad:Rep Z M (phW k fb λ_=>none) (phW k fb λ_=>none) (sW (kZ (lT cd p0 q0 p1 q1 p2 q2 p3 q3)) hs uns mt lr rr pl (c-1) (.lit lp) (.lit rp) (.lit cv) (.lit nv) (.lit gv) [] (slot [(27,P0),(34,litT v')] 0 37)) (a3.put (some 34) v') M:=by
    refine pK (kb:=[0,6]) (kt:=[27]) (dst:=some 34) (r:=litT v') a (au.rep _) (by kernel_rfl) ?_ ⟨rfl,a2.one⟩;intro b U
    have W:b=0\/b=6:=by simpa using U
    rcases W with rfl|rfl
    .rw[a.wd.base 0 (k,0) rfl];rfl
    .rw[a.wd.base 6 (fb,0) rfl];rfl
   refine cC (dL jO) rS (pO rfl rfl) (jI (pO rfl rfl)) (aVZ _ _ _ _ _ _ _ _ hs uns mt lr rr pl (c-1) lp rp cv nv gv v') (λr s=>r=.val (.one (.bool true))/\s.dirty=[0]/\look s.boxes 0=some (xX hs uns mt lr rr pl (.lit lp) (.lit rp) (.lit cv) (.lit nv) (.lit v'))/\look s.boxes 6=some (tZ (c-1))/\s.nums=(kZ (lT cd p0 q0 p1 q1 p2 q2 p3 q3)).map λz=>(z,10)) (λ_ _=>False) ⟨rfl,rfl,rfl,rfl,rfl⟩ ?_ (λ_ _ h=>h.elim) I _ _ _ (H _ _ _) ad;rintro r s bj v w5⟨rfl,hd,l0,l6,ln⟩ hv _ L;rw[hv true (Or.inl rfl)];have O:Chg M w5 [k,fb]:=Px L (by rw[hd];rfl);have bc:=au.out L l0 l6 rfl (by rw[ln];exact Oq) hB
   have wk:∀{u v:World} {D:NU},Chg u v D->(∀x∈D,x∈[k,fb,b])->Chg u v [k,fb,b]:=λh hh=>h.bO hh
   refine ay h0 am w5 v' b ((((wk n (by simp)).trans (wk A (by simp)))).trans ((wk B (by simp)).trans (wk O (by simp)))) bc (a2.aT O ?_) ?_
   .intro b' e;cases e;exact Y
   .rcases al with e|e
    .exact Or.inl e
    .exact z6 (s4 (s4 n.on.size A.on.size) e)
end Ab
end Go.Proofs.YtpdflaaamaokbaaGreatDoor
