import Derived.Test.YtnlddnbfoehboaaGreatDoorCPl15
import Derived.Test.YtnlddnbfoehboaaGreatDoorCPl05
import Derived.Test.YtnlddnbfoehboaaGreatDoorCPl07
import Derived.Test.YtnlddnbfoehboaaGreatDoorCPl11
import Derived.Test.YtnlddnbfoehboaaGreatDoorCPl12
set_option linter.all false
set_option maxRecDepth 100000
set_option maxHeartbeats 2000000
namespace Go.Proofs.YtnlddnbfoehboaaGreatDoor
open Option renaming some->Y,none->X
open Bool renaming true->I,false->J
open List renaming replicate->j8,range->j9,getElem_of_mem->o9,getElem?_eq_getElem->p5,mem_of_getElem?->p6,getElem?_map->p8,length_eq_zero_iff->q8,getElem?_eq_some_iff->q9,getElem?_append_right->r5,getElem?_eq_none_iff->r7,getD_eq_getElem?_getD->r8
open Option renaming map_some->r9,bind_some->s7,map_eq_some_iff->s8
open Go.Builtin renaming append_->u5,zeroCells->u6,firstCells->u7
open Nat renaming lt_of_lt_of_le->u9,add_zero->x8,zero_add->y8,pow_pos->z8,lt_of_le_of_lt->A0,le_trans->A4
open Or renaming inr->A5
open Go.World renaming shape?->A6
open Int renaming lt_trichotomy->A7,tmod_eq_emod_of_nonneg->A8
open Pg (eG zU wJ)
open Go.Proofs.Tryz
open Go.RowKit
namespace Ab
theorem aKW (p:Int):(Nm.cmp p 0==0)=decide (p=0):=by
 rcases A7 p 0 with h|h|h
 .rw[Nm.iQ h,decide_eq_false O];rfl
 .rw[Nm.jQ h,decide_eq_true h];rfl
 .rw[Nm.gW h,decide_eq_false O];rfl
theorem aQk (p q:Int):Dw p q=eG (p,q):=by
 unfold Dw eG;rw[aKW,aKW];grind
theorem aM8 (up c d e op a rp b:Int):jB up c d e op a rp b=Pg.scaled (up,c) (d,e) (op,a) (rp,b):=by
 unfold jB Pg.scaled;rw[aQk,aQk]
theorem aWG (a b:Int):grZ a b=zU a b:=by
 unfold grZ zU
 rcases A7 a b with h|h|h
 .rw[Nm.iQ h,if_pos h];rfl
 .grind
 .rw[Nm.gW h,if_neg O];rfl
theorem aNu (a c p1 d p2 e b f t:Int):jV a c p1 d p2 e b f t=wJ [(a,c),(p1,d),(p2,e),(b,f)] t:=by
 unfold jV wJ;simp only[aWG,aM8]
theorem aUk (a c p1 d p2 e b f:Int):mB a c p1 d p2 e b f 1 0 0 1=Nw.fits [(a,c),(p1,d),(p2,e),(b,f)]:=by
 rw[aOt];have:∀v:Rf.V,Rf.fC ⟨1,0,0,1⟩ v=v:=Pg.Kt;grind
def xD:Option Bool->Nat->Option Nat
 |none,_=>Y 0
 |some s,r=>if s then(if r=0 then X else Y (r-1))else Y r
variable {l:Option Bool}{r:Nat}
theorem aSW {a:Nat}(b:l=X->r=0)(c:r<=1000000)(h:xD l r=Y a):dgO l r=(a:Int):=by
 cases l with
 |none=>simp[xD]at h;subst h;rw[b rfl];rfl
 |some s=>
  unfold xD at h;show zE s r=(a:Int);unfold zE
  cases s with
  |false=>simp at h;subst h;rfl
  |true=>
   simp at h;rw[decide_eq_true (by omega:(r:Int)>0),cond_true,cond_true,uI O O];omega
variable {m:Bool}
theorem aMg {k:Bool}(h:xD l r=X):Vc l r m k=m:=by
 cases l with
 |none=>simp[xD]at h
 |some s=>
  unfold xD at h
  cases s with
  |false=>simp at h
  |true=>simp at h;subst h;rfl
theorem aMh {a:Nat}{k:Bool}(h:xD l r=Y a):Vc l r m k=k:=by
 cases l with
 |none=>rfl
 |some s=>
  unfold xD at h
  cases s with
  |false=>rfl
  |true=>
   simp at h
   have:((r:Int)==0)=J:=by rw[beq_eq_false_iff_ne];omega
   simp[Vc,this]
theorem aR0 {ns:List Rf.Nd}{d:Rf.Nd}{e:List Rf.V}{n u p1 l p2 v s x:Int}{r:Option Bool}{w k:Nat}{p:Nat}(D:d.t.length=4)(hc:Rf.corners ns d=Y e)(j:e.length=4)(q:Pg.fJ e [(n,u),(p1,l),(p2,v),(s,x)])(A:w<=1000000)(B:k<=1000000)(o:r=X->k=0)(d0:Rf.digits ns d 0=Y (xD (Y m) w))(z:Rf.digits ns d 1=Y (xD r k))(f:Rf.side ns d=Y p):
  oH n u p1 l p2 v s x (Y m) r J w k=decide (p=0):=by
 unfold Rf.side at f;rw[if_neg O,d0]at f;unfold oH;simp only
 cases e0:xD (Y m) w with
 |none=>
  rw[e0]at f;simp at f;subst f;rw[aMg e0];rfl
 |some a=>
  rw[e0]at f;rw[aMh e0];rw[z]at f;simp at f
  cases e1:xD r k with
  |none=>
   rw[e1]at f;simp at f;subst f;rw[aMg e1];rfl
  |some b=>
   rw[e1]at f;rw[aMh e1];simp only[hc,r9,Option.some.injEq]at f;rw[aSW (by intro h;cases h) A e0,aSW o B e1];unfold rlK;rw[aUk,aNu,<-q.fits];have C:((wgt J):Int)=1:=rfl;rw[C]
   cases i:Nw.fits e with
   |false=>
    grind
   |true=>
    rw[i]at f;simp at f;rw[cond_true,<-q.wider j i];generalize Rf.wider 1 e=c at*
    by_cases c1:c=1
    .subst c1;subst f;rfl
    .by_cases c2:c=-1
     .subst c2;subst f;rfl
     .have b1:(c==1)=J:=by rw[beq_eq_false_iff_ne];exact c1
      have y:(c==-1)=J:=by rw[beq_eq_false_iff_ne];exact c2
      rw[b1,y,cond_false,cond_false];rw[if_neg c1,if_neg c2]at f
      by_cases g:a<=b
      .rw[if_pos g]at f;subst f;simp[g]
      .rw[if_neg g]at f;subst f;simp[g]
end Ab
def tD (len k:Nat):Nat:=if k=0 then 0 else 1+(k-1)%(len-1)
theorem aMl (w:World)(g a len k:Nat)(t:Int)(f:2<=len)(b:len<=1000000)(h:k<=1000000)(hc:w.cell? ⟨g,tD len k,X⟩=Y (.int .i64 t)):Calls prog 269 #[.slice (Y ⟨g,0,X⟩) len a,.int .i64 k] w λe d=>e=.returned (.int .i64 t)/\d=w:=by
 have n1:¬((len:Int)-1<1):=O
 have n2:¬((k:Int)<0):=O
 rcases Nat.eq_zero_or_pos k with rfl|hp
 .have hc:w.cell? ⟨g,0,X⟩=Y (.int .i64 t):=hc
  have j:(0:Int)<len:=O
  have n4:0<len:=O
  go_in
  go_wp2_with fail
  go_ret
  exact⟨rfl,rfl⟩
 .have e0:tD len k=1+(k-1)%(len-1):=by unfold tD;rw[if_neg O]
  rw[e0]at hc;have i:=Nat.mod_lt (k-1) (show 0<len-1 by omega)
  have e1:((k:Int)-1).tmod ((len:Int)-1)=(((k-1)%(len-1):Nat):Int):=by
   rw[A8 O]
   have a1:(k:Int)-1=((k-1:Nat):Int):=O
   have c:(len:Int)-1=((len-1:Nat):Int):=O
   rw[a1,c,Int.natCast_emod]
  go_in
  go_wp2_with fail
  go_ret
  exact⟨rfl,rfl⟩
namespace Ab
def Ng (kd:Int)(e:LB)(k:Int):AS:=⟨.val (.one (.ptr 0 0))::.val (.one (.sint .i64 k))::j8 34 .fB,[(0,ext (.int .i64 kd::.any::cF I 0 8) 276)],1,e.map λz=>(z,1),[]⟩
noncomputable abbrev bC:AW:=λ_=>X
theorem aTR:bS Z bC:=bO
noncomputable def vK (kd:Int)(e:LB)(k:Int):Option (List Prop×RG×Nat):=((run Z (aE tN) bC (aL Z (aE tN)) (λ_=>J) 2000 [.code (aG f256),.top f256] (Ng kd e k)).bind outcome).bind (lK I)
section
variable (p q s r a b c d k:Int)
theorem bBl:vK 2 [p,q,s,r,a,b,c,d] k=Y ([0<=k/\k<=100000000],.one (.ns [bif k==0 then 0 else 0,bif k==0 then 4 else Wr (k*k),bif k==0 then 1 else 1,bif k==0 then 1 else Wr (Wr (2*k)+1)]),1):=E0
theorem bBm:vK 3 [p,q,s,r,a,b,c,d] k=Y ([(fZ k).natAbs<1000000000000000000],.one (.ns [fZ k,1,1,0]),1):=E0
end
theorem aX5 {n:Rf.Nd}{k:Nat}(h:k<=1000000)(a:n.op=.pi):Rf.constant n k=Y ⟨bif (k:Int)==0 then 0 else 0,bif (k:Int)==0 then 4 else Wr ((k:Int)*k),bif (k:Int)==0 then 1 else 1,bif (k:Int)==0 then 1 else Wr (Wr (2*(k:Int))+1)⟩:=by
 have i:(k:Int)*k<=1000000*1000000:=Int.mul_le_mul O O O O;have d:0<=(k:Int)*k:=Int.mul_nonneg O O;have e:Wr ((k:Int)*k)=(k:Int)*k:=uI O O;have f:Wr (2*(k:Int))=2*k:=uI O O;have g:Wr (2*(k:Int)+1)=2*k+1:=uI O O;unfold Rf.constant;rw[a]
 by_cases b:k=0
 .simp_all
 .have c:((k:Int)==0)=J:=beq_eq_false_iff_ne.2 O;simp only[b,if_false,c,cond_false,e,f,g];simp
theorem Td {n:Rf.Nd}{k:Nat}(m:k<=1000000)(b:n.op=.e):Rf.constant n k=Y ⟨fZ k,1,1,0⟩:=by
 have i:Wr ((k:Int)+1)=k+1:=uI O O;have j:Wr (2*((k:Int)+1))=2*(k+1):=uI O O;have f:(2*((k:Int)+1)).tdiv 3=2*(k+1)/3:=Int.tdiv_eq_ediv_of_nonneg O;have l:Wr (2*((k:Int)+1)/3)=2*(k+1)/3:=uI O O;have h:(k:Int).tmod 3=(k:Int)%3:=A8 O;unfold Rf.constant;rw[b];simp only;congr 2;unfold Rf.fZ fZ
 by_cases d:k=0
 .simp_all
 .have g:((k:Int)==0)=J:=beq_eq_false_iff_ne.2 O;rw[if_neg d,g,cond_false,h,i,j,f,l]
  by_cases c:k%3=2
  .have a:((k:Int)%3==2)=I:=by rw[beq_iff_eq];omega
   rw[if_pos c,a,cond_true];omega
  .have a:((k:Int)%3==2)=J:=by rw[beq_eq_false_iff_ne];omega
   rw[if_neg c,a,cond_false]
def Pu (cs:List AC)(ty:TypeId):bH:=⟨cs,ty,J,J,J⟩
variable {R:eQ}{v:World}{φ:LI}{s:AS}
theorem aPY (hd:s.dirty=[])(h:∀b B,look s.boxes b=Y B->B.own=J/\B.tip=J/\∃k o,φ b=Y (k,o)/\yJ R φ s.nums v k o B.ty B.cs)(hi:∀b a B d k o i,look s.boxes b=Y B->look s.boxes a=Y d->φ b=Y (k,o)->φ a=Y (k,i)->b=a\/(B.ro=I/\d.ro=I))(p:∀b,s.next<=b->φ b=X)(n:∀b k o,φ b=Y (k,o)->k<v.heap.size):RepW R v φ φ s v:=by
 refine⟨λb B g=>?_,λb B k o g r=>?_,λb a B d k o i f c l m=>?_,λb B g t=>?_,p,n,λk _ _=>rfl,On.refl _ _,λb x e=>e,λb B k o f c=>(by rw[(h b B f).1]at c;cases c)⟩
 .obtain⟨_,_,k,o,f,q,u,j,c,l,m⟩:=h b B g;grind
 .grind
 .grind
 .grind
variable {w:World}{q:LI}{y:NU}
theorem aVk (f:Holds (oI s.nums y))(a:RepW Z v q φ s w):RepW Z v q φ (Hl y s) w:=by
 refine⟨?_,a.own,a.inj,a.tip,a.fresh,a.lt,a.low,a.on,a.base,a.rF⟩;intro b B e;obtain⟨k,o,d,i,c,k1,k2,g,h⟩:=a.box b B e;exact⟨k,o,d,i,c,k1,k2,g,h.mono (Yq f)⟩
def aI (f:FuncId)(o:Oper):Bool:=
 match o.op with
 |.call { callee:=.value (.func g),..}=>g==f
 |_=>J
def tQ (o:Oper):Bool:=
 match o.op with
 |.call { callee:=.builtin .append,..}=>I
 |_=>J
def qX (p:Oper->Bool):List (K (List AT))->Bool
 |.ops all (i::_)::_=>match all[i]? with|some o=>p o|none=>J
 |_=>J
def Ci (p:Oper->Bool):List Oper->Nat->Option Nat
 | [],_=>X
 |o::r,i=>bif p o then Y i else Ci p r (i+1)
def mA (p:Oper->Bool):Code->List (K (List AT))->Option (List (K (List AT)))
 |.region _ ops J,c=>(Ci p ops.toList 0).map λj=>.ops ops ((j9 ops.size).drop (j+1))::c
 |.seq a b,c=>match mA p a (.code b::c)with|some r=>Y r|none=>mA p b c
 |.block id b,c=>mA p b (.blk id::c)
 |.cond _ a b,c=>match mA p a c with|some r=>Y r|none=>mA p b c
 |_,_=>X
def gH (p:Oper->Bool)(a:Func):List (K (List AT)):=(mA p (aG a) [.top a]).getD []
def dK (C:eQ)(s:AS):List (K (List AT))->Option (FuncId×List AV×Option Tmp×List (K (List AT)))
 |.ops all (i::rest)::a=>(all[i]?).bind λo=>
  match gd all s.tmps o with
  |.yes=>match evalOp C.P (iZ s.tmps) (look s.boxes) o.op with
   |some (.call f b)=>Y (f,b,o.dst,.ops all rest::a)
   |_=>X
  |_=>X
 |_=>X
variable {a:Act}{ks2:List (K (List AT))}{vs:List AV}{dst:Option Tmp}
theorem uX {c:EW}{D:List (K (List AT))}{l:List (K Act)}{f:FuncId}(h:dK R s D=Y (f,vs,dst,ks2))(z:dV R.P f)(n:noFr D=I){φ1:LI}{ν1:LV}{w1:World}(B:SR R φ1 ν1 w1 D l)(A:Rep R v q φ s a w)
  (b:∀y:PH,aD (dJ R φ s.nums w) vs y->Calls R.P f y.toArray w λe N=>∃d,e=.returned d/\∀k,noFr ks2=I->(∀x u t,SR R x u t ks2 k)->gJ R.P c k .normal (a.put dst d) N):gJ R.P c l .normal a w:=by
 unfold dK at h;split at h
 .rename_i all i rest F;obtain⟨o,W,m⟩:=aK h;split at m
  .rename_i U;split at m
   .rename_i S L T;cases m
    match l,B with
    |.ops g r'::j,⟨e1,e2,r⟩=>
     subst e1 e2;show wpOps R.P g (gJ R.P c j) (i::rest) a w;rw[wpOps_cons];have M:=Sn (all:=g) (o:=o) A.tmps;rw[U]at M;obtain⟨y,r1,r2⟩:=yL (uK A.tmps) A.wd.box (λ_=>rfl) (λS L e=>by cases e;exact z) T;unfold wpOp;simp only[W];rw[if_pos M];refine Or.inl ?_;unfold Oper.wp;rw[r1];refine(b y r2).mono ?_;rintro e N⟨d,rfl,hv⟩
     have p:noFr F=I:=by simpa[noFr]using n
     exact hv (.ops g rest::j) (by simpa[noFr]using n) λx u t=>⟨rfl,rfl,SR.any p r⟩
   .cases m
  .cases m
 .cases h
def Co (a:NU):AC->Bool
 |.int _ _=>I
 |.bool _=>I
 |.sint _ _=>I
 |.sbool _=>I
 |.lit _=>I
 |.ptr b _=>a.contains b
 |_=>J
def kF (a b:NU):Nat->List AT->List AT
 |_,[]=>[]
 |i,t::r=>(bif b.contains i then(match t with|.val (.one c)=>bif Co a c then t else .top|.fB=>.fB|_=>.top)else .top)::kF a b (i+1) r
variable {o:LI}{ν:LV}
theorem aOZ {F:LV}{s:World}{c:AC}{x:Value}(h:Co y c=I)(d:∀b,y.contains b=I->o b=φ b)(r:relC R φ ν v c x):relC R o F s c x:=by
 cases c<;>try (first|exact r|cases h)
 obtain⟨k,a,e,f⟩:=r;exact⟨k,a,by rw[d _ h];exact e,f⟩
theorem aIE {R:eQ}{φ o:LI}{ν F:LV}{v s:World}{y f:NU}(a:∀b,y.contains b=I->o b=φ b):∀(i:Nat) (g:List AT) (d:PH),aD (relT R φ ν v) g d->aD (relT R o F s) (kF y f i g) d
 |_,[],[],_=>trivial
 |_,[],_::_,h=>h.elim
 |_,_::_,[],h=>h.elim
 |i,t::r,x::d,⟨e,j⟩=>by
  refine⟨?_,aIE a (i+1) r d j⟩
  cases f.contains i with
  |false=>trivial
  |true=>
   split
   .rename_i c
    cases hc:Co y c with
    |false=>trivial
    |true=>exact aOZ hc a e
   .exact e
   .trivial
theorem qV {d:World}{c:LI}{e:AS}{L g:World}{z:Value}{r:AT}{kb kt:NU}(h:Rep R v q φ s a L)(j:RepW R d o c e g)(i:e.tmps=putT (kF kb kt 0 s.tmps) dst r)(f:∀b,kb.contains b=I->c b=φ b)(hv:relT R c e.nums g r z):Rep R d o c e (a.put dst z) g:=by
 refine⟨j,by rw[sF];exact h.defers,?_⟩;rw[i];exact sG (aIE f 0 _ _ h.tmps) dst hv
inductive XT where
 |ret (r:AT) (s:AS)
 |stp (ks:List (K (List AT))) (s:AS)
 |br (t:Bool) (a b:XT)
 |need (p:List Prop) (o:XT)
def XT.ok (G:AT->AS->Prop)(c:List (K (List AT))->AS->Prop):XT->Prop
 |.ret r s=>G r s
 |.stp d s=>c d s
 |.br t a b=>(t=I->a.ok G c)/\(t=J->b.ok G c)
 |.need p o=>Holds p/\o.ok G c
def iA (c d:NU)(nx:Nat)(a:NU)(s:AS):Option (AS×List Prop):=(norm c d nx s).map λb=>(Hl a b,oI b.nums a)
def fU (c ns:AS->Option (AS×List Prop)):Tr->Option XT
 |.ret r s=>(c s).map λx=>match x.2 with| []=>.ret r x.1|p::d=>.need (p::d) (.ret r x.1)
 |.stop e s=>(ns s).map λx=>match x.2 with| []=>.stp e x.1|p::d=>.need (p::d) (.stp e x.1)
 |.br t a b=>(fU c ns a).bind λx=>(fU c ns b).map λy=>.br t x y
 |.need p t=>(fU c ns t).map (.need p)
theorem Rs {l ns:AS->Option (AS×List Prop)}{G:AT->AS->Prop}{c:List (K (List AT))->AS->Prop}:∀{m:Tr} {j:XT},fU l ns m=Y j->j.ok G c->m.ok (λr s=>∃g p,l s=Y (g,p)/\Holds p/\G r g) λk s=>∃g p,ns s=Y (g,p)/\Holds p/\c k g
 |.ret r s,j,h,d=>by
  obtain⟨⟨g,q⟩,i,f⟩:=bI h
  cases q with
  |nil=>simp only at f;subst f;exact⟨g,[],i,fX,d⟩
  |cons p o=>simp only at f;subst f;exact⟨g,_,i,d.1,d.2⟩
 |.stop k s,j,h,d=>by
  obtain⟨⟨g,q⟩,i,f⟩:=bI h
  cases q with
  |nil=>simp only at f;subst f;exact⟨g,[],i,fX,d⟩
  |cons p o=>simp only at f;subst f;exact⟨g,_,i,d.1,d.2⟩
 |.br t a b,j,h,d=>by
  obtain⟨x,i,f⟩:=aK h;obtain⟨y,n,rfl⟩:=bI f;exact⟨λe=>Rs i (d.1 e),λe=>Rs n (d.2 e)⟩
 |.need p t,j,h,d=>by
  obtain⟨x,i,rfl⟩:=bI h;exact⟨d.1,Rs i d.2⟩
variable {j:NU}{p:List Prop}
theorem aPk {nx:Nat}{k:NU}{d:AS}(h:iA y j nx k s=Y (d,p))(g:Holds p)(c:∀b x,q b=Y x->y.contains b=I)(i:Rep Z v q φ s a w):Rep Z v q (rst y φ) d a w:=by
 obtain⟨t,e,f⟩:=bI h;cases f;exact aPT g (aPi e c i)
theorem aPj {i:NU}{nx:Nat}{c:AS}(h:iA y i nx j s=Y (c,p))(f:Holds p)(a:∀b x,q b=Y x->y.contains b=I)(g:RepW Z v q φ s w):RepW Z v q (rst y φ) c w:=by
 obtain⟨t,d,e⟩:=bI h;cases e;exact aVk f (aLo d a g)
theorem vA {W:FuncId}{b:Func}(F:Fn W b){args:PH}(g:s.tmps=vs.map .val++j8 (b.ntmps-vs.length) .fB)(hv:aD (dJ Z φ s.nums v) vs args)(i:RepW Z v φ φ s v){R:EW}
  (h:∀(c:List (K Act)) (d:LI) (a:Act) (e:World),SR Z d s.nums e [.code (aG b),.top b] c->Rep Z v φ d s a e->gJ Z.P R c .normal a e):Calls prog W args.toArray v R:=by
 refine calls_of_wp F.at' F.body ?_
 exact h [.code (aG b),.top b] φ _ v ⟨rfl,rfl,trivial⟩ ⟨i,rfl,by
  rw[g];simp;rw[<-hv.len]
  exact(Yf hv).append (Ye _)⟩
open Rf (Nd Inv cC)
inductive Own where
 |nd (i:Nat)
 |gv (i:Nat)
def aO:Value:=.pointer X
def eD:Value:=.slice X 0 0
def aC (k:Nat):Value:=.pointer (Y ⟨k,0,X⟩)
def lArg (n:Nd):XW:=if n.t.length=4 then n.args[0]? else X
def rArg (n:Nd):XW:=if n.t.length=4 then n.args[1]? else if n.t.length=2 then n.args[0]? else X
def kX (n:Nd):Nat:=if n.t.length=4 then n.read.getD 0 0 else 0
def jU (n:Nd):Nat:=if n.t.length=4 then n.read.getD 1 0 else if n.t.length=2 then n.read.getD 0 0 else 0
def gC (at':NN):Option Nat->Value
 |none=>aO
 |some a=>aC (at' a)
def qJ:Rf.Op->Int
 |.none=>0
 |.pi=>2
 |.e=>3
 |.cf=>4
def fN:List Int->List Rf.V
 | [a,b,c,d,e,f,g,h]=>[(a,b),(c,d),(e,f),(g,h)]
 |_=>[]
def fW (w:World)(b0:Nat)(own:Nat->Option Own)(i:Nat)(out:LB)(gv:Value):Prop:=
 (gv=eD/\out=[])\/∃g a,∃rest:PH,gv=.slice (Y ⟨g,0,X⟩) out.length a/\w.heap[g]?=Y (.cells (out.map (λc=>Value.int .i64 (code c))++rest).toArray 105 (0,0))/\out.length<=a/\a<=out.length+rest.length/\own g=Y (.gv i)/\b0<=g
structure jC (w:World) (n:Nd) (cb:Nat):Prop where
 blk:∃cs:PH,w.heap[cb]?=Y (.cells cs.toArray 276 (0,0))
 mat:∀k:Nat,k<=3000->∃f a b c d:Int,0<f/\Rf.constant n k=Y (Pg.Fb f ⟨a,b,c,d⟩)/\(∀z∈[a,b,c,d],Bits 2 z)/\∀W,On Z.bt w W->Calls prog 256 #[aC cb,.int .i64 k] W λe w'=>∃xs:PH,e=.returned (.agg xs.toArray)/\aP I w' [a,b,c,d] xs/\Below W.heap.size W w'
structure Blk (w:World) (b0:Nat) (own:Nat->Option Own) (at':NN) (i:Nat) (n:Nd) (p0 q0 p1 q1 p2 q2 p3 q3 mt:Int) (gv cv:Value):Prop where
 nd:NodeAt w (at' i) [p0,q0,p1,q1,p2,q2,p3,q3] (!n.pos) 0 mt (kX n) (jU n) 0 (gC at' (lArg n)) (gC at' (rArg n)) gv cv aO
 Gq:fW w b0 own i n.out gv
 fE:n.t=[]->mt=n.k/\∃cb,cv=aC cb/\jC w n cb
 qN:n.t≠[]->cv=aO
structure fG (w:World) (b0:Nat) (own:Nat->Option Own) (at':NN) (ns:List Nd) (i:Nat) (n:Nd):Prop where
 ex:∃p0 q0 p1 q1 p2 q2 p3 q3 mt gv cv,Blk w b0 own at' i n p0 q0 p1 q1 p2 q2 p3 q3 mt gv cv/\∃l,Rf.corners ns n=Y l/\Pg.fJ l [(p0,q0),(p1,q1),(p2,q2),(p3,q3)]
 hc:Pg.HC n
 own:own (at' i)=Y (.nd i)
 lo:b0<=at' i
structure Net (w:World) (b0:Nat) (own:Nat->Option Own) (at':NN) (fb:Nat) (s:Rf.St):Prop where
 nd:∀i n,s.nodes[i]?=Y n->fG w b0 own at' s.nodes i n
 fuel:w.heap[fb]?=Y (.cells #[.int .i64 s.clock] 224 (0,0))
 Pk:b0<=fb
structure Chg (w w':World) (D:NU):Prop where
 on:On Z.bt w w'
 low:∀k,k<w.heap.size->k∉D->w'.heap[k]?=w.heap[k]?
theorem Chg.refl (w:World):Chg w w []:=⟨On.refl _ _,λ_ _ _=>rfl⟩
variable {w':World}
theorem Chg.cQ (h:Below w.heap.size w w'):Chg w w' []:=⟨On.below h,λk a _=>h.block k a⟩
variable {D:NU}{k:Nat}
theorem Chg.at (h:Chg w w' D){o:Obj}(a:w.heap[k]?=Y o)(hd:k∉D):w'.heap[k]?=Y o:=by rw[h.low k (bL a) hd];exact a
theorem Chg.cJ {a:NU}(h:Chg w w' D)(hd:∀k∈D,k∈a):Chg w w' a:=⟨h.on,λk b c=>h.low k b λe=>c (hd k e)⟩
theorem Chg.trans {w w' L:World}{D:NU}(h:Chg w w' D)(a:Chg w' L D):Chg w L D:=⟨h.on.trans a.on,λk b hd=>by rw[a.low k (u9 b h.on.size) hd,h.low k b hd]⟩
def Nq (w:World)(own:Nat->Option Own)(i:Nat)(D:NU):Prop:=∀k∈D,∀cs ty m,w.heap[k]?=Y (.cells cs ty m)->(ty=234/\own k=Y (.nd i))\/(ty=105/\own k=Y (.gv i))\/ty=224
theorem wT {w w':World}(h:On Z.bt w w'):∀{b:LB} {a:PH},aP I w b a->aP I w' b a
 | [],[],_=>trivial
 |_::b,_::_::a,⟨c,d,e⟩=>⟨c,(show Z.cP I w' _ _ from Z.qD h d),wT h e⟩
 | [],_::_,h=>h.elim
 |_::_,[],h=>h.elim
 |_::_,[_],h=>h.elim
variable {x:LB}{m:Bool}{n mt t l pl:Int}{lp rp gv C:Value}
theorem NodeAt.keep {b:Value}(h:NodeAt w k x m n mt t l pl lp rp gv C b)(a:On Z.bt w w')(e:w'.heap[k]?=w.heap[k]?):NodeAt w' k x m n mt t l pl lp rp gv C b:=by
 obtain⟨f,c,d⟩:=h.ex;exact⟨f,by rw[e];exact c,wT a d⟩
theorem NodeAt.lt {b:Value}(h:NodeAt w k x m n mt t l pl lp rp gv C b):k<w.heap.size:=by
 obtain⟨d,a,c⟩:=h.ex;exact bL a
section
variable {w w':World} {b0:Nat} {own own':Nat->Option Own} {D:NU} {i0:Nat}
theorem NodeAt.Ub {f:Value}(h:NodeAt w k x m n mt t l pl lp rp gv C f)(b:Nq w own i0 D)(d:own k≠Y (.nd i0)):k∉D:=by
 intro c;obtain⟨i,a,g⟩:=h.ex
 rcases b k c _ _ _ a with⟨_,e⟩|⟨e,_⟩|e
 .exact d e
 .grind
 .grind
theorem fW.keep {i:Nat}{out:LB}(h:fW w b0 own i out gv)(hc:Chg w w' D)(n:Nq w own i0 D)(hi:i≠i0)(a:∀k o,k<w.heap.size->own k=Y o->own' k=Y o):fW w' b0 own' i out gv:=by
 rcases h with h|⟨g,b,rest,d,c,f,j,l,m⟩
 .exact Or.inl h
 .refine A5 ⟨g,b,rest,d,hc.at c ?_,f,j,a _ _ (bL c) l,m⟩;intro p
  rcases n g p _ _ _ c with⟨e,_⟩|⟨_,e⟩|e
  .grind
  .grind
  .grind
theorem jC.keep {g:Nd}{j:Nat}(h:jC w g j)(i:On Z.bt w w'):jC w' g j:=by
 obtain⟨cs,l⟩:=h.blk;refine⟨⟨cs,?_⟩,λk s=>?_⟩
 rotate_left
 .obtain⟨f,a,b,c,d,m,o,p,q⟩:=h.mat k s;exact⟨f,a,b,c,d,m,o,p,λW r=>q W (i.trans r)⟩
 rcases i.blk j _ l with e|⟨e,_⟩
 .exact e
 .contradiction
theorem jC.of {g n':Nd}{a:Nat}(h:jC w g a)(b:∀k,Rf.constant n' k=Rf.constant g k):jC w n' a:=by
 refine⟨h.blk,λk c=>?_⟩;rw[b];exact h.mat k c
theorem fG.keep {at1 at2:NN}{ns q:List Nd}{c i:Nat}{g:Nd}(h:fG w b0 own at1 ns i g)(hc:Chg w w' D)(v:Nq w own i0 D)(hi:i≠i0)(s:i<ns.length)(r:Pg.Go ns q)(f:∀k o,k<w.heap.size->own k=Y o->own' k=Y o)(d:∀a,a<ns.length->at2 a=at1 a)(F:cC ns c i g):fG w' b0 own' at2 q i g:=by
 obtain⟨R,T,p1,U,p2,W,S,q3,mt,gv,y,m,l,t,u⟩:=h.ex;have b:=d i s
 have p:∀a,a∈g.args->a<ns.length:=by
  intro a M;obtain⟨j,N,e⟩:=o9 M;exact(F.arg j a (by rw[p5 N,e])).1
 have C:gC at2 (lArg g)=gC at1 (lArg g):=by
  unfold lArg;split
  .cases e:g.args[0]? with
   |none=>rfl
   |some a=>simp only[gC];rw[d a (p a (p6 e))]
  .rfl
 have L:gC at2 (rArg g)=gC at1 (rArg g):=by
  unfold rArg;split
  .cases e:g.args[1]? with
   |none=>rfl
   |some a=>simp only[gC];rw[d a (p a (p6 e))]
  .split
   .cases e:g.args[0]? with
    |none=>rfl
    |some a=>simp only[gC];rw[d a (p a (p6 e))]
   .rfl
 refine⟨⟨R,T,p1,U,p2,W,S,q3,mt,gv,y,⟨?_,m.Gq.keep hc v hi f,?_,m.qN⟩,l,r.corners t,u⟩,h.hc,by rw[b];exact f _ _ m.nd.lt h.own,by rw[b];exact h.lo⟩
 .rw[b,C,L];exact m.nd.keep hc.on (hc.low _ m.nd.lt (m.nd.Ub v (by rw[h.own];intro e;cases e;exact hi rfl)))
 .intro P;obtain⟨z,x,A,B⟩:=m.fE P;exact⟨z,x,A,B.keep hc.on⟩
end
def zK (d:Bool)(c mt e f pl:Int)(lp rp a b gv:AC):bH:=Pu (Tv d c mt e f pl lp rp a b gv) 234
def Ah (c:Int):bH:=Pu [.sint .i64 c] 224
def sWn (ns:LV)(e:Bool)(d mt f g pl c:Int)(lp rp a b gv:AC)(ex:List (Nat×bH))(dirty:NU)(h:List AT):AS:=⟨h,(0,zK e d mt f g pl lp rp a b gv)::(6,Ah c)::ex,7,ns,dirty⟩
def sW (i:LB)(e:Bool)(d mt f g pl c:Int)(lp rp a b gv:AC)(ex:List (Nat×bH))(h:List AT):AS:=sWn (i.map λz=>(z,10)) e d mt f g pl c lp rp a b gv ex [] h
def sY (m:Nat):List AT:=.val (.one (.ptr 0 0))::.val (.one (.ptr 6 0))::j8 m .fB
def slot (l:List (Nat×AT)):Nat->Nat->List AT
 |_,0=>[]
 |i,m+1=>(match l.find? (λx=>x.1==i)with|some x=>x.2|none=>.top)::slot l (i+1) m
def sl0 (m:Nat):List AT:=slot [] 0 m
noncomputable def bW:AW:=λf=>bif f==239 then Y f239 else X
theorem Ac:bS Z bW:=by
 intro f b h;unfold bW at h
 cases a:f==239 with
 |true=>
  rw[a]at h;cases h
  have:f=239:=by simpa using a
  subst this;exact⟨(aZ func239 rfl rfl).at',(aZ func239 rfl rfl).en⟩
 |false=>rw[a]at h;cases h
theorem Yv {φ:LI}{ν:LV}{v:World}:∀(a:LB) (i:Nat) (d:PH),aD (relC Z φ ν v) (cF I i a.length) d->(∀(j:Nat) (z:Int),a[j]?=Y z->∃b,ν[i+j]?=Y (z,b))->aP I v a d
 | [],i,[],_,_=>trivial
 | [],i,_::_,h,_=>h.elim
 |z::a,i,[],h,_=>by simp[cF]at h;exact h.elim
 |z::a,i,[x],h,_=>by simp[cF]at h;exact h.2.elim
 |z::a,i,x::y::d,h,c=>by
  have⟨⟨z1,n1,e1,e2⟩,⟨z2,n2,f1,f2,f3⟩,h3⟩:=h;have⟨b,hb⟩:=c 0 z rfl;rw[x8]at hb;rw[hb]at e1 f1;cases e1;cases f1;exact⟨e2,f2,Yv a (i+1) d h3 λj y e=>by rw[show i+1+j=i+(j+1) by omega];exact c (j+1) y (by simpa using e)⟩
def phW (k a:Nat)(ex:LI):LI:=λb=>if b=0 then Y (k,0)else if b=6 then Y (a,0)else if b<6 then ex b else X
theorem aU8 (k a:Nat)(ex:LI):phW k a ex 0=Y (k,0):=rfl
theorem aU9 (k a:Nat)(ex:LI):phW k a ex 6=Y (a,0):=rfl
theorem aW8 (k a:Nat)(ex:LI){b:Nat}(h:7<=b):phW k a ex b=X:=by
 unfold phW;grind
variable {c:Int}
theorem aTq {d:Nat}{ex:List (Nat×bH)}{M:Value}{lpC rpC gvC cvC nvC:AC}(W:NodeAt v k x m n mt t l pl lp rp gv C M)(h8:x.length=8)(D:∀z∈x,Bits 10 z)(N:v.heap[d]?=Y (.cells #[.int .i64 c] 224 (0,0)))
  (T:relC Z (phW k d q) (x.map λz=>(z,10)) v lpC lp) (hr:relC Z (phW k d q) (x.map λz=>(z,10)) v rpC rp) (S:relC Z (phW k d q) (x.map λz=>(z,10)) v gvC gv) (hc:relC Z (phW k d q) (x.map λz=>(z,10)) v cvC C) (U:relC Z (phW k d q) (x.map λz=>(z,10)) v nvC M)
  (g:∀b B,look ex b=Y B->B.own=J/\B.tip=J/\B.ro=I/\∃f o,phW k d q b=Y (f,o)/\f≠k/\f≠d/\yJ Z (phW k d q) (x.map λz=>(z,10)) v f o B.ty B.cs) (L:∀b f o,q b=Y (f,o)->f<v.heap.size) (R:List AT):
  RepW Z v (phW k d q) (phW k d q) (sW x m n mt t l pl c lpC rpC cvC nvC gvC ex R) v:=by
 have⟨xs,h1,h2⟩:=W.ex
 have y:k≠d:=by
  grind
 have F:aD (relC Z (phW k d q) (x.map λz=>(z,10)) v) (Tv m n mt t l pl lpC rpC cvC nvC gvC) (.bool m::xs++[C,.int .i64 mt,lp,.int .i64 t,rp,.int .i64 l,gv,.int .i64 n,M,.int .i64 pl]):=by
  have hx:aD (relC Z (phW k d q) (x.map λz=>(z,10)) v) (cF I 0 8) xs:=by
   rw[<-h8]
   exact qA x xs 0 _ h2 D λj z hz=>by rw[y8,p8,hz];rfl
  exact aD.append (⟨rfl,hx⟩) ⟨hc,rfl,T,rfl,hr,rfl,S,rfl,U,rfl,trivial⟩
 have s0:yJ Z (phW k d q) (x.map λz=>(z,10)) v k 0 234 (Tv m n mt t l pl lpC rpC cvC nvC gvC):=⟨[],_,[],by simpa using h1,rfl,F⟩
 have s6:yJ Z (phW k d q) (x.map λz=>(z,10)) v d 0 224 [.sint .i64 c]:=⟨[],[.int .i64 c],[],by simpa using N,rfl,rfl,trivial⟩
 have e:∀b B,look (sW x m n mt t l pl c lpC rpC cvC nvC gvC ex R).boxes b=Y B->(b=0/\B=zK m n mt t l pl lpC rpC cvC nvC gvC)\/(b=6/\B=Ah c)\/look ex b=Y B:=by
  intro b B h;simp only[sW,sWn,look]at h;grind
 refine aPY rfl ?_ ?_ (λb D=>aW8 k d q D) ?_
 .intro b B A
  rcases e b B A with⟨rfl,rfl⟩|⟨rfl,rfl⟩|h
  .exact⟨rfl,rfl,k,0,rfl,s0⟩
  .exact⟨rfl,rfl,d,0,rfl,s6⟩
  .have⟨g1,g2,_,f,o,i,_,_,g4⟩:=g b B h;exact⟨g1,g2,f,o,i,g4⟩
 .intro b s B r P o o' A p u a
  rcases e b B A with⟨rfl,rfl⟩|⟨rfl,rfl⟩|h
  .rw[aU8]at u;cases u
   rcases e s r p with⟨rfl,rfl⟩|⟨rfl,rfl⟩|h'
   .exact Or.inl rfl
   .rw[aU9]at a;cases a;exact absurd rfl y
   .have⟨_,_,_,f,o,i,g5,_⟩:=g s r h';rw[a]at i;cases i;exact absurd rfl g5
  .rw[aU9]at u;cases u
   rcases e s r p with⟨rfl,rfl⟩|⟨rfl,rfl⟩|h'
   .rw[aU8]at a;cases a;exact absurd rfl y
   .exact Or.inl rfl
   .have⟨_,_,_,f,o,i,_,g5,_⟩:=g s r h';rw[a]at i;cases i;exact absurd rfl g5
  .have⟨_,_,g0,f,o,i,g5,g6,_⟩:=g b B h;rw[u]at i;cases i
   rcases e s r p with⟨rfl,rfl⟩|⟨rfl,rfl⟩|h'
   .rw[aU8]at a;cases a;exact absurd rfl g5
   .rw[aU9]at a;cases a;exact absurd rfl g6
   .exact A5 ⟨g0,(g s r h').2.2.1⟩
 .intro b P o h;unfold phW at h;split at h
  .cases h;exact bL h1
  .split at h
   .cases h;exact bL N
   .split at h
    .exact L b P o h
    .cases h
theorem aTp {i:World}{L:Nat}{e:LI}{ns:LV}{A C gvC r B:AC}(D:RepW Z v (phW k L q) e s i)(h0:look s.boxes 0=Y (zK m n mt t l pl A C r B gvC))(h6:look s.boxes 6=Y (Ah c))(hk:v.shape? k=Y (234,27))(hf:v.shape? L=Y (224,1))(h8:x.length=8)(hz:∀(j:Nat) (z:Int),x[j]?=Y z->∃b,s.nums[j]?=Y (z,b)):
  (∃lp rp gv T nv,NodeAt i k x m n mt t l pl lp rp gv T nv/\relC Z e s.nums i A lp/\relC Z e s.nums i C rp/\relC Z e s.nums i gvC gv/\relC Z e s.nums i r T/\relC Z e s.nums i B nv)/\i.heap[L]?=Y (.cells #[.int .i64 c] 224 (0,0)):=by
 constructor
 .have⟨k',o,pre,g,post,F,p,g3,g4⟩:=D.box 0 _ h0;rw[(D.base 0 (k,0) rfl)]at F;cases F;have f:=q8.1 g3;subst f;have a:=D.on.shape hk;unfold A6 at a;rw[p]at a;simp at a;have W:=g4.len;have aa:(zK m n mt t l pl A C r B gvC).cs.length=27:=rfl;have d:post=[]:=q8.1 O;subst d;simp at p
  match g,g4,W,p with
  |y::g,⟨M,U⟩,W,p=>
   have ga:aD (relC Z e s.nums i) (cF I 0 8) (g.take 16):=by
    have:=U.take 16
    simpa[cF]using this
   have u:=(U.drop 16)
   match hd:g.drop 16,u with
   | [a0,a1,N,a3,P,a5,R,a7,S,a9],u=>
    have⟨b0,b1,b2,b3,b4,b5,b6,b7,b8,b9,_⟩:=u;refine⟨N,P,R,a0,S,⟨g.take 16,?_,(Yv x 0 _ (by rw[h8];exact ga) (by simpa using hz))⟩,b2,b4,b6,b0,b8⟩
    have e2:g=g.take 16++[a0,.int .i64 mt,N,.int .i64 t,P,.int .i64 l,R,.int .i64 n,S,.int .i64 pl]:=by
     rw[<-b1,<-b3,<-b5,<-b7,<-b9,<-hd];exact((List.take_append_drop 16 g).symm)
    rw[p,M];grind
 .have⟨k',o,pre,g,post,F,p,g3,g4⟩:=D.box 6 _ h6;rw[(D.base 6 (L,0) rfl)]at F;cases F;have f:=q8.1 g3;subst f;have a:=D.on.shape hf;unfold A6 at a;rw[p]at a;simp at a
  match g,g4 with
  | [y],⟨M,_⟩=>
   have d:post=[]:=by have:=a.2;simpa using this
   subst d;rw[p,M];rfl
  |_::_::_,⟨_,h⟩=>exact h.elim
theorem NodeAt.shape {v:World}{k:Nat}{x:LB}{m:Bool}{n mt t l pl:Int}{lp rp gv C a:Value}(h:NodeAt v k x m n mt t l pl lp rp gv C a)(h8:x.length=8):v.shape? k=Y (234,27):=by
 have⟨xs,h1,h2⟩:=h.ex;have:=pW x xs h2;unfold A6
 simp_all
theorem aGw {w:Nat}(h:v.heap[w]?=Y (.cells #[.int .i64 c] 224 (0,0))):v.shape? w=Y (224,1):=by
 unfold A6;rw[h];rfl
theorem Sd {g:World}{d:Nat}(c:RepW Z v (phW k d q) o s g)(hd:s.dirty.all (λb=>b==0||b==6)=I):Chg v g [k,d]:=by
 refine⟨c.on,λj i f=>c.low j i λb h a e=>?_⟩;have:=List.all_eq_true.1 hd b h;simp at this
 rcases this with rfl|rfl
 .rw[c.base 0 (k,0) rfl]at e;cases e;exact f E4
 .rw[c.base 6 (d,0) rfl]at e;cases e;exact f E4
theorem Chg.below {s:World}{b0:Nat}(h:Chg w s D)(b:b0<=w.heap.size)(a:∀k∈D,b0<=k):Below b0 w s:=
 ⟨h.on.os,h.on.tape,h.on.output,h.on.size,λk c=>h.low k O λe=>by have:=a k e;omega⟩
def Iy (s:AS):List (K (List AT))->Option (TypeId×TypeId×TypeId×AT×AT×Option Tmp×List (K (List AT)))
 |.ops all (i::rest)::a=>(all[i]?).bind λo=>
  match gd all s.tmps o with
  |.yes=>match o.op with
   |.call { callee:=.builtin .append,args:=args,argTypes:=ts}=>match ts.toList,args.toList with
    | [t,b],[x,y]=>Y (t,b,o.type,iZ s.tmps x,iZ s.tmps y,o.dst,.ops all rest::a)
    |_,_=>X
   |_=>X
  |_=>X
 |_=>X
theorem aQ0 {c:EW}{M:List (K (List AT))}{l:List (K Act)}{t t' ty:TypeId}{sv xv:AT}(h:Iy s M=Y (t,t',ty,sv,xv,dst,ks2))(m:noFr M=I){T:LI}{S:LV}{L:World}(F:SR R T S L M l)(D:Rep R v q φ s a w)
  (b:∀W v2,relT R φ s.nums w sv W->relT R φ s.nums w xv v2->∃d A,(u5 #[t,t'] ty #[W,v2]).run R.P w=.ok d A/\∀j,noFr ks2=I->(∀z u r,SR R z u r ks2 j)->gJ R.P c j .normal (a.put dst d) A):gJ R.P c l .normal a w:=by
 unfold Iy at h;split at h
 .rename_i all i rest N;have⟨o,ho,k⟩:=aK h;split at k
  .rename_i hg;split at k
   .rename_i args ts B;split at k
    .rename_i t0 ai x y e1 e2;cases k
     match l,F with
     |.ops f r'::g,⟨q1,q2,p⟩=>
      subst q1 q2;show wpOps R.P f (gJ R.P c g) (i::rest) a w;rw[wpOps_cons];have U:=Sn (all:=f) (o:=o) D.tmps;rw[hg]at U
      have ea:args=#[x,y]:=by apply Array.toList_inj.1;rw[e2]
      have et:ts=#[t,t']:=by apply Array.toList_inj.1;rw[e1]
      subst ea et;have⟨d,A,r1,r2⟩:=b _ _ (uK D.tmps x) (uK D.tmps y);unfold wpOp;simp only[ho];rw[if_pos U];refine Or.inl ?_;unfold Oper.wp
      have r3:(execOp a.eval o).run R.P w=.ok (.value d) A:=by
       unfold execOp;rw[B];show((do pure (Next.value (<-u5 #[t,t'] o.type (#[x,y].map a.eval))):Sem Next).run R.P w)=_
       have e:#[x,y].map a.eval=#[a.eval x,a.eval y]:=E4
       rw[e,Sem.run_bind,r1];rfl
      rw[r3]
      have n:noFr N=I:=by simpa[noFr]using m
      exact r2 (.ops f rest::g) (by simpa[noFr]using m) λz u r=>⟨rfl,rfl,SR.any n p⟩
    .cases k
   .cases k
  .cases k
 .cases h
def RowOf (w:World)(e:TypeId)(c:PH)(v:Value)(g:XW):Prop:=
 (v=.slice X 0 0/\c=[]/\g=X)\/∃b a,∃rest:PH,g=Y b/\v=.slice (Y ⟨b,0,X⟩) c.length a/\w.heap[b]?=Y (.cells (c++rest).toArray e (0,0))/\c.length<=a/\a<=c.length+rest.length
theorem aH7 (z:Array Value)(n:Nat):(u6 z n).size=n*z.size:=by
 simp[u6]
theorem aNM {bt:List TypeId}{P:Program}{t t' e ty:TypeId}{i:TypeInfo}{z:Value}(hu:P.underlying t=Y (.slice e))(B:P.underlying t'=Y (.slice e))(A:iP P e=Y 1)(hi:P.info? e=Y i)(R:i.bytes<=1000000)(hz:∀v,(zeroValue e).run P v=.ok z v)(ag:z.cells.size=1)(N:bt.contains e=I)
   {f:PH} {c xv x:Value} {T:XW} (y:RowOf v e f c T) {xc:Nat} {m C:PH} {aa:TypeId} (hx:v.heap[k]?=Y (.cells (m++[x]++C).toArray aa (0,0))) (W:xv=.slice (Y ⟨k,m.length,X⟩) 1 xc) (U:One x) (ab:f.length<=99999):
  ∃D d b,(u5 #[t,t'] ty #[c,xv]).run P v=.ok D d/\RowOf d e (f++[x]) D (Y b)/\(T=Y b\/v.heap.size<=b)/\On bt v d/\∀j,j<v.heap.size->j≠b->d.heap[j]?=v.heap[j]?:=by
 subst W
 have q:∀d,d.heap=v.heap->(u7 1 1 (.slice (Y ⟨k,m.length,X⟩) 1 xc)).run P d=.ok #[x] d:=λd S=>aCK (by rw[S];exact hx) rfl
 have p:∀(L:Option Addr) (h:Nat),c=.slice L f.length h->¬f.length+1<=h->(∀d,d.heap=v.heap->(u7 1 f.length (.slice L f.length h)).run P d=.ok f.toArray d)->∃D d b,(u5 #[t,t'] ty #[c,.slice (Y ⟨k,m.length,X⟩) 1 xc]).run P v=.ok D d/\RowOf d e (f++[x]) D (Y b)/\(T=Y b\/v.heap.size<=b)/\On bt v d/\∀j,j<v.heap.size->j≠b->d.heap[j]?=v.heap[j]?:=by
  intro L h hv hc hold;obtain⟨l,c1,c2⟩:=aKI hu B A hi R hz hold q hc O;subst hv;refine⟨_,_,v.heap.size,c2,A5 ⟨v.heap.size,l,(u6 z.cells (l-(f.length+1))).toList,rfl,E4,?_,by simpa using c1,?_⟩,A5 O,⟨rfl,rfl,rfl,E4,λj o r=>Or.inl ?_⟩,λj r _=>?_⟩
  .simp_all
  .have hl:=aH7 z.cells (l-(f.length+1));grind
  .grind
  .grind
 rcases y with⟨M,F,s⟩|⟨b,h,rest,M,F,s,h4,h5⟩
 .subst F
  exact p X 0 M E4 λd _=>aDO
 .by_cases hc:f.length+1<=h
  .subst F;have pl:=aIa (ty:=ty) (a:=⟨b,0,X⟩) hu B A (q v rfl) hc;obtain⟨d,s1,n⟩:=Vl f.length [x] 0 v (f++rest) s (by simp;omega) (by simpa using U)
   have e1:(⟨b,0,X⟩:Addr).add (f.length*1)=⟨b,f.length,X⟩:=by rw[Fu];simp
   rw[e1,show(#[x]:Array Value).toList=[x]from rfl,s1]at pl;rw[x8,Re _ _ _ (by simp;omega)]at n
   have t1:(f++rest).take f.length=f:=E4
   have t2:(f++rest).drop (f.length+[x].length)=rest.drop 1:=E4
   rw[t1,t2]at n;refine⟨_,d,b,pl,A5 ⟨b,h,rest.drop 1,rfl,E4,n.blk,by simpa using hc,by simp;omega⟩,Or.inl M,⟨n.os,n.tape,n.output,by rw[n.size];exact Nat.le_refl _,λj o r=>?_⟩,λj _ r=>n.others j r⟩
   by_cases u:j=b
   .subst u;rw[s]at r;cases r;refine A5 ⟨N,?_⟩;unfold A6;rw[n.blk,s];simp;omega
   .exact Or.inl (by rw[n.others j u];exact r)
  .exact p _ h F hc λd S=>aCK (pre:=[]) (by rw[S];exact s) E4
def qB (d:Nat)(p:Oper->Bool):Code->List (K (List AT))->Option (List (K (List AT)))
 |.region _ ops J,c=>(Ci p ops.toList 0).map λj=>.ops ops ((j9 ops.size).drop (j+d))::c
 |.seq a b,c=>match qB d p a (.code b::c)with|some r=>Y r|none=>qB d p b c
 |.block id b,c=>qB d p b (.blk id::c)
 |.cond _ a b,c=>match qB d p a c with|some r=>Y r|none=>qB d p b c
 |_,_=>X
def eV (p:Oper->Bool)(a:Func):List (K (List AT)):=(qB 0 p (aG a) [.top a]).getD []
def Mm (c a:NU)(e:Nat)(d b:NU)(f:Nat)(s:AS):Option (AS×List Prop):=match iA c a e [] s with|some r=>Y r|none=>iA d b f [] s
def Fh (e:LI)(ns:AS->Option (AS×List Prop)):Prop:=∀d φ s c p a w,ns s=Y (c,p)->Holds p->Rep Z d e φ s a w->∃b,Rep Z d e b c a w
variable {f:NU}
theorem lS {nx:Nat}{g:NU}(c:∀b x,q b=Y x->y.contains b=I):Fh q (iA y f nx g):=λj φ s i p a w h d e=>⟨_,aPk h d c e⟩
theorem aWV {d:NU}{w:Nat}(l:∀b x,q b=Y x->y.contains b=I)(m:∀b x,q b=Y x->j.contains b=I):Fh q (Mm y d w j f k):=by
 intro o φ s n p a c h g i;unfold Mm at h;split at h
 .rename_i r e;cases h;exact⟨_,aPk e g l i⟩
 .exact⟨_,aPk h g m i⟩
theorem dH {sp:Spec}{f:AW}{stp:List (K (List AT))->Bool}{R:EW}(l:SpecOk Z v q sp)(D:bS Z f){nx:Nat}{rb:NU}{ns:AS->Option (AS×List Prop)}(U:∀b x,q b=Y x->y.contains b=I)(F:Fh q ns){n:Nat}{W:List (K (List AT))}{xt:XT}
  (ht:(run Z sp f (aL Z sp) stp n W s).bind (fU (iA y [] nx rb) ns)=Y xt) (G:AT->AS->Prop) (c:List (K (List AT))->AS->Prop) (L:xt.ok G c)
  (hG:∀r j h d i,G r j->(∀b,r=.val (.one (.bool b))\/r=.val (.one (.sbool b))->d=.bool b)->(∀k z,r=.val (.one (.sint k z))\/r=.val (.one (.int k z))->d=.int k z)->RepW Z v q h j i->R (.returned d) i)
  (hH:∀g j,c g j->noFr g=I/\∀(e:List (K Act)) (h:LI) (a:Act) (i:World),(∀u t w1,SR Z u t w1 g e)->Rep Z v q h j a i->gJ Z.P R e .normal a i):
  ∀(e:List (K Act)) (φ:LI) (a:Act) (w:World),SR Z φ s.nums w W e->Rep Z v q φ s a w->gJ Z.P R e .normal a w:=by
 intro e φ a w S hr;obtain⟨tr,h1,h2⟩:=aK ht;refine Bj l D (uH mixed l) _ _ ?_ ?_ n W s tr h1 (Rs h2 L) e φ a w S hr
 .rintro g j⟨s2,p,A,B,C⟩ o h a' i m M;obtain⟨hf,hk⟩:=hH g s2 C;obtain⟨ad,N⟩:=F _ _ _ _ _ _ _ A B M;exact hk o ad a' i (λu t w1=>SR.any hf m) N
 .rintro r j h d i⟨s2,p,A,B,C⟩ hv T;refine hG r s2 _ d i C ?_ ?_ (aPj A B U T)
  .rintro b(rfl|rfl)<;>exact hv
  .rintro k z(rfl|rfl)<;>exact hv
abbrev P0:AT:=.val (.one (.ptr 0 0))
abbrev P6:AT:=.val (.one (.ptr 6 0))
abbrev litT (v:Value):AT:=.val (.one (.lit v))
abbrev dU (z:Int):AT:=.val (.one (.sint .i64 z))
theorem Fs {b:Nat}{x:Value}(a:φ b=Y (k,0))(h:dJ Z φ ν w (.one (.ptr b 0)) x):x=aC k:=by
 obtain⟨e,o,c,d⟩:=h;rw[a]at c;cases c
 simpa[aC]using d
end Ab
namespace Pg
open Rf Nw
variable {ns:List Nd}{g x:Nd}{a:Nat}
theorem aHd {w:Nat}(c:g.args[w]?=Y a)(d:g.read[w]?=Y 0)(e:ns[a]?=Y x)(b:x.had[0]?=Y one):ends ns g w=Y ((1,0),(0,1)):=by
 unfold Rf.ends;rw[c];simp only[s7,e,d,b,r9];rfl
theorem bCv {P v y z:V}:bR [P,v,y,z] (1,0) (1,0)=P/\bR [P,v,y,z] (1,0) (0,1)=v/\bR [P,v,y,z] (0,1) (1,0)=y/\bR [P,v,y,z] (0,1) (0,1)=z:=by
 unfold bR;grind
theorem aJ1 (l:List V):l.map (fC one)=l:=by
 conv=>rhs;rw[<-List.map_id l]
 exact List.map_congr_left λv _=>Kt v
theorem aJI (c:g.t=[])(b:g.part=one)(a:g.told=one):corners ns g=Y [(1,0),(0,1)]:=by
 unfold Rf.corners;rw[aGS c,b,a,r9,aJ1,aQN,aQN]
theorem aIm {P v:V}(f:g.t=[P,v])(d:g.args[0]?=Y a)(e:g.read[0]?=Y 0)(h:ns[a]?=Y x)(c:x.had[0]?=Y one)(b:g.told=one):corners ns g=Y [P,v]:=by
 unfold Rf.corners;rw[aGT f,aHd d e h c,b,r9,r9,aJ1];unfold hZ Mt.at1 Mt.at2;simp
theorem aIn {P v y z:V}{b:Nat}{i:Nd}(k:g.t=[P,v,y,z])(d:g.args=[a,b])(h:g.read=[0,0])(l:ns[a]?=Y x)(j:x.had[0]?=Y one)(f:ns[b]?=Y i)(c:i.had[0]?=Y one)(e:g.told=one):corners ns g=Y [P,v,y,z]:=by
 unfold Rf.corners;rw[Nv k,aHd (by rw[d];rfl) (by rw[h];rfl) l j,e,s7,if_pos (by rw[d];rfl),aHd (by rw[d];rfl) (by rw[h];rfl) f c,r9,r9,aJ1];obtain⟨m,o,p,q⟩:=@bCv P v y z;grind
variable {l:List V}
theorem aIl (h:g.t.length=4)(f:corners ns g=Y l):l.length=4:=by
 obtain⟨u,v,y,z,e⟩:=four h;obtain⟨b,c,rfl⟩:=s8.1 f;rw[Nv e]at c;obtain⟨e1,i,d⟩:=Option.bind_eq_some_iff.1 c;obtain⟨a,j,rfl⟩:=s8.1 d;rfl
theorem aSN {d:Int}(hd:0<d)(x:Int):x.natAbs<=(d*x).natAbs:=by
 rw[Int.natAbs_mul];exact Nat.le_mul_of_pos_left _ O
theorem aU4 {P:V}(h:P∈pad l):P∈l\/P=(0,0):=by
 unfold pad at h;grind
theorem fJ.bits {cs:List V}{N:Nat}(h:fJ l cs)(f:∀v∈l,eR N v):∀v∈cs,v.1.natAbs<2^N/\v.2.natAbs<2^N:=by
 obtain⟨d,hd,e⟩:=h.ex;intro v hv
 have c:sc d v∈pad l:=by rw[e];exact List.mem_map_of_mem hv
 have b:eR N (sc d v):=by
  rcases aU4 c with h1|h1
  .simp_all
  .rw[h1];exact⟨by unfold Bits;exact z8 E3,by unfold Bits;exact z8 E3⟩
 obtain⟨b1,a⟩:=b;exact⟨A0 (aSN hd v.1) b1,A0 (aSN hd v.2) a⟩
end Pg
namespace Ab
open Rf (Nd Inv cC)
section
variable {w w':World} {b0 fb:Nat} {own own':Nat->Option Own} {at1 at2:NN} {D:NU} {i:Nat} {n n':Nd} {s:Rf.St} {c:Nat}
theorem Net.put (h:Net w b0 own at1 fb s)(p:Inv s.nodes c)(r:s.nodes[i]?=Y n){cl:Int}(f:Pg.Go s.nodes (s.nodes.set i n'))(hc:Chg w w' D)(l:Nq w own i D)(d:∀k o,k<w.heap.size->own k=Y o->own' k=Y o)(a:w'.heap[fb]?=Y (.cells #[.int .i64 cl] 224 (0,0)))(g:fG w' b0 own' at1 (s.nodes.set i n') i n'):Net w' b0 own' at1 fb ⟨s.nodes.set i n',cl⟩:=by
 refine⟨λj m q=>?_,a,h.Pk⟩
 by_cases hi:j=i
 .grind
 .have b:s.nodes[j]?=Y m:=by rw[<-q];exact(List.getElem?_set_ne (λe=>hi e.symm)).symm
  exact(h.nd j m b).keep hc l hi (q9.1 b).1 f d (λ_ _=>rfl) (p.at' j m b)
structure wO (n n':Nd):Prop where
 pos:n'.pos=n.pos
 t:n'.t=n.t
 args:n'.args=n.args
 op:n'.op=n.op
 terms:n'.terms=n.terms
theorem wO.constant (h:wO n n')(k:Nat):Rf.constant n' k=Rf.constant n k:=by
 unfold Rf.constant;rw[h.op,h.terms]
theorem Blk.oS {B b p1 l p2 F C L mt:Int}{gv c:Value}(h:Blk w b0 own at1 i n B b p1 l p2 F C L mt gv c)(f:wO n n')(hc:Chg w w' D){g p j q m r o v a:Int}{u:Value}(N:n'.k=n.k/\a=mt\/n.t=[]/\n'.k=n.k+1/\a=mt+1)
  (e:NodeAt w' (at1 i) [g,p,j,q,m,r,o,v] (!n'.pos) 0 a (kX n') (jU n') 0 (gC at1 (lArg n')) (gC at1 (rArg n')) u c aO) (A:fW w' b0 own' i n'.out u):Blk w' b0 own' at1 i n' g p j q m r o v a u c:=by
 refine⟨e,A,?_,?_⟩
 .intro d;rw[f.t]at d;obtain⟨M,x,y,z⟩:=h.fE d;refine⟨?_,x,y,(z.keep hc.on).of f.constant⟩;omega
 .intro d;rw[f.t]at d;exact h.qN d
end
theorem Chg.alloc (w:World)(o:Obj):Chg w (w.alloc o) []:=Chg.cQ ((Below.refl _ _).alloc O o)
variable {v:World}{k:Nat}{R:EW}
theorem aE3 {b:Nat}{r:Int}(a:∀d,Chg v d []->Calls prog 180 #[aC k,.int .i64 r,aC b] d λe c=>∃z,e=.returned (.int .i64 z)/\R (.returned (.int .i64 z)) c):Calls prog 133 #[.agg #[aC k,.int .i64 r],aC b] v R:=by
 unfold aC at*
 go_in
 go_wp2_with fail
 refine((hid (a _ (Chg.alloc v (.cells #[aC k,.int .i64 r] 221)))).out).mono ?_;rintro e c⟨z,rfl,f⟩
 go_wp2_with fail
 exact(hid f).out
theorem NodeAt.cell {v:World}{k:Nat}{x:LB}{m:Bool}{n mt t l pl:Int}{lp rp gv C b:Value}(h:NodeAt v k x m n mt t l pl lp rp gv C b)(h8:x.length=8):v.cell? ⟨k,17,X⟩=Y C/\v.cell? ⟨k,23,X⟩=Y gv:=by
 obtain⟨d,c,f⟩:=h.ex;have i:=pW x d f
 have e:∀j a,([C,.int .i64 mt,lp,.int .i64 t,rp,.int .i64 l,gv,.int .i64 n,b,.int .i64 pl]:PH)[j]?=Y a->(Value.bool m::d++[C,.int .i64 mt,lp,.int .i64 t,rp,.int .i64 l,gv,.int .i64 n,b,.int .i64 pl]).toArray[17+j]?=Y a:=by
  intro j a g;rw[List.getElem?_toArray,r5 (by simp;omega)]
  simp_all
 exact⟨aB c (e 0 C rfl),aB c (e 6 gv rfl)⟩
theorem aIS {c p:Nat}(hc:v.cell? ⟨k,17,X⟩=Y (aC p))(a:Calls prog 247 #[aC k,aC c] v λe d=>∃b,e=.returned (.bool b)/\R (.returned (.bool b)) d):Calls prog 238 #[aC k,aC c] v R:=by
 unfold aC at*
 go_in
 go_wp2_with fail
 refine((hid a).out).mono ?_;rintro e d⟨z,rfl,f⟩
 go_wp2_with fail
 simp_all
theorem aIR {g:Nat}{b:Bool}(hc:v.cell? ⟨k,17,X⟩=Y aO)(a:Calls prog 248 #[aC k] v λe c=>e=.returned (.bool b)/\(b=I->Calls prog 249 #[aC k,aC g] c λe c=>∃b,e=.returned (.bool b)/\R (.returned (.bool b)) c)/\(b=J->Calls prog 250 #[aC k,aC g] c λe c=>∃b,e=.returned (.bool b)/\R (.returned (.bool b)) c)):Calls prog 238 #[aC k,aC g] v R:=by
 unfold aC aO at*
 go_in
 go_wp2_with fail
 refine((hid a).out).mono ?_;rintro e c⟨rfl,h,d⟩
 cases b with
 |true=>
  have f:=hid (h rfl)
  go_wp2_with fail
  refine(f.out).mono ?_;rintro e c⟨z,rfl,d⟩
  go_wp2_with fail
  exact(hid d).out
 |false=>
  have f:=hid (d rfl)
  go_wp2_with fail
  refine(f.out).mono ?_;rintro e c⟨z,rfl,d⟩
  go_wp2_with fail
  exact(hid d).out
structure Fl (k fb:Nat) (j:Nat) (R:EW) (Jm:Nat->World->Prop):Prop where
 ex:∀m w,Jm m w->∃gb len cap,(∃gv,w.cell? ⟨k,23,X⟩=Y gv/\(gv=.slice gb len cap))/\len<=1000000/\
  ((len<=j/\Calls prog 216 #[aC k,aC fb] w λe w'=>∃ b,e=.returned (.bool b)/\(b=I->∃ m',m'<m/\Jm m' w')/\(b=J->R (.returned (.int .i64 0)) w'))\/
   (j<len/\∃g c,gb=Y ⟨g,0,X⟩/\w.cell? ⟨g,j,X⟩=Y (.int .i64 c)/\R (.returned (.int .i64 c)) w))
theorem aJa {i p:Nat}{Jm:Nat->World->Prop}{r:Nat}(P:p<=1000000)(n:Fl k i p R Jm)(l:Jm r v):Calls prog 180 #[aC k,.int .i64 p,aC i] v R:=by
 have s:=hid n;have h:=hid l;clear n l;unfold aC
 go_in
 go_wp2_with fail
 go_loopg [] r (λA wr=>Jm A wr)
 case atStart=>exact h.out
 case round=>
  obtain⟨N,len,x,⟨gv,L,y⟩,S,f⟩:=s.out.ex _ _ hrel;subst y;have F:=hid hrel;clear hrel h
  rcases f with⟨B,hc⟩|⟨C,g,c,rfl,M,z⟩
  .have HC:=hid hc;clear hc
   have n1:((len:Int)<=(p:Int)):=O
   go_wp2_with fail
   refine(HC.out).mono ?_;rintro e T⟨b,rfl,a,d⟩
   cases b with
   |true=>
    obtain⟨D,k1,k2⟩:=a rfl;have t:=hid k1;have u:=hid k2;clear k1 k2 a d
    go_wp2_with fail
    go_roundg D
    case measure=>exact t.out
    case rel=>exact u.out
   |false=>
    have q:=hid (d rfl);clear a d
    go_wp2_with fail
    exact q.out
  .have o:=hid z
   go_wp2_with fail
   exact o.out
section
variable {w w':World} {b0 fb:Nat} {own own':Nat->Option Own} {at1 at2:NN} {D:NU} {i:Nat} {n n':Nd} {s:Rf.St} {c:Nat}
theorem Yh {N:Nat}(a:N<=10000000*k){n:Int}(h:n.natAbs<2^N):Bits k n:=u9 h (Nat.pow_le_pow_right E3 a)
variable {b p1 p2:Int}
theorem nU {d f g e j:Int}{l:List Rf.V}(k:Inv s.nodes c)(o:s.nodes[i]?=Y n)(m:Rf.corners s.nodes n=Y l)(hc:Pg.fJ l [(d,b),(p1,f),(p2,g),(e,j)]):∀z∈[d,b,p1,f,p2,g,e,j],Bits 10 z:=by
 have h:=hc.bits (Rf.aFH k (k.at' i n o) m)
 have p:∀z:Int,z.natAbs<2^70000000->Bits 10 z:=λz a=>Yh E3 a
 have q:=h (d,b) E4;have r:=h (p1,f) E4;have t:=h (p2,g) E4;have u:=h (e,j) E4;intro z a;simp at a;grind
theorem Xn (o:XW):One (gC at1 o):=by cases o<;>rfl
variable {gv:Value}
theorem fW.one {out:LB}(h:fW w b0 own i out gv):One gv:=by
 rcases h with⟨rfl,_⟩|⟨g,a,rest,rfl,_⟩<;>rfl
variable {mt:Int}
theorem Blk.Ug {d l f e g:Int}{c:Value}(h:Blk w b0 own at1 i n d b p1 l p2 f e g mt gv c):One gv/\One c:=by
 refine⟨h.Gq.one,?_⟩
 by_cases a:n.t=[]
 .obtain⟨_,j,rfl,_⟩:=h.fE a;rfl
 .rw[h.qN a];rfl
theorem NodeAt.arg {x:LB}{m:Bool}{n t l pl:Int}{lp rp C a:Value}(h:NodeAt w k x m n mt t l pl lp rp gv C a)(h8:x.length=8)(b:∀z∈x,Bits 10 z)(o1:One lp)(o2:One rp)(o3:One gv)(o4:One C)(o5:One a):iF w (Y (k,m)) (aC k):=by
 have⟨xs,h1,h2⟩:=h.ex;have f:=pW x xs h2;refine⟨rfl,xs++[C,.int .i64 mt,lp,.int .i64 t,rp,.int .i64 l,gv,.int .i64 n,a,.int .i64 pl],by simpa using h1,by simp;omega,?_⟩;have d:=Ql (φ:=λ_=>X) (ν:=x.map λz=>(z,10)) (qA x xs 0 _ h2 b λj z e=>by rw[y8,p8,e];rfl);intro y hy;rw[List.mem_append]at hy
 rcases hy with hy|hy
 .exact d y hy
 .simp at hy
  rcases hy with rfl|rfl|rfl|rfl|rfl|rfl|rfl|rfl|rfl|rfl<;>first|assumption|rfl
def sgO (ns:List Nd)(o:XW):Option Bool:=o.map λa=>match ns[a]? with|some x=>!x.pos|none=>J
def yX (ns:List Nd)(at':NN)(o:XW):Option (Nat×Bool):=o.map λa=>(at' a,match ns[a]? with|some x=>!x.pos|none=>J)
theorem Yg (ns:List Nd)(at':NN)(o:XW):(yX ns at' o).map (·.2)=sgO ns o:=by cases o<;>rfl
variable {T:XW}
theorem Net.Iz (h:Net w b0 own at1 fb s)(d:Inv s.nodes c)(g:∀a,T=Y a->a<s.nodes.length):iF w (yX s.nodes at1 T) (gC at1 T):=by
 cases T with
 |none=>rfl
 |some a=>
  have f:=g a rfl;have b:=p5 f;have⟨p0,q0,p1,q1,p2,q2,p3,q3,mt,gv,cv,hb,l,hl1,hl2⟩:=(h.nd a _ b).ex;have⟨o1,o2⟩:=hb.Ug
  have e:yX s.nodes at1 (Y a)=Y (at1 a,!(s.nodes[a]).pos):=by unfold yX;simp[b]
  rw[e];exact hb.nd.arg rfl (nU d b hl1 hl2) (Xn _) (Xn _) o1 o2 rfl
theorem aUH (b:cC s.nodes c i n):∀a,lArg n=Y a->a<s.nodes.length:=by
 intro a h;unfold lArg at h;split at h
 .exact(b.arg 0 a h).1
 .cases h
theorem aVd (b:cC s.nodes c i n):∀a,rArg n=Y a->a<s.nodes.length:=by
 intro a h;unfold rArg at h;split at h
 .exact(b.arg 1 a h).1
 .split at h
  .exact(b.arg 0 a h).1
  .cases h
structure Seen (w:World) (b0:Nat) (own:Nat->Option Own) (at1:NN) (ns:List Nd) (i:Nat) (n:Nd) (p0 q0 p1 q1 p2 q2 p3 q3 mt:Int) (gv cv:Value) (l:List Rf.V) (g:Option (Nat×Nat)) (cc:XW):Prop where
 blk:Blk w b0 own at1 i n p0 q0 p1 q1 p2 q2 p3 q3 mt gv cv
 Jc:Rf.corners ns n=Y l
 Ph:Pg.fJ l [(p0,q0),(p1,q1),(p2,q2),(p3,q3)]
 bits:∀z∈[p0,q0,p1,q1,p2,q2,p3,q3],Bits 10 z
 la:iF w (yX ns at1 (lArg n)) (gC at1 (lArg n))
 ra:iF w (yX ns at1 (rArg n)) (gC at1 (rArg n))
 gat:GivAt w g gv
 bBz:(g.map (·.2)).getD 0=n.out.length
 cat:ExtAt w 276 cc cv
theorem Net.seen (h:Net w b0 own at1 fb s)(e:Inv s.nodes c)(m:s.nodes[i]?=Y n):∃o q p1 r p2 u p v mt gv d l g a,Seen w b0 own at1 s.nodes i n o q p1 r p2 u p v mt gv d l g a:=by
 have⟨o,q,p1,r,p2,u,p,v,mt,gv,d,hb,l,hl1,hl2⟩:=(h.nd i n m).ex;have x:=e.at' i n m
 obtain⟨g,A,k⟩:∃g,GivAt w g gv/\(g.map (·.2)).getD 0=n.out.length:=by
  rcases hb.Gq with⟨rfl,b⟩|⟨g,f,rest,rfl,b,B,C,F,L⟩
  .exact⟨X,rfl,by rw[b];rfl⟩
  .exact⟨Y (g,n.out.length),⟨f,rfl,_,b⟩,rfl⟩
 obtain⟨a,j⟩:∃a,ExtAt w 276 a d:=by
  by_cases y:n.t=[]
  .obtain⟨_,z,rfl,b⟩:=hb.fE y;exact⟨Y z,rfl,b.blk⟩
  .exact⟨X,hb.qN y⟩
 exact⟨o,q,p1,r,p2,u,p,v,mt,gv,d,l,g,a,hb,hl1,hl2,nU e m hl1 hl2,h.Iz e (aUH x),h.Iz e (aVd x),A,k,j⟩
theorem aSH (l:cC s.nodes c i n):(eA (sgO s.nodes (lArg n)) (kX n)||eA (sgO s.nodes (rArg n)) (jU n))=Rf.waits s.nodes n.args n.read:=by
 have q:∀a,a∈n.args->∃x,s.nodes[a]?=Y x:=by
  intro a d;have⟨j,hj,e⟩:=o9 d;exact⟨_,p5 (l.arg j a (by rw[p5 hj,e])).1⟩
 have g:∀(a r:Nat) (x:Nd),s.nodes[a]?=Y x->eA (sgO s.nodes (Y a)) (r:Int)=(!x.pos&&r==0):=by
  unfold sgO eA;grind
 cases l.shp with
 |fE f d _=>
  unfold lArg rArg kX jU;rw[f,d];rfl
 |iL v f d _=>
  unfold lArg rArg kX jU;rw[f,d];rfl
 |qO v u a f d=>
  obtain⟨r,h⟩:∃r,n.read=[r]:=List.length_eq_one_iff.1 (by rw[l.len,d];rfl);have⟨x,e⟩:=q a (by rw[d];simp)
  have m:lArg n=X:=by unfold lArg;rw[f];rfl
  have o:rArg n=Y a:=by unfold rArg;rw[f,d];rfl
  have p:jU n=r:=by unfold jU;rw[f,h];rfl
  rw[m,o,p,g a r x e,d,h];simp[sgO,eA,Rf.waits,e]
 |bin a b v u x y f d=>
  obtain⟨r,k,h⟩:∃r k,n.read=[r,k]:=by
   have:=l.len;rw[d]at this
   match hh:n.read,this with
   | [r,k],_=>exact⟨r,k,rfl⟩
  have⟨x1,e1⟩:=q a (by rw[d];simp);have⟨x2,e2⟩:=q b (by rw[d];simp)
  have m:lArg n=Y a:=by unfold lArg;rw[f,d];rfl
  have o:rArg n=Y b:=by unfold rArg;rw[f,d];rfl
  have p:kX n=r:=by unfold kX;rw[f,h];rfl
  have t:jU n=k:=by unfold jU;rw[f,h];rfl
  rw[m,o,p,t,g a r x1 e1,g b k x2 e2,d,h];simp[Rf.waits,e1,e2]
variable {l:List Rf.V}{g:Option (Nat×Nat)}
theorem Seen.next {k p q m r:Int}{a:Value}(h:Seen w b0 own at1 s.nodes i n k b p1 p p2 q m r mt gv a l g T)(d:cC s.nodes c i n){o:Option Int}(j:Rf.next s.nodes n=Y o):Calls prog 237 #[aC (at1 i)] w λe w'=>e=.returned (.int .i64 (eX o))/\Chg w w' []:=by
 refine(aMP h.blk.nd h.bits h.la h.ra h.gat h.cat (nn:=X) rfl).mono ?_;rintro e w'⟨rfl,f⟩;refine⟨?_,Chg.cQ f⟩;congr 2;rw[Yg,Yg];exact sV h.Jc h.Ph E4 h.bBz (aSH d) j
theorem aIr {w:Nat}{r:Nat}(b:n.args[w]?=T)(e:T=X->r=0)(d:∀a,T=Y a->n.read[w]?=Y r/\∃x,s.nodes[a]?=Y x):Rf.digits s.nodes n w=Y (xD (sgO s.nodes T) r):=by
 unfold Rf.digits
 cases T with
 |none=>
  rw[if_neg (by have:=r7.1 b;omega)];rfl
 |some a=>
  have⟨g1,x,g2⟩:=d a rfl;rw[if_pos (q9.1 b).1,b];simp only[s7,g2,g1,r9,sgO,xD]
  cases x.pos<;>simp
theorem Seen.reads {W q0 q1 q2 p3 q3:Int}{R:Value}(h:Seen w b0 own at1 s.nodes i n W q0 p1 q1 p2 q2 p3 q3 mt gv R l g T)(q:cC s.nodes c i n){P:Nat}(F:Rf.side s.nodes n=Y P):Calls prog 248 #[aC (at1 i)] w λe w'=>e=.returned (.bool (decide (n.t.length=4/\P=0)))/\Chg w w' []:=by
 refine(aKh h.blk.nd h.bits h.la h.ra h.gat h.cat (nn:=X) rfl).mono ?_;rintro e w'⟨rfl,S⟩;refine⟨?_,Chg.cQ S⟩;rw[Yg,Yg,show(X:XW).isSome=J from rfl]
 by_cases d:n.t.length=4
 .have M:∀a,a∈n.args->∃x,s.nodes[a]?=Y x:=by
   intro a o;have⟨j,hj,e⟩:=o9 o;exact⟨_,p5 (q.arg j a (by rw[p5 hj,e])).1⟩
  have z:lArg n=n.args[0]?:=by unfold lArg;rw[if_pos d]
  have U:rArg n=n.args[1]?:=by unfold rArg;rw[if_pos d]
  have A:kX n=n.read.getD 0 0:=by unfold kX;rw[if_pos d]
  have B:jU n=n.read.getD 1 0:=by unfold jU;rw[if_pos d]
  have L:∀j,n.read.getD j 0<=1000000:=by
   intro j;rw[r8]
   cases e:n.read[j]? with
   |none=>simp
   |some r=>have:=q.jL r (p6 e);simp;omega
  have m:∀(j a:Nat),n.args[j]?=Y a->n.read[j]?=Y (n.read.getD j 0):=by
   intro j a e;rw[r8,p5 (by rw[q.len];exact((q9.1 e).1))];rfl
  obtain⟨a0,k⟩:∃a0,n.args[0]?=Y a0:=by
   cases q.shp with
   |fE p o _=>rw[p]at d;simp at d
   |iL v p o _=>rw[p]at d;simp at d
   |qO v u a p o=>rw[p]at d;simp at d
   |bin a b v u x y p o=>exact⟨a,by rw[o];rfl⟩
  have f:n.args[1]?=X->n.read.getD 1 0=0:=by
   intro e;have:=r7.1 e;rw[r8,r7.2 (by rw[q.len];exact this)];rfl
  have d0:=aIr k (λe=>by cases e) λa e=>⟨m 0 a0 k,M a (by cases e;exact p6 k)⟩
  have C:∃N,sgO s.nodes (Y a0)=Y N:=⟨_,rfl⟩
  have⟨N,hls⟩:=C;rw[z,U,A,B,k,hls];rw[hls]at d0;rw[aR0 d h.Jc (Pg.aIl d h.Jc) h.Ph (L 0) (L 1) ?_ d0 (aIr rfl f λa e=>⟨m 1 a e,M a (p6 e)⟩) F]
  .simp[d]
  .intro e;refine f ?_
   cases e2:n.args[1]? with
   |none=>rfl
   |some a=>rw[e2]at e;simp[sgO]at e
 .have z:lArg n=X:=by unfold lArg;rw[if_neg d]
  rw[z];simp[d,sgO,oH]
end
noncomputable def lV:List Int->List Int
 | [a,b,c,d,e,f,g,h]=>let t:=tw8 a b c d e f g h
  [hv t a,hv t b,hv t c,hv t d,hv t e,hv t f,hv t g,hv t h]
 |_=>[]
noncomputable def lJ (cd p0 q0 p1 q1 p2 q2 p3 q3:Int):LB:=[hX cd*p0-gY cd*q0,gX cd*q0-gZ cd*p0,hX cd*p1-gY cd*q1,gX cd*q1-gZ cd*p1,hX cd*p2-gY cd*q2,gX cd*q2-gZ cd*p2,hX cd*p3-gY cd*q3,gX cd*q3-gZ cd*p3]
section
variable (p0 q0 p1 q1 p2 q2 p3 q3:Int) (hs:Bool) (uns mt lr rr pl c cd:Int) (lp rp cst nst gv gv2:Value)
def mP (a:List AT):AS:=sW [p0,q0,p1,q1,p2,q2,p3,q3] hs uns mt lr rr pl c (.lit lp) (.lit rp) (.lit cst) (.lit nst) (.lit gv) [] a
noncomputable def Tk:AS:=⟨slot [(27,P0),(31,litT gv),(33,.val (.one (.slc 19 0 1 1)))] 0 37,[(0,zK hs uns mt lr rr pl (.lit lp) (.lit rp) (.lit cst) (.lit nst) (.lit gv)),(6,Ah (IntKind.i64.wrap (c-1))),(19,⟨[.sint .i64 cd],105,I,I,I⟩)],20,(lV (lJ cd p0 q0 p1 q1 p2 q2 p3 q3)).map λz=>(z,19),[6,0]⟩
theorem aWC:(run Z (aE tN) bW (aL Z (aE tN)) (qX (aI 237)) 400 [.code (aG f216),.top f216] (mP p0 q0 p1 q1 p2 q2 p3 q3 hs uns mt lr rr pl c lp rp cst nst gv (sY 35))).bind (fU (iA [0,6] [] 7 []) (iA [0,6] [0,1,6] 7 []))
  = Y (.stp (eV (aI 237) f216) (mP p0 q0 p1 q1 p2 q2 p3 q3 hs uns mt lr rr pl c lp rp cst nst gv (slot [(0,P0),(1,P6),(6,P0)] 0 37))):=E0
theorem aWD:(run Z (aE tN) bW (aL Z (aE tN)) (qX (λo=>aI 238 o||tQ o)) 400 (gH (aI 237) f216) (mP p0 q0 p1 q1 p2 q2 p3 q3 hs uns mt lr rr pl c lp rp cst nst gv (slot [(0,P0),(1,P6),(7,dU cd)] 0 37))).bind (fU (iA [0,6] [] 7 []) (Mm [0,6,19] [27,31,33] 20 [0,6] [10,11] 7))
  = Y (.br (decide (cd=0)) (.stp (eV (aI 238) f216) (mP p0 q0 p1 q1 p2 q2 p3 q3 hs uns mt lr rr pl c lp rp cst nst gv (slot [(10,P0),(11,P6)] 0 37))) (.br (decide (c<1)) (.ret (.val (.one (.bool J))) (mP p0 q0 p1 q1 p2 q2 p3 q3 hs uns mt lr rr pl c lp rp cst nst gv (slot [] 0 37))) (.stp (eV tQ f216) (Tk p0 q0 p1 q1 p2 q2 p3 q3 hs uns mt lr rr pl c cd lp rp cst nst gv)))):=E0
theorem aWE:(run Z (aE tN) bW (aL Z (aE tN)) (λ_=>J) 400 (gH tQ f216) (mP p0 q0 p1 q1 p2 q2 p3 q3 hs uns mt lr rr pl c lp rp cst nst gv (slot [(27,P0),(34,litT gv2)] 0 37))).bind (fU (iA [0,6] [] 7 []) (iA [0,6] [] 7 []))
  = Y (.ret (.val (.one (.bool I))) ⟨slot [] 0 37,[(0,zK hs uns mt lr rr pl (.lit lp) (.lit rp) (.lit cst) (.lit nst) (.lit gv2)),(6,Ah c)],7,[(p0,10),(q0,10),(p1,10),(q1,10),(p2,10),(q2,10),(p3,10),(q3,10)],[0]⟩):=E0
theorem aWF (b:Bool):(run Z (aE tN) bW (aL Z (aE tN)) (λ_=>J) 400 (gH (aI 238) f216) ⟨slot [(12,.val (.one (.sbool b)))] 0 37,[],0,[],[]⟩).bind (fU (iA [] [] 0 []) (iA [] [] 0 []))
  = Y (.ret (.val (.one (.sbool b))) ⟨slot [] 0 37,[],0,[],[]⟩):=E0
end
variable {y:NU}
theorem vD {fb:Nat}(a:y.contains 0=I)(d:y.contains 6=I):∀b x,phW k fb (λ_=>X) b=Y x->y.contains b=I:=by
 intro b x h;unfold phW at h;grind
variable {q:LI}
theorem vB {w w':World}{o:LI}{s:AS}(d:RepW Z w q o s w')(hd:s.dirty=[]):Chg w w' []:=⟨d.on,λj e _=>d.low j e λb a=>by rw[hd]at a;cases a⟩
theorem Xs {w:World}(a:List AT):RepW Z w (λ_=>X) (λ_=>X) ⟨a,[],0,[],[]⟩ w:=
 aPY rfl (λb B h=>by simp[look]at h) (λb e B d k o f h=>by simp[look]at h) (λ_ _=>rfl) (λb k o h=>by cases h)
structure Pos2 (w:World) (k fb:Nat) (zs:LB) (hs:Bool) (uns mt lr rr pl c:Int) (lp rp gv cv nv:Value):Prop where
 nd:NodeAt w k zs hs uns mt lr rr pl lp rp gv cv nv
 fu:w.heap[fb]?=Y (.cells #[.int .i64 c] 224 (0,0))
 bits:∀z∈zs,Bits 10 z
 h8:zs.length=8
 o1:One lp
 o2:One rp
 o3:One gv
 o4:One cv
 o5:One nv
section
variable {w w':World} {k fb:Nat} {zs:LB} {hs:Bool} {uns mt lr rr pl c:Int} {lp rp gv cv nv:Value}
theorem Pos2.rep (h:Pos2 w k fb zs hs uns mt lr rr pl c lp rp gv cv nv)(a:List AT):RepW Z w (phW k fb λ_=>X) (phW k fb λ_=>X) (sW zs hs uns mt lr rr pl c (.lit lp) (.lit rp) (.lit cv) (.lit nv) (.lit gv) [] a) w:=
 aTq (lpC:=.lit lp) (rpC:=.lit rp) (gvC:=.lit gv) (cvC:=.lit cv) (nvC:=.lit nv) h.nd h.h8 h.bits h.fu ⟨rfl,h.o1⟩ ⟨rfl,h.o2⟩ ⟨rfl,h.o3⟩ ⟨rfl,h.o4⟩ ⟨rfl,h.o5⟩ (λb B e=>by simp[look]at e) (λb d o e=>by cases e) a
theorem Pos2.keep (h:Pos2 w k fb zs hs uns mt lr rr pl c lp rp gv cv nv)(hc:Chg w w' []):Pos2 w' k fb zs hs uns mt lr rr pl c lp rp gv cv nv:=
 ⟨h.nd.keep hc.on (hc.low _ h.nd.lt E4),hc.at h.fu E4,h.bits,h.h8,h.o1,h.o2,h.o3,h.o4,h.o5⟩
theorem Pos2.out (h:Pos2 w k fb zs hs uns mt lr rr pl c lp rp gv cv nv){s:AS}(r:RepW Z w (phW k fb λ_=>X) q s w'){zs':LB}{hs':Bool}{uns' mt' lr' rr' pl' c':Int}{lp' rp' gv' cv' nv':Value}(n:look s.boxes 0=Y (zK hs' uns' mt' lr' rr' pl' (.lit lp') (.lit rp') (.lit cv') (.lit nv') (.lit gv')))(o:look s.boxes 6=Y (Ah c'))(h8:zs'.length=8)(t:∀(j:Nat) (z:Int),zs'[j]?=Y z->∃b,s.nums[j]?=Y (z,b))(p:∀z∈zs',Bits 10 z):Pos2 w' k fb zs' hs' uns' mt' lr' rr' pl' c' lp' rp' gv' cv' nv':=by
 obtain⟨⟨u,x,gv2,a,v,d,⟨rfl,e⟩,⟨rfl,f⟩,⟨rfl,g⟩,⟨rfl,i⟩,⟨rfl,l⟩⟩,m⟩:=aTp (ns:=[]) r n o (h.nd.shape h.h8) (aGw h.fu) h8 t;exact⟨d,m,p,h8,e,f,g,i,l⟩
end
theorem Rk {zs:LB}{w:Nat}:∀(j:Nat) (z:Int),zs[j]?=Y z->∃b,(zs.map λz=>(z,w))[j]?=Y (z,b):=λj z h=>⟨w,by rw[p8,h];rfl⟩
variable {w:World}{e:TypeId}{a:PH}{T:XW}
theorem RowOf.keep {w':World}{v:Value}{D:NU}(h:RowOf w e a v T)(hc:Chg w w' D)(n:∀b,T=Y b->b∉D):RowOf w' e a v T:=by
 rcases h with h|⟨b,d,rest,f,i,j,l,m⟩
 .exact Or.inl h
 .exact A5 ⟨b,d,rest,f,i,hc.at j (n b f),l,m⟩
theorem RowOf.ty {z:Value}{b:Nat}(h:RowOf w e a z (Y b)):∃cs:PH,w.heap[b]?=Y (.cells cs.toArray e (0,0)):=by
 rcases h with⟨_,_,e⟩|⟨f,d,rest,g,i,j,l,m⟩
 .cases e
 .grind
theorem RowOf.one {z:Value}(h:RowOf w e a z T):One z:=by
 rcases h with⟨rfl,_⟩|⟨d,b,rest,f,rfl,i,j,l⟩<;>rfl
theorem aLX:∃i d,Z.P.info? 105=Y i/\i.bytes<=1000000/\(∀w,(zeroValue 105).run Z.P w=.ok d w)/\d.cells.size=1:=by
 have h:(Z.P.info? 105).map (λi=>(i.bytes,i.zero))=Y (8,Y (.int .i64 0)):=E0
 obtain⟨i,b,a⟩:=s8.1 h;simp at a;obtain⟨e,f⟩:=a;exact⟨i,.int .i64 0,b,by rw[e];decide,λw=>by simp[zeroValue,typeInfo,b,f],rfl⟩
variable {c:Int}
theorem aMC {fb:Nat}{p0 q0 p1 q1 p2 q2 p3 q3:Int}{hs:Bool}{uns mt lr rr pl cd:Int}{lp rp gv cv nv:Value}(h:Pos2 w k fb [p0,q0,p1,q1,p2,q2,p3,q3] hs uns mt lr rr pl c lp rp gv cv nv)(b0:c<=3000)(ab:RowOf w 105 a gv T)(az:a.length<=99999)
  (aj:∀l,Chg w l []->Calls prog 237 #[aC k] l λe w'=>e=.returned (.int .i64 cd)/\Chg l w' [])
  (ai:cd=0->∀l,Chg w l []->Calls prog 238 #[aC k,aC fb] l λe w'=>∃b,e=.returned (.bool b)/\∀w2,Chg w' w2 []->R (.returned (.bool b)) w2)
  (bf:cd≠0->c<1->∀l,Chg w l []->R (.returned (.bool J)) l)
  (ag:cd≠0->1<=c->∀z∈lV (lJ cd p0 q0 p1 q1 p2 q2 p3 q3),Bits 10 z)
  (a8:cd≠0->1<=c->∀l ad b,Chg w l [k,fb,b]->Pos2 l k fb (lV (lJ cd p0 q0 p1 q1 p2 q2 p3 q3)) hs uns mt lr rr pl (c-1) lp rp ad cv nv->RowOf l 105 (a++[.int .i64 cd]) ad (Y b)->(T=Y b\/w.heap.size<=b)->R (.returned (.bool I)) l):
  Calls prog 216 #[aC k,aC fb] w R:=by
 refine vA (aZ func216 rfl rfl) (φ:=phW k fb λ_=>X) (vs:=[.one (.ptr 0 0),.one (.ptr 6 0)]) (args:=[aC k,aC fb]) (s:=mP p0 q0 p1 q1 p2 q2 p3 q3 hs uns mt lr rr pl c lp rp cv nv gv (sY 35)) E0 ⟨⟨k,0,rfl,rfl⟩,⟨fb,0,rfl,rfl⟩,trivial⟩ (h.rep _) ?_;refine dH (dX lT) Ac (vD rfl rfl) (lS (vD rfl rfl)) (aWC p0 q0 p1 q1 p2 q2 p3 q3 hs uns mt lr rr pl c lp rp cv nv gv) (λ_ _=>False) (λks s=>ks=eV (aI 237) f216/\s=mP p0 q0 p1 q1 p2 q2 p3 q3 hs uns mt lr rr pl c lp rp cv nv gv (slot [(0,P0),(1,P6),(6,P0)] 0 37)) ⟨rfl,rfl⟩ (λ_ _ _ _ _ h=>h.elim) ?_;rintro ks s⟨rfl,rfl⟩;refine⟨E0,λca bk a1 l a6 p=>?_⟩;have c1:=vB p.wd rfl;refine uX (vs:=[.one (.ptr 0 0)]) (dst:=Y 7) (ks2:=gH (aI 237) f216) E0 (aZ func237 rfl rfl).en E0 (a6 bk [] l) p ?_;intro ys am
 match ys,am with
 | [y],⟨q,_⟩=>
 rw[Fs (p.wd.base 0 (k,0) rfl) q];refine(aj l c1).mono ?_;rintro e w2⟨rfl,c2⟩;refine⟨_,rfl,λa9 b1 a7=>?_⟩;have n:=c1.trans c2;have h2:=h.keep n
 have bg:Rep Z w2 (phW k fb λ_=>X) (phW k fb λ_=>X) (mP p0 q0 p1 q1 p2 q2 p3 q3 hs uns mt lr rr pl c lp rp cv nv gv (slot [(0,P0),(1,P6),(7,dU cd)] 0 37)) (a1.put (Y 7) (.int .i64 cd)) w2:=by
  refine qV (kb:=[0,6]) (kt:=[0,1]) (r:=dU cd) p (h2.rep _) E0 ?_ rfl;intro b hb
  have af:b=0\/b=6:=by simpa using hb
  rcases af with rfl|rfl
  .rw[p.wd.base 0 (k,0) rfl];rfl
  .rw[p.wd.base 6 (fb,0) rfl];rfl
 refine dH (dX lT) Ac (vD rfl rfl) (aWV (vD rfl rfl) (vD rfl rfl)) (aWD p0 q0 p1 q1 p2 q2 p3 q3 hs uns mt lr rr pl c cd lp rp cv nv gv)
  (λr s=>r=.val (.one (.bool J))/\s.dirty=[]/\cd≠0/\c<1)
  (λks s=>(cd=0/\ks=eV (aI 238) f216/\s=mP p0 q0 p1 q1 p2 q2 p3 q3 hs uns mt lr rr pl c lp rp cv nv gv (slot [(10,P0),(11,P6)] 0 37))\/(cd≠0/\¬c<1/\ks=eV tQ f216/\s=Tk p0 q0 p1 q1 p2 q2 p3 q3 hs uns mt lr rr pl c cd lp rp cv nv gv))
  ⟨λe=>Or.inl ⟨of_decide_eq_true e,rfl,rfl⟩,λe=>⟨λe2=>⟨rfl,rfl,of_decide_eq_false e,of_decide_eq_true e2⟩,λe2=>A5 ⟨of_decide_eq_false e,of_decide_eq_false e2,rfl,rfl⟩⟩⟩ ?_ ?_ a9 _ _ _ (a7 _ _ _) bg
 .rintro r s W v N⟨rfl,hd,h0,h1⟩ hv _ bi;rw[hv J (Or.inl rfl)];exact bf h0 h1 N (n.trans (vB bi hd))
 .rintro ks s(⟨h0,rfl,rfl⟩|⟨h0,h1,rfl,rfl⟩)
  .refine⟨E0,λba W a3 N F d=>?_⟩;refine uX (vs:=[.one (.ptr 0 0),.one (.ptr 6 0)]) (dst:=Y 12) (ks2:=gH (aI 238) f216) E0 (aZ func238 rfl rfl).en E0 (F W [] N) d ?_;intro ys am
   match ys,am with
   | [y,z],⟨q,hz,_⟩=>
   rw[Fs (d.wd.base 0 (k,0) rfl) q,Fs (d.wd.base 6 (fb,0) rfl) hz];refine(ai h0 N (n.trans (vB d.wd rfl))).mono ?_;rintro e U⟨b,rfl,hR⟩;refine⟨_,rfl,λM be L=>?_⟩;have ak:Rep Z U (λ_=>X) (λ_=>X) ⟨slot [(12,.val (.one (.sbool b)))] 0 37,[],0,[],[]⟩ (a3.put (Y 12) (.bool b)) U:=qV (kb:=[]) (kt:=[]) (dst:=Y 12) (r:=.val (.one (.sbool b))) d (Xs _) E0 (λb hb=>by simp at hb) rfl;refine dH (dX lT) Ac (λb x e=>by cases e) (lS (λb x e=>by cases e)) (aWF b) (λr s=>r=.val (.one (.sbool b))/\s.dirty=[]) (λ_ _=>False) ⟨rfl,rfl⟩ ?_ (λ_ _ h=>h.elim) M _ _ _ (L _ _ _) ak;rintro r s bm v w5⟨rfl,hd⟩ hv _ S;rw[hv b (A5 rfl)];exact hR w5 (vB S hd)
  .refine⟨E0,λba W a3 N F d=>?_⟩
   have av:1<=c:=O
   have hB:=ag h0 av
   have bj:IntKind.i64.wrap (c-1)=c-1:=by
    unfold IntKind.wrap;simp[IntKind.bits,IntKind.signed];omega
   have A:Chg w2 N [k,fb]:=Sd d.wd rfl
   have f:Pos2 N k fb (lV (lJ cd p0 q0 p1 q1 p2 q2 p3 q3)) hs uns mt lr rr pl (c-1) lp rp gv cv nv:=by
    have:=h2.out d.wd (zs':=lV (lJ cd p0 q0 p1 q1 p2 q2 p3 q3)) (hs':=hs) (uns':=uns) (mt':=mt) (lr':=lr) (rr':=rr) (pl':=pl) (c':=IntKind.i64.wrap (c-1)) (lp':=lp) (rp':=rp) (gv':=gv) (cv':=cv) (nv':=nv) rfl rfl rfl Rk hB;rw[bj]at this;exact this
   have ay:∀b,T=Y b->b ∉ [k,fb]:=by
    intro b hb C;subst hb;obtain⟨cs,ax⟩:=ab.ty;simp at C
    rcases C with rfl|rfl
    .obtain⟨ys,q,_⟩:=h.nd.ex;rw[ax]at q;exact absurd (Obj.cells.inj (Option.some.inj q)).2.1 E3
    .have q:=h.fu;rw[ax]at q;exact absurd (Obj.cells.inj (Option.some.inj q)).2.1 E3
   have al:RowOf N 105 a gv T:=(ab.keep n (λ_ _=>by simp)).keep A ay;refine aQ0 (t:=102) (t':=102) (ty:=102) (sv:=litT gv) (xv:=.val (.one (.slc 19 0 1 1))) (dst:=Y 34) (ks2:=gH tQ f216) E0 E0 (F W [] N) d ?_;rintro v1 v2⟨bh,_⟩⟨k',o,bd,e',m,x1,x2,x3,x4,x5⟩;rw[bh];obtain⟨k2,o2,cf,ys,bs,y1,y2,y3,y4⟩:=d.wd.box 19 ⟨[.sint .i64 cd],105,I,I,I⟩ rfl;rw[x1]at y1;cases y1;subst y3
   match ys,y4 with
   | [y],⟨q,_⟩=>
   have q:y=.int .i64 cd:=q;subst q;obtain⟨i,zv,i1,i2,i3,i4⟩:=aLX;obtain⟨v',U,b,a1,a2,au,a4,a5⟩:=aNM (bt:=Z.bt) (P:=Z.P) (t:=102) (t':=102) (ty:=102) (e:=105) rfl rfl E0 i1 i2 i3 i4 E3 al (xv:=v2) (xc:=bd) y2 (by rw[x2];simp) rfl az;refine⟨v',U,a1,λM be L=>?_⟩
   have ah:b ∉ [k,fb]:=by
    rcases au with e|e
    .exact ay b e
    .intro C;simp at C;have l1:=f.nd.lt;have l2:=bL f.fu
     rcases C with rfl|rfl<;>omega
   have B:Chg N U [b]:=⟨a4,λj hj hn=>a5 j hj (by simpa using hn)⟩
   have a0:Pos2 U k fb (lV (lJ cd p0 q0 p1 q1 p2 q2 p3 q3)) hs uns mt lr rr pl (c-1) lp rp gv cv nv:=by
    refine⟨f.nd.keep a4 (B.low _ f.nd.lt ?_),B.at f.fu ?_,f.bits,f.h8,f.o1,f.o2,f.o3,f.o4,f.o5⟩
    .intro C;simp at C;exact ah (by simp[C])
    .intro C;simp at C;exact ah (by simp[C])
   have ak:Rep Z U (phW k fb λ_=>X) (phW k fb λ_=>X) (sW (lV (lJ cd p0 q0 p1 q1 p2 q2 p3 q3)) hs uns mt lr rr pl (c-1) (.lit lp) (.lit rp) (.lit cv) (.lit nv) (.lit gv) [] (slot [(27,P0),(34,litT v')] 0 37)) (a3.put (Y 34) v') U:=by
    refine qV (kb:=[0,6]) (kt:=[27]) (dst:=Y 34) (r:=litT v') d (a0.rep _) E0 ?_ ⟨rfl,a2.one⟩;intro b hb
    have af:b=0\/b=6:=by simpa using hb
    rcases af with rfl|rfl
    .rw[d.wd.base 0 (k,0) rfl];rfl
    .rw[d.wd.base 6 (fb,0) rfl];rfl
   refine dH (dX lT) Ac (vD rfl rfl) (lS (vD rfl rfl)) (aWE _ _ _ _ _ _ _ _ hs uns mt lr rr pl (c-1) lp rp cv nv gv v') (λr s=>r=.val (.one (.bool I))/\s.dirty=[0]/\look s.boxes 0=Y (zK hs uns mt lr rr pl (.lit lp) (.lit rp) (.lit cv) (.lit nv) (.lit v'))/\look s.boxes 6=Y (Ah (c-1))/\s.nums=(lV (lJ cd p0 q0 p1 q1 p2 q2 p3 q3)).map λz=>(z,10)) (λ_ _=>False) ⟨rfl,rfl,rfl,rfl,rfl⟩ ?_ (λ_ _ h=>h.elim) M _ _ _ (L _ _ _) ak;rintro r s bm v w5⟨rfl,hd,l0,l6,ln⟩ hv _ S;rw[hv I (Or.inl rfl)];have aa:Chg U w5 [k,fb]:=Sd S (by rw[hd];rfl)
   have wk:∀{u v:World} {D:NU},Chg u v D->(∀x∈D,x∈[k,fb,b])->Chg u v [k,fb,b]:=λh hh=>h.cJ hh
   refine a8 h0 av w5 v' b ((((wk n E4).trans (wk A E4))).trans ((wk B E4).trans (wk aa E4))) (a0.out S l0 l6 rfl (by rw[ln];exact Rk) hB) (a2.keep aa ?_) ?_
   .intro b' e;cases e;exact ah
   .rcases au with e|e
    .exact Or.inl e
    .exact A5 (A4 (A4 n.on.size A.on.size) e)
noncomputable def wD (a b c d p0 q0 p1 q1 p2 q2 p3 q3:Int):LB:=[p0*a+p2*c,q0*a+q2*c,p1*a+p3*c,q1*a+q3*c,p0*b+p2*d,q0*b+q2*d,p1*b+p3*d,q1*b+q3*d]
noncomputable def lN (a b c d p0 q0 p1 q1 p2 q2 p3 q3:Int):LB:=[p0*a+p1*c,q0*a+q1*c,p0*b+p1*d,q0*b+q1*d,p2*a+p3*c,q2*a+q3*c,p2*b+p3*d,q2*b+q3*d]
def spC (a b c d mt:Int):Spec:=λf _ ν _ _ e=>bif f==256 then (match e with
 | [.one (.ptr 4 0),.one (.sint .i64 n)]=>Y ([(a,2),(b,2),(c,2),(d,2)],.val (.agg (cF I ν.length 4)),[n=mt],X)
 |_=>X)else X
section
variable (p0 q0 p1 q1 p2 q2 p3 q3:Int) (hs:Bool) (uns mt lr rr pl c cd:Int) (lp rp cst nst gv gv2:Value)
noncomputable def wrS (a:LB)(u:Nat)(lr rr mt c:Int)(m:Nat):AS:=⟨slot [] 0 m,[(0,zK hs uns mt lr rr pl (.lit lp) (.lit rp) (.lit cst) (.lit nst) (.lit gv)),(6,Ah c)],7,a.map λz=>(z,u),[0,6,0]⟩
theorem bCb:(run Z (aE tN) bW (aL Z (aE tN)) (qX (aI 133)) 400 [.code (aG f249),.top f249] (mP p0 q0 p1 q1 p2 q2 p3 q3 hs uns mt lr rr pl c lp rp cst nst gv (sY 37))).bind (fU (iA [0,6] [] 7 []) (iA [0,6] [0,1,9,10] 7 []))
  = Y (.stp (eV (aI 133) f249) (mP p0 q0 p1 q1 p2 q2 p3 q3 hs uns mt lr rr pl c lp rp cst nst gv (slot [(0,P0),(1,P6),(9,.val (.agg [.lit lp,.sint .i64 lr])),(10,P6)] 0 39))):=E0
theorem bCc:(run Z (aE tN) bW (aL Z (aE tN)) (λ_=>J) 400 (gH (aI 133) f249) (mP p0 q0 p1 q1 p2 q2 p3 q3 hs uns mt lr rr pl c lp rp cst nst gv (slot [(0,P0),(1,P6),(11,dU cd)] 0 39))).bind (fU (iA [0,6] [] 7 []) (iA [0,6] [] 7 []))
  = Y (.br (decide (cd=0)) (.ret (.val (.one (.bool J))) (mP p0 q0 p1 q1 p2 q2 p3 q3 hs uns mt lr rr pl c lp rp cst nst gv (slot [] 0 39))) (.br (decide (c<1)) (.ret (.val (.one (.bool J))) (mP p0 q0 p1 q1 p2 q2 p3 q3 hs uns mt lr rr pl c lp rp cst nst gv (slot [] 0 39))) (.ret (.val (.one (.bool I))) (wrS hs uns pl lp rp cst nst gv (lV (wD (gX cd) (gY cd) (gZ cd) (hX cd) p0 q0 p1 q1 p2 q2 p3 q3)) 19 (IntKind.i64.wrap (lr+1)) rr mt (IntKind.i64.wrap (c-1)) 39)))):=E0
theorem bCd:(run Z (aE tN) bW (aL Z (aE tN)) (λ_=>J) 400 (gH (aI 133) f249) ⟨slot [(11,.val (.one (.int .i64 0)))] 0 39,[],0,[],[]⟩).bind (fU (iA [] [] 0 []) (iA [] [] 0 []))=Y (.ret (.val (.one (.bool J))) ⟨slot [] 0 39,[],0,[],[]⟩):=E0
theorem bB9 (a b d e:Int):(run Z (gI (spC a b d e mt) (aE tN)) bW (aL Z (gI (spC a b d e mt) (aE tN))) (λ_=>J) 400 [.code (aG f247),.top f247] (sW [p0,q0,p1,q1,p2,q2,p3,q3] hs uns mt lr rr pl c (.lit lp) (.lit rp) (.ptr 4 0) (.lit nst) (.lit gv) [(4,ext [] 276)] (sY 33))).bind (fU (iA [0,6,4] [] 7 []) (iA [0,6,4] [] 7 []))
  = Y (.br (decide (c<1)) (.ret (.val (.one (.bool J))) (sW [p0,q0,p1,q1,p2,q2,p3,q3] hs uns mt lr rr pl c (.lit lp) (.lit rp) (.ptr 4 0) (.lit nst) (.lit gv) [(4,ext [] 276)] (slot [] 0 35))) (.need [mt=mt] (.ret (.val (.one (.bool I))) ⟨slot [] 0 35,[(0,zK hs uns (IntKind.i64.wrap (mt+1)) lr rr pl (.lit lp) (.lit rp) (.ptr 4 0) (.lit nst) (.lit gv)),(6,Ah (IntKind.i64.wrap (c-1))),(4,ext [] 276)],7,(lV (lN a b d e p0 q0 p1 q1 p2 q2 p3 q3)).map λz=>(z,19),[0,6,0]⟩))):=E0
end
theorem aH4 (a:1<=c)(b:c<=3000):IntKind.i64.wrap (c-1)=c-1:=by
 unfold IntKind.wrap;simp[IntKind.bits];omega
theorem aH5 (a:0<=c)(b:c<=1000000):IntKind.i64.wrap (c+1)=c+1:=by
 unfold IntKind.wrap;simp[IntKind.bits];omega
structure Ao (w2:World) (k fb:Nat) (cd:Int) (R:EW) (K:Int->Int->Int->Int->Int->Int->Int->Int->Bool->Int->Int->Int->Int->Int->Int->Value->Value->Value->Value->Value->Prop):Prop where
 none:cd=0->∀w3,Chg w2 w3 []->R (.returned (.bool J)) w3
 some:cd≠0->∃p0 q0 p1 q1 p2 q2 p3 q3 hs uns mt lr rr pl c lp rp gv cv nv,Pos2 w2 k fb [p0,q0,p1,q1,p2,q2,p3,q3] hs uns mt lr rr pl c lp rp gv cv nv/\c<=3000/\0<=lr/\lr<=1000000/\0<=rr/\rr<=1000000/\(c<1->∀w3,Chg w2 w3 []->R (.returned (.bool J)) w3)/\(1<=c->K p0 q0 p1 q1 p2 q2 p3 q3 hs uns mt lr rr pl c lp rp gv cv nv)
section
variable {w:World} {k fb:Nat} {p0 q0 p1 q1 p2 q2 p3 q3:Int} {hs:Bool} {uns mt lr rr pl c:Int} {lp rp gv cv nv:Value} {R:EW}
theorem aGp (h:Pos2 w k fb [p0,q0,p1,q1,p2,q2,p3,q3] hs uns mt lr rr pl c lp rp gv cv nv)
  (C:∀ q,Chg w q []->Calls prog 133 #[.agg #[lp,.int .i64 lr],aC fb] q λe g=>∃ cd,e=.returned (.int .i64 cd)/\
   Ao g k fb cd R λp0 q0 p1 q1 p2 q2 p3 q3 hs uns mt lr rr pl c lp rp gv cv nv=>(∀z∈lV (wD (gX cd) (gY cd) (gZ cd) (hX cd) p0 q0 p1 q1 p2 q2 p3 q3),Bits 10 z)/\∀m,Chg g m [k,fb]->Pos2 m k fb (lV (wD (gX cd) (gY cd) (gZ cd) (hX cd) p0 q0 p1 q1 p2 q2 p3 q3)) hs uns mt (lr+1) rr pl (c-1) lp rp gv cv nv->R (.returned (.bool I)) m):
  Calls prog 249 #[aC k,aC fb] w R:=by
 refine vA (aZ func249 rfl rfl) (φ:=phW k fb λ_=>X) (vs:=[.one (.ptr 0 0),.one (.ptr 6 0)]) (args:=[aC k,aC fb]) (s:=mP p0 q0 p1 q1 p2 q2 p3 q3 hs uns mt lr rr pl c lp rp cv nv gv (sY 37)) E0 ⟨⟨k,0,rfl,rfl⟩,⟨fb,0,rfl,rfl⟩,trivial⟩ (h.rep _) ?_;refine dH (dX lT) Ac (vD rfl rfl) (lS (vD rfl rfl)) (bCb p0 q0 p1 q1 p2 q2 p3 q3 hs uns mt lr rr pl c lp rp cv nv gv) (λ_ _=>False) (λW s=>W=eV (aI 133) f249/\s=mP p0 q0 p1 q1 p2 q2 p3 q3 hs uns mt lr rr pl c lp rp cv nv gv (slot [(0,P0),(1,P6),(9,.val (.agg [.lit lp,.sint .i64 lr])),(10,P6)] 0 39)) ⟨rfl,rfl⟩ (λ_ _ _ _ _ h=>h.elim) ?_;rintro W s⟨rfl,rfl⟩;refine⟨E0,λag P a1 q o a=>?_⟩;refine uX (vs:=[.agg [.lit lp,.sint .i64 lr],.one (.ptr 6 0)]) (dst:=Y 11) (ks2:=gH (aI 133) f249) E0 (aZ func133 rfl rfl).en E0 (o P [] q) a ?_;intro ys L
 match ys,L with
 | [y,y2],⟨⟨zs,hy,hz⟩,F,_⟩=>
 match zs,hz with
 | [z1,z2],⟨M,N,_⟩=>
 rw[Fs (a.wd.base 6 (fb,0) rfl) F,hy,M.1,N];refine(C q (vB a.wd rfl)).mono ?_;rintro e g⟨cd,rfl,U⟩;refine⟨_,rfl,λf ad d=>?_⟩
 by_cases i:cd=0
 .subst i;have j:Rep Z g (λ_=>X) (λ_=>X) ⟨slot [(11,.val (.one (.int .i64 0)))] 0 39,[],0,[],[]⟩ (a1.put (Y 11) (.int .i64 0)) g:=qV (kb:=[]) (kt:=[]) (r:=.val (.one (.int .i64 0))) a (Xs _) E0 (λb t=>by simp at t) rfl;refine dH (dX lT) Ac (λb x e=>by cases e) (lS (λb x e=>by cases e)) bCd (λr s=>r=.val (.one (.bool J))/\s.dirty=[]) (λ_ _=>False) ⟨rfl,rfl⟩ ?_ (λ_ _ h=>h.elim) f _ _ _ (d _ _ _) j;rintro r s an v w5⟨rfl,hd⟩ hv _ D;rw[hv J (Or.inl rfl)];exact U.none rfl w5 (vB D hd)
 .obtain⟨p0,q0,p1,q1,p2,q2,p3,q3,hs,uns,mt,lr,rr,pl,c,lp,rp,gv,cv,nv,T,A,l1,l2,_,_,B,p⟩:=U.some i
  have j:Rep Z g (phW k fb λ_=>X) (phW k fb λ_=>X) (mP p0 q0 p1 q1 p2 q2 p3 q3 hs uns mt lr rr pl c lp rp cv nv gv (slot [(0,P0),(1,P6),(11,dU cd)] 0 39)) (a1.put (Y 11) (.int .i64 cd)) g:=by
   refine qV (kb:=[0,6]) (kt:=[0,1]) (r:=dU cd) a (T.rep _) E0 ?_ rfl;intro b t
   have u:b=0\/b=6:=by simpa using t
   rcases u with rfl|rfl
   .rw[a.wd.base 0 (k,0) rfl];rfl
   .rw[a.wd.base 6 (fb,0) rfl];rfl
  refine dH (dX lT) Ac (vD rfl rfl) (lS (vD rfl rfl)) (bCc p0 q0 p1 q1 p2 q2 p3 q3 hs uns mt lr rr pl c cd lp rp cv nv gv)
   (λr s=>(r=.val (.one (.bool J))/\s.dirty=[]/\c<1)\/(r=.val (.one (.bool I))/\¬c<1/\s=wrS hs uns pl lp rp cv nv gv (lV (wD (gX cd) (gY cd) (gZ cd) (hX cd) p0 q0 p1 q1 p2 q2 p3 q3)) 19 (IntKind.i64.wrap (lr+1)) rr mt (IntKind.i64.wrap (c-1)) 39))
   (λ_ _=>False) ⟨λe=>absurd (of_decide_eq_true e) i,λ_=>⟨λe2=>Or.inl ⟨rfl,rfl,of_decide_eq_true e2⟩,λe2=>A5 ⟨rfl,of_decide_eq_false e2,rfl⟩⟩⟩ ?_ (λ_ _ h=>h.elim) f _ _ _ (d _ _ _) j
  rintro r s am v m(⟨rfl,hd,S⟩|⟨rfl,S,rfl⟩) hv _ l
  .rw[hv J (Or.inl rfl)];exact B S m (vB l hd)
  .rw[hv I (Or.inl rfl)];obtain⟨hB,hR⟩:=p O;have n:Chg g m [k,fb]:=Sd l rfl;have:=T.out l (zs':=lV (wD (gX cd) (gY cd) (gZ cd) (hX cd) p0 q0 p1 q1 p2 q2 p3 q3)) (hs':=hs) (uns':=uns) (mt':=mt) (lr':=IntKind.i64.wrap (lr+1)) (rr':=rr) (pl':=pl) (c':=IntKind.i64.wrap (c-1)) (lp':=lp) (rp':=rp) (gv':=gv) (cv':=cv) (nv':=nv) rfl rfl rfl Rk hB;rw[aH4 O A,aH5 l1 l2]at this;exact hR m n this
end
theorem aXh {u:Nat}{a b d mt:Int}(t:q 4=Y (u,0))(D:∀z∈[a,b,c,d],Bits 2 z)(g:∀W,On Z.bt w W->Calls prog 256 #[aC u,.int .i64 mt] W λe w'=>∃i:PH,e=.returned (.agg i.toArray)/\aP I w' [a,b,c,d] i/\Below W.heap.size W w'):SpecOk Z w q (spC a b c d mt):=by
 intro f U ν id T vs S r p M h;unfold spC at h
 cases v:f==256 with
 |false=>rw[v]at h;cases h
 |true=>
  have:f=256:=by simpa using v
  subst this;refine⟨(aZ func256 rfl rfl).en,λL P o φ N i s _ l F m=>?_⟩;split at h
  .rename_i n;cases h
   match i,m with
   | [x1,x2],⟨B,C,_⟩=>
   rw[Fs (s 4 _ t) B,C,(L (n=mt) E4)];refine(g N l).mono ?_;rintro e w'⟨x,rfl,y,A⟩;refine⟨_,rfl,A,x,rfl,?_⟩
   refine qA [a,b,c,d] x ν.length P y D λj z hz=>?_
   refine o _ _ ?_;rw[r5 O,show ν.length+j-ν.length=j by omega];grind
  .cases h
section
variable {w w':World} {k fb:Nat} {zs:LB} {p0 q0 p1 q1 p2 q2 p3 q3:Int} {hs:Bool} {uns mt lr rr pl c:Int} {lp rp gv cv nv:Value} {R:EW}
theorem Pos2.bCa (h:Pos2 w k fb zs hs uns mt lr rr pl c lp rp gv cv nv){exφ:LI}{ex:List (Nat×bH)}{rpC cvC nvC:AC}(i:relC Z (phW k fb exφ) (zs.map λz=>(z,10)) w rpC rp)(hc:relC Z (phW k fb exφ) (zs.map λz=>(z,10)) w cvC cv)(g:relC Z (phW k fb exφ) (zs.map λz=>(z,10)) w nvC nv)
  (d:∀b B,look ex b=Y B->B.own=J/\B.tip=J/\B.ro=I/\∃a o,phW k fb exφ b=Y (a,o)/\a≠k/\a≠fb/\yJ Z (phW k fb exφ) (zs.map λz=>(z,10)) w a o B.ty B.cs) (e:∀b a o,exφ b=Y (a,o)->a<w.heap.size) (f:List AT):RepW Z w (phW k fb exφ) (phW k fb exφ) (sW zs hs uns mt lr rr pl c (.lit lp) rpC cvC nvC (.lit gv) ex f) w:=
 aTq (lpC:=.lit lp) (gvC:=.lit gv) h.nd h.h8 h.bits h.fu ⟨rfl,h.o1⟩ i ⟨rfl,h.o3⟩ hc g d e f
theorem aW9 (a:y.contains 0=I)(d:y.contains 6=I)(e:∀b x,q b=Y x->y.contains b=I):∀b x,phW k fb q b=Y x->y.contains b=I:=by
 intro b x h;unfold phW at h;grind
def ph1 (i k:Nat):LI:=λb=>if b=i then Y (k,0)else X
theorem Pos2.aYd (h:Pos2 w k fb zs hs uns mt lr rr pl c lp rp gv cv nv){b:Nat}{cs:PH}{ty:TypeId}(f:w.heap[b]?=Y (.cells cs.toArray ty (0,0)))(d:ty≠234)(e:ty≠224):b≠k/\b≠fb:=by
 constructor
 .rintro rfl;obtain⟨g,a,_⟩:=h.nd.ex;grind
 .rintro rfl;have a:=h.fu;grind
theorem aEn (h:Pos2 w k fb [p0,q0,p1,q1,p2,q2,p3,q3] hs uns mt lr rr pl c lp rp gv cv nv){a:Nat}(u:cv=aC a)(m:∃cs:PH,w.heap[a]?=Y (.cells cs.toArray 276 (0,0)))(L:c<=3000)(M:0<=mt)(N:mt<=1000000)
  {n i t l:Int} (hb:∀z∈[n,i,t,l],Bits 2 z) (p:∀W,On Z.bt w W->Calls prog 256 #[aC a,.int .i64 mt] W λe w'=>∃xs:PH,e=.returned (.agg xs.toArray)/\aP I w' [n,i,t,l] xs/\Below W.heap.size W w')
  (P:c<1->∀j,Chg w j []->R (.returned (.bool J)) j)
  (g:1<=c->∀z∈lV (lN n i t l p0 q0 p1 q1 p2 q2 p3 q3),Bits 10 z)
  (C:1<=c->∀j,Chg w j [k,fb]->Pos2 j k fb (lV (lN n i t l p0 q0 p1 q1 p2 q2 p3 q3)) hs uns (mt+1) lr rr pl (c-1) lp rp gv cv nv->R (.returned (.bool I)) j):
  Calls prog 247 #[aC k,aC fb] w R:=by
 obtain⟨cs,q⟩:=m;obtain⟨n1,n2⟩:=h.aYd q E3 E3
 have A:=h.bCa (exφ:=ph1 4 a) (ex:=[(4,ext [] 276)]) (rpC:=.lit rp) (cvC:=.ptr 4 0) (nvC:=.lit nv) ⟨rfl,h.o2⟩ ⟨a,0,rfl,u⟩ ⟨rfl,h.o5⟩ (by
  intro b B hB;have:=qU hB;simp at this;obtain⟨rfl,rfl⟩:=this
  exact⟨rfl,rfl,rfl,a,0,rfl,n1,n2,[],[],cs,q,rfl,trivial⟩) (by
  intro b k' o f;unfold ph1 at f;split at f
  .grind
  .cases f) (sY 33)
 have y:∀b x,phW k fb (ph1 4 a) b=Y x->[0,6,4].contains b=I:=aW9 rfl rfl λb x e=>by
  unfold ph1 at e;grind
 refine vA (aZ func247 rfl rfl) (φ:=phW k fb (ph1 4 a)) (vs:=[.one (.ptr 0 0),.one (.ptr 6 0)]) (args:=[aC k,aC fb]) E0 ⟨⟨k,0,rfl,rfl⟩,⟨fb,0,rfl,rfl⟩,trivial⟩ A ?_
 refine dH (Fp (aXh rfl hb p) (dX lT)) Ac y (lS y) (bB9 p0 q0 p1 q1 p2 q2 p3 q3 hs uns mt lr rr pl c lp rp nv gv n i t l)
  (λr s=>(r=.val (.one (.bool J))/\s.dirty=[]/\c<1)\/(r=.val (.one (.bool I))/\¬c<1/\s.dirty=[0,6,0]/\look s.boxes 0=Y (zK hs uns (IntKind.i64.wrap (mt+1)) lr rr pl (.lit lp) (.lit rp) (.ptr 4 0) (.lit nv) (.lit gv))/\look s.boxes 6=Y (Ah (IntKind.i64.wrap (c-1)))/\s.nums=(lV (lN n i t l p0 q0 p1 q1 p2 q2 p3 q3)).map λz=>(z,19)))
  (λ_ _=>False) ⟨λe=>Or.inl ⟨rfl,rfl,of_decide_eq_true e⟩,λe=>⟨λx hx=>by simp at hx;exact hx,A5 ⟨rfl,of_decide_eq_false e,rfl,rfl,rfl,rfl⟩⟩⟩ ?_ (λ_ _ h=>h.elim)
 rintro r s ar v w3(⟨rfl,hd,h1⟩|⟨rfl,h1,hd,l0,l6,ln⟩) hv _ d
 .rw[hv J (Or.inl rfl)];exact P h1 w3 (vB d hd)
 .rw[hv I (Or.inl rfl)];obtain⟨⟨ao,aq,ai,D,ap,T,⟨e1,g2⟩,⟨e2,g3⟩,⟨e3,g4⟩,⟨k4,o4,S,g5⟩,⟨e5,g6⟩⟩,U⟩:=aTp (ns:=[]) d l0 l6 (h.nd.shape h.h8) (aGw h.fu) rfl (by rw[ln];exact Rk);rw[d.base 4 (a,0) rfl]at S;cases S
  have F:D=cv:=by rw[g5,u];rfl
  rw[e1,e2,e3,e5,F,aH5 M N]at T;rw[aH4 O L]at U;exact C O w3 (Sd d (by rw[hd];rfl)) ⟨T,U,(g O),rfl,h.o1,h.o2,h.o3,h.o4,h.o5⟩
end
end Ab
end Go.Proofs.YtnlddnbfoehboaaGreatDoor
