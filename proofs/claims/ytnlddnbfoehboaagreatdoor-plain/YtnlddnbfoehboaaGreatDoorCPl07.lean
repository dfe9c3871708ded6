import Derived.Test.YtnlddnbfoehboaaGreatDoorCPl05
import Derived.Test.YtnlddnbfoehboaaGreatDoorCPl06
import Derived.Test.YtnlddnbfoehboaaGreatDoorCPl01
import Derived.Test.YtnlddnbfoehboaaGreatDoorCPl00
import Derived.Test.YtnlddnbfoehboaaGreatDoorCPl02
import Derived.LoopN
set_option linter.all false
set_option maxRecDepth 100000
set_option maxHeartbeats 2000000
namespace Go.Proofs.YtnlddnbfoehboaaGreatDoor
open Option renaming some->Y,none->X
open Bool renaming true->I,false->J
open List renaming find?_isSome->j8,mem_map->j9,length_eq_zero_iff->o9,getElem_of_mem->p5,getElem?_eq_getElem->p6,getElem?_append_left->p8,getElem?_eq_some_iff->q8,getElem?_set_self->q9,getElem?_set_ne->r5,getElem?_append_right->r7,getElem_mem->r8
open Int renaming natAbs_mul->r9,ediv_le_self->s7,ediv_nonneg->s8,lt_or_le->u5,mul_le_mul_of_nonneg_left->u6,mul_nonpos_of_nonneg_of_nonpos->u7,lt_trichotomy->u9,ofNat_dvd_left->x8,lt_or_lt_of_ne->y8,mul_ediv_cancel'->z8,ne_of_gt->A0,mul_pos->A4,natAbs_ediv_of_dvd->A5,natAbs_dvd_natAbs->A6,ediv_one->A7
open Option renaming bind_some->A8,map_some->A9,bind_eq_some_iff->B7
open Nat renaming ble->B8,zero_le->B9,pow_add->C0,lt_of_le_of_lt->C3,mul_le_mul->C4,mul_lt_mul_of_pos_left->C5,pow_le_pow_right->C6,gcd->C7,le_refl->C8,le_trans->C9,gcd_dvd_right->D0
open Nm (bl iQ jQ gW)
open Go.Proofs.Tryz
open Go.RowKit
namespace Ab
def Ji (ν:LV):AV->Option (Int×Nat)
 |.one (.dg I i)=>(ν[i]?).bind λa=>bif B8 a.2 100 then Y a else X
 |_=>X
def Md:AV->Option Int
 |.one (.int .i64 n)=>Y n
 |.one (.sint .i64 n)=>Y n
 |_=>X
variable {φ:LI}{v:World}{a:AV}{n:Int}{w:Nat}
theorem Pa {ν F:LV}(e:∀(i:Nat) (x:Int×Nat),ν[i]?=Y x->F[i]?=Y x){x:Value}(h:Ji ν a=Y (n,w))(r:dJ Z φ F v a x):∃b,Lims v b x/\Nm.Good 4294967296 b/\Nm.val 4294967296 b=n.natAbs/\Bits w n/\w<=100/\b.length<=10000000*w:=by
 unfold Ji at h;split at h
 .rename_i i;obtain⟨⟨l,k⟩,j,c⟩:=aK h
  cases d:B8 k 100 with
  |false=>simp only[d]at c;cases c
  |true=>
   simp only[d]at c;cases c;obtain⟨m,n2,f1,⟨b,f2,f3,f⟩,g⟩:=r;rw[e _ _ j]at f1;cases f1;exact⟨b,f2,f3,f,g,Nat.le_of_ble_eq_true d,yV f3 f g⟩
 .cases h
variable {i:LV}
theorem aUA {x:Value}(h:Md a=Y n)(r:dJ Z φ i v a x):x=.int .i64 n:=by
 unfold Md at h;split at h
 .cases h;exact r
 .cases h;exact r
 .cases h
theorem Eh (h:Bits w n):Z.bits w n:=h
def Ps:Spec:=λf _ ν _ e c=>
 bif f==198 then (match c with
  | [a]=>(Ji ν a).map λd=>([],.val (.one (.sint .i64 (bl d.1))),[],X)
  |_=>X)
 else bif f==192 then (match c with
  | [a,b]=>(Ji ν a).bind λx=>(Ji ν b).map λy=>([],.val (.one (.sint .i64 (Nm.cmp (x.1.natAbs:Int) (y.1.natAbs:Int)))),[],X)
  |_=>X)
 else bif f==191 then (match c with
  | [a,b]=>(Ji ν a).bind λx=>(Ji ν b).map λy=>([((x.1.natAbs:Int)*(y.1.natAbs:Int),x.2+y.2)],.val (.one (.dg I ν.length)),[],X)
  |_=>X)
 else bif f==137 then (match c with
  | [.one (.int .u64 n)]=>bif decide (0<=n)&&decide (n<1000000000)then Y ([(n,1)],.val (.one (.dg I ν.length)),[],X)else X
  |_=>X)
 else bif f==199 then (match c with
  | [a,b]=>(Ji ν a).bind λx=>(Md b).map λt=>([((x.1.natAbs:Int)*2^t.toNat,100)],.val (.one (.dg I ν.length)),[0<=t/\t<=900000000/\10000000*x.2+t.toNat<=1000000000],X)
  |_=>X)
 else X
theorem So {b:PH}(h:aD (dJ Z φ i v) [a] b):∃x,b=[x]/\dJ Z φ i v a x:=by
 match b,h with
 | [u],⟨h,_⟩=>exact⟨u,rfl,h⟩
 |_::_::_,⟨_,h⟩=>exact h.elim
theorem aSw {b:AV}{d:PH}(h:aD (dJ Z φ i v) [a,b] d):∃x y,d=[x,y]/\dJ Z φ i v a x/\dJ Z φ i v b y:=by
 match d,h with
 | [u,c],⟨h,g,_⟩=>exact⟨u,c,rfl,h,g⟩
 | [_],⟨_,h⟩=>exact h.elim
 |_::_::_::_,⟨_,_,h⟩=>exact h.elim
theorem aTr (w0:World)(ψ:LI):SpecOk Z w0 ψ Ps:=by
 intro f d ν id bx vs ar r p ap h;unfold Ps at h
 cases R:f==198 with
 |true=>
  have:f=198:=by simpa using R
  subst this;rw[R]at h;simp at h;split at h
  .obtain⟨⟨z,n⟩,e1,e2⟩:=bI h;cases e2;refine⟨(aZ func198 rfl rfl).en,λ_ N a φ w j _ _ _ _ g=>?_⟩;obtain⟨x,rfl,c⟩:=So g;obtain⟨k,q,s,u,F,q5,q6⟩:=Pa (λi x c=>a i x (pV _ _ i x c)) e1 c;refine(aMj w k x q O s).mono ?_;rintro e M⟨rfl,rfl⟩;rw[u,bl_abs];exact⟨_,rfl,Below.refl _ _,rfl⟩
  .cases h
 |false=>
 rw[R]at h;simp at h
 cases S:f==192 with
 |true=>
  have:f=192:=by simpa using S
  subst this;rw[S]at h;simp at h;split at h
  .obtain⟨⟨z,n⟩,e1,e2⟩:=aK h;obtain⟨⟨y,m⟩,A,B⟩:=bI e2;cases B;refine⟨(aZ func192 rfl rfl).en,λ_ N a φ w j _ _ _ _ g=>?_⟩;obtain⟨x,t,rfl,c,ht⟩:=aSw g;obtain⟨k,q,s,u,F,q5,q6⟩:=Pa (λi x c=>a i x (pV _ _ i x c)) e1 c;obtain⟨P,k1,k2,k3,k4,k5,k6⟩:=Pa (λi x c=>a i x (pV _ _ i x c)) A ht;refine(Qe w k P x t q k1 O s k2).mono ?_;rintro e M⟨rfl,o⟩;rw[u,k3];exact⟨_,rfl,o,rfl⟩
  .cases h
 |false=>
 rw[S]at h;simp at h
 cases T:f==191 with
 |true=>
  have:f=191:=by simpa using T
  subst this;rw[T]at h;simp at h;split at h
  .obtain⟨⟨z,n⟩,e1,e2⟩:=aK h;obtain⟨⟨y,m⟩,A,B⟩:=bI e2;cases B;refine⟨(aZ func191 rfl rfl).en,λ_ N a φ w j _ _ _ _ g=>?_⟩;obtain⟨x,t,rfl,c,ht⟩:=aSw g;obtain⟨k,q,s,u,F,q5,q6⟩:=Pa (λi x c=>a i x (pV _ _ i x c)) e1 c;obtain⟨P,k1,k2,k3,k4,k5,k6⟩:=Pa (λi x c=>a i x (pV _ _ i x c)) A ht;refine(aB2 w k P x t q k1 O O s.cP k2.cP).mono ?_;rintro e M⟨v,j,rfl,⟨C,l⟩,D,o⟩;rw[u,k3]at l;refine⟨v,rfl,o,⟨(z.natAbs:Int)*(y.natAbs:Int),n+m,a _ _ E4,⟨j,D.cJ O,C,by rw[l,r9];simp⟩,gG (Qn F) (Qn k4)⟩⟩
  .cases h
 |false=>
 rw[T]at h;simp at h
 cases U:f==137 with
 |true=>
  have:f=137:=by simpa using U
  subst this;rw[U]at h;simp at h;split at h
  .rename_i n
   cases L:(decide (0<=n)&&decide (n<1000000000))with
   |false=>rw[L]at h;cases h
   |true=>
    rw[L]at h;cases h;simp at L;refine⟨(aZ func137 rfl rfl).en,λ_ N a φ w j _ _ _ _ g=>?_⟩;obtain⟨x,rfl,c⟩:=So g;have c:=c;subst c;refine(Vr n w L.1 O).mono ?_;rintro e M⟨v,j,rfl,⟨C,l,_⟩,D,o⟩;exact⟨v,rfl,o,⟨n,1,a _ _ E4,⟨j,D.cJ O,C,by rw[l];omega⟩,(iX O)⟩⟩
  .cases h
 |false=>
 rw[U]at h;simp only[cond_false]at h
 cases W:f==199 with
 |true=>
  have:f=199:=by simpa using W
  subst this;rw[W]at h;simp only[cond_true]at h;split at h
  .obtain⟨⟨z,n⟩,e1,e2⟩:=aK h;obtain⟨t,A,B⟩:=bI e2;cases B;refine⟨(aZ func199 rfl rfl).en,λhp N a φ w j _ _ _ _ g=>?_⟩;obtain⟨x,y,rfl,c,hy⟩:=aSw g;obtain⟨k,q,s,u,F,q5,q6⟩:=Pa (λi x c=>a i x (pV _ _ i x c)) e1 c;have:=aUA A hy;subst this;have hp:=hp.one
   obtain⟨b,rfl⟩:∃b:Nat,t=b:=⟨t.toNat,O⟩
   refine(aDU w k x b q O s.cP O).mono ?_;rintro e M⟨v,j,rfl,⟨C,l⟩,D,o⟩;rw[u]at l;have al:(0:Int)<2^b:=Nm.nF E3 b;have ak:0<=(z.natAbs:Int)*2^b:=Int.mul_nonneg O O
   have e5:((b:Int)).toNat=b:=O
   refine⟨v,rfl,o,⟨(z.natAbs:Int)*2^((b:Int)).toNat,100,a _ _ E4,⟨j,D.cJ (B9 _),C,by rw[l,e5];omega⟩,?_⟩⟩
   have e6:10000000*n+b<=1000000000:=by have:=hp.2.2;exact this
   have ae:Go.Proofs.YtnlddnbfoehboaaGreatDoor.Bits (10000000*n+b) ((z.natAbs:Int)*2^b):=by
    show((z.natAbs:Int)*2^b).natAbs<2^(10000000*n+b);rw[r9,Int.natAbs_pow,C0];exact Nat.mul_lt_mul_of_pos_right F (Nat.pow_pos E3)
   exact Eh (wS ae e6)
  .cases h
 |false=>
  rw[W]at h;cases h
where
 bl_abs (z:Int):bl (z.natAbs:Int)=bl z:=by
  unfold bl
  by_cases h:z=0
  .subst h;rfl
  .rw[if_neg h,if_neg O];simp
variable {z:Value}
theorem Ku (h:iH Z v (kT I w (.ns [n])) z):WhoAt v n z/\Bits w n:=by
 obtain⟨g,rfl,r⟩:=h
 match g,r with
 | [x,y],⟨e,⟨a,b,c,d⟩,f,_⟩=>
  subst e;exact⟨⟨a,y,rfl,b,c,d⟩,f⟩
 |_::_::_::_,⟨_,_,_,h⟩=>exact h.elim
theorem Yk (h:WhoAt v n z)(a:Nat)(f:Bits a n):iH Z v (kT I a (.ns [n])) z:=by
 obtain⟨b,y,rfl,c,d,e⟩:=h;exact⟨[_,y],rfl,rfl,⟨b,c,d,e⟩,f,trivial⟩
structure uR (k:Bool) (At:World->Int->Value->Prop):Prop where
 arg:∀{w:World} {z:Int} {lim:Nat} {v:Value},iH Z w (kT k lim (.ns [z])) v->At w z v/\Bits lim z
 res:∀{w:World} {z:Int} {v:Value},At w z v->∀n,Bits n z->iH Z w (kT k n (.ns [z])) v
theorem kI:uR I WhoAt:=⟨Ku,Yk⟩
theorem aUB {k:IntKind}(h:iH Z v (kT I w (.i k n)) z):z=.int k n:=h.2
variable {a:PH}
theorem aKc {t:VT}(h:aD (iH Z v) [t] a):∃u,a=[u]/\iH Z v t u:=by
 match a,h with
 | [u],⟨h,_⟩=>exact⟨u,rfl,h⟩
 |_::_::_,⟨_,h⟩=>exact h.elim
theorem Sc {t s:VT}(h:aD (iH Z v) [t,s] a):∃u b,a=[u,b]/\iH Z v t u/\iH Z v s b:=by
 match a,h with
 | [u,b],⟨h,g,_⟩=>exact⟨u,b,rfl,h,g⟩
 | [_],⟨_,h⟩=>exact h.elim
 |_::_::_::_,⟨_,_,h⟩=>exact h.elim
def aS:List G->List Prop:=λ_=>[]
def f2 (op:Int->Int->Int):List G->Option RG
 | [.ns [x],.ns [y]]=>Y (.one (.ns [op x y]))
 |_=>X
variable {k:Bool}{W:FuncId}
theorem Ix {At:World->Int->Value->Prop}(A:uR k At){op:Int->Int->Int}{p:List Nat->Nat}(i:dV Z.P W)(g:∀x y n m,Bits n x->Bits m y->Bits (p [n,m]) (op x y))
  (h:∀a x y u v,At a x u->At a y v->Bits w x->Bits w y->Calls Z.P W #[u,v] a λe o=>∃v,e=.returned v/\At o (op x y) v/\Below a.heap.size a o):bD Z W (fI k (f2 op) aS p [w,w]):=by
 refine Ex i ?_ ?_
 .intro t ns out b j q B;unfold f2 at b;split at b
  .rename_i x y;cases b
   match ns,q with
   | [n,m],⟨c,d,_⟩=>
    intro z s;simp at s;subst s;exact g x y n m (c x E4) (d y E4)
  .cases b
 .intro t out b j q a F l;unfold f2 at b;split at b
  .rename_i x y;cases b;obtain⟨u,v,rfl,c,d⟩:=Sc l;refine(h a x y u v (A.arg c).1 (A.arg d).1 (A.arg c).2 (A.arg d).2).mono ?_;rintro e o⟨r,rfl,D,g⟩;exact⟨r,rfl,λn C=>A.res D n (C _ E4),g⟩
  .cases b
def f1 (op:Int->Int):List G->Option RG
 | [.ns [x]]=>Y (.one (.ns [op x]))
 |_=>X
variable {op:Int->Int}
theorem aRm {At:World->Int->Value->Prop}(A:uR k At){m:List Nat->Nat}(g:dV Z.P W)(d:∀x n,Bits n x->Bits (m [n]) (op x))
  (h:∀a x u,At a x u->Bits w x->Calls Z.P W #[u] a λe l=>∃v,e=.returned v/\At l (op x) v/\Below a.heap.size a l):bD Z W (fI k (f1 op) aS m [w]):=by
 refine Ex g ?_ ?_
 .intro q ns out b i o s;unfold f1 at b;split at b
  .rename_i x;cases b
   match ns,o with
   | [n],⟨c,_⟩=>
    intro z p;simp at p;subst p;exact d x n (c x E4)
  .cases b
 .intro q out b i o a B j;unfold f1 at b;split at b
  .rename_i x;cases b;obtain⟨u,rfl,c⟩:=aKc j;refine(h a x u (A.arg c).1 (A.arg c).2).mono ?_;rintro e l⟨r,rfl,y,d⟩;exact⟨r,rfl,λn t=>A.res y n (t _ E4),d⟩
  .cases b
def Pj (op:Int->Int):List G->Option RG
 | [.ns [x]]=>Y (.one (.i .i64 (op x)))
 |_=>X
theorem aOp {At:World->Int->Value->Prop}(A:uR k At)(c:dV Z.P W)
  (h:∀a x u,At a x u->Bits w x->Calls Z.P W #[u] a λe j=>e=.returned (.int .i64 (op x))/\Below a.heap.size a j):bD Z W (fI k (Pj op) aS (λ_=>0) [w]):=by
 refine Ex c ?_ ?_
 .intro l ns out b d o p;unfold Pj at b;split at b
  .cases b;trivial
  .cases b
 .intro l out b d o a q g;unfold Pj at b;split at b
  .rename_i x;cases b;obtain⟨u,rfl,i⟩:=aKc g;refine(h a x u (A.arg i).1 (A.arg i).2).mono ?_;rintro e j⟨rfl,m⟩;exact⟨_,rfl,λn _=>⟨rfl,rfl⟩,m⟩
  .cases b
def Tf (op:Int->Int->Int):List G->Option RG
 | [.ns [x],.ns [y]]=>Y (.one (.i .i64 (op x y)))
 |_=>X
theorem aSZ {At:World->Int->Value->Prop}(A:uR k At){op:Int->Int->Int}(c:dV Z.P W)
  (h:∀a x y u v,At a x u->At a y v->Bits w x->Bits w y->Calls Z.P W #[u,v] a λe l=>e=.returned (.int .i64 (op x y))/\Below a.heap.size a l):bD Z W (fI k (Tf op) aS (λ_=>0) [w,w]):=by
 refine Ex c ?_ ?_
 .intro m ns out b d p q;unfold Tf at b;split at b
  .cases b;trivial
  .cases b
 .intro m out b d p a r g;unfold Tf at b;split at b
  .rename_i x y;cases b;obtain⟨u,v,rfl,i,j⟩:=Sc g;refine(h a x y u v (A.arg i).1 (A.arg j).1 (A.arg i).2 (A.arg j).2).mono ?_;rintro e l⟨rfl,o⟩;exact⟨_,rfl,λn _=>⟨rfl,rfl⟩,o⟩
  .cases b
def Af (op:Int->Int->Int->Int->Int):List G->Option RG
 | [.ns [x],.ns [y],.ns [z],.ns [t]]=>Y (.one (.i .i64 (op x y z t)))
 |_=>X
def fI1:List Int->Option (List Int)
 | [n]=>Y [n]
 |_=>X
theorem aTe {At:World->Int->Value->Prop}(A:uR k At)(g:dV Z.P W)(h:∀n w,n.natAbs<1000000000000000000->Calls Z.P W #[.int .i64 n] w λe l=>∃v,e=.returned v/\At l n v/\Below w.heap.size w l):bD Z W (uQ k fI1):=by
 refine⟨g,λC r p b y w D j=>?_⟩;unfold uQ at b;obtain⟨o,q,s⟩:=aK b;obtain⟨out,a,t⟩:=bI s;cases t;obtain⟨c,d⟩:=aOQ C o D q y j
 match o,a,c,d with
 | [(n,B)],a,c,d=>
  cases a;obtain⟨u,rfl,i⟩:=aKc c;have i:u=.int .i64 n:=i.2;subst i;have m:n.natAbs<1000000000000000000:=d (n,B) E4;refine(h n w m).mono ?_;rintro e l⟨r,rfl,z,x⟩;exact⟨r,rfl,A.res z 1 (iX m),x⟩
 | [],a,_,_=>cases a
 |_::_::_,a,_,_=>cases a
theorem aX4:bD Z 97 (uQ I fI1):=aTe kI (aZ func97 rfl rfl).en λn w a=>aVQ n w O O
def qG (z t:Int):Int:=bif decide (t<1)then z else Nm.half z t.toNat
def xG:List G->Option RG
 | [.ns [z],.i .i64 t]=>Y (.one (.ns [qG z t]))
 |_=>X
def Cv:List G->List Prop
 | [.ns [_],.i .i64 t]=>[1<=t/\t<=1000000000]
 |_=>[]
theorem aUy (z:Int)(n:Nat):(Nm.half z n).natAbs<=z.natAbs:=by
 unfold Nm.half;have h:((z.natAbs:Int)/2^n)<=z.natAbs:=s7 _ O;grind
theorem aRn:bD Z 252 (fI I xG Cv (λns=>ns.headD 0) [100,0]):=by
 refine Ex (aZ func252 rfl rfl).en ?_ ?_
 .intro h ns out a c f l;unfold xG at a;split at a
  .rename_i z t;cases a
   match ns,f with
   | [n,m],⟨b,_⟩=>
    intro y g;simp at g;subst g;have:=b z E4;unfold qG;cases decide (t<1)
    .exact C3 (aUy _ _) this
    .exact this
  .cases a
 .intro h out a c f w q d;unfold xG at a;split at a
  .rename_i z t;cases a;obtain⟨u,v,rfl,b,i⟩:=Sc d;have:=aUB i;subst this;have c:=c.one
   obtain⟨k,rfl⟩:∃k:Nat,t=k:=⟨t.toNat,O⟩
   have e:qG z k=Nm.half z k:=by unfold qG;rw[decide_eq_false O];simp
   rw[e];refine(aMG w z u k (10000000*100) (Ku b).1 (Ku b).2 O O O).mono ?_;rintro e s⟨r,rfl,p,j⟩;exact⟨r,rfl,λm o=>Yk p m (o _ E4),j⟩
  .cases a
def Gl:List G->Option RG
 | [.ns [x],.ns [y]]=>Y (.tup [.ns [x/y],.ns [x%y]])
 |_=>X
def xN:List G->List Prop
 | [.ns [_],.ns [y]]=>[0<y]
 |_=>[]
theorem aUj:bD Z 114 (fI I Gl xN (λns=>ns.foldr max 0+1) [90,90]):=by
 refine Ex (aZ func114 rfl rfl).en ?_ ?_
 .intro s ns out a b d A;unfold Gl at a;split at a
  .rename_i x y;cases a;have l:=b.one
   match ns,d with
   | [n,m],⟨f,i,_⟩=>
    have r:Bits (max n (max m 0)) x:=eJ (f x E4) O;have q:Bits (max n (max m 0)) y:=eJ (i y E4) O;have F:=Int.emod_nonneg x (by omega:y≠0);have o:=Int.emod_lt_of_pos x l
    have C:(x/y).natAbs<=x.natAbs:=by
     rcases Int.le_total 0 x with h|h
     .have a1:=s8 h (Int.le_of_lt l);have p:x/y<=x:=s7 _ h;omega
     .have a1:=Int.ediv_nonpos_of_nonpos_of_neg h O
      have p:x<=x/y:=by
       have:=Int.mul_ediv_add_emod x y
       rcases u5 (x/y) x with c|c
       .exfalso;have c1:y*(x/y)<=y*(x-1):=u6 O O;have c2:(y-1)*x<=0:=u7 O h
        have c3:y*(x-1)=(y-1)*x+x-y:=by grind
        omega
       .exact c
      omega
    intro g d;simp at d
    rcases d with rfl|rfl
    .intro z j;simp at j;subst j;exact Bg r C E4
    .intro z j;simp at j;exact Bg q O E4
  .cases a
 .intro s out a b d w L k;unfold Gl at a;split at a
  .rename_i x y;cases a;obtain⟨u,v,rfl,f,i⟩:=Sc k;refine(aFK w x y u v (10000000*90) (Ku f).1 (Ku i).1 (Ku f).2 (Ku i).2 O b.one).mono ?_;intro e M B;obtain⟨o,D,rfl,k1,k2,t⟩:=B;refine⟨_,rfl,λn b=>⟨[o,D],rfl,Yk k1 n ?_,Yk k2 n ?_,trivial⟩,t⟩
   .exact b (.ns [x/y]) E4 _ E4
   .exact b (.ns [x%y]) E4 _ E4
  .cases a
noncomputable def tW0:List (FuncId×TE):=
 [(138,fI I (f2 (·*·)) aS (λns=>ns.foldr (·+·) 0) [90,90]),(139,fI I (f2 (·+·)) aS (λns=>ns.foldr max 0+1) [90,90]),(197,fI I (f2 (· - ·)) aS (λns=>ns.foldr max 0+1) [90,90]),
  (141,fI I (f1 (λx=>-x)) aS (λns=>ns.headD 0) [90]),(193,fI I (f1 (λx=>(x.natAbs:Int))) aS (λns=>ns.headD 0) [90]),(113,fI I (Pj (λx=>Nm.cmp x 0)) aS (λ_=>0) [100]),
  (162,fI I (Tf Nm.cmp) aS (λ_=>0) [90,90]),(265,fI I (Pj (λx=>(Nm.tz x:Int))) aS (λ_=>0) [90]),(97,uQ I fI1),(252,fI I xG Cv (λns=>ns.headD 0) [100,0]),(114,fI I Gl xN (λns=>ns.foldr max 0+1) [90,90])]
theorem aTy:cK Z tW0:=by
 refine⟨?_,?_,?_,?_,?_,?_,?_,?_,aX4,aRn,aUj,trivial⟩
 .exact Ix kI (aZ func138 rfl rfl).en (λx y n m e f=>by simpa using gG e f) (λw x y u v a b c d=>aNz w x y u v (10000000*90) a b c d E3)
 .exact Ix kI (aZ func139 rfl rfl).en (λx y n m e f=>by simpa using mY (zZ e f).1 (zZ e f).2) (λw x y u v a b c d=>aJu w x y u v (10000000*90) a b c d E3)
 .exact Ix kI (aZ func197 rfl rfl).en (λx y n m e f=>by simpa using aFB (zZ e f).1 (zZ e f).2) (λw x y u v a b c d=>aNv w x y u v (10000000*90) a b c d E3)
 .exact aRm kI (aZ func141 rfl rfl).en (λx n h=>by simpa using yU h) (λw x u h _=>aMd w x u h)
 .exact aRm kI (aZ func193 rfl rfl).en (λx n h=>by simpa using Qn h) (λw x u h _=>aGm w x u h)
 .exact aOp kI (aZ func113 rfl rfl).en (λw x u h _=>aGl w x u h)
 .exact aSZ kI (aZ func162 rfl rfl).en (λw x y u v a b c d=>aJo w x y u v (10000000*90) a b c d E3)
 .exact aOp kI (aZ func265 rfl rfl).en (λw x u h g=>aSx w x u (10000000*90) h g E3)
def Wr (x:Int):Int:=IntKind.i64.wrap x
def Sy (a b c d:Int):Int:=
 bif decide (Wr ((bl a:Int)+(bl b:Int))<Wr (Wr ((bl c:Int)+(bl d:Int))-1))then -1
 else bif decide (Wr ((bl a:Int)+(bl b:Int))>Wr (Wr ((bl c:Int)+(bl d:Int))+1))then 1
 else bif (Nm.cmp (a.natAbs:Int) (c.natAbs:Int)==0)then Nm.cmp (b.natAbs:Int) (d.natAbs:Int)
 else Nm.cmp ((((a.natAbs:Int)*(b.natAbs:Int)).natAbs:Nat):Int) ((((c.natAbs:Int)*(d.natAbs:Int)).natAbs:Nat):Int)
theorem aWn:bD Z 277 (fI I (Af Sy) aS (λ_=>0) [40,40,40,40]):=by
 refine Vb (l:=[]) trivial aTr bO (aZ func277 rfl rfl) ?_ ?_
 .intro a ns out h _ _ _;unfold Af at h;split at h
  .cases h;trivial
  .cases h
 .intro a out h;unfold Af at h;split at h
  .cases h;exact⟨[],E0,λ_ _=>fX⟩
  .cases h
theorem uI {x:Int}(a:-4611686018427387904<=x)(b:x<=4611686018427387904):Wr x=x:=by unfold Wr;rw[IntKind.wrap_i64];omega
theorem aTT (a:n≠0):1<=bl n/\2^(bl n-1)<=n.natAbs/\n.natAbs<2^bl n:=by
 unfold bl;rw[if_neg a]
 have h:n.natAbs≠0:=O
 exact⟨O,by simpa using Nat.log2_self_le h,Nat.lt_log2_self⟩
theorem Zy (h:Bits w n):bl n<=10000000*w:=by
 by_cases a:n=0
 .subst a;simp[bl]
 .obtain⟨c,b,_⟩:=aTT a;have:=(Nat.pow_lt_pow_iff_right E3).1 (C3 b h);omega
theorem aNZ {x b:Int}(f:x≠0)(g:b≠0):2^(bl x+bl b-2)<=x.natAbs*b.natAbs/\x.natAbs*b.natAbs<2^(bl x+bl b):=by
 obtain⟨a1,a,c⟩:=aTT f;obtain⟨b1,d,e⟩:=aTT g;constructor
 .rw[show bl x+bl b-2=(bl x-1)+(bl b-1) by omega,C0];exact C4 a d
 .rw[C0];exact Nat.mul_lt_mul'' c e
theorem aRb {k a b:Nat}(c:0<k):Nm.cmp ((k*a:Nat):Int) ((k*b:Nat):Int)=Nm.cmp (a:Int) (b:Int):=by
 rcases Nat.lt_trichotomy a b with h|h|h
 .have:=C5 h c;rw[iQ O,iQ O]
 .rw[h,jQ rfl,jQ rfl]
 .have:=C5 h c;rw[gW O,gW O]
theorem aSV {a b c d:Int}(n:a≠0)(o:b≠0)(hc:c≠0)(hd:d≠0)(j:Bits 40 a)(k:Bits 40 b)(l:Bits 40 c)(m:Bits 40 d):Sy a b c d=Nm.cmp ((a.natAbs*b.natAbs:Nat):Int) ((c.natAbs*d.natAbs:Nat):Int):=by
 have la:=Zy j;have t:=Zy k;have u:=Zy l;have v:=Zy m;obtain⟨p1,p2⟩:=aNZ n o;obtain⟨w,x⟩:=aNZ hc hd;unfold Sy;have p:Wr ((bl a:Int)+(bl b:Int))=(bl a:Int)+(bl b:Int):=uI O O;have q:Wr ((bl c:Int)+(bl d:Int))=(bl c:Int)+(bl d:Int):=uI O O;have r:Wr ((bl c:Int)+(bl d:Int)-1)=(bl c:Int)+(bl d:Int)-1:=uI O O;have s:Wr ((bl c:Int)+(bl d:Int)+1)=(bl c:Int)+(bl d:Int)+1:=uI O O;rw[p,q,r,s]
 by_cases f:(bl a:Int)+(bl b:Int)<(bl c:Int)+(bl d:Int)-1
 .rw[decide_eq_true f,cond_true];have:2^(bl a+bl b)<=2^(bl c+bl d-2):=C6 E3 O;rw[iQ O]
 .rw[decide_eq_false f,cond_false]
  by_cases g:(bl a:Int)+(bl b:Int)>(bl c:Int)+(bl d:Int)+1
  .rw[decide_eq_true g,cond_true];have:2^(bl c+bl d)<=2^(bl a+bl b-2):=C6 E3 O;rw[gW O]
  .rw[decide_eq_false g,cond_false]
   by_cases i:(a.natAbs:Int)=(c.natAbs:Int)
   .rw[jQ i]
    have e:a.natAbs=c.natAbs:=O
    rw[show((0:Int)==0)=I from rfl,cond_true,e,aRb O]
   .have e:(Nm.cmp (a.natAbs:Int) (c.natAbs:Int)==0)=J:=by
     rcases Int.lt_or_gt_of_ne i with h|h
     .rw[iQ h];decide
     .rw[gW h];decide
    rw[e,cond_false,r9,r9];simp
def cpr (a b c d:Int):Int:=
 bif decide (Wr (Nm.cmp a 0*Nm.cmp b 0)<Wr (Nm.cmp c 0*Nm.cmp d 0))then -1
 else bif decide (Wr (Nm.cmp a 0*Nm.cmp b 0)>Wr (Nm.cmp c 0*Nm.cmp d 0))then 1
 else Wr (Wr (Nm.cmp a 0*Nm.cmp b 0)*Sy a b c d)
theorem aWm:bD Z 266 (fI I (Af cpr) aS (λ_=>0) [40,40,40,40]):=by
 refine mW (l:=(277,fI I (Af Sy) aS (λ_=>0) [40,40,40,40])::tW0) ⟨aWn,aTy⟩ bO (aZ func266 rfl rfl) ?_ ?_
 .intro a ns out h _ _ _;unfold Af at h;split at h
  .cases h;trivial
  .cases h
 .intro a out h;unfold Af at h;split at h
  .cases h;exact⟨[],E0,λ_ _=>fX⟩
  .cases h
theorem aP8 (a b:Int):Wr (Nm.cmp a 0*Nm.cmp b 0)=Nm.cmp (a*b) 0:=by
 have h:∀x:Int,Nm.cmp x 0=x.sign:=λx=>by
  rcases u9 x 0 with h|h|h
  .rw[iQ h,Int.sign_eq_neg_one_of_neg h]
  .rw[jQ h,h];rfl
  .rw[gW h,Int.sign_eq_one_of_pos h]
 have c:∀x:Int,-1<=x.sign/\x.sign<=1:=λx=>by
  grind
 rw[h,h,h,<-Int.sign_mul];have:=c (a*b);exact uI O O
theorem aWl {a b c d:Int}(j:Bits 40 a)(l:Bits 40 b)(m:Bits 40 c)(n:Bits 40 d):cpr a b c d=Nm.cmp (a*b) (c*d):=by
 unfold cpr;rw[aP8,aP8]
 rcases u9 (a*b) 0 with h|h|h<;>rcases u9 (c*d) 0 with g|g|g
 .rw[iQ h,iQ g]
  have f:a≠0:=λe=>by rw[e]at h;simp at h
  have i:b≠0:=λe=>by rw[e]at h;simp at h
  have hc:c≠0:=λe=>by rw[e]at g;simp at g
  have hd:d≠0:=λe=>by rw[e]at g;simp at g
  rw[aSV f i hc hd j l m n,<-r9,<-r9]
  rcases u9 (a*b) (c*d)with k|k|k
  .rw[iQ k,gW O];rfl
  .rw[k,jQ rfl,jQ rfl];rfl
  .rw[gW k,iQ O];rfl
 .rw[iQ h,jQ g,iQ O];rfl
 .rw[iQ h,gW g,iQ O];rfl
 .rw[jQ h,iQ g,gW O];rfl
 .rw[jQ h,jQ g,jQ O];simp[Wr];rfl
 .rw[jQ h,gW g,iQ O];rfl
 .rw[gW h,iQ g,gW O];rfl
 .rw[gW h,jQ g,gW O];rfl
 .rw[gW h,gW g]
  have f:a≠0:=λe=>by rw[e]at h;simp at h
  have i:b≠0:=λe=>by rw[e]at h;simp at h
  have hc:c≠0:=λe=>by rw[e]at g;simp at g
  have hd:d≠0:=λe=>by rw[e]at g;simp at g
  rw[aSV f i hc hd j l m n,<-r9,<-r9]
  rcases u9 (a*b) (c*d)with k|k|k
  .rw[iQ k,iQ O];rfl
  .rw[k,jQ rfl,jQ rfl];rfl
  .rw[gW k,gW O];rfl
def cp (a b c d:Int):Int:=Nm.cmp (a*b) (c*d)
theorem aXK:bD Z 266 (fI I (Af cp) aS (λ_=>0) [40,40,40,40]):=by
 refine aL4 aWm ?_ ?_
 .intro a out h g f;unfold Af at h;split at h
  .rename_i x y z t;cases h;obtain⟨b,c,d,e,_⟩:=f;refine⟨?_,fX⟩;unfold Af;simp only[cp,aWl (b x E4) (c y E4) (d z E4) (e t E4)]
  .cases h
 .intro a ns out h _ _ _;unfold Af at h;split at h
  .cases h;trivial
  .cases h
end Ab
structure Mt where
 a:Int
 b:Int
 c:Int
 d:Int
def Mt.sym (s:Int):Mt:=if s=-1 then⟨1,0,1,2⟩else if s=0 then⟨3,1,1,3⟩else if s=1 then⟨2,1,0,1⟩else if s=43 then⟨1,0,0,1⟩else if s=45 then⟨-1,0,0,1⟩else if s=111 then⟨1,-1,1,1⟩else⟨1,1,-1,1⟩
def Mt.at1 (m:Mt)(p q:Int):Int:=m.a*p+m.b*q
def Mt.at2 (m:Mt)(p q:Int):Int:=m.c*p+m.d*q
def Mt.wW (m:Mt)(p q:Int):Int:=m.d*p+-m.b*q
def Mt.wX (m:Mt)(p q:Int):Int:=m.a*q+-m.c*p
def Mt.mul (x y:Mt):Mt:=⟨x.a*y.a+x.b*y.c,x.a*y.b+x.b*y.d,x.c*y.a+x.d*y.c,x.c*y.b+x.d*y.d⟩
structure cO (n:Nat) (m:Mt):Prop where
 a:Bits n m.a
 b:Bits n m.b
 c:Bits n m.c
 d:Bits n m.d
namespace Nw
def mV (c:Int×Int):Bool:=decide (0<c.1)||decide (0<c.2)
def lH (c:Int×Int):Bool:=decide (c.1<0)||decide (c.2<0)
def fits (cs:List (Int×Int)):Bool:=cs.any mV != cs.any lH
end Nw
namespace Rf
open Nw
abbrev V:=Int×Int
def hZ (m:Mt)(v:V):V:=(m.at1 v.1 v.2,m.at2 v.1 v.2)
def fC (m:Mt)(v:V):V:=(m.wW v.1 v.2,m.wX v.1 v.2)
def one:Mt:=⟨1,0,0,1⟩
inductive Op where
 |none|pi|e|cf
 deriving DecidableEq
structure Nd where
 pos:Bool
 t:List V
 args:List Nat
 read:List Nat
 out:List Int
 told:Mt
 had:List Mt
 op:Op
 k:Nat
 part:Mt
 terms:List Int
def fresh (pos:Bool)(t:List V)(args:NU):Nd:=⟨pos,t,args,args.map (λ_=>0),[],one,[one],.none,0,one,[]⟩
structure St where
 nodes:List Nd
 clock:Int
structure Ok (n:Nd):Prop where
 t:∀v∈n.t,Bits 20000 v.1/\Bits 20000 v.2
 told:cO 20000 n.told
 had:∀m∈n.had,cO 20000 m
 part:cO 100000000 n.part
 read:∀r∈n.read,r<=10000
 out:n.out.length<=10000
 k:n.k<=10000
def ends (ns:List Nd)(n:Nd)(side:Nat):Option (V×V):=
 (n.args[side]?).bind λa=>(ns[a]?).bind λx=>(n.read[side]?).bind λr=>(x.had[r]?).map λm=>(hZ m (1,0),hZ m (0,1))
def bR (t:List V)(x y:V):V:=
 match t with
 | [a,b,c,d]=>(((a.1*(x.1*y.1)+b.1*(x.1*y.2))+c.1*(x.2*y.1))+d.1*(x.2*y.2),((a.2*(x.1*y.1)+b.2*(x.1*y.2))+c.2*(x.2*y.1))+d.2*(x.2*y.2))
 |_=>(0,0)
def bare (ns:List Nd)(n:Nd):Option (List V):=
 match n.t with
 | []=>Y [hZ n.part (1,0),hZ n.part (0,1)]
 | [c]=>Y [c]
 | [c,d]=>(ends ns n 0).map λe=>[hZ ⟨c.1,d.1,c.2,d.2⟩ e.1,hZ ⟨c.1,d.1,c.2,d.2⟩ e.2]
 | [a,b,c,d]=>(ends ns n 0).bind λe=>(if n.args.length=2 then ends ns n 1 else Y ((1,0),(0,1))).map λr=>
   [bR [a,b,c,d] e.1 r.1,bR [a,b,c,d] e.1 r.2,bR [a,b,c,d] e.2 r.1,bR [a,b,c,d] e.2 r.2]
 |_=>X
def corners (ns:List Nd)(n:Nd):Option (List V):=(bare ns n).map (·.map (fC n.told))
def waits (ns:List Nd):List Nat->List Nat->Bool
 |a::b,r::c=>(match ns[a]? with|some x=>!x.pos&&r==0|none=>J)||waits ns b c
 |_,_=>J
def tries (n:Nd):LB:=if n.pos=J/\n.out=[]then [43,45,111,119]else [-1,1,0]
def can (l:List V)(s:Int):Bool:=fits (l.map (fC (Mt.sym s)))
def next (ns:List Nd)(n:Nd):Option (Option Int):=
 if waits ns n.args n.read then Y X else(corners ns n).map λl=>(tries n).find? (can l)
def digits (ns:List Nd)(n:Nd)(side:Nat):Option (Option Nat):=
 if side<n.args.length then
  (n.args[side]?).bind λa=>(ns[a]?).bind λx=>(n.read[side]?).map λr=>if x.pos then Y r else if r=0 then X else Y (r-1)
 else Y (Y 0)
def apart (a b:V):V:=
 if a.1+a.2=0\/b.1+b.2=0 then(0,1)else(((((a.1-a.2)*(b.1+b.2)-(b.1-b.2)*(a.1+a.2)).natAbs:Nat):Int),((((a.1+a.2)*(b.1+b.2)).natAbs:Nat):Int))
def gA (a b:V):V:=if b.1*a.2<=a.1*b.2 then a else b
def wider (e:Int)(l:List V):Int:=
 match l with
 | [a,b,c,d]=>
  let p:=gA (apart a c) (apart b d)
  let q:=gA (apart a b) (apart c d)
  Nm.cmp (e*p.1*q.2) (q.1*p.2)
 |_=>0
def side (ns:List Nd)(n:Nd):XW:=
 if n.t.length<4 then Y 0 else
 (digits ns n 0).bind fun
  |none=>Y 0
  |some a=>(digits ns n 1).bind fun
   |none=>Y 1
   |some b=>(corners ns n).map λl=>
    let c:=if fits l then wider 1 l else 0
    if c=1 then 0 else if c=-1 then 1 else if a<=b then 0 else 1
def fZ (k:Nat):Int:=if k=0 then 2 else if k%3=2 then(((k+1)/3*2:Nat):Int)else 1
def constant (n:Nd)(k:Nat):Option Mt:=
 match n.op with
 |.pi=>Y (if k=0 then⟨0,4,1,1⟩else⟨0,((k*k:Nat):Int),1,((2*k+1:Nat):Int)⟩)
 |.e=>Y ⟨fZ k,1,1,0⟩
 |.cf=>(n.terms[if k=0 then 0 else 1+(k-1)%(n.terms.length-1)]?).map λa=>⟨a,1,1,0⟩
 |.none=>X
inductive Kind where
 |add|sub|mul|div
 deriving DecidableEq
def Kind.tE:Kind->List V
 |.add=>[(0,0),(1,0),(1,0),(0,1)]
 |.sub=>[(0,0),(1,0),(-1,0),(0,1)]
 |.mul=>[(1,0),(0,0),(0,0),(0,1)]
 |.div=>[(0,0),(1,0),(0,1),(0,0)]
def two (kd:Kind)(c d:Bool)(a b:Nat):Nd:=fresh (c&&d&&decide (kd≠.sub)) kd.tE [a,b]
open Classical in
noncomputable def more (ns:List Nd)(n:Nd):Option (List Nd):=if Ok n then Y (ns++[n])else X
open Classical in
noncomputable def put (ns:List Nd)(i:Nat)(n:Nd):Option (List Nd):=if Ok n/\i<ns.length then Y (ns.set i n)else X
noncomputable def give (s:St)(i:Nat)(n:Nd)(c:Int):Option St:=
 (put s.nodes i {n with out:=n.out++[c],told:=n.told.mul (Mt.sym c),had:=n.had++[n.told.mul (Mt.sym c)]}).map λns=>⟨ns,s.clock-1⟩
def bump:List Nat->Nat->List Nat
 | [],_=>[]
 |r::a,0=>(r+1)::a
 |r::a,k+1=>r::bump a k
noncomputable def after (s:St)(i a:Nat):Option (St×Bool):=
 (s.nodes[i]?).bind λn=>
 (put s.nodes i {n with read:=bump n.read a}).bind λns=>
 if s.clock-1<0 then Y (⟨ns,s.clock-1⟩,J)else
 Y (⟨ns,s.clock-1⟩,I)
noncomputable def reads (b:St->Nat->Nat->Option (St×Option Int))(s:St)(i:Nat)(n:Nd):Option (St×Bool):=
 if n.t=[]then
  (constant n n.k).bind λm=>(put s.nodes i {n with part:=n.part.mul m,k:=n.k+1}).map λns=>(⟨ns,s.clock-1⟩,decide (0<=s.clock-1))
 else
  (side s.nodes n).bind λc=>(n.args[c]?).bind λa=>(n.read[c]?).bind λr=>
  (b s a r).bind λx=>match x.2 with
   |none=>Y (x.1,J)
   |some _=>after x.1 i c
noncomputable def sym:Nat->St->Nat->Nat->Option (St×Option Int)
 |0,_,_,_=>X
 |f+1,s,i,j=>
  (s.nodes[i]?).bind λn=>
  match n.out[j]? with
  |some c=>Y (s,Y c)
  |none=>
   (next s.nodes n).bind λo=>match o with
   |some c=>if s.clock-1<0 then Y (⟨s.nodes,s.clock-1⟩,X)else(give s i n c).bind λa=>sym f a i j
   |none=>(reads (sym f) s i n).bind λx=>if x.2 then sym f x.1 i j else Y (x.1,X)
end Rf
namespace Rf
open Nw
theorem aDl {w:Nat}{m:Mt}(h:cO w m)(c:Int):cO (w+2) (m.mul (Mt.sym c)):=by
 obtain⟨a,b,d,f⟩:=h;unfold Bits at a b d f
 have e:2^(w+2)=4*2^w:=by rw[C0];omega
 unfold Mt.mul Mt.sym
 constructor<;>(unfold Bits)<;>(repeat' split)<;>simp<;>omega
theorem aKw (m s:Mt)(v:V):fC (m.mul s) v=fC s (fC m v):=by grind [fC,Mt.mul,Mt.wW,Mt.wX]
theorem Kt (v:V):fC one v=v:=by
 unfold fC one Mt.wW Mt.wX;simp
theorem qE (v:V):fits [v]=I↔((0<=v.1/\0<=v.2/\(0<v.1\/0<v.2))\/(v.1<=0/\v.2<=0/\(v.1<0\/v.2<0))):=by grind [fits,mV,lH]
theorem aN6 {P:V}(h:fits [P]=I):∃s,[(-1:Int),1,0].find? (can [P])=Y s:=by
 have:([(-1:Int),1,0].find? (can [P])).isSome=I:=by
  rw[j8];have a:=(qE P).1 h
  have k1:can [P] (-1)=I\/can [P] 1=I:=by
   unfold can;simp;rw[qE,qE];simp[fC,Mt.sym,Mt.wW,Mt.wX];omega
  grind
 grind
theorem aRa {P:V}(a:P.1<0)(b:0<P.2):∃s,[(43:Int),45,111,119].find? (can [P])=Y s:=by
 have:([(43:Int),45,111,119].find? (can [P])).isSome=I:=by
  rw[j8];refine⟨45,E4,?_⟩;unfold can;simp;rw[qE];simp[fC,Mt.sym,Mt.wW,Mt.wX];omega
 grind
end Rf
namespace Ab
def aN (x y:Int):Int:=(C7 x.natAbs y.natAbs:Nat)
theorem aWB:bD Z 140 (fI I (f2 aN) aS (λns=>ns.foldr max 0) [90,90]):=by
 refine Ix kI (aZ func140 rfl rfl).en (λx y n m g i=>?_) (λw x y u v c d e f=>aMo w x y u v (10000000*90) c d e f E3);have a:Bits (max n (max m 0)) x:=eJ g O;have b:Bits (max n (max m 0)) y:=eJ i O;show((C7 x.natAbs y.natAbs:Nat):Int).natAbs<2^(10000000*max n (max m 0))
 rcases Nat.eq_zero_or_pos x.natAbs with h|h
 .rw[h,Nat.gcd_zero_left];exact b
 .exact C3 (Nat.gcd_le_left _ h) a
noncomputable def tW1:List (FuncId×TE):=(266,fI I (Af cp) aS (λ_=>0) [40,40,40,40])::(140,fI I (f2 aN) aS (λns=>ns.foldr max 0) [90,90])::tW0
theorem aXq:cK Z tW1:=⟨aXK,aWB,aTy⟩
noncomputable abbrev tW:=tW1
theorem Ky:cK Z tW:=aXq
def lK (k:Bool):Out->Option (List Prop×RG×Nat)
 |.ret (.val v)=>(gT k v).map λg=>([],.one g.1,g.2)
 |.ret (.tup e)=>(gB (gT k) e).map λd=>([],.tup (d.map (·.1)),(d.map (·.2)).foldr max 0)
 |.br t x y=>(lK k x).bind λa=>(lK k y).bind λb=>(Gz t a.2.1 b.2.1).map λc=>(a.1.map (λp=>t=I->p)++b.1.map (λp=>t=J->p),c,max a.2.2 b.2.2)
 |.need p o=>(lK k o).map λa=>(p++a.1,a.2)
theorem aS1 {k:Bool}{w:Nat}{a:World}:∀{c:List VT} {b:List (G×Nat)} {d:PH},gB (gT k) c=Y b->(b.map (·.2)).foldr max 0<=w->aD (iH Z a) c d->aD (iH Z a) ((b.map (·.1)).map (kT k w)) d
 | [],b,[],h,_,_=>by simp[gB]at h;subst h;trivial
 |v::c,b,x::d,h,i,⟨j,l⟩=>by
  obtain⟨y,e,f⟩:=aK h;obtain⟨m,g,rfl⟩:=bI f;simp at i;obtain⟨k1,k2⟩:=Pb e j;exact⟨k2 w (k1.mono O),aS1 g O l⟩
 | [],_,_::_,_,_,h=>h.elim
 |_::_,_,[],_,_,h=>h.elim
theorem Fq {k:Bool}{w:Nat}:∀{o:Out} {r:List Prop} {out:RG} {m:Nat},lK k o=Y (r,out,m)->Holds r->m<=w->o.ok λF=>∀d v,RRV Z d F v->RRV Z d (xS k w out) v
 |.ret (.val t),r,out,m,h,_,f=>by
  obtain⟨⟨g,N⟩,i,j⟩:=bI h;cases j;intro d v hv;obtain⟨k1,k2⟩:=Pb i hv;exact k2 w (k1.mono f)
 |.ret (.tup vs),r,out,m,h,_,f=>by
  obtain⟨M,i,j⟩:=bI h;cases j;rintro d v⟨L,e,hv⟩;exact⟨L,e,aS1 i f hv⟩
 |.br t x y,r,out,m,h,s,f=>by
  obtain⟨⟨p1,a,D⟩,i,j⟩:=aK h;obtain⟨⟨p2,b,P⟩,z,A⟩:=aK j;obtain⟨c,B,C⟩:=bI A;cases C;have u:=aPa B;refine⟨λe=>?_,λe=>?_⟩
  .subst e;subst u;exact Fq i (λq l=>s (I=I->q) (List.mem_append_left _ (j9.2 ⟨q,l,rfl⟩)) rfl) (by simp only at f ⊢;omega)
  .subst e;subst u;exact Fq z (λq l=>s (J=J->q) (List.mem_append_right _ (j9.2 ⟨q,l,rfl⟩)) rfl) (by simp only at f ⊢;omega)
 |.need p o,r,out,m,h,s,f=>by
  obtain⟨⟨p1,a,D⟩,i,j⟩:=bI h;cases j;exact⟨λq l=>s q (by simp[l]),Fq i (λq l=>s q (by simp[l])) f⟩
abbrev eF (k:Bool)(F:List G->Option RG)(nd:List G->List Prop)(N:Nat)(a:NU):TE:=fI k F nd (λ_=>N) a
variable {l:List (FuncId×TE)}{W:FuncId}{k:Bool}{F:List G->Option RG}{nd:List G->List Prop}{y:NU}
theorem iB (A:cK Z l){c:AW}(q:bS Z c){j:Func}(d:Fn W j){w:Nat}
  (h:∀e out,F e=Y out->∃x m,((run Z (aE l) c (aL Z (aE l)) (λ_=>J) 2000 [.code (aG j),.top j] (start j (fP k e y))).bind outcome).bind (lK k)=Y (x,out,m)/\m<=w/\(Holds (nd e)->pS e y->Holds x)):bD Z W (eF k F nd w y):=by
 refine⟨d.en,λts r p t T a B u=>?_⟩;obtain⟨z,L,n⟩:=aK t
 cases g:mR (z.map (·.2)) y with
 |false=>rw[g]at n;cases n
 |true=>
  rw[g]at n;obtain⟨out,M,P⟩:=bI n;cases P;obtain⟨C,g2,D⟩:=Qm ts z y B L g u;obtain⟨x,m,k1,k2,k3⟩:=h _ out M;generalize z.map (·.1)=e at*;obtain⟨o,k4,k5⟩:=aK k1;obtain⟨tr,k6,k7⟩:=aK k4
  have S:At (eB 0 (fP k e y)).2 0 (eB 0 (fP k e y)).2:=λi b hy=>by rw[Nat.zero_add];exact hy
  refine kQ (ψ:=λ_=>X) (φ:=λ_=>X) (dX A) q (uH mixed (dX A)) d.at' d.body rfl (Fv _ 0 B S C) (Kq j _ a) 2000 k6 _ (λ_ _=>False) (λ_ _ h=>h.elim) (yM k7 (Fq k5 (k3 T D) k2)) ?_;rintro r0 s φ v w'⟨hc,r',R,h8⟩ U hw;exact⟨v,rfl,h8 w' v (Bh R U),RepF.below hw hc⟩
theorem eU (d:cK Z l){a:Func}(c:Fn W a){w:Nat}
  (h:∀b out,F b=Y out->((run Z (aE l) (λ_=>X) (aL Z (aE l)) (λ_=>J) 2000 [.code (aG a),.top a] (start a (fP k b y))).bind outcome).bind (lK k)=Y ([],out,w)):bD Z W (eF k F aS w y):=
 iB d bO c λb out e=>⟨[],w,h b out e,C8 _,λ_ _=>fX⟩
theorem aQs {l:List G->Option RG}{d:List G->List Prop}{i:List Nat->Nat}(h:bD Z W (fI k F nd i y))(u:∀b out,l b=Y out->Holds (d b)->pS b y->F b=Y out/\Holds (nd b)):bD Z W (fI k l d i y):=by
 refine⟨h.1,λn r p j v w o c=>?_⟩;obtain⟨g,m,e⟩:=aK j
 cases a:mR (g.map (·.2)) y with
 |false=>rw[a]at e;cases e
 |true=>
  rw[a]at e;obtain⟨out,s,t⟩:=bI e;cases t;obtain⟨x,z,q⟩:=Qm n g y o m a c;obtain⟨k1,k2⟩:=u _ out s v q;exact h.2 n (xS k (i (g.map (·.2))) out) (nd (g.map (·.1))) (by unfold fI;rw[m];simp only[A8,a,cond_true,k1,A9]) k2 w o c
def eZ (t b:Int):Int:=bif decide (Nm.cmp b 0<0)then -t/aN t b else bif Nm.cmp b 0==0 then(bif decide (Nm.cmp t 0<0)then -t/aN t b else t/aN t b)else t/aN t b
def eP (t b:Int):Int:=bif decide (Nm.cmp b 0<0)then -b/aN t b else bif Nm.cmp b 0==0 then(bif decide (Nm.cmp t 0<0)then -b/aN t b else b/aN t b)else b/aN t b
def zG:List G->Option RG
 | [.ns [t],.ns [b]]=>Y (.one (.ns [eZ t b,eP t b]))
 |_=>X
def tK:List G->List Prop
 | [.ns [t],.ns [b]]=>[0<aN t b]
 |_=>[]
theorem aS7:bD Z 99 (eF I zG tK 41 [40,40]):=by
 refine iB Ky bO (aZ func99 rfl rfl) ?_;intro c out h;unfold zG at h;split at h
 .rename_i t b;cases h;refine⟨[decide (Nm.cmp b 0<0)=I->0<aN t b,decide (Nm.cmp b 0<0)=I->0<aN t b,decide (Nm.cmp b 0<0)=J->(Nm.cmp b 0==0)=I->decide (Nm.cmp t 0<0)=I->0<aN t b,decide (Nm.cmp b 0<0)=J->(Nm.cmp b 0==0)=I->decide (Nm.cmp t 0<0)=I->0<aN t b,decide (Nm.cmp b 0<0)=J->(Nm.cmp b 0==0)=I->decide (Nm.cmp t 0<0)=J->0<aN t b,decide (Nm.cmp b 0<0)=J->(Nm.cmp b 0==0)=I->decide (Nm.cmp t 0<0)=J->0<aN t b,decide (Nm.cmp b 0<0)=J->(Nm.cmp b 0==0)=J->0<aN t b,decide (Nm.cmp b 0<0)=J->(Nm.cmp b 0==0)=J->0<aN t b],41,E0,E3,λa d=>?_⟩;have a:=a.one;exact iR (λ_=>a) (iR (λ_=>a) (iR (λ_ _ _=>a) (iR (λ_ _ _=>a) (iR (λ_ _ _=>a) (iR (λ_ _ _=>a) (iR (λ_ _=>a) (iR (λ_ _=>a) fX)))))))
 .cases h
def xF:List Int->Option (List Int)
 | [n]=>Y [n,1]
 |_=>X
theorem aUo:bD Z 144 (uQ I xF):=by
 refine uB Ky (aZ func144 rfl rfl) ?_ ?_
 .intro c out h;unfold xF at h;split at h
  .rename_i n;cases h;exact⟨[n.natAbs<1000000000000000000],E0,λh=>iR (h n E4) fX⟩
  .cases h
 .intro c out h b;unfold xF at h;split at h
  .rename_i n;cases h;intro z a;simp at a
   rcases a with rfl|rfl
   .exact iX (b _ E4)
   .exact iX E3
  .cases h
def rG:List G->Option RG
 | [.ns [t,b]]=>Y (.one (.i .i64 (Nm.cmp t 0)))
 |_=>X
theorem aOE:bD Z 121 (eF I rG aS 0 [90]):=eU Ky (aZ func121 rfl rfl) λ_ _ h=>by
 unfold rG at h
 split at h<;>cases h
 kernel_rfl
def vO:List G->Option RG
 | [.ns [t,b]]=>Y (.one (.ns [-t,b]))
 |_=>X
theorem aRs:bD Z 164 (eF I vO aS 10 [10]):=eU Ky (aZ func164 rfl rfl) λ_ _ h=>by
 unfold vO at h
 split at h<;>cases h
 kernel_rfl
noncomputable def tF0:List (FuncId×TE):=(99,eF I zG tK 41 [40,40])::(144,uQ I xF)::(121,eF I rG aS 0 [90])::(164,eF I vO aS 10 [10])::tW
theorem Zj:cK Z tF0:=⟨aS7,aUo,aOE,aRs,Ky⟩
def nB (top e:Int->Int->Int->Int->Int):List G->Option RG
 | [.ns [a,b],.ns [c,d]]=>Y (.one (.ns [eZ (top a b c d) (e a b c d),eP (top a b c d) (e a b c d)]))
 |_=>X
def mS (top e:Int->Int->Int->Int->Int):List G->List Prop
 | [.ns [a,b],.ns [c,d]]=>[0<aN (top a b c d) (e a b c d)]
 |_=>[]
theorem aOD:bD Z 163 (eF I (nB (λa b c d=>a*d+c*b) (λa b c d=>b*d)) (mS (λa b c d=>a*d+c*b) (λa b c d=>b*d)) 41 [10,10]):=by
 refine iB Zj bO (aZ func163 rfl rfl) ?_;intro f out h;unfold nB at h;split at h
 .rename_i a b c d;cases h;exact⟨[0<aN (a*d+c*b) (b*d)],41,E0,E3,λe _=>iR e.one fX⟩
 .cases h
theorem aMx:bD Z 225 (eF I (nB (λa b c d=>a*c) (λa b c d=>b*d)) (mS (λa b c d=>a*c) (λa b c d=>b*d)) 41 [10,10]):=by
 refine iB Zj bO (aZ func225 rfl rfl) ?_;intro f out h;unfold nB at h;split at h
 .rename_i a b c d;cases h;exact⟨[0<aN (a*c) (b*d)],41,E0,E3,λe _=>iR e.one fX⟩
 .cases h
theorem aOC:bD Z 226 (eF I (nB (λa b c d=>a*d) (λa b c d=>b*c)) (mS (λa b c d=>a*d) (λa b c d=>b*c)) 41 [10,10]):=by
 refine iB Zj bO (aZ func226 rfl rfl) ?_;intro f out h;unfold nB at h;split at h
 .rename_i a b c d;cases h;exact⟨[0<aN (a*d) (b*c)],41,E0,E3,λe _=>iR e.one fX⟩
 .cases h
noncomputable def tF1:List (FuncId×TE):=(163,eF I (nB (λa b c d=>a*d+c*b) (λa b c d=>b*d)) (mS (λa b c d=>a*d+c*b) (λa b c d=>b*d)) 41 [10,10])::(225,eF I (nB (λa b c d=>a*c) (λa b c d=>b*d)) (mS (λa b c d=>a*c) (λa b c d=>b*d)) 41 [10,10])::(226,eF I (nB (λa b c d=>a*d) (λa b c d=>b*c)) (mS (λa b c d=>a*d) (λa b c d=>b*c)) 41 [10,10])::tF0
theorem aTx:cK Z tF1:=⟨aOD,aMx,aOC,Zj⟩
theorem aMw:bD Z 120 (eF I (nB (λa b c d=>a*d+-c*b) (λa b c d=>b*d)) (mS (λa b c d=>a*d+-c*b) (λa b c d=>b*d)) 41 [10,10]):=by
 refine iB aTx bO (aZ func120 rfl rfl) ?_;intro f out h;unfold nB at h;split at h
 .rename_i a b c d;cases h;exact⟨[0<aN (a*d+-c*b) (b*d)],41,E0,E3,λe _=>iR e.one fX⟩
 .cases h
noncomputable def tF:List (FuncId×TE):=(120,eF I (nB (λa b c d=>a*d+-c*b) (λa b c d=>b*d)) (mS (λa b c d=>a*d+-c*b) (λa b c d=>b*d)) 41 [10,10])::tF1
theorem aXp:cK Z tF:=⟨aMw,aTx⟩
def Gn:List Int->Option (List Int)
 | [a,b,c,d]=>Y [a,b,c,d]
 |_=>X
theorem aS9:bD Z 57 (uQ I Gn):=by
 refine uB Ky (aZ func57 rfl rfl) ?_ ?_
 .intro g out h;unfold Gn at h;split at h
  .rename_i a b c d;cases h;exact⟨[a.natAbs<1000000000000000000,b.natAbs<1000000000000000000,c.natAbs<1000000000000000000,d.natAbs<1000000000000000000],E0,λh=>by simp at h;exact iR h.1 (iR h.2.1 (iR h.2.2.1 (iR h.2.2.2 fX)))⟩
  .cases h
 .intro g out h f;unfold Gn at h;split at h
  .cases h
   exact λz e=>iX (f z e)
  .cases h
def vR:List G->Option RG
 | [.ns [a],.ns [x],.ns [b],.ns [y]]=>Y (.one (.ns [a*x+b*y]))
 |_=>X
theorem aRS:bD Z 98 (eF I vR aS 7 [3,3,3,3]):=eU Ky (aZ func98 rfl rfl) λ_ _ h=>by
 unfold vR at h
 split at h<;>cases h
 kernel_rfl
noncomputable def tM0:List (FuncId×TE):=(57,uQ I Gn)::(98,eF I vR aS 7 [3,3,3,3])::tF
theorem Sj:cK Z tM0:=⟨aS9,aRS,aXp⟩
theorem Kk {a b:Int}(c:0<b):(a/b).natAbs<=a.natAbs:=by
 rcases u5 a 0 with h|h
 .have d:a<=a/b:=by
   have:=u6 (show(1:Int)<=b by omega) (show(0:Int)<=-a by omega);rw[Int.le_ediv_iff_mul_le c];grind
  have e:=Int.ediv_neg_of_neg_of_pos h c;omega
 .have d:a/b<=a:=s7 _ h;have e:0<=a/b:=s8 h O;omega
variable {φ:LI}
theorem Kr {w0 w:World}{ψ:LI}{s:AS}(h:RepW Z w0 ψ φ s w){b:Nat}{B:bH}(g:look s.boxes b=Y B)(l:B.own=I)(n:B.ro=J):∃k,∃e:PH,φ b=Y (k,0)/\w.heap[k]?=Y (.cells e.toArray B.ty (0,0))/\aD (relC Z φ s.nums w) B.cs e/\w0.heap.size<=k:=by
 obtain⟨k,o,p,e,d,f,i,m,j⟩:=h.box b B g;obtain⟨e1,e2⟩:=h.rF b B k o g l n f;subst e1;have c:=o9.1 m;subst c;unfold World.shape? at e2;rw[i]at e2;simp at e2;have q:=j.len;have a:d=[]:=o9.1 O;subst a;exact⟨k,e,f,by simpa using i,j,h.own b B k 0 g l f⟩
def numOf (k:Bool)(ν:LV):List AC->Option (List Int)
 | []=>Y []
 |.sg i::.dg b j::r=>bif i==j&&b==k then(ν[i]?).bind λx=>(numOf k ν r).map λl=>x.1::l else X
 |.bool J::.lit (.slice X 0 0)::r=>(numOf k ν r).map λl=>0::l
 |_=>X
theorem aQW (k:Bool)(w:World):aP k w [0] [.bool J,.slice X 0 0]:=by
 have h:dL k [.c (.bool J),.c (.lit (.slice X 0 0))]=Y ([0],0):=rfl;exact(sD _ _ _ [.bool J,.slice X 0 0] h ⟨rfl,rfl,rfl,⟨rfl,rfl⟩,trivial⟩).1
variable {ν:LV}
theorem Xk {w:World}:∀(cs:List AC) (e:LB) (a:PH),numOf k ν cs=Y e->aD (relC Z φ ν w) cs a->aP k w e a:=by
 intro cs
 induction cs using numOf.induct (k:=k)with
 |case1=>
  intro e a h d;simp only[numOf,Option.some.injEq]at h;subst h
  match a,d with
  | [],_=>trivial
 |case2 i b j r c g=>
  intro e a h d;simp only[numOf,c]at h;obtain⟨x,m,n⟩:=aK h;obtain⟨l,f,rfl⟩:=bI n;simp only[Bool.and_eq_true,beq_iff_eq]at c;obtain⟨rfl,rfl⟩:=c
  match a,d with
  |y1::o::a,⟨⟨p,n1,e1,e2⟩,⟨q,n2,f1,f2,f3⟩,d⟩=>
  rw[m]at e1 f1;cases e1;cases f1;exact⟨e2,f2,g l a f d⟩
 |case3 i b j r c=>
  intro e a h d;simp only[numOf,c]at h;cases h
 |case4 r g=>
  intro e a h d;obtain⟨l,f,rfl⟩:=bI h
  match a,d with
  |y1::o::a,⟨e1,e2,d⟩=>
  have e2:=e2.1;subst e1 e2;obtain⟨k1,k2,_⟩:=aQW k w;exact⟨k1,k2,g l a f d⟩
 |case5 r m n f=>
  intro e a h d;unfold numOf at h;grind
theorem Rt {g:FuncId}{c a:Func}{x:Option Func}(h:(bif W==g then Y c else x)=Y a)(d:Fn g c)(e:x=Y a->prog.funcs[W]?=Y a/\dV Z.P W):prog.funcs[W]?=Y a/\dV Z.P W:=by
 cases b:W==g with
 |true=>
  rw[b]at h;cases h
  have:W=g:=by simpa using b
  subst this;exact⟨d.at',d.en⟩
 |false=>rw[b]at h;exact e h
def eY:List Bool->Tr->Option (AT×AS)
 |p,.need _ t=>eY p t
 |b::p,.br _ x y=>bif b then eY p x else eY p y
 | [],.ret r s=>Y (r,s)
 |_,_=>X
def Lf (s:AS)(b:Nat):List AC:=match look s.boxes b with|some B=>B.cs|none=>[]
def Lh (s:AS)(b:Nat):List AC:=((Lf s b).drop 1).take 16
section
variable {w0 w:World} {ψ φ:LI} {s:AS}
theorem pI {z:Value}:∀x,relC Z φ ν w (.lit z) x->x=z:=λx h=>h.1
theorem Yn {b:Nat}{B:bH}(e:RepW Z w0 ψ φ s w)(a:look s.boxes b=Y B)(c:B.own=I)(d:B.ro=J):∃m,φ b=Y (m,0):=by
 obtain⟨m,_,h,_⟩:=Kr e a c d
 simp_all
end
end Ab
namespace Rf
open Nw
def nN (n:Nd):Prop:=n.op=.pi\/n.op=.e\/(n.op=.cf/\2<=n.terms.length/\∀a∈n.terms,Bits 40 a)
inductive fR (n:Nd):Prop where
 |fE (ht:n.t=[]) (ha:n.args=[]) (hc:nN n)
 |iL (v:V) (ht:n.t=[v]) (ha:n.args=[]) (hv:fits [fC n.told v]=I\/(n.pos=J/\n.out=[]/\v.1<0/\0<v.2))
 |qO (v w:V) (a:Nat) (ht:n.t=[v,w]) (ha:n.args=[a])
 |bin (a b:Nat) (v w x y:V) (ht:n.t=[v,w,x,y]) (ha:n.args=[a,b])
def Dg (n:Nd):Prop:=∀(j:Nat) (c:Int),n.out[j]?=Y c->c∈(if n.pos=J/\j=0 then [43,45,111,119]else [-1,1,0]:LB)
structure cC (ns:List Nd) (c i:Nat) (n:Nd):Prop where
 len:n.read.length=n.args.length
 arg:∀(j a:Nat),n.args[j]?=Y a->a<ns.length/\a<i
 rd:∀(j a r:Nat) (x:Nd),n.args[j]?=Y a->n.read[j]?=Y r->ns[a]?=Y x->r<=x.out.length
 rL:n.had.length=n.out.length+1
 Gr:n.had[0]?=Y one
 fst:(n.out=[]->n.told=one)/\Dg n
 jY:n.out.length+c<=3000
 ku:n.k+c<=3000
 jL:∀r∈n.read,r+c<=3000
 lO:cO (2*n.out.length+1) n.told
 vX:∀(j:Nat) (m:Mt),n.had[j]?=Y m->cO (2*j+1) m
 tb:∀v∈n.t,Bits 13000 v.1/\Bits 13000 v.2
 kH:cO (1+n.k*18500) n.part
 shp:fR n
variable {ns:List Nd}{c:Nat}
theorem cC.ok {i:Nat}{g:Nd}(h:cC ns c i g):Ok g:=by
 have s:=h.jY;have p:=h.ku;refine⟨λv hv=>⟨eJ (h.tb v hv).1 E3,eJ (h.tb v hv).2 E3⟩,mb h.lO O,?_,mb h.kH ?_,?_,O,O⟩
 .intro m l;obtain⟨j,k,e⟩:=p5 l;have q:=h.rL;exact mb (h.vX j m (by rw[p6 k,e])) O
 .omega
 .intro r o;have:=h.jL r o;omega
where
 mb {m:Mt} {a b:Nat} (h:cO a m) (f:a<=b):cO b m:=⟨eJ h.a f,eJ h.b f,eJ h.c f,eJ h.d f⟩
theorem cO.mono {m:Mt}{a b:Nat}(h:cO a m)(e:a<=b):cO b m:=⟨eJ h.a e,eJ h.b e,eJ h.c e,eJ h.d e⟩
structure Le (ns ns':List Nd):Prop where
 len:ns.length<=ns'.length
 at':∀(i:Nat) (n:Nd),ns[i]?=Y n->∃n',ns'[i]?=Y n'/\n'.pos=n.pos/\n.out.length<=n'.out.length
theorem Le.refl (ns:List Nd):Le ns ns:=⟨C8 _,λi n h=>⟨n,h,rfl,C8 _⟩⟩
theorem Le.trans {a b c:List Nd}(h:Le a b)(d:Le b c):Le a c:=⟨C9 h.len d.len,λi n m=>by
 obtain⟨n1,e,f,g⟩:=h.at' i n m;obtain⟨n2,j,k,l⟩:=d.at' i n1 e
 exact⟨n2,j,k.trans f,C9 g l⟩⟩
theorem Le.more (ns a:List Nd):Le ns (ns++a):=⟨E4,λi n h=>⟨n,by rw[p8 (q8.1 h).1];exact h,rfl,C8 _⟩⟩
theorem Le.set {ns:List Nd}{i:Nat}{g n':Nd}(h:ns[i]?=Y g)(c:n'.pos=g.pos)(b:g.out.length<=n'.out.length):Le ns (ns.set i n'):=by
 refine⟨E4,λk m a=>?_⟩;grind
theorem cC.mono {d:List Nd}{c' i:Nat}{n:Nd}(h:cC ns c i n)(l:Le ns d)(hc:c'<=c):cC d c' i n:=by
 have e:∀(j a:Nat),n.args[j]?=Y a->a<d.length/\a<i:=by
  intro j a f;obtain⟨g,k⟩:=h.arg j a f;have:=l.len;grind
 refine⟨h.len,e,?_,h.rL,h.Gr,h.fst,by have:=h.jY;omega,by have:=h.ku;omega,λr b=>by have:=h.jL r b;omega,h.lO,h.vX,h.tb,h.kH,h.shp⟩
 .intro j a r x f b m;obtain⟨g,_⟩:=h.arg j a f;obtain⟨p,k,_,o⟩:=l.at' a ns[a] (p6 g);rw[k]at m;cases m;exact C9 (h.rd j a r _ f b (p6 g)) o
structure Inv (ns:List Nd) (c:Nat):Prop where
 at':∀(i:Nat) (n:Nd),ns[i]?=Y n->cC ns c i n
theorem Inv.tick {k:Nat}(h:Inv ns c)(hc:k<=c):Inv ns k:=
 ⟨λi n a=>(h.at' i n a).mono (Le.refl _) hc⟩
theorem Inv.put {ns:List Nd}{c i:Nat}{g n':Nd}(h:Inv ns c)(f:ns[i]?=Y g)(l:n'.pos=g.pos)(j:g.out.length<=n'.out.length)(d:cC ns c i n'):
  put ns i n'=Y (ns.set i n')/\Inv (ns.set i n') c/\Le ns (ns.set i n'):=by
 have hi:=(q8.1 f).1;have b:=Le.set f l j;refine⟨?_,⟨λk m a=>?_⟩,b⟩
 .unfold Rf.put;rw[if_pos ⟨d.ok,hi⟩]
 .by_cases e:i=k
  .subst e;rw[q9 hi]at a;cases a;exact d.mono b (C8 _)
  .rw[r5 e]at a;exact(h.at' k m a).mono b (C8 _)
theorem Inv.more {ns:List Nd}{c:Nat}{g:Nd}(h:Inv ns c)(b:cC ns c ns.length g):more ns g=Y (ns++[g])/\Inv (ns++[g]) c:=by
 have d:=Le.more ns [g];refine⟨by unfold Rf.more;rw[if_pos b.ok],⟨λk m a=>?_⟩⟩
 by_cases e:k<ns.length
 .rw[p8 e]at a;exact(h.at' k m a).mono d (C8 _)
 .rw[r7 O]at a
  have:k=ns.length:=by
   grind
  subst this;simp at a;subst a;exact b.mono d (C8 _)
end Rf
namespace Rf
open Nw
section
variable {ns:List Nd} {c i:Nat} {n:Nd}
theorem Wn (h:Inv ns c)(b:cC ns c i n){sd a:Nat}(d:n.args[sd]?=Y a):∃m x r,ns[a]?=Y x/\n.read[sd]?=Y r/\x.had[r]?=Y m/\ends ns n sd=Y (hZ m (1,0),hZ m (0,1)):=by
 obtain⟨j,_⟩:=b.arg sd a d;have f:=p6 j
 have e:sd<n.read.length:=by rw[b.len];exact(q8.1 d).1
 have g:=p6 e;have k:=b.rd sd a _ _ d g f;have o:=(h.at' a _ f).rL;have l:ns[a].had[n.read[sd]]?=Y (ns[a].had[n.read[sd]]' O):=p6 _;refine⟨_,_,_,f,g,l,?_⟩;unfold ends;grind
theorem Vw (h:Inv ns c)(f:cC ns c i n):∃l,bare ns n=Y l:=by
 cases f.shp with
 |fE e d hc=>exact⟨_,by unfold bare;rw[e]⟩
 |iL v e d hv=>exact⟨_,by unfold bare;rw[e]⟩
 |qO v w a e d=>
  obtain⟨m,x,r,_,_,_,g⟩:=Wn h f (sd:=0) (by rw[d];rfl);exact⟨_,by unfold bare;rw[e];simp only[g];rfl⟩
 |bin a b v w x y e d=>
  obtain⟨m,x,r,_,_,_,g⟩:=Wn h f (sd:=0) (by rw[d];rfl);obtain⟨k,p,o,_,_,_,j⟩:=Wn h f (sd:=1) (by rw[d];rfl);exact⟨_,by unfold bare;rw[e];simp only[g,j,d];rfl⟩
theorem uY (h:Inv ns c)(a:cC ns c i n):∃o,next ns n=Y o:=by
 obtain⟨l,b⟩:=Vw h a
 unfold next corners
 rw[b];split
 .simp
 .simp
variable {o:Int}
theorem aMQ (h:next ns n=Y (Y o)):∃l,bare ns n=Y l/\o∈tries n/\can (l.map (fC n.told)) o=I:=by
 unfold next at h
 split at h
 .simp at h
 .unfold corners at h
  cases a:bare ns n with
  |none=>rw[a]at h;simp at h
  |some l=>
   grind
theorem aMz {P:V}(j:n.t=[P])(f:n.args=[])(b:n.out=[]->n.told=one)(hv:fits [fC n.told P]=I\/(n.pos=J/\n.out=[]/\P.1<0/\0<P.2)):next ns n≠Y X:=by
 unfold next corners bare
 rw[j,f];simp only[waits,Bool.false_eq_true,if_false,A9,List.map_cons,List.map_nil];unfold tries;intro h;simp only[Option.some.injEq]at h;split at h
 .rename_i hc
  rcases hv with hv|⟨_,_,d,e⟩
  .rw[b hc.2,Kt]at h hv;have a:=List.find?_eq_none.1 h
   rcases(qE P).1 hv with⟨k1,k2,k⟩|⟨k1,k2,k⟩
   .refine absurd ?_ (a 43 E4);unfold can;simp[fC,Mt.sym,Mt.wW,Mt.wX];omega
   .refine absurd ?_ (a 43 E4);unfold can;simp[fC,Mt.sym,Mt.wW,Mt.wX];omega
  .rw[b hc.2,Kt]at h;obtain⟨s,g⟩:=aRa d e
   simp_all
 .rename_i hc
  rcases hv with hv|⟨d,e,_,_⟩
  .obtain⟨s,g⟩:=aN6 hv
   simp_all
  .grind
theorem aUe (h:Dg n){t a:_}(e:o∈tries n):Dg {n with out:=n.out++[o],told:=t,had:=a}:=by
 intro j c hc
 by_cases d:j<n.out.length
 .rw[p8 d]at hc;exact h j c hc
 .rw[r7 O]at hc
  have b:j=n.out.length:=by
   grind
  subst b;simp at hc;subst hc;unfold tries at e;grind
theorem aK4 (h:Inv ns (c+1))(z:ns[i]?=Y n)(L:next ns n=Y (Y o)):
  ∃r,put ns i {n with out:=n.out++[o],told:=n.told.mul (Mt.sym o),had:=n.had++[n.told.mul (Mt.sym o)]}=Y (ns.set i r)/\Inv (ns.set i r) c/\Le ns (ns.set i r)/\r.out.length=n.out.length+1:=by
 have f:=h.at' i n z;obtain⟨l,t,d,hc⟩:=aMQ L;have q:=f.rL
 have p:cO (2*(n.out.length+1)+1) (n.told.mul (Mt.sym o)):=by
  have:=aDl f.lO o;omega
 have s:cC ns c i {n with out:=n.out++[o],told:=n.told.mul (Mt.sym o),had:=n.had++[n.told.mul (Mt.sym o)]}:=by
  have g:=f.mono (c':=c) (Le.refl _) O;refine⟨f.len,g.arg,g.rd,by simp[q],?_,⟨λe=>by simp at e,aUe f.fst.2 d⟩,?_,g.ku,g.jL,?_,?_,g.tb,g.kH,?_⟩
  .show(n.had++_)[0]?=_;rw[p8 O];exact f.Gr
  .have:=f.jY;simp;omega
  .simpa using p
  .intro j m u
   by_cases F:j<n.had.length
   .rw[p8 F]at u;exact f.vX j m u
   .grind
  .cases g.shp with
   |fE d k hc=>exact .fE d k hc
   |iL v d k hv=>
    refine .iL v d k (Or.inl ?_)
    have D:bare ns n=Y [v]:=by unfold bare;rw[d]
    rw[D]at t;cases t;rw[aKw];exact hc
   |qO v w a d k=>exact .qO v w a d k
   |bin a b v w x y d k=>exact .bin a b v w x y d k
 obtain⟨A,B,C⟩:=(h.tick (show c<=c+1 by omega)).put z (n':={n with out:=n.out++[o],told:=n.told.mul (Mt.sym o),had:=n.had++[n.told.mul (Mt.sym o)]}) rfl E4 s;exact⟨_,A,B,C,E4⟩
theorem aLj {a b:Nat}{x y:Mt}(e:cO a x)(f:cO b y):cO (a+b+1) (x.mul y):=
 ⟨mY (gG e.a f.a) (gG e.b f.c),mY (gG e.a f.b) (gG e.b f.d),mY (gG e.c f.a) (gG e.d f.c),mY (gG e.c f.b) (gG e.d f.d)⟩
variable {k:Nat}
theorem aQ2 {m:Nat}(h:k<2^m):Bits m (k:Int):=by unfold Bits;simpa using h
theorem aEC (h:k<16777216):Bits 24 (k:Int):=aQ2 (by simpa using h)
theorem Oi (h:nN n)(b:k<=3000):∃m,constant n k=Y m/\cO 18400 m:=by
 have one:∀z:Int,z.natAbs<=4->Bits 18400 z:=λz g=>eJ (n:=3) (by unfold Bits;omega) E3
 have e:=C4 b b
 rcases h with h|h|⟨h,f,d⟩
 .refine⟨_,by unfold constant;rw[h],?_⟩;split
  .exact⟨one 0 E3,one 4 E3,one 1 E3,one 1 E3⟩
  .exact⟨one 0 E3,eJ (aEC O) E3,one 1 E3,eJ (aEC O) E3⟩
 .refine⟨_,by unfold constant;rw[h],?_⟩;refine⟨?_,one 1 E3,one 1 E3,one 0 E3⟩;unfold fZ;split
  .exact one 2 E3
  .split
   .exact eJ (aEC O) E3
   .exact one 1 E3
 .have a:(if k=0 then 0 else 1+(k-1)%(n.terms.length-1))<n.terms.length:=by
   split
   .omega
   .have:=Nat.mod_lt (k-1) (show 0<n.terms.length-1 by omega);omega
  refine⟨_,by unfold constant;rw[h];rw[p6 a];rfl,?_⟩;exact⟨eJ (d _ (r8 a)) E3,one 1 E3,one 1 E3,one 0 E3⟩
theorem aOb (h:Inv ns (c+1))(q:ns[i]?=Y n)(l:n.t=[]):∃m o,constant n n.k=Y m/\put ns i {n with part:=n.part.mul m,k:=n.k+1}=Y (ns.set i o)/\Inv (ns.set i o) c/\Le ns (ns.set i o)/\o.out=n.out:=by
 have f:=h.at' i n q;have j:=f.mono (c':=c) (Le.refl _) O
 have u:n.args=[]/\nN n:=by
  cases f.shp with
  |fE l g hc=>exact⟨g,hc⟩
  |iL v d g hv=>rw[l]at d;cases d
  |qO v w a d g=>rw[l]at d;cases d
  |bin a b v w x y d g=>rw[l]at d;cases d
 obtain⟨g,hc⟩:=u;have s:=f.ku;obtain⟨m,e,r⟩:=Oi hc (k:=n.k) O
 have p:cC ns c i {n with part:=n.part.mul m,k:=n.k+1}:=by
  refine⟨f.len,j.arg,j.rd,f.rL,f.Gr,f.fst,j.jY,by simp only;omega,j.jL,f.lO,f.vX,j.tb,?_,.fE l g ?_⟩
  .refine cO.mono (aLj f.kH r) ?_;simp only;omega
  .exact hc
 obtain⟨z,A,B⟩:=(h.tick (show c<=c+1 by omega)).put q (n':={n with part:=n.part.mul m,k:=n.k+1}) rfl (C8 _) p;grind
end
end Rf
namespace Rf
open Nw
section
variable {ns:List Nd} {c i:Nat} {n:Nd}
theorem Vq (b:cC ns c i n)(d:Nat):∃o,digits ns n d=Y o:=by
 unfold digits;split
 .rename_i a;obtain⟨e,_⟩:=b.arg d _ (p6 a);rw[p6 a,A8,p6 e,A8,p6 (by rw[b.len];exact a)];simp
 .simp
theorem aSc {P w:V}(a:n.t=[P,w]):side ns n=Y 0:=by grind [side]
theorem aP9 (h:Inv ns c)(d:cC ns c i n):∃e,side ns n=Y e/\e<=1:=by
 unfold side;split
 .grind
 .obtain⟨a,f⟩:=Vq d 0;rw[f,A8]
  cases a with
  |none=>exact⟨0,rfl,E3⟩
  |some a=>
   obtain⟨b,g⟩:=Vq d 1;simp only;rw[g,A8]
   cases b with
   |none=>exact⟨1,rfl,E3⟩
   |some b=>
    obtain⟨l,j⟩:=Vw h d;unfold corners;grind
theorem Wp (hc:c<=3000)(g:n.read=n.args.map (λ_=>0))(b:n.out=[])(d:n.told=one)(f:n.had=[one])(h:n.part=one)(l:n.k+c<=3000)(tb:∀v∈n.t,Bits 13000 v.1/\Bits 13000 v.2)
  (arg:∀(j a:Nat),n.args[j]?=Y a->a<ns.length/\a<i) (shp:fR n):cC ns c i n:=by
 have b1:cO 1 one:=⟨by unfold Bits one;decide,by unfold Bits one;decide,by unfold Bits one;decide,by unfold Bits one;decide⟩
 refine⟨by rw[g];simp,arg,?_,by rw[f,b];rfl,by rw[f];rfl,⟨λ_=>d,λj x e=>by rw[b]at e;simp at e⟩,by rw[b];simpa using hc,l,?_,by rw[d,b];exact b1,?_,tb,?_,shp⟩
 .grind
 .grind
 .grind
 .rw[h];exact cO.mono b1 O
theorem lF {w:Nat}:Bits w 0:=by grind [Bits]
theorem mN {w:Nat}(h:1<=w):Bits w 1:=by grind [Bits]
structure Grown (ns:List Nd) (c:Nat) (ns':List Nd):Prop where
 inv:Inv ns' c
 ext:∃ms,ns'=ns++ms
theorem Grown.le {e:List Nd}(h:Grown ns c e):Le ns e:=by
 obtain⟨a,rfl⟩:=h.ext;exact Le.more _ _
theorem Grown.trans {b a:List Nd}(h:Grown ns c b)(f:Grown b c a):Grown ns c a:=by
 obtain⟨j,e⟩:=h.ext;obtain⟨d,g⟩:=f.ext;exact⟨f.inv,⟨j++d,by rw[g,e,List.append_assoc]⟩⟩
theorem Xm (h:Inv ns c){n':Nd}(a:cC ns c ns.length n'):more ns n'=Y (ns++[n'])/\Grown ns c (ns++[n']):=⟨(h.more a).1,(h.more a).2,_,rfl⟩
variable {a:Nat}
theorem Sq {b p:Nat}(h:([a]:NU)[p]?=Y b):b=a:=by grind
theorem args2 {b d r:Nat}(h:([a,d]:NU)[r]?=Y b):b=a\/b=d:=by grind
structure pT (ns:List Nd) (i:Nat) (ns':List Nd):Prop where
 le:Le ns ns'
 same:∀(k:Nat) (n:Nd),ns[k]?=Y n->i<k->ns'[k]?=Y n
theorem pT.refl (ns:List Nd)(i:Nat):pT ns i ns:=⟨Le.refl _,λk n h _=>h⟩
theorem pT.trans {e a:List Nd}(h:pT ns i e)(b:pT e i a):pT ns i a:=⟨h.le.trans b.le,λk n f d=>b.same k n (h.same k n f d) d⟩
theorem pT.set {n':Nd}(b:ns[i]?=Y n)(e:n'.pos=n.pos)(d:n.out.length<=n'.out.length):pT ns i (ns.set i n'):=
 ⟨Le.set b e d,λk m a f=>by rw[r5 O];exact a⟩
theorem pT.up {e:List Nd}(h:pT ns a e)(f:a<i):pT ns i e:=⟨h.le,λk n b d=>h.same k n b O⟩
end
end Rf
namespace Rf
open Nw
section
variable {ns:List Nd} {c i:Nat} {n:Nd}
theorem aQ6 (l:NU)(k:Nat):(bump l k).length=l.length:=by
 induction l generalizing k with
 |nil=>rfl
 |cons r b a=>cases k with
  |zero=>rfl
  |succ k=>simp[bump,a]
theorem aN0 (l:NU)(k j:Nat):(bump l k)[j]?=(l[j]?).map λr=>if j=k then r+1 else r:=by
 induction l generalizing k j with
 |nil=>simp[bump]
 |cons r b a=>
  cases k with
  |zero=>cases j with
   |zero=>simp[bump]
   |succ j=>simp[bump]
  |succ k=>cases j with
   |zero=>simp[bump]
   |succ j=>simp[bump,a]
variable {r:Nat}
theorem aKT {l:NU}{k:Nat}(h:r∈bump l k):r∈l\/∃a,l[k]?=Y a/\r=a+1:=by
 have⟨j,hj,e⟩:=p5 h
 have b:(bump l k)[j]?=Y r:=by rw[p6 hj,e]
 rw[aN0]at b;grind
variable {w a:Nat}{x:Nd}
theorem aQ5 (h:Inv ns (c+1))(A:ns[i]?=Y n)(M:n.args[w]?=Y a)(N:n.read[w]?=Y r)(B:ns[a]?=Y x)(z:r<x.out.length):
  cC ns c i {n with read:=bump n.read w}:=by
 have l:=h.at' i n A;have f:=l.mono (c':=c) (Le.refl _) O;have C:=(h.at' a x B).jY;refine⟨by simp[aQ6,l.len],f.arg,?_,f.rL,f.Gr,f.fst,f.jY,f.ku,?_,f.lO,f.vX,f.tb,f.kH,?_⟩
 .intro j b s D u g o;simp only[aN0]at g
  cases q:n.read[j]? with
  |none=>rw[q]at g;simp at g
  |some t=>
   have F:=l.rd j b t D u q o;grind
 .intro s g
  rcases aKT g with p|⟨t,p,L⟩
  .exact f.jL s p
  .grind
 .cases l.shp with
  |fE k e hc=>exact .fE k e hc
  |iL v k e hv=>exact .iL v k e hv
  |qO v d m k e=>exact .qO v d m k e
  |bin m b v d x y k e=>exact .bin m b v d x y k e
theorem aTV (h:Inv ns c)(e:ns[i]?=Y n):Ok {n with read:=bump n.read w}:=by
 have d:=h.at' i n e;have a:=d.ok;refine⟨a.t,a.told,a.had,a.part,?_,a.out,a.k⟩;intro r f
 rcases aKT f with b|⟨g,b,j⟩
 .exact a.read r b
 .have:=d.jL g (List.mem_of_getElem? b);omega
theorem aLF (h:Inv ns (c+1))(d:ns[i]?=Y n)(e:n.args[w]?=Y a)(f:n.read[w]?=Y r)(g:ns[a]?=Y x)(b:r<x.out.length):Inv (ns.set i {n with read:=bump n.read w}) c:=((h.tick (show c<=c+1 by omega)).put d (n':={n with read:=bump n.read w}) rfl (C8 _) (aQ5 h d e f g b)).2.1
variable {s:St}
theorem aDR {y:St×Bool}(a:s.nodes[i]?=Y n)(h:after s i w=Y y):(s.clock<1->y.2=J)/\(1<=s.clock->y=(⟨s.nodes.set i {n with read:=bump n.read w},s.clock-1⟩,I)):=by
 unfold after at h;rw[a,A8]at h;have⟨ns,h1,h2⟩:=B7.1 h
 have e:ns=s.nodes.set i {n with read:=bump n.read w}:=by
  unfold put at h1;grind
 grind
theorem aNI (g:s.clock=(c:Int))(h:Inv s.nodes c)(d:s.nodes[i]?=Y n)(l:n.args[w]?=Y a)(o:n.read[w]?=Y r)(p:s.nodes[a]?=Y x)(j:r<x.out.length):
  ∃e b,after s i w=Y (e,b)/\(b=I->∃f,f<c/\e.clock=(f:Int)/\Inv e.nodes f/\pT s.nodes i e.nodes/\∃k,e.nodes[i]?=Y k/\k.out=n.out):=by
 have hi:=(q8.1 d).1
 have m:put s.nodes i {n with read:=bump n.read w}=Y (s.nodes.set i {n with read:=bump n.read w}):=by
  unfold put;rw[if_pos ⟨aTV h d,hi⟩]
 unfold after;rw[d,A8,m,A8]
 cases c with
 |zero=>simp_all
 |succ c=>
  rw[if_neg (by rw[g];omega)];exact⟨_,_,rfl,λ_=>⟨c,O,by simp only;omega,aLF h d l o p j,pT.set d rfl (C8 _),_,q9 hi,rfl⟩⟩
structure eW (s:St) (c i j:Nat) (x:St×Option Int):Prop where
 ex:∀v,x.2=Y v->∃c',c'<=c/\x.1.clock=(c':Int)/\Inv x.1.nodes c'/\pT s.nodes i x.1.nodes/\∃n',x.1.nodes[i]?=Y n'/\j<n'.out.length
theorem eW.mid {a:St}{c c1 i:Nat}{x:St×Option Int}(h:pT s.nodes i a.nodes)(hc:c1<=c)(b:eW a c1 i r x):eW s c i r x:=by
 refine⟨λv e=>?_⟩;have⟨c',h1,h2,h3,h4,h5⟩:=b.ex v e;exact⟨c',O,h2,h3,h.trans h4,h5⟩
noncomputable def step1 (f:Nat)(s:St)(i:Nat)(n:Nd):Option (St×Bool):=
 (next s.nodes n).bind λo=>match o with
 |some c=>if s.clock-1<0 then Y (⟨s.nodes,s.clock-1⟩,J)else(give s i n c).map λa=>(a,I)
 |none=>reads (sym f) s i n
theorem Xx (f:Nat)(s:St)(i j:Nat):sym (f+1) s i j=(s.nodes[i]?).bind λn=>match n.out[j]? with
  |some c=>Y (s,Y c)
  |none=>(step1 f s i n).bind λx=>if x.2 then sym f x.1 i j else Y (x.1,X):=by
 rw[sym]
 cases s.nodes[i]? with
 |none=>rfl
 |some n=>
  simp
  cases n.out[j]? with
  |some c=>rfl
  |none=>
   unfold step1
   cases next s.nodes n with
   |none=>rfl
   |some o=>
    simp
    cases o with
    |none=>rfl
    |some g=>
     simp only;split
     .rfl
     .cases give s i n g with
      |none=>rfl
      |some a=>rfl
theorem aDT (h:Inv s.nodes c)(k:s.nodes[i]?=Y n)(o:n.t≠[])(l:next s.nodes n=Y X):
  ∃e a r,side s.nodes n=Y e/\n.args[e]?=Y a/\n.read[e]?=Y r/\
   ((∃v w,n.t=[v,w]/\e=0)\/(∃v w x y,n.t=[v,w,x,y]/\n.args.length=2/\e<=1)):=by
 have g:=h.at' i n k
 cases g.shp with
 |fE d f hc=>exact absurd d o
 |iL v d f hv=>exact absurd l (aMz d f g.fst.1 hv)
 |qO v w a d f=>
  obtain⟨r,m⟩:∃r,n.read=[r]:=List.length_eq_one_iff.1 (by rw[g.len,f];rfl);exact⟨0,a,r,aSc d,by rw[f];rfl,by rw[m];rfl,Or.inl ⟨v,w,d,rfl⟩⟩
 |bin a b v w x y d f=>
  have⟨e,hsd,hle⟩:=aP9 h g
  have j:e<n.args.length:=by rw[f];simp;omega
  exact⟨e,n.args[e],n.read[e]'(by rw[g.len];exact j),hsd,p6 _,p6 _,Or.inr ⟨v,w,x,y,d,by rw[f];rfl,hle⟩⟩
def Tot (f:Nat):Prop:=∀(s:St) (i j:Nat) (c:Nat),s.clock=(c:Int)->c<=3000->Inv s.nodes c->∀n,s.nodes[i]?=Y n->j<=n.out.length->c+i+2<=f->∃x,sym f s i j=Y x/\eW s c i j x
theorem aI7 (T:Tot w)(B:s.clock=(c:Int))(N:c<=3000)(h:Inv s.nodes c)(q:s.nodes[i]?=Y n)(hf:c+i+1<=w):
  ∃F b,step1 w s i n=Y (F,b)/\(b=I->∃L,L<c/\F.clock=(L:Int)/\Inv F.nodes L/\pT s.nodes i F.nodes/\∃p,F.nodes[i]?=Y p/\n.out.length<=p.out.length):=by
 have hi:=(q8.1 q).1;have A:=h.at' i n q
 have up:∀{p:Nd},Le s.nodes (s.nodes.set i p)->p.pos=n.pos:=λl=>by
  have⟨m,k1,k2,_⟩:=l.at' i n q;grind
 unfold step1;have⟨o,u⟩:=uY h A;rw[u,A8]
 cases o with
 |some g=>
  cases c with
  |zero=>simp_all
  |succ c=>
   simp only;rw[if_neg (by rw[B];omega)];have⟨p,g1,g2,g3,g4⟩:=aK4 h q u;unfold give;rw[g1,A9,A9];exact⟨_,_,rfl,λ_=>⟨c,O,by simp only;omega,g2,pT.set q (up g3) O,p,q9 hi,O⟩⟩
 |none=>
  unfold reads
  by_cases z:n.t=[]
  .rw[if_pos z]
   cases c with
   |zero=>
    have C:nN n:=by
     cases A.shp with
     |fE z M hc=>exact hc
     |iL v j M hv=>rw[z]at j;cases j
     |qO v d a j M=>rw[z]at j;cases j
     |bin a b v d x y j M=>rw[z]at j;cases j
    have W:=A.ku;obtain⟨m,S,P⟩:=Oi C O
    have aa:Ok {n with part:=n.part.mul m,k:=n.k+1}:=by
     have u:=A.ok;refine⟨u.t,u.told,u.had,cO.mono (aLj A.kH P) ?_,u.read,u.out,by simp only;omega⟩;omega
    have R:put s.nodes i {n with part:=n.part.mul m,k:=n.k+1}=Y (s.nodes.set i {n with part:=n.part.mul m,k:=n.k+1}):=by
     unfold put;grind
    simp_all
   |succ c=>
    have⟨m,p,S,P,m3,m4,m5⟩:=aOb h q z;rw[S,A8,P,A9];exact⟨_,_,rfl,λ_=>⟨c,O,by simp only;omega,m3,pT.set q (up m4) (by rw[m5];exact C8 _),p,q9 hi,by rw[m5];exact C8 _⟩⟩
  .rw[if_neg z];have⟨sd,a,r,e1,e2,e3,_⟩:=aDT h q z u;rw[e1,A8,e2,A8,e3,A8];have⟨la,ra⟩:=A.arg sd a e2;have D:=p6 la;have⟨x,x1,x2⟩:=T s a r c B N h _ D (A.rd sd a r _ e2 e3 D) O;rw[x1,A8];have⟨s2,o2⟩:=x
   cases o2 with
   |none=>exact⟨_,_,rfl,λe=>by cases e⟩
   |some v=>
    have⟨c2,y1,y2,y3,y4,p,y5,y6⟩:=x2.ex v rfl;have⟨s3,b,z1,z2⟩:=aNI y2 y3 (y4.same i n q ra) e2 e3 y5 y6;refine⟨s3,b,z1,λU=>?_⟩;have⟨c3,q1,q2,q3,q4,n3,q5,q6⟩:=z2 U;exact⟨c3,O,q2,q3,(y4.up ra).trans q4,n3,q5,by rw[q6];exact C8 _⟩
theorem total:∀f,Tot f
 |0,s,i,j,c,a,d,h,n,k,m,l=>by omega
 |f+1,s,i,j,c,a,d,h,n,k,m,l=>by
  rw[Xx,k,A8]
  cases g:n.out[j]? with
  |some v=>exact⟨_,rfl,⟨λo e=>⟨c,C8 _,a,h,pT.refl _ _,n,k,(q8.1 g).1⟩⟩⟩
  |none=>
   have⟨s',b,h1,h2⟩:=aI7 (total f) a d h k O;rw[h1,A8]
   cases b with
   |false=>exact⟨_,rfl,⟨λv e=>by cases e⟩⟩
   |true=>
    have⟨c',k1,k2,k3,k4,n',k5,k6⟩:=h2 rfl;have⟨x,x1,x2⟩:=total f s' i j c' k2 O k3 n' k5 O O;exact⟨x,x1,x2.mid k4 O⟩
theorem aLR {f:Nat}(g:s.clock=(c:Int))(e:c<=3000)(h:Inv s.nodes c)(l:s.nodes[i]?=Y n)(k:c+i+1<=f):
  ∃a b,step1 f s i n=Y (a,b)/\(b=I->∃d,d<c/\a.clock=(d:Int)/\Inv a.nodes d/\pT s.nodes i a.nodes/\∃j,a.nodes[i]?=Y j/\n.out.length<=j.out.length):=aI7 (total f) g e h l k
theorem Sa:∀(f:Nat) (s:St) (i j:Nat) (a:St) (v:Int),sym f s i j=Y (a,Y v)->∃b,a.nodes[i]?=Y b/\b.out[j]?=Y v
 |0,s,i,j,a,v,h=>by simp[sym]at h
 |f+1,s,i,j,a,v,h=>by
  rw[Xx]at h;have⟨n,hn,h⟩:=B7.1 h
  cases e:n.out[j]? with
  |some c=>
   grind
  |none=>
   rw[e]at h;have⟨x,hx,h⟩:=B7.1 h
   by_cases d:x.2=I
   .rw[if_pos d]at h;exact Sa f x.1 i j a v h
   .grind
end
end Rf
namespace Rf
open Nw
inductive Wt where
 |fr (p q:Int)
 |fE (op:Op) (ts:LB)
 |neg (t:Wt)
 |two (k:Kind) (a b:Wt)
noncomputable def of:Wt->List Nd->Option (List Nd×Nat)
 |.fr p q,ns=>(more ns (fresh (decide (0<=p)) [(p,q)] [])).map λd=>(d,ns.length)
 |.fE op e,ns=>(more ns { fresh I [] []with op:=op,terms:=e}).map λd=>(d,ns.length)
 |.neg t,ns=>(of t ns).bind λx=>(more x.1 (fresh J [(-1,0),(0,1)] [x.2])).map λd=>(d,x.1.length)
 |.two k a b,ns=>(of a ns).bind λx=>(of b x.1).bind λy=>(y.1[x.2]?).bind λnx=>(y.1[y.2]?).bind λny=>(more y.1 (two k nx.pos ny.pos x.2 y.2)).map λd=>(d,y.1.length)
def Wt.size:Wt->Nat
 |.fr _ _=>1
 |.fE _ _=>1
 |.neg t=>t.size+1
 |.two _ a b=>a.size+b.size+1
def Wt.Ok:Wt->Prop
 |.fr p q=>0<q/\Bits 6100 p/\Bits 6100 q
 |.fE op d=>op=.pi\/op=.e\/(op=.cf/\2<=d.length/\∀a∈d,Bits 40 a)
 |.neg t=>t.Ok
 |.two _ a b=>a.Ok/\b.Ok
section
variable {ns:List Nd} {c:Nat}
theorem aOa (k:Kind):∀v∈k.tE,Bits 13000 v.1/\Bits 13000 v.2:=by
 have b0:Bits 13000 0:=lF;have b1:Bits 13000 1:=mN E3;intro v hv
 cases k<;>simp[Kind.tE]at hv
 .grind
 .rcases hv with rfl|rfl|rfl|rfl
  .simp_all
  .simp_all
  .exact⟨yU b1,b0⟩
  .simp_all
 .grind
 .grind
theorem wV:∀(t:Wt) (ns:List Nd),t.Ok->c<=3000->Inv ns c->∃f d,of t ns=Y (f,d)/\Grown ns c f/\d<f.length/\ns.length<=d/\f.length<=ns.length+t.size
 |.fr p q,ns,i,hc,h=>by
  obtain⟨w,y,z⟩:=i
  obtain ⟨k1,k2⟩:=Xm h (n':=fresh (decide (0<=p)) [(p,q)] []) (by
   refine Wp hc rfl rfl rfl rfl rfl (by simpa[fresh]using hc) ?_ (λj a r=>by simp[fresh]at r) (.iL (p,q) rfl rfl ?_)
   .intro v hv;simp[fresh]at hv;subst hv;exact⟨eJ y E3,eJ z E3⟩
   .by_cases C:0<=p
    .refine Or.inl ?_;show fits [fC one (p,q)]=I;rw[Kt,qE];exact Or.inl ⟨C,by simp only;omega,Or.inr w⟩
    .refine Or.inr ⟨by simp[fresh];omega,rfl,by simp only;omega,w⟩)
  unfold of;rw[k1];exact⟨_,_,rfl,k2,E4,C8 _,by simp[Wt.size]⟩
 |.fE op F,ns,i,hc,h=>by
  obtain⟨k1,k2⟩:=Xm h (n':={ fresh I [] []with op:=op,terms:=F}) (Wp hc rfl rfl rfl rfl rfl (by simpa[fresh]using hc) (λv hv=>by simp[fresh]at hv) (λj a r=>by simp[fresh]at r) (.fE rfl rfl i));unfold of;rw[k1];exact⟨_,_,rfl,k2,E4,C8 _,by simp[Wt.size]⟩
 |.neg t,ns,i,hc,h=>by
  obtain⟨m,d,e1,g,hd,A,M⟩:=wV t ns i hc h
  obtain ⟨k1,k2⟩:=Xm g.inv (n':=fresh J [(-1,0),(0,1)] [d]) (by
   refine Wp hc rfl rfl rfl rfl rfl (by simpa[fresh]using hc) ?_ ?_ (.qO _ _ d rfl rfl)
   .intro v hv;simp[fresh]at hv
    rcases hv with rfl|rfl
    .exact⟨yU (mN E3),lF⟩
    .exact⟨lF,mN E3⟩
   .intro j b B;have:=Sq B;subst this
    exact⟨hd,hd⟩)
  unfold of;rw[e1,A8,k1];exact⟨_,_,rfl,g.trans k2,E4,by simp only;omega,by simp[Wt.size];omega⟩
 |.two k a b,ns,i,hc,h=>by
  obtain⟨m,d,e1,u,hd,A,N⟩:=wV a ns i.1 hc h;obtain⟨n,e,e2,o,s,L,P⟩:=wV b m i.2 hc u.inv;have l:=Nat.lt_of_lt_of_le hd o.le.len
  obtain ⟨k1,k2⟩:=Xm o.inv (n':=two k n[d].pos n[e].pos d e) (by
   refine Wp hc rfl rfl rfl rfl rfl (by simpa[two,fresh]using hc) (aOa k) ?_ ?_
   .intro j x D
    rcases args2 D with rfl|rfl
    .exact⟨l,l⟩
    .exact⟨s,s⟩
   .cases k<;>exact .bin d e _ _ _ _ rfl rfl)
  unfold of;rw[e1,A8];simp only;rw[e2,A8,p6 l,A8,p6 s,A8,k1];exact⟨_,_,rfl,(u.trans o).trans k2,E4,by simp only;omega,by simp[Wt.size];omega⟩
theorem Rx (c:Nat):Inv [] c:=⟨λi n h=>by simp at h⟩
end
end Rf
namespace Ab
open Rf (Wt)
variable {t b:Int}
theorem Rz (c:0<aN t b):(eZ t b).natAbs<=t.natAbs/\(eP t b).natAbs<=b.natAbs:=by
 have k:∀x:Int,(x/aN t b).natAbs<=x.natAbs:=λx=>Kk c
 have a:=λx=>by have:=k (-x);simpa using this
 unfold eZ eP;constructor
 .cases decide (Nm.cmp b 0<0)
  .cases (Nm.cmp b 0==0)<;>simp only[cond_false]
   .exact k t
   .cases decide (Nm.cmp t 0<0)<;>simp
    .exact k t
    .exact a t
  .exact a t
 .cases decide (Nm.cmp b 0<0)
  .cases (Nm.cmp b 0==0)<;>simp only[cond_false]
   .exact k b
   .cases decide (Nm.cmp t 0<0)<;>simp
    .exact k b
    .exact a b
  .exact a b
def cV:Rf.Kind->Int
 |.add=>6
 |.sub=>7
 |.mul=>8
 |.div=>9
def Np (k a b c d:Int):Int:=bif k==6 then a*d+c*b else bif k==7 then a*d+-c*b else bif k==8 then a*c else a*d
def Hv (k a b c d:Int):Int:=bif k==6 then b*d else bif k==7 then b*d else bif k==8 then b*d else b*c
def qL (c:Rf.Kind)(p q a b:Int):Int:=eZ (Np (cV c) p q a b) (Hv (cV c) p q a b)
def qK (c:Rf.Kind)(p q a b:Int):Int:=eP (Np (cV c) p q a b) (Hv (cV c) p q a b)
abbrev RB:=Go.Proofs.YtnlddnbfoehboaaGreatDoor.Bits
theorem Ka (a:b≠0):0<aN t b:=by
 unfold aN
 simp_all
theorem aRD (c:b≠0):0<eP t b:=by
 have e:=Ka (t:=t) c
 have a:aN t b ∣ b:=by
  exact x8.2 (D0 _ _)
 unfold eP
 rcases y8 c with h|h
 .rw[iQ h];have d:=(z8 (Int.dvd_neg.2 a)).symm
  rcases u5 0 (-b/aN t b)with h1|h1
  .exact h1
  .have:=u7 (show(0:Int)<=aN t b by omega) h1;omega
 .rw[gW h];have d:=(z8 a).symm
  rcases u5 0 (b/aN t b)with h1|h1
  .exact h1
  .have:=u7 (show(0:Int)<=aN t b by omega) h1;omega
theorem Zx {f:Rf.Kind}{p q a:Int}(d:0<q)(c:0<b)(g:¬(f=.div/\a=0)):Hv (cV f) p q a b≠0:=by
 cases f with
 |add=>exact A0 (A4 d c)
 |sub=>exact A0 (A4 d c)
 |mul=>exact A0 (A4 d c)
 |div=>exact Int.mul_ne_zero O (λe=>g ⟨rfl,e⟩)
def wA:Wt->Wt
 |.fr p q=>.fr (-p) q
 |t=>.neg t
def pC (c:Rf.Kind):Wt->Wt->Option Wt
 |.fr p q,.fr a b=>if c=.div/\a=0 then X else Y (.fr (qL c p q a b) (qK c p q a b))
 |t,.fr a b=>if c=.div/\a=0 then X else Y (.two c t (.fr a b))
 |t,u=>Y (.two c t u)
def pN (k:Int):Rf.Op:=if k=2 then .pi else if k=3 then .e else .cf
def Cp (k:Int):Rf.Kind:=if k=6 then .add else if k=7 then .sub else if k=8 then .mul else .div
def dG:Rd.Tr->Option Wt
 |.nil=>X
 |.node _ _ a l r=>
  if a.1=1 then Y (.fr a.2.1 1)
  else if a.1<=4 then Y (.fE (pN a.1) a.2.2)
  else if a.1=5 then(dG l).map wA
  else if a.1<=9 then(dG l).bind λu=>(dG r).bind λv=>pC (Cp a.1) u v
  else X
theorem aUJ (c:b≠0):aN (eZ t b) (eP t b)=1:=by
 have i:=Ka (t:=t) c;have f:aN t b ∣ t:=x8.2 (Nat.gcd_dvd_left _ _);have g:aN t b ∣ b:=x8.2 (D0 _ _)
 have a:∀x y:Int,x.natAbs=t.natAbs->y.natAbs=b.natAbs->aN (x/aN t b) (y/aN t b)=1:=by
  intro x y d e
  have e1:(x/aN t b).natAbs=t.natAbs/C7 t.natAbs b.natAbs:=by
   rw[A5 (A6.1 (by rw[d];exact A6.2 f)),d];rfl
  have e2:(y/aN t b).natAbs=b.natAbs/C7 t.natAbs b.natAbs:=by
   rw[A5 (A6.1 (by rw[e];exact A6.2 g)),e];rfl
  unfold aN at*;rw[e1,e2,Nat.gcd_div_gcd_div_gcd_of_pos_right O];rfl
 unfold eZ eP
 rcases y8 c with h|h
 .rw[iQ h];exact a _ _ E4 E4
 .rw[gW h];exact a _ _ rfl rfl
theorem aWL {p q:Int}(a:0<q)(h:aN p q=1):eZ (-p) q=-p/\eP (-p) q=q:=by
 have e:aN (-p) q=1:=by
  unfold aN at*
  rwa[Int.natAbs_neg]
 unfold eZ eP;rw[gW a,e];exact⟨A7 _,A7 _⟩
def Lz (p q:Int):FF:=Nm.text (eZ p q)++[47]++Nm.text (eP p q)
def Fj:Rd.Tr->Prop
 |.nil=>True
 |.node _ _ a l r=>a.1<=9/\Fj l/\Fj r
end Ab
open Go.Deep (BT)
theorem Cj:(prog.info? 25).map (λi=>(i.zero,i.size,i.bytes))=Y (Y (.agg #[.int .i64 0,.int .i64 0,.int .i64 0,.string ⟨#[]⟩]),4,40):=E0
def dR:List Step->List Value
 | []=>[]
 |x::r=>.int .i64 x.1::.int .i64 x.2.1::.int .i64 x.2.2.1::.string x.2.2.2::dR r
theorem aEr (a b:List Step):dR (a++b)=dR a++dR b:=by
 induction a with
 |nil=>rfl
 |cons x r c=>simp[dR,c]
theorem aP6:∀(l:List Step) (n:Nat) (h:n<l.length),(dR l)[n*4]?=Y (.int .i64 l[n].1)/\(dR l)[n*4+1]?=Y (.int .i64 l[n].2.1)/\(dR l)[n*4+2]?=Y (.int .i64 l[n].2.2.1)/\(dR l)[n*4+3]?=Y (.string l[n].2.2.2):=by
 intro l
 induction l with
 |nil=>intro n h;simp at h
 |cons x r a=>
  intro n h
  cases n with
  |zero=>simp[dR]
  |succ n=>
   have:=a n (by simpa using h)
   simpa[dR,Nat.add_mul]using this
def yH (s:ByteArray):Prop:=∀t e p,Rd.read 1300 s=Y (Y t,e,p)->Ab.Fj t
def kJ (x:Step):Prop:=(x.1=1/\yH x.2.2.2)\/x.1=3\/x.1=4\/x.1=5
theorem aPN {kd A B:Int}{S:ByteArray}(h:kd=1->yH S)(a:kd=1\/kd=3\/kd=4\/kd=5):kJ (kd,A,B,S):=a.imp (λe=>⟨e,h e⟩) id
variable {v:World}{z:Value}{l:List Step}
theorem aPH {w:Nat}(h:v.ownsRow w 25 4 z l.length (dR l))(n:l.length<=1048576)(b:∀x∈l,iV x):ScrAt v z l:=by
 rcases h.2 with⟨e,o⟩|⟨g,d,f,e,_,c,m⟩
 .have k:l=[]:=by
   grind
  subst k;exact⟨⟨X,0,e,C8 _,by unfold maxLen;omega,Or.inl rfl⟩,b⟩
 .have⟨h1,h2,_,h4⟩:=m;refine⟨⟨_,d,e,h1,h2,Or.inr ⟨g,0,rfl,λi hi=>?_⟩⟩,b⟩;have⟨a0,a1,a2,a3⟩:=aP6 l i hi
  have a:∀(j:Nat) (u:Value),(dR l)[j]?=Y u->f[j]?=Y u:=by
   grind
  simp;exact⟨aB c (a _ _ a0),aB c (a _ _ a1),aB c (a _ _ a2),aB c (a _ _ a3)⟩
theorem kV {a:Addr}(h:v.cell? a=Y z):a.block<v.heap.size:=by
 unfold World.cell? at h;grind
theorem Vs (w:World)(x y z u:Value)(t:TypeId):∀j q,[x,y,z,u][j]?=Y q->(w.alloc (.cells #[x,y,z,u] t)).cell? ((⟨w.heap.size,0,X⟩:Addr).add j)=Y q:=by
 intro j q a
 match j,a with
 |0,a=>simp at a;subst a;simp[Addr.add]
 |1,a=>simp at a;subst a;simp[Addr.add]
 |2,a=>simp at a;subst a;simp[Addr.add]
 |3,a=>simp at a;subst a;simp[Addr.add]
def xR (w:World)(l:List Step)(v i:Value)(wr:World):Prop:=
 ∃(k:Nat) (a:List Step),k<=l.length/\i=.int .i64 k/\a.length<=k/\wr.ownsRow w.heap.size 25 4 v a.length (dR a)/\(∀x∈a,iV x/\kJ x)/\Below w.heap.size w wr
theorem aPM {wr L:World}{d:List Step}{k:Nat}{c:Value}{x:Step}{o:Obj}(h:d.length<=k)(i:k<l.length)(e:wr.ownsRow v.heap.size 25 4 z d.length (dR d))(f:∀x∈d,iV x/\kJ x)
  (a:Below v.heap.size v wr) (j:iV x) (m:kJ x)
  (b:L.ownsRow v.heap.size 25 4 c (d.length+1) (dR d++[.int .i64 x.1,.int .i64 x.2.1,.int .i64 x.2.2.1,.string x.2.2.2])) (g:(wr.alloc o).grownBy L z.ownBlock):
  xR v l c (.int .i64 (k+1)) L:=by
 refine⟨k+1,d++[x],O,E4,by simp;omega,?_,?_,qT e a a.size o g⟩
 .rw[List.length_append,aEr];exact b
 .grind
def sM (w:World)(e:Ending)(a:World):Prop:=e=.returned (.bool I)/\Below w.heap.size w a
theorem aPO (w:World)(v:Value)(l:List Step)(N:Nat)(h:ScrAt w v l)(L:∀x∈l,x.1=1->yH x.2.2.2)(r:w.cell? ⟨N,0,X⟩=Y (.int .i64 4))(j:w.cell? ⟨N,1,X⟩=Y (.int .i64 5))
  (s:∀(q:World) (T:Value) (p:List Step),ScrAt q T p->p.length<=1048576->(∀x∈p,kJ x)->Below w.heap.size w q->Calls prog 11 #[T] q λe w'=>e=.returned (.int .i64 (-1))/\Below q.heap.size q w'):
  Calls prog 7 #[v,.slice (Y ⟨N,0,X⟩) 2 2] w (sM w):=by
 have S:=cA (aI5 w v l h);obtain⟨ao,ab,rfl,h1,h2,o⟩:=h.sl;have⟨i,hi,hz,hsize,hby⟩:=info_parts Cj;have W:=cA s;clear s
 go_in
 go_wp2_with fail
 refine(S.out).mono ?_;rintro e q⟨b,rfl,P,rfl⟩;cases b
 .go_wp2_with fail
  go_ret
  exact⟨rfl,Below.refl _ _⟩
 .have hn:=P rfl;clear P
  go_wp2_with fail
  go_loopw [5,15] (λv i wr=>xR w l v i wr) (λ_ i _=>l.length-(intOf i).toNat)
  case atStart=>exact⟨0,[],B9 _,rfl,C8 _,World.ownsRow_nil _ _ _ _,(λx t=>by cases t),Below.refl _ _⟩
  case round=>
   obtain⟨k,p,hk,rfl,C,c,d,a⟩:=hrel;obtain⟨aa,ag,ad,rfl⟩:=Ra c
   by_cases f:k<l.length
   .rcases o with o|⟨b,ah,rfl,o⟩
    .rw[o]at f;simp at f
    have F:=cA (h.ok l[k] (r8 f));have M:=cA (L l[k] (r8 f));have⟨c0,c1,c2,c3⟩:=o k f;generalize l[k]=x at*;have⟨kd,A,B,S⟩:=x;simp only at c0 c1 c2 c3;have af:=a.size;have d0:=(a.cell (kV c0)).trans c0;have d1:=(a.cell (kV c1)).trans c1;have d2:=(a.cell (kV c2)).trans c2;have d3:=(a.cell (kV c3)).trans c3;have dk:=(a.cell (kV r)).trans r;have ae:=(a.cell (kV j)).trans j;clear o c0 c1 c2 c3
    by_cases m:kd=1\/kd=3\/kd=4\/kd=5
    .have U:=cA (aPN (A:=A) (B:=B) M.out m)
     rcases m with rfl|rfl|rfl|rfl
     all_goals
      go_wp2_with fail
      refine wp_loop_rounds 3 ?_;rw[rounds_succ]
      go_wp2_with fail
      rw[rounds_succ]
      go_wp2_with fail
      rw[rounds_succ]
      go_wp2_with (at_builtin;(refine wpList_append_own _ rfl _ _ 22 rfl w.heap.size 25 i (.agg #[.int .i64 0,.int .i64 0,.int .i64 0,.string ⟨#[]⟩]) 4 40 underlying22 hi hz hsize hby rfl E3 _ _ _ rfl (c.alloc _) ⟨wr.heap.size,0,X⟩ 1 1 [.int .i64 _,.int .i64 A,.int .i64 B,.string S] rfl rfl (Vs _ _ _ _ _ _) (by intro u R;simp at R;rcases R with rfl|rfl|rfl|rfl<;>rfl) (by unfold maxLen;omega) O (by simp;omega) ?_;intro v' w3 n g D;have y:=cA (aPM C f c d a F.out U.out n g)))
      go_roundw
      case rel=>exact y.out
      case measure=>simp[intOf];omega
    simp at m
    have e1:(kd==1)=J:=by simpa using m.1
    have e3:(kd==3)=J:=by simpa using m.2.1
    have e4:(kd==4)=J:=by simpa using m.2.2.1
    have e5:(kd==5)=J:=by simpa using m.2.2.2
    clear m
    go_wp2_with fail
    refine wp_loop_rounds 3 ?_;rw[rounds_succ]
    go_wp2_with fail
    rw[rounds_succ]
    go_wp2_with fail
    rw[rounds_succ]
    go_wp2_with fail
    go_roundw
    case rel=>exact⟨k+1,p,O,E4,O,c,d,a⟩
    case measure=>simp[intOf];omega
   .obtain rfl:k=l.length:=O
    go_wp2_with fail
    refine(W.out wr _ p (aPH c O (λx t=>(d x t).1)) O (λx t=>(d x t).2) a).mono ?_;rintro e w2⟨rfl,z⟩
    go_wp2_with fail
    go_ret
    exact⟨rfl,a.trans (z.mono a.size)⟩
end Go.Proofs.YtnlddnbfoehboaaGreatDoor
