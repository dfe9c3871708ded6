import Derived.Test.YtnlddnbfoehboaaGreatDoorCPl12
import Derived.Test.YtnlddnbfoehboaaGreatDoorCPl07
import Derived.Test.YtnlddnbfoehboaaGreatDoorCPl08
import Derived.Test.YtnlddnbfoehboaaGreatDoorCPl10
import Derived.Test.YtnlddnbfoehboaaGreatDoorCPl00
import Derived.Deep.RegionHeld3
set_option linter.all false
set_option maxRecDepth 100000
set_option maxHeartbeats 2000000
namespace Go.Proofs.YtnlddnbfoehboaaGreatDoor
open Option renaming some->Y,none->X
open Bool renaming true->I,false->J
open Nat renaming le_refl->j8,sub_self->j9,le_trans->o9,lt_of_lt_of_le->p5,le_succ->p6,lt_of_le_of_lt->p8,ble->q8
open List renaming mem_cons->q9,not_mem_nil->r5,getElem?_append_left->r7,getElem?_eq_some_iff->r8,getElem?_append_right->r9,length_eq_zero_iff->s7,setIfInBounds_toArray->s8,set_cons_zero->u5,set_cons_succ->u6,toArray->u7,mem_append->u9
open Option renaming map_eq_some_iff->x8,bind_eq_some_iff->y8
open Go.World renaming size_alloc->z8,ownsRow_nil->A0
open Or renaming inr->A4
open Int renaming emod_lt_of_pos->A5,toNat_of_nonneg->A6,emod_nonneg->A7
open Go.Proofs.Tryz
open Go.RowKit
namespace Ab
open Rf (Nd Inv)
structure NodsX (w:World) (own:dQ) (at1:NN) (ns:List Nd):Prop where
 nd:∀i n,ns[i]?=Y n->iG w own at1 i n
 new:∀k,w.heap.size<=k->own k=X
section
variable {w w':World} {own own':dQ} {at1 at2:NN} {ns:List Nd} {i:Nat} {n:Nd} {pos:Bool} {tv av rv sv tl:Value} {la b kr kh:Nat} {xs ys us ts:PH} {t:List Rf.V} {ar:NU}
theorem Jy.xM (h:Jy w at1 ar av)(f:∀a∈ar,at2 a=at1 a):Jy w at2 ar av:=by
 rcases h with h|⟨c,k,d,e⟩
 .exact Or.inl h
 .refine A4 ⟨c,k,d,?_⟩;rw[e];congr 3
  exact List.map_congr_left λa h=>by rw[f a h]
theorem iG.xM (h:iG w own at1 i n)(hi:at2 i=at1 i)(c:∀a∈n.args,at2 a=at1 a):iG w own at2 i n:=by
 obtain⟨tv,av,rv,d,hv,sv,tl,e,sq,xs,ys,f,us,ts,B⟩:=h;have r:=B.rest;exact⟨tv,av,rv,d,hv,sv,tl,e,sq,xs,ys,f,us,ts,by rw[hi];exact B.blk,by rw[hi];exact B.rT,⟨r.told,r.part,r.pq,r.tG,r.t,⟨r.args.1.xM c,r.args.2⟩,r.op,r.terms,r.x,r.sq⟩,B.read,B.out,B.had,B.hne⟩
def oE (own:dQ)(i b kr kh:Nat):dQ:=λk=>if k=b then Y (i,0)else if k=kr then Y (i,1)else if k=kh then Y (i,3)else own k
def Gb (at1:NN)(i b:Nat):NN:=λa=>if a=i then b else at1 a
theorem NodsX.add (h:NodsX w own at1 ns)(o:∀n∈ns,∀a∈n.args,a<ns.length)(N:NodeNew w w' pos tv av rv sv tl la b kr kh xs ys us)(ht:TX w own n.t tv ts)(ha:Jy w at1 n.args av/\lW own X av)(q:la=n.args.length)(P:∀a∈n.args,a<ns.length)
  (e1:n.pos=pos) (e2:n.read=n.args.map λ_=>0) (e3:n.out=[]) (e4:n.told=Rf.one) (F:n.had=[Rf.one]) (e6:n.k=0) (e7:n.part=Rf.one) (R:(n.t=[]->sv=.string (Da n.op))/\One sv) (S:sO w own n.terms tl):
  NodsX w' (oE own ns.length b kr kh) (Gb at1 ns.length b) (ns++[n])/\gU w own (oE own ns.length b kr kh):=by
 obtain⟨n1,n2,n3⟩:=N.new
 have s:gU w own (oE own ns.length b kr kh):=by
  intro k l;unfold oE;rw[if_neg O,if_neg O,if_neg O]
 have l:Kp w w' []:=Kp.cQ N.below
 have hc:zV own [] X:=λk l=>by cases l
 have p:∀a,a<ns.length->Gb at1 ns.length b a=at1 a:=λa h=>by unfold Gb;rw[if_neg O]
 have y:Gb at1 ns.length b ns.length=b:=by unfold Gb;rw[if_pos rfl]
 have lb:=bL N.blk;have lh:=bL N.hd
 have lr:kr<w'.heap.size:=by
  rcases N.rd with⟨_,_,e⟩|⟨_,_,e⟩
  .rw[e];exact lb
  .exact bL e
 have nw:∀{C:PH},eK w.heap.size w' [1,0,0,1] C->(∀x∈C,xZ [b,kr,kh] x)->dT w' (oE own ns.length b kr kh) [1,0,0,1] C:=by
  intro C hv hA;refine⟨hv.1,λx f=>?_⟩;have a1:=hv.2 x f;have v:=hA x f;unfold iU at a1;unfold xZ at v;unfold lW;split
  .simp only[q9,r5,or_false,not_or]at a1 v;unfold oE;rw[if_neg v.1,if_neg v.2.1,if_neg v.2.2];exact h.new _ a1
  .trivial
 have T:=nw N.nx λx f=>N.vH x (by simp[f])
 have U:=nw N.ny λx f=>N.vH x (by simp[f])
 have B:=nw N.nu λx f=>N.vH x (by simp[f])
 have r:=pW _ _ B.1;refine⟨⟨λj m u=>?_,λk M=>?_⟩,s⟩
 .by_cases W:j<ns.length
  .rw[r7 W]at u;have z:=List.mem_of_getElem? u
   exact((h.nd j m u).keep l (λk l=>by cases l) s).xM (p j W) λa h=>p a (o m z a h)
  .have L:j=ns.length:=by have:=(r8.1 u).1;simp at this;omega
   subst L;rw[r9 (j8 _),j9]at u;cases u;refine⟨tv,av,rv,nilR,.slice (Y ⟨kh,0,X⟩) 1 1,sv,tl,.pointer X,.pointer X,xs,ys,[.bool J,nilR,.bool J,nilR],us,ts,?_,?_,⟨?_,?_,?_,?_,?_,?_,R,?_,rfl,rfl⟩,?_,?_,?_,?_⟩
   .rw[y,N.blk];unfold cX rJ;rw[e1,e6];rfl
   .rw[y];unfold oE;rw[if_pos rfl]
   .rw[e4];exact T
   .rw[e7];exact U
   .refine⟨⟨rfl,Kf J _,rfl,Kf J _,trivial⟩,λx f=>?_⟩;simp only[q9,r5,or_false]at f
    rcases f with rfl|rfl|rfl|rfl<;>trivial
   .rw[F];simpa[cM,Rf.one]using B
   .rcases ht with h|⟨c,k,d,g,h4,h5⟩
    .exact Or.inl h
    .exact A4 ⟨c,k,d,l.at g E4,h4.keep l hc s,(s k (bL g)).trans h5⟩
   .obtain⟨c,d⟩:=ha
    rcases c with⟨c,rfl⟩|⟨c,k,rfl,g⟩
    .exact⟨Or.inl ⟨c,rfl⟩,trivial⟩
    .exact⟨Jy.xM (at1:=at1) (A4 ⟨c,k,rfl,l.at g E4⟩) λa h=>p a (P a h),(s k (bL g)).trans d⟩
   .rcases S with h|⟨k,D,A,c,d,g⟩
    .exact Or.inl h
    .exact A4 ⟨k,D,A,c,l.at d E4,(s k (bL d)).trans g.1,g.2⟩
   .rw[e2]
    rcases N.rd with⟨c,d,_⟩|⟨c,d,g⟩
    .refine⟨d,λe=>absurd ?_ e⟩;rw[s7.1 (q.symm.trans c)];rfl
    .refine⟨by rw[d];rfl,λ_=>⟨kr,by rw[d,q];simp,?_,?_⟩⟩
     .rw[g,q];congr 3;rw[List.map_map];exact(List.map_const' ..).symm
     .unfold oE;rw[if_neg (λe=>c e.symm),if_pos rfl]
   .rw[e3];exact⟨⟨rfl,Or.inl ⟨rfl,rfl⟩⟩,trivial⟩
   .rw[F];refine⟨⟨by simpa using r,A4 ⟨kh,1,us.toArray,rfl,Nat.zero_le _,N.hd,j8 _,by unfold maxLen;omega,by simpa using r,by rw[show(List.length [Rf.one])*8=us.length by rw[r];rfl];simp⟩⟩,?_⟩;show oE own ns.length b kr kh kh=_;unfold oE;rw[if_neg (λe=>N.ne.1 e.symm),if_neg (λe=>N.ne.2 e.symm),if_pos rfl]
   .rw[F];simp
 .unfold oE;rw[if_neg O,if_neg O,if_neg O];exact h.new k (o9 N.below.size M)
end
variable {v:World}{f:PH}
theorem jA {k:Bool}{a b:Int}(h:aP k v [a,b] f):∃a0 d c0 a1 e c1,f=[.bool (decide (a<0)),.slice a0 d c0,.bool (decide (b<0)),.slice a1 e c1]:=by
 match f,h with
 | [n,p,o,q],⟨e0,i,e1,j,_⟩=>
  have sl:∀{z:Int} {y:Value},Gy k v z y->∃a l c,y=.slice a l c:=by
   intro z y h
   cases k<;>(obtain⟨m,g,_⟩:=h;exact Io g)
  obtain⟨a0,d,c0,rfl⟩:=sl i;obtain⟨a1,e,c1,rfl⟩:=sl j;subst e0 e1;exact⟨a0,d,c0,a1,e,c1,rfl⟩
variable {i:LB}{a:PH}
theorem Fy {n:Int}{x c:Value}(h:aP J v (n::i) (x::c::a)):NumAt v n (.agg #[x,c]):=by
 obtain⟨g,⟨b,d,e,f⟩,_⟩:=h;exact⟨b,c,by rw[g],d,e,f⟩
theorem aTY (p:Int):decide (Nm.cmp p 0≥0)=decide (0<=p):=aSS p 0
def Py (w h:World)(pos:Bool)(g:PH)(m:Nat)(e:Value)(la b:Nat):Prop:=
 ∃W a d f c,Below w.heap.size w W/\w.heap.size<=a/\W.heap[a]?=Y (.cells g.toArray 210 (0,0))/\NodeNew W h pos (.slice (Y ⟨a,0,X⟩) m m) e (.slice (Y ⟨d,0,X⟩) la la) (.string ⟨#[]⟩) nilR la b d f c c c
variable {q:Int}{z:Value}
theorem aX2 {w:World}{b:Nat}{p:Int}{c:Value}(o:w.heap[b]?=Y (.cells (.string ⟨#[113]⟩::a++[z,c]).toArray 49 (0,0)))(N:aP J w [p,q] a):Calls prog 87 #[.pointer (Y ⟨b,0,X⟩)] w λe y=>∃m,e=.returned (.pointer (Y ⟨m,0,X⟩))/\Py w y (decide (0<=p)) a 1 nilR 0 m:=by
 obtain⟨a0,s,c0,a1,t,c1,rfl⟩:=jA N;have S:w.cell? ⟨b,0,X⟩=Y (.string ⟨#[113]⟩):=aB o rfl;have M:=hid (λ(W:World) (h:Below w.heap.size w W)=>Kg W p _ (NumAt.below (Fy N) h));have R:=aTY p
 go_in
 go_wp2_with fail
 refine mX (λy:World=>y.cell? ⟨b,1,X⟩=Y (.bool (decide (p<0)))/\y.cell? ⟨b,2,X⟩=Y (.slice a0 s c0)/\y.cell? ⟨b,3,X⟩=Y (.bool (decide (q<0)))/\y.cell? ⟨b,4,X⟩=Y (.slice a1 t c1)) (λ_=>I) E0 ?_
 iterate 13 refine cH [0,1,2,3,6,7,8,9,10,11,12,13,14] 17 ⟨aB o rfl,aB o rfl,aB o rfl,aB o rfl⟩ ?_
 refine aGO (i:=4) (j:=15) E0 rfl rfl (λK n=>?_) (λK n=>?_)
 .go_simp
  refine(M.out _ (bB w)).mono ?_;rintro e B⟨rfl,x⟩;have k:=aX x;have g:=(k.block _ (bL o)).trans o
  go_wp2_with fail
  refine n.out _ _ (λ_=>⟨aB g rfl,aB g rfl,aB g rfl,aB g rfl⟩) ?_;clear n K
  try simp only[Act.put,s8,u5,u6]
  refine cH [5] 3 (⟨aB g rfl,aB g rfl,aB g rfl,aB g rfl⟩) ?_;refine Ig (i:=15) E0 rfl (λK n=>?_)
  go_simp
  have d:=iW (.cells (u7 [.bool (decide (p<0)),.slice a0 s c0,.bool (decide (q<0)),.slice a1 t c1]) 210 (0,0)) g;have u:=iJ B (.cells (u7 [.bool (decide (p<0)),.slice a0 s c0,.bool (decide (q<0)),.slice a1 t c1]) 210 (0,0));have C:Below w.heap.size w (B.alloc (.cells (u7 [.bool (decide (p<0)),.slice a0 s c0,.bool (decide (q<0)),.slice a1 t c1]) 210 (0,0))):=k.trans (((Below.refl B.heap.size B).alloc (j8 _) _).mono k.size);refine n.out _ _ (λ_=>⟨aB d rfl,aB d rfl,aB d rfl,aB d rfl⟩) ?_;clear n K
  try simp only[Act.put,s8,u5,u6]
  refine aW 16 (Fm (la:=0) E3) ?_;rintro e P⟨m,F,D,L,rfl,A⟩;have f:=(A.below.block _ (bL d)).trans d;refine⟨_,rfl,λ_=>⟨aB f rfl,aB f rfl,aB f rfl,aB f rfl⟩,?_⟩;refine bK 17 (λ_=>⟨aB f rfl,aB f rfl,aB f rfl,aB f rfl⟩) ?_;refine kC E0 ?_ _
  go_wp2_with fail
  refine bodyPost_ret (v:=.pointer (Y ⟨m,0,X⟩)) (by simp[results,results87,go_sem]) rfl ⟨m,rfl,_,_,F,D,L,C,k.size,u,?_⟩;exact A
 .go_simp
  have g:=iW (.cells (u7 [.bool (decide (p<0)),.slice a0 s c0,.bool (decide (q<0)),.slice a1 t c1]) 210 (0,0)) o;have r:=iJ w (.cells (u7 [.bool (decide (p<0)),.slice a0 s c0,.bool (decide (q<0)),.slice a1 t c1]) 210 (0,0));have l:=(Below.refl w.heap.size w).alloc (j8 _) (.cells (u7 [.bool (decide (p<0)),.slice a0 s c0,.bool (decide (q<0)),.slice a1 t c1]) 210 (0,0));refine n.out _ _ (λ_=>⟨aB g rfl,aB g rfl,aB g rfl,aB g rfl⟩) ?_;clear n K
  try simp only[Act.put,s8,u5,u6]
  refine aW 4 (M.out (w.alloc (.cells (u7 [.bool (decide (p<0)),.slice a0 s c0,.bool (decide (q<0)),.slice a1 t c1]) 210 (0,0))).drew ⟨l.os,l.tape,l.output,l.size,l.block⟩) ?_;rintro e T⟨rfl,x⟩;have k:=aX x;have d:=(k.block _ (bL g)).trans g;have u:=(k.block _ (bL r)).trans r;have C:=l.trans (k.mono l.size);refine⟨_,rfl,λ_=>⟨aB d rfl,aB d rfl,aB d rfl,aB d rfl⟩,?_⟩;refine cH [5] 2 (⟨aB d rfl,aB d rfl,aB d rfl,aB d rfl⟩) ?_;refine aW 16 (Fm (la:=0) E3) ?_;rintro e P⟨m,F,D,L,rfl,A⟩;have f:=(A.below.block _ (bL d)).trans d;refine⟨_,rfl,λ_=>⟨aB f rfl,aB f rfl,aB f rfl,aB f rfl⟩,?_⟩;refine bK 17 (λ_=>⟨aB f rfl,aB f rfl,aB f rfl,aB f rfl⟩) ?_;refine kC E0 ?_ _
  go_wp2_with fail
  refine bodyPost_ret (v:=.pointer (Y ⟨m,0,X⟩)) (by simp[results,results87,go_sem]) rfl ⟨m,rfl,_,_,F,D,L,C,j8 _,u,?_⟩;exact A
theorem Wu (w:World):Calls prog 125 #[.int .i64 1,.int .i64 0,.int .i64 0,.int .i64 1] w λe h=>∃a0 c c0 a1 d c1 a f c2 b g c3,e=.returned (.agg #[.bool J,.slice a0 c c0,.bool J,.slice a1 d c1,.bool J,.slice a f c2,.bool J,.slice b g c3])/\eK w.heap.size h [1,0,0,1] [.bool J,.slice a0 c c0,.bool J,.slice a1 d c1,.bool J,.slice a f c2,.bool J,.slice b g c3]/\Below w.heap.size w h:=by
 refine(aGa w E3).mono ?_;rintro e h⟨k,rfl,i,j⟩;obtain⟨a0,c,c0,a1,d,c1,a,f,c2,b,g,c3,rfl⟩:=eN i.1;exact⟨a0,c,c0,a1,d,c1,a,f,c2,b,g,c3,rfl,i,j⟩
variable {k:Nat}{s:World}
theorem eK.up {w:Nat}{b:LB}(h:eK w v b a)(c:Below v.heap.size v s)(e:k<=w):eK k s b a:=by
 refine⟨pJ (On.below c) h.1,λx d=>?_⟩;have:=h.2 x d;unfold iU at*
 split<;>simp_all<;>omega
theorem eK.vH {w:Nat}{g:LB}{l:NU}(h:eK w v g a)(f:∀k∈l,k<w\/v.heap.size<=k):∀x∈a,xZ l x:=by
 intro x d;have b:=h.2 x d;have c:=Ol h.1 x d;unfold iU at b;unfold Nr at c;unfold xZ;split
 .simp only at b c;intro e;have:=f _ e;omega
 .trivial
variable {w:World}{nm:ByteArray}{e:PH}
theorem aKX {L d b F:World}{tl:Value}{c:Nat}(q:F=b.alloc (.cells (rJ I nilR nilR nilR (.slice (Y ⟨c,0,X⟩) 1 1) (.string nm) tl a f).toArray 117 (0,0)))(h:eK w.heap.size s [1,0,0,1] a)(g:eK s.heap.size L [1,0,0,1] e)(i:eK k d [1,0,0,1] f)(j:Below w.heap.size w s)(l:Below s.heap.size s L)(m:Below L.heap.size L d)(n:Below d.heap.size d b)(z:L.heap.size<=k)(t:L.heap.size<=c/\c<b.heap.size/\(c<k\/d.heap.size<=c))(hd:b.heap[c]?=Y (.cells e.toArray 113 (0,0))):
  NodeNew w F I nilR nilR nilR (.string nm) tl 0 b.heap.size b.heap.size c a f e:=by
 have r:=j.size;have u:=l.size;have v:=m.size;have y:=n.size
 have o:Below b.heap.size b F:=by rw[q];exact(Below.refl _ _).alloc (j8 _) _
 have p:=n.trans (o.mono y);have e2:=m.trans (p.mono v);have e1:=l.trans (e2.mono u);refine⟨⟨O,O,O⟩,⟨O,O⟩,j.trans (e1.mono r),h.up e1 (j8 _),i.up p O,g.up e2 r,λx hx=>?_,Or.inl ⟨rfl,rfl,rfl⟩,(o.block _ t.2.1).trans hd,by rw[q];exact iJ _ _⟩
 rcases u9.1 hx with hx|hx
 .rcases u9.1 hx with hx|hx
  .exact h.vH (by simp;omega) x hx
  .exact i.vH (by simp;omega) x hx
 .exact g.vH (by simp;omega) x hx
def Jv (w e:World)(c:ByteArray)(tl:Value)(b:Nat):Prop:=∃a f g d,NodeNew w e I nilR nilR nilR (.string c) tl 0 b b a f g d
variable {b:Nat}
theorem aW2 {to:Option Addr}{tn tc:Nat}(M:nm=⟨#[112,105]⟩\/nm=⟨#[101]⟩\/nm=⟨#[99,102]⟩)(L:∀W,Below w.heap.size w W->W.cell? ⟨b,0,X⟩=Y (.string nm)/\W.cell? ⟨b,5,X⟩=Y (.slice to tn tc)):Calls prog 87 #[.pointer (Y ⟨b,0,X⟩)] w λe z=>∃b',e=.returned (.pointer (Y ⟨b',0,X⟩))/\Jv w z nm (.slice to tn tc) b':=by
 obtain⟨y,q5⟩:=L w (Below.refl _ _);have a:=hid L;clear L
 rcases M with h|h|h
 all_goals
  have N:=y;rw[h]at N;clear y h
  go_in
  go_wp2_with fail
  obtain⟨y,_⟩:=a.out w (Below.refl _ _);refine mX (λz:World=>z.cell? ⟨b,0,X⟩=Y (.string nm)/\z.cell? ⟨b,5,X⟩=Y (.slice to tn tc)) (λ_=>I) E0 ?_
  iterate 8 refine cH [0,1,2,3,4,5,6,7] 14 ⟨y,q5⟩ ?_
  refine aW 8 (Wu _) ?_;rintro e w1⟨au,a5,az,av,a6,a0,ax,a7,a1,ay,a8,a2,rfl,Nx,Bx⟩;have u:=aX Bx;refine⟨_,rfl,λ_=>a.out _ u,?_⟩;refine aW 9 (Wu _) ?_;rintro e P⟨d,n,j,f,o,k,g,p,l,i,q,m,rfl,Ny,B⟩;have s:=u.trans (B.mono u.size);refine⟨_,rfl,λ_=>a.out _ s,?_⟩;refine Nl 10 11 ?_ ?_
  .have D:=(Below.refl P.heap.size P).alloc (j8 _) (.cells (u7 [.bool J,.slice d n j,.bool J,.slice f o k,.bool J,.slice g p l,.bool J,.slice i q m]) 113 (0,0));have k3:=iJ P (.cells (u7 [.bool J,.slice d n j,.bool J,.slice f o k,.bool J,.slice g p l,.bool J,.slice i q m]) 113 (0,0));refine Dp (λ_=>a.out _ (s.trans (D.mono s.size))) ?_;refine aW 11 (Wu _) ?_;rintro e x⟨R,af,aa,S,ag,ab,T,ah,ad,U,ai,ae,rfl,C,r⟩;have c:=D.trans (r.mono D.size);have t:=s.trans (c.mono s.size);refine⟨_,rfl,λ_=>a.out _ t,?_⟩;refine bK 12 (λ_=>a.out _ t) ?_;refine bK 13 (λ_=>a.out _ (t.trans (((Below.refl x.heap.size x).alloc (j8 _) _).mono t.size))) ?_;refine bK 14 (λ_=>a.out _ (t.trans (((Below.refl x.heap.size x).alloc (j8 _) _).mono t.size))) ?_;refine kC E0 ?_ _
   go_wp2_with fail
   have s4:=r.size;rw[z8]at s4;exact bodyPost_ret (v:=.pointer (Y ⟨x.heap.size,0,X⟩)) (by simp[results,results87,go_sem]) rfl ⟨_,rfl,_,_,_,_,aKX rfl Nx Ny C u B c (Below.refl _ _) (by rw[z8];omega) (by rw[z8];omega) ((r.block _ (bL k3)).trans k3)⟩
  .refine Bo (Wu _) ?_;rintro e A⟨R,af,aa,S,ag,ab,T,ah,ad,U,ai,ae,rfl,C,r⟩;have F:=s.trans (r.mono s.size);refine⟨_,rfl,λ_=>a.out _ F,?_⟩;have a4:=(Below.refl A.heap.size A).alloc (j8 _) (.cells (u7 [.bool J,.slice d n j,.bool J,.slice f o k,.bool J,.slice g p l,.bool J,.slice i q m]) 113 (0,0));have k4:=iJ A (.cells (u7 [.bool J,.slice d n j,.bool J,.slice f o k,.bool J,.slice g p l,.bool J,.slice i q m]) 113 (0,0));have c:=F.trans (a4.mono F.size);refine bK 10 (λ_=>a.out _ c) ?_;refine bK 12 (λ_=>a.out _ c) ?_;refine bK 13 (λ_=>a.out _ (c.trans (((Below.refl _ _).alloc (j8 _) _).mono c.size))) ?_;refine bK 14 (λ_=>a.out _ (c.trans (((Below.refl _ _).alloc (j8 _) _).mono c.size))) ?_;refine kC E0 ?_ _
   go_wp2_with fail
   have s3:=r.size;have:=aKX (w:=w) (tl:=.slice to tn tc) (nm:=nm) rfl Nx Ny C u B r a4 (j8 _) (by rw[z8];omega) k4;rw[z8]at this;exact bodyPost_ret (v:=.pointer (Y ⟨A.heap.size+1,0,X⟩)) (by simp[results,results87,go_sem]) rfl ⟨_,rfl,_,_,_,_,this⟩
theorem yN (w:World)(p q:Int)(x y:Bool)(h:((∀z∈[p,q],z.natAbs<1000000000000000000)/\decide (p<0)=x/\decide (q<0)=y):=by decide):Calls prog 123 #[.int .i64 p,.int .i64 q] w λe w'=>∃a0 c c0 a1 d c1,e=.returned (.agg #[.bool x,.slice a0 c c0,.bool y,.slice a1 d c1])/\eK w.heap.size w' [p,q] [.bool x,.slice a0 c c0,.bool y,.slice a1 d c1]/\Below w.heap.size w w':=by
 obtain⟨h,rfl,rfl⟩:=h;refine(aYg w h).mono ?_;rintro e w'⟨i,rfl,f,g⟩;obtain⟨a0,c,c0,a1,d,c1,rfl⟩:=jA f.1;exact⟨a0,c,c0,a1,d,c1,rfl,f,g⟩
theorem aK8 {k:Bool}{w:World}:∀{f d:LB} {e c:PH},aP k w f e->aP k w d c->aP k w (f++d) (e++c)
 | [],_,[],_,_,h=>h
 |_::_,_,_::_::_,_,⟨g,i,j⟩,h=>⟨g,i,aK8 j h⟩
 | [],_,_::_,_,h,_=>h.elim
 |_::_,_,[],_,h,_=>h.elim
 |_::_,_,[_],_,h,_=>h.elim
theorem eK.cat {B:Nat}{f d:LB}{c:PH}(h:eK B w f a)(e:eK B w d c):eK B w (f++d) (a++c):=
 ⟨aK8 h.1 e.1,λx g=>(u9.1 g).elim (h.2 x) (e.2 x)⟩
def Vh (a b c:Nat):Value->Prop
 |.slice (Y x) _ _=>a<=x.block/\(x.block<b\/c<=x.block)
 |_=>True
variable {a:Nat}
theorem eK.gap {B c:Nat}{g:PH}(h:eK B w i g)(j:a<=B)(k:w.heap.size<=b\/c<=B):∀x∈g,Vh a b c x:=by
 intro x f;have d:=h.2 x f;have e:=Ol h.1 x f;unfold iU at d;unfold Nr at e;unfold Vh;split
 .simp only at d e;omega
 .trivial
def wM (a b:Nat)(w w':World)(pos:Bool)(t:List Rf.V)(ps:NU)(n:Nat):Prop:=
 ∃W c d g h e f,Below w.heap.size w W/\(a<=c/\(c<b\/w.heap.size<=c))/\w.heap.size<=d/\W.heap[c]?=Y (.cells (e:PH).toArray 210 (0,0))/\aP J W (fT t) e/\(∀x∈e,Vh a b w.heap.size x)/\W.heap[d]?=Y (.cells (ps.map λp=>Value.pointer (Y ⟨p,0,X⟩)).toArray 115 (0,0))/\
  NodeNew W w' pos (.slice (Y ⟨c,0,X⟩) t.length t.length) (.slice (Y ⟨d,0,X⟩) ps.length ps.length) (.slice (Y ⟨g,0,X⟩) ps.length ps.length) (.string ⟨#[]⟩) nilR ps.length n g h f f f
section
variable {w w' W:World} {own own':dQ} {at1 at2:NN} {ns:List Nd} {a b m:Nat} {pos:Bool} {t:List Rf.V} {ar ps:NU}
theorem NodsX.up (h:NodsX w own at1 ns)(d:Below w.heap.size w W):NodsX W own at1 ns:=⟨λi n e=>(h.nd i n e).keep (D:=[]) (Kp.cQ d) (λk c=>by cases c) (λ_ _=>rfl),λk c=>h.new k (o9 d.size c)⟩
theorem NodsX.made (h:NodsX w own at1 ns)(c:∀n∈ns,∀a∈n.args,a<ns.length)(M:wM a b w w' pos t ps m)(A:∀k,a<=k->k<b->own k=X)(q:t≠[])(j:ar≠[])(l:∀a∈ar,a<ns.length)(o:ps=ar.map at1):
  ∃own',NodsX w' own' (Gb at1 ns.length m) (ns++[Rf.fresh pos t ar])/\gU w own own'/\Below w.heap.size w w':=by
 obtain⟨W,s,r,L,F,p,P,g,u,v,c1,z,y,c2,N⟩:=M;subst o
 have d:∀k,a<=k/\(k<b\/w.heap.size<=k)->own k=X:=λk i=>by
  rcases i.2 with h1|h1
  .exact A k i.1 h1
  .exact h.new k h1
 have f:∀x∈p,lW own X x:=λx B=>by
  have:=y x B;unfold Vh at this;unfold lW;split
  .exact d _ this
  .trivial
 obtain⟨C,D⟩:=(h.up g).add c N (n:=Rf.fresh pos t ar) (ts:=p) (A4 ⟨q,s,rfl,c1,⟨z,f⟩,d s u⟩) ⟨A4 ⟨j,r,by simp[Rf.fresh],by rw[c2];simp[Rf.fresh]⟩,h.new r v⟩ (by simp[Rf.fresh]) l rfl rfl rfl rfl rfl rfl rfl ⟨λe=>absurd e q,rfl⟩ (Or.inl ⟨rfl,rfl⟩);exact⟨_,C,λk i=>D k (p5 i g.size),g.trans (N.below.mono g.size)⟩
end
theorem aW3 {lb c cap:Nat}{R:World->Nat->World->Prop}(hS:∀W,Below w.heap.size w W->W.cell? ⟨b,0,X⟩=Y (.string ⟨#[110,101,103]⟩)/\W.cell? ⟨b,6,X⟩=Y (.slice (Y ⟨lb,0,X⟩) 1 cap)/\W.cell? ⟨lb,0,X⟩=Y (.pointer (Y ⟨c,0,X⟩)))
  (hC:∀W,Below w.heap.size w W->Calls prog 87 #[.pointer (Y ⟨c,0,X⟩)] W λe W'=>∃b1,e=.returned (.pointer (Y ⟨b1,0,X⟩))/\Below W.heap.size W W'/\R W b1 W'):
  Calls prog 87 #[.pointer (Y ⟨b,0,X⟩)] w λe w'=>∃j N W1 b1,e=.returned (.pointer (Y ⟨j,0,X⟩))/\Below w.heap.size w N/\R N b1 W1/\Below N.heap.size N W1/\wM w.heap.size N.heap.size W1 w' J [(-1,0),(0,1)] [b1] j:=by
 obtain⟨q0,q1,q2⟩:=hS w (Below.refl _ _);have d:=hid hS;have HC:=hid hC;clear hS hC
 go_in
 go_wp2_with fail
 refine mX (λW:World=>W.cell? ⟨b,0,X⟩=Y (.string ⟨#[110,101,103]⟩)/\W.cell? ⟨b,6,X⟩=Y (.slice (Y ⟨lb,0,X⟩) 1 cap)/\W.cell? ⟨lb,0,X⟩=Y (.pointer (Y ⟨c,0,X⟩))) (λ_=>I) E0 ?_
 iterate 6 refine cH [3,4,5,6,7,8] 12 ⟨q0,q1,q2⟩ ?_
 refine aW 0 (yN _ (-1) 0 I J) ?_;rintro e w1⟨o,s,q,p,u,r,rfl,Nx,Bx⟩;have d1:=aX Bx;refine⟨_,rfl,λ_=>d.out _ d1,?_⟩;refine aW 1 (yN _ 0 1 J J) ?_;rintro e w2⟨x,B,z,y,C,A,rfl,Ny,By⟩;have M:=d1.trans (By.mono d1.size);refine⟨_,rfl,λ_=>d.out _ M,?_⟩;have g:eK w.heap.size w2 (fT [(-1,0),(0,1)]) [.bool I,.slice o s q,.bool J,.slice p u r,.bool J,.slice x B z,.bool J,.slice y C A]:=(Nx.up By (j8 _)).cat (Ny.up (Below.refl _ _) d1.size)
 have R:=λ(W:World)=>(Below.refl W.heap.size W).alloc (j8 _) (.cells (u7 [.bool I,.slice o s q,.bool J,.slice p u r,.bool J,.slice x B z,.bool J,.slice y C A]) 210 (0,0))
 have l:=λ(W:World) (b1:Nat)=>(Below.refl W.heap.size W).alloc (j8 _) (.cells (u7 [.pointer (Y ⟨b1,0,X⟩)]) 115 (0,0))
 have K:=λ(W:World)=>iJ W (.cells (u7 [.bool I,.slice o s q,.bool J,.slice p u r,.bool J,.slice x B z,.bool J,.slice y C A]) 210 (0,0))
 have K':=λ(W:World) (b1:Nat)=>iJ W (.cells (u7 [.pointer (Y ⟨b1,0,X⟩)]) 115 (0,0))
 have s2:=M.size;refine Nl 2 9 ?_ ?_
 .have n:=M.trans ((R w2).mono s2);refine Dp (λ_=>d.out _ n) ?_;refine aW 9 (HC.out _ n) ?_;rintro e f⟨b1,rfl,h,r4⟩;have i:=n.trans (h.mono n.size);refine⟨_,rfl,λ_=>d.out _ i,?_⟩;have k:=i.trans ((l f b1).mono i.size);refine bK 10 (λ_=>d.out _ k) ?_;refine aW 11 (Fm (la:=1) E3) ?_;rintro e w6⟨j,T,S,U,rfl,F⟩;have D:=k.trans (F.below.mono k.size);refine⟨_,rfl,λ_=>d.out _ D,?_⟩;refine bK 12 (λ_=>d.out _ D) ?_;refine kC E0 ?_ _
  go_wp2_with fail
  have s4:=h.size;rw[z8]at s4;have P:=(R w2).trans ((h.trans ((l f b1).mono h.size)).mono (R w2).size);exact bodyPost_ret (v:=.pointer (Y ⟨j,0,X⟩)) (by simp[results,results87,go_sem]) rfl ⟨j,_,_,b1,rfl,n,r4,h,_,_,_,T,S,_,U,l f b1,⟨s2,Or.inl (by rw[z8];omega)⟩,j8 _,((l f b1).block _ O).trans ((h.block _ (by rw[z8];omega)).trans (K w2)),(g.up P (j8 _)).1,g.gap (j8 _) (Or.inl (by rw[z8];omega)),K' f b1,F⟩
 .refine Bo (HC.out _ M) ?_;rintro e f⟨b1,rfl,h,r4⟩;have i:=M.trans (h.mono s2);refine⟨_,rfl,λ_=>d.out _ i,?_⟩;have s4:=h.size;refine Nl 2 10 ?_ ?_
  .have L:=(R f).trans ((l _ b1).mono (R f).size);have n:=i.trans ((R f).mono i.size);have k:=i.trans (L.mono i.size);refine Dp (λ_=>d.out _ n) ?_;refine bK 10 (λ_=>d.out _ k) ?_;refine aW 11 (Fm (la:=1) E3) ?_;rintro e w6⟨j,T,S,U,rfl,F⟩;have D:=k.trans (F.below.mono k.size);refine⟨_,rfl,λ_=>d.out _ D,?_⟩;refine bK 12 (λ_=>d.out _ D) ?_;refine kC E0 ?_ _
   go_wp2_with fail
   have P:=h.trans (L.mono s4);have k2:=K' (f.alloc (.cells (u7 [.bool I,.slice o s q,.bool J,.slice p u r,.bool J,.slice x B z,.bool J,.slice y C A]) 210 (0,0))) b1;rw[z8]at k2;exact bodyPost_ret (v:=.pointer (Y ⟨j,0,X⟩)) (by simp[results,results87,go_sem]) rfl ⟨j,_,_,b1,rfl,M,r4,h,_,_,_,T,S,_,U,L,⟨O,A4 (j8 _)⟩,p6 _,((l _ b1).block _ (by rw[z8];omega)).trans (K f),(g.up P (j8 _)).1,g.gap (j8 _) (Or.inl (j8 _)),k2,F⟩
  .have L:=(l f b1).trans ((R _).mono (l f b1).size);have n:=i.trans ((l f b1).mono i.size);have k:=i.trans (L.mono i.size);refine Dp (λ_=>d.out _ n) ?_;refine bK 2 (λ_=>d.out _ k) ?_;refine aW 11 (Fm (la:=1) E3) ?_;rintro e w6⟨j,T,S,U,rfl,F⟩;have D:=k.trans (F.below.mono k.size);refine⟨_,rfl,λ_=>d.out _ D,?_⟩;refine bK 12 (λ_=>d.out _ D) ?_;refine kC E0 ?_ _
   go_wp2_with fail
   have P:=h.trans (L.mono s4);have k2:=K (f.alloc (.cells (u7 [.pointer (Y ⟨b1,0,X⟩)]) 115 (0,0)));rw[z8]at k2;exact bodyPost_ret (v:=.pointer (Y ⟨j,0,X⟩)) (by simp[results,results87,go_sem]) rfl ⟨j,_,_,b1,rfl,M,r4,h,_,_,_,T,S,_,U,L,⟨O,A4 (p6 _)⟩,j8 _,k2,(g.up P (j8 _)).1,g.gap (j8 _) (Or.inl (j8 _)),((R _).block _ (by rw[z8];omega)).trans (K' f b1),F⟩
@[reducible] def Z4 (k:Nat) (x y:Value) (W:World):Prop:=W.cell? ⟨k,0,X⟩=Y (.bool J)/\W.cell? ⟨k,1,X⟩=Y x/\W.cell? ⟨k,2,X⟩=Y (.bool J)/\W.cell? ⟨k,3,X⟩=Y y
theorem pA {x c:Value}{d:TypeId}(h:v.heap[k]?=Y (.cells #[.bool J,x,.bool J,c] d (0,0)))(a:Below v.heap.size v s):Z4 k x c s:=by
 have h:=(a.block _ (bL h)).trans h;exact⟨aB h rfl,aB h rfl,aB h rfl,aB h rfl⟩
theorem aW5 {lb c d cap:Nat}{R1:Nat->World->Prop}{R2:Nat->Nat->World->Prop}{R:Value->World->Prop}(j:nm=⟨#[43]⟩\/nm=⟨#[45]⟩\/nm=⟨#[42]⟩\/nm=⟨#[47]⟩)(r:∀W,Below v.heap.size v W->W.cell? ⟨b,0,X⟩=Y (.string nm)/\W.cell? ⟨b,6,X⟩=Y (.slice (Y ⟨lb,0,X⟩) 2 cap)/\W.cell? ⟨lb,0,X⟩=Y (.pointer (Y ⟨c,0,X⟩))/\W.cell? ⟨lb,1,X⟩=Y (.pointer (Y ⟨d,0,X⟩)))
  (o:∀W,Below v.heap.size v W->Calls prog 87 #[.pointer (Y ⟨c,0,X⟩)] W λe f=>∃b1,e=.returned (.pointer (Y ⟨b1,0,X⟩))/\Below v.heap.size v f/\R1 b1 f)
  (p:∀b1 W,Below v.heap.size v W->R1 b1 W->Calls prog 87 #[.pointer (Y ⟨d,0,X⟩)] W λe f=>∃i,e=.returned (.pointer (Y ⟨i,0,X⟩))/\Below v.heap.size v f/\R2 b1 i f)
  (q:∀b1 i W,Below v.heap.size v W->R2 b1 i W->Calls prog 86 #[.string nm,.pointer (Y ⟨b1,0,X⟩),.pointer (Y ⟨i,0,X⟩)] W λe f=>∃a,e=.returned a/\Below v.heap.size v f/\R a f):
  Calls prog 87 #[.pointer (Y ⟨b,0,X⟩)] v λe B=>∃a,e=.returned a/\R a B:=by
 have g:=hid r;have t:=hid o;have u:=hid p;have x:=hid q;clear r o p q
 rcases j with h|h|h|h
 all_goals
  obtain⟨s,C,D,F⟩:=g.out v (Below.refl _ _);have k:=s;rw[h]at k;clear s h
  go_in
  go_wp2_with fail
  refine mX (λW:World=>W.cell? ⟨b,0,X⟩=Y (.string nm)/\W.cell? ⟨b,6,X⟩=Y (.slice (Y ⟨lb,0,X⟩) 2 cap)/\W.cell? ⟨lb,0,X⟩=Y (.pointer (Y ⟨c,0,X⟩))/\W.cell? ⟨lb,1,X⟩=Y (.pointer (Y ⟨d,0,X⟩))) (λ_=>I) E0 ?_
  iterate 16 refine cH [0,1,2,3,4,5,6,7,8,9,11,12,13,14,15,16] 19 (g.out v (Below.refl _ _)) ?_
  refine aW 10 (t.out _ (bB v)) ?_;rintro e L⟨b1,rfl,l,y⟩;refine⟨_,rfl,λ_=>g.out _ l,?_⟩;refine aW 17 (u.out _ _ l y) ?_;rintro e M⟨i,rfl,m,z⟩;refine⟨_,rfl,λ_=>g.out _ m,?_⟩;refine aW 18 (x.out _ _ _ m z) ?_;rintro e N⟨a,rfl,n,A⟩;refine⟨_,rfl,λ_=>g.out _ n,?_⟩;refine bK 19 (λ_=>g.out _ n) ?_;refine kC E0 ?_ _
  go_wp2_with fail
  exact bodyPost_ret (v:=a) (by simp[results,results87,go_sem]) rfl ⟨a,rfl,A⟩
theorem Yu {L:World}{c:PH}{t:List Rf.V}{p r N:Nat}{pos:Bool}(i:Below v.heap.size v s)(g:eK v.heap.size s (fT t) c)(m:t.length=4)
  (l:NodeNew ((s.alloc (.cells c.toArray 210 (0,0))).alloc (.cells #[.pointer (Y ⟨a,0,X⟩),.pointer (Y ⟨b,0,X⟩)] 115 (0,0))) L pos (.slice (Y ⟨s.heap.size,0,X⟩) 4 4) (.slice (Y ⟨s.heap.size+1,0,X⟩) 2 2) (.slice (Y ⟨r,0,X⟩) 2 2) (.string ⟨#[]⟩) nilR 2 p r N e e e):wM v.heap.size v.heap.size v L pos t [a,b] p:=by
 have f:=(Below.refl s.heap.size s).alloc (j8 _) (.cells c.toArray 210 (0,0));have h:=(Below.refl (s.alloc (.cells c.toArray 210 (0,0))).heap.size _).alloc (j8 _) (.cells #[.pointer (Y ⟨a,0,X⟩),.pointer (Y ⟨b,0,X⟩)] 115 (0,0));have j:=f.trans (h.mono f.size);have k:=iJ (s.alloc (.cells c.toArray 210 (0,0))) (.cells #[.pointer (Y ⟨a,0,X⟩),.pointer (Y ⟨b,0,X⟩)] 115 (0,0));rw[z8]at k;have d:=i.size;refine⟨_,_,_,r,N,c,e,i.trans (j.mono d),⟨d,A4 d⟩,Nat.le_succ_of_le d,(h.block _ (by rw[z8];omega)).trans (iJ s _),(g.up j (j8 _)).1,g.gap (j8 _) (A4 (j8 _)),k,?_⟩;rw[m];exact l
def qI (k:Rf.Kind):ByteArray:=match k with
 |.add=>⟨#[43]⟩
 |.sub=>⟨#[45]⟩
 |.mul=>⟨#[42]⟩
 |.div=>⟨#[47]⟩
theorem aQE {kd:Rf.Kind}{pa pb:Bool}(hA:∀W,Below w.heap.size w W->W.cell? ⟨a,0,X⟩=Y (.bool pa)/\W.cell? ⟨b,0,X⟩=Y (.bool pb)):Calls prog 86 #[.string (qI kd),.pointer (Y ⟨a,0,X⟩),.pointer (Y ⟨b,0,X⟩)] w λe w'=>∃n,e=.returned (.pointer (Y ⟨n,0,X⟩))/\wM w.heap.size w.heap.size w w' (pa&&pb&&decide (kd≠.sub)) kd.tE [a,b] n:=by
 have HA:=hid hA;clear hA;cases kd
 all_goals
  unfold qI;simp only
  go_in
  go_wp2_with fail
  refine(yN _ 0 0 J J).mono ?_;rintro e R⟨c,i,f,d,j,g,rfl,N0,B0⟩
  go_wp2_with fail
  have k:=lE R (.cells (u7 [.bool J,.slice c i f,.bool J,.slice d j g]) 210 (0,0));have bz:=(Below.refl R.heap.size R).alloc (j8 _) (.cells (u7 [.bool J,.slice c i f,.bool J,.slice d j g]) 210 (0,0));generalize R.alloc _=w2 at*;have o:=B0.trans (bz.mono B0.size);refine mX (Z4 R.heap.size (.slice c i f) (.slice d j g)) (λ_=>I) E0 ?_;refine cH [0] 5 (pA k (bB w2)) ?_;refine aW 1 (yN _ 1 0 J J) ?_;rintro e w3⟨an,ar,ap,ao,au,aq,rfl,N1,B1⟩;have d3:=aX B1;refine⟨_,rfl,λ_=>pA k d3,?_⟩;refine aW 2 (yN _ 1 0 J J) ?_;rintro e w4⟨av,a0,ay,ax,a1,az,rfl,N2,B2⟩;have d4:=d3.trans (B2.mono d3.size);refine⟨_,rfl,λ_=>pA k d4,?_⟩;refine aW 3 (yN _ 0 1 J J) ?_;rintro e U⟨ae,ai,ag,af,aj,ah,rfl,N3,B3⟩;have d5:=d4.trans (B3.mono d4.size);refine⟨_,rfl,λ_=>pA k d5,?_⟩;have a6:=(Below.refl U.heap.size U).alloc (j8 _) (.cells (u7 [.bool J,.slice c i f,.bool J,.slice d j g,.bool J,.slice an ar ap,.bool J,.slice ao au aq,.bool J,.slice av a0 ay,.bool J,.slice ax a1 az,.bool J,.slice ae ai ag,.bool J,.slice af aj ah]) 210 (0,0));have k6:=iJ U (.cells (u7 [.bool J,.slice c i f,.bool J,.slice d j g,.bool J,.slice an ar ap,.bool J,.slice ao au aq,.bool J,.slice av a0 ay,.bool J,.slice ax a1 az,.bool J,.slice ae ai ag,.bool J,.slice af aj ah]) 210 (0,0));have m:=d5.trans (a6.mono d5.size);refine bK 4 (λ_=>pA k m) ?_;refine bK 5 (λ_=>pA k m) ?_;refine kC E0 ?_ _;have d0:=o.trans (m.mono o.size)
  have z0:∀W,Below w2.heap.size w2 W->eK w.heap.size W [0,0] [.bool J,.slice c i f,.bool J,.slice d j g]:=λW h=>N0.up (bz.trans (h.mono bz.size)) (j8 _)
  have p:=o.size;have s0:=d0.size
 .obtain⟨qa,qb⟩:=HA.out _ d0
  cases pa<;>cases pb<;>go_wp2_with fail
  all_goals
   refine(Fm (la:=2) E3).mono ?_;rintro e w8⟨n,kr,kh,us,rfl,T⟩
   go_wp2_with fail
   exact bodyPost_ret (v:=.pointer (Y ⟨n,0,X⟩)) (by simp[results,results86,go_sem]) rfl ⟨n,rfl,Yu (o.trans (d5.mono p)) ((z0 _ d5).cat ((N1.up (B2.trans (B3.mono B2.size)) p).cat ((N2.up B3 (o9 p d3.size)).cat (N3.up (Below.refl _ _) (o9 p d4.size))))) rfl T⟩
 .go_wp2_with fail
  generalize U.alloc _=w6 at*;refine mX (Z4 R.heap.size (.slice c i f) (.slice d j g)) (λ_=>I) E0 ?_
  iterate 1 refine cH [0] 5 (pA k (m.trans ((bB w6).mono m.size))) ?_
  refine aW 1 (yN _ 1 0 J J) ?_;rintro e ak⟨x,B,z,y,C,A,rfl,s,r⟩;have e0:=m.trans ((aX r).mono m.size);refine⟨_,rfl,λ_=>pA k e0,?_⟩;refine aW 2 (yN _ (-1) 0 I J) ?_;rintro e q⟨be,bj,bh,bf,bk,bi,rfl,t,l⟩;have e1:=e0.trans (l.mono e0.size);refine⟨_,rfl,λ_=>pA k e1,?_⟩;refine aW 3 (yN _ 0 1 J J) ?_;rintro e al⟨D,N,L,F,P,M,rfl,a9,S⟩;have e2:=e1.trans (S.mono e1.size);refine⟨_,rfl,λ_=>pA k e2,?_⟩;have a7:=(Below.refl al.heap.size al).alloc (j8 _) (.cells (u7 [.bool J,.slice c i f,.bool J,.slice d j g,.bool J,.slice x B z,.bool J,.slice y C A,.bool I,.slice be bj bh,.bool J,.slice bf bk bi,.bool J,.slice D N L,.bool J,.slice F P M]) 210 (0,0));have u:=e2.trans (a7.mono e2.size);refine bK 4 (λ_=>pA k u) ?_;refine bK 5 (λ_=>pA k u) ?_;refine kC E0 ?_ _;obtain⟨qa,qb⟩:=HA.out _ (o.trans (u.mono p))
  cases pa<;>cases pb<;>go_wp2_with fail
  all_goals
   refine(Fm (la:=2) E3).mono ?_;rintro e w8⟨n,kr,kh,us,rfl,T⟩
   go_wp2_with fail
   exact bodyPost_ret (v:=.pointer (Y ⟨n,0,X⟩)) (by simp[results,results86,go_sem]) rfl ⟨n,rfl,Yu (o.trans (e2.mono p)) ((z0 _ e2).cat ((s.up (l.trans (S.mono l.size)) s0).cat ((t.up S (o.trans (e0.mono p)).size).cat (a9.up (Below.refl _ _) (o.trans (e1.mono p)).size)))) rfl T⟩
 .go_wp2_with fail
  generalize U.alloc _=w6 at*;refine mX (Z4 R.heap.size (.slice c i f) (.slice d j g)) (λ_=>I) E0 ?_
  iterate 2 refine cH [1,2] 5 (pA k (m.trans ((bB w6).mono m.size))) ?_
  refine aW 0 (yN _ 1 0 J J) ?_;rintro e ak⟨x,B,z,y,C,A,rfl,s,r⟩;have e0:=m.trans ((aX r).mono m.size);refine⟨_,rfl,λ_=>pA k e0,?_⟩;refine aW 3 (yN _ 0 1 J J) ?_;rintro e q⟨D,N,L,F,P,M,rfl,t,l⟩;have e1:=e0.trans (l.mono e0.size);refine⟨_,rfl,λ_=>pA k e1,?_⟩;have a7:=(Below.refl q.heap.size q).alloc (j8 _) (.cells (u7 [.bool J,.slice x B z,.bool J,.slice y C A,.bool J,.slice c i f,.bool J,.slice d j g,.bool J,.slice c i f,.bool J,.slice d j g,.bool J,.slice D N L,.bool J,.slice F P M]) 210 (0,0));have u:=e1.trans (a7.mono e1.size);refine bK 4 (λ_=>pA k u) ?_;refine bK 5 (λ_=>pA k u) ?_;refine kC E0 ?_ _;obtain⟨qa,qb⟩:=HA.out _ (o.trans (u.mono p))
  cases pa<;>cases pb<;>go_wp2_with fail
  all_goals
   refine(Fm (la:=2) E3).mono ?_;rintro e w8⟨n,kr,kh,us,rfl,T⟩
   go_wp2_with fail
   exact bodyPost_ret (v:=.pointer (Y ⟨n,0,X⟩)) (by simp[results,results86,go_sem]) rfl ⟨n,rfl,Yu (o.trans (e1.mono p)) ((s.up l s0).cat ((z0 _ e1).cat ((z0 _ e1).cat (t.up (Below.refl _ _) (o.trans (e0.mono p)).size)))) rfl T⟩
 .go_wp2_with fail
  generalize U.alloc _=w6 at*;refine mX (Z4 R.heap.size (.slice c i f) (.slice d j g)) (λ_=>I) E0 ?_
  iterate 2 refine cH [0,3] 5 (pA k (m.trans ((bB w6).mono m.size))) ?_
  refine aW 1 (yN _ 1 0 J J) ?_;rintro e ak⟨x,B,z,y,C,A,rfl,s,r⟩;have e0:=m.trans ((aX r).mono m.size);refine⟨_,rfl,λ_=>pA k e0,?_⟩;refine aW 2 (yN _ 0 1 J J) ?_;rintro e q⟨D,N,L,F,P,M,rfl,t,l⟩;have e1:=e0.trans (l.mono e0.size);refine⟨_,rfl,λ_=>pA k e1,?_⟩;have a7:=(Below.refl q.heap.size q).alloc (j8 _) (.cells (u7 [.bool J,.slice c i f,.bool J,.slice d j g,.bool J,.slice x B z,.bool J,.slice y C A,.bool J,.slice D N L,.bool J,.slice F P M,.bool J,.slice c i f,.bool J,.slice d j g]) 210 (0,0));have u:=e1.trans (a7.mono e1.size);refine bK 4 (λ_=>pA k u) ?_;refine bK 5 (λ_=>pA k u) ?_;refine kC E0 ?_ _;obtain⟨qa,qb⟩:=HA.out _ (o.trans (u.mono p))
  cases pa<;>cases pb<;>go_wp2_with fail
  all_goals
   refine(Fm (la:=2) E3).mono ?_;rintro e w8⟨n,kr,kh,us,rfl,T⟩
   go_wp2_with fail
   exact bodyPost_ret (v:=.pointer (Y ⟨n,0,X⟩)) (by simp[results,results86,go_sem]) rfl ⟨n,rfl,Yu (o.trans (e1.mono p)) ((z0 _ e1).cat ((s.up l s0).cat ((t.up (Below.refl _ _) (o.trans (e0.mono p)).size).cat (z0 _ e1)))) rfl T⟩
open Rf (Nd Inv Wt)
def lY (B:Nat)(w:World)(ps:NU)(v:Value):Prop:=∃k d,∃c:PH,v=.slice (Y ⟨k,0,X⟩) ps.length d/\B<=k/\w.heap[k]?=Y (.cells ((ps.map λp=>Value.pointer (Y ⟨p,0,X⟩))++c).toArray 26 (0,0))
def TreeB (w:World)(b:Nat)(f:ByteArray)(c:PH)(g d:Value):Prop:=w.heap[b]?=Y (.cells (.string f::c++[g,d]).toArray 49 (0,0))/\c.length=4
def kU (B:Nat)(w:World):Wt->Nat->Prop
 |.fr p q,b=>∃g h f,TreeB w b ⟨#[113]⟩ g h f/\aP J w [p,q] g
 |.fE op l,b=>∃g f to j i,TreeB w b (Da op) g (.slice to j i) f/\sO w (λ_=>X) l (.slice to j i)
 |.neg t,b=>∃g h f c,TreeB w b ⟨#[110,101,103]⟩ g h f/\lY B w [c] f/\kU B w t c
 |.two k s t,b=>∃g h f c d,TreeB w b (qI k) g h f/\lY B w [c,d] f/\kU B w s c/\kU B w t d
theorem Xh {ns c:List Nd}{n:Nd}(h:Rf.more ns n=Y c):c=ns++[n]:=by
 unfold Rf.more at h;split at h
 .cases h;rfl
 .cases h
structure wN (w w':World) (own:dQ) (at1:NN) (ns ns':List Nd) (e b:Nat):Prop where
 ex:∃own' at2,NodsX w' own' at2 ns'/\gU w own own'/\(∀i,i<ns.length->at2 i=at1 i)/\at2 e=b
 below:Below w.heap.size w w'
 args:∀n∈ns',∀a∈n.args,a<ns'.length
 le:ns.length<=ns'.length
 lt:e<ns'.length
section
variable {w w' W w0:World} {own own':dQ} {at1 at2:NN} {ns ns':List Nd} {a b m e:Nat} {pos:Bool} {t:List Rf.V} {ar ps:NU} {n:Nd}
theorem aNP (h:∀n∈ns,∀a∈n.args,a<ns.length)(f:∀a∈n.args,a<ns.length):∀m∈ns++[n],∀a∈m.args,a<(ns++[n]).length:=by
 intro m c a d;simp only[u9,List.mem_singleton,List.length_append,List.length_cons,List.length_nil]at*
 rcases c with c|rfl
 .have:=h m c a d;omega
 .have:=f a d;omega
theorem wN.mk1 (h:NodsX w' own' (Gb at1 ns.length b) (ns++[n]))(f:gU w own own')(d:Below w.heap.size w w')(c:∀n∈ns,∀a∈n.args,a<ns.length)(g:∀a∈n.args,a<ns.length):wN w w' own at1 ns (ns++[n]) ns.length b:=
 ⟨⟨_,_,h,f,λi hi=>by unfold Gb;rw[if_neg O],by unfold Gb;rw[if_pos rfl]⟩,d,aNP c g,E4,E4⟩
theorem wN.then (h:wN w W own at1 ns ns' e b){c:dQ}{at2:NN}{f:List Nd}{e2 l:Nat}(q:gU w own c)(p:∀i,i<ns.length->at2 i=at1 i)(d:wN W w' c at2 ns' f e2 l):wN w w' own at1 ns f e2 l:=by
 obtain⟨g,j,k1,k2,r,s⟩:=d.ex;exact⟨⟨g,j,k1,λk o=>(k2 k (p5 o h.below.size)).trans (q k o),λi hi=>(r i (p5 hi h.le)).trans (p i hi),s⟩,h.below.trans (d.below.mono h.below.size),d.args,o9 h.le d.le,d.lt⟩
theorem TreeB.cell {S:ByteArray}{a:PH}{z c:Value}(h:TreeB w b S a z c)(i:Below w.heap.size w W):W.cell? ⟨b,0,X⟩=Y (.string S)/\W.cell? ⟨b,5,X⟩=Y z/\W.cell? ⟨b,6,X⟩=Y c:=by
 obtain⟨f,g⟩:=h;have d:=(i.block _ (bL f)).trans f
 match a,g with
 | [_,_,_,_],_=>exact⟨aB d rfl,aB d rfl,aB d rfl⟩
theorem wN.from (c:Below w.heap.size w W)(h:wN W w' own at1 ns ns' e b):wN w w' own at1 ns ns' e b:=by
 obtain⟨own',at2,k1,k2,f⟩:=h.ex;exact⟨⟨own',at2,k1,λk d=>k2 k (p5 d c.size),f⟩,c.trans (h.below.mono c.size),h.args,h.le,h.lt⟩
theorem NodsX.cell0 (h:NodsX w own at1 ns){i:Nat}(d:ns[i]?=Y n)(c:Below w.heap.size w W):W.cell? ⟨at1 i,0,X⟩=Y (.bool n.pos):=by
 obtain⟨o,f,j,g,hv,k,tl,r,sq,q,s,u,p,l,B⟩:=h.nd i n d;exact aB ((c.block _ (bL B.blk)).trans B.blk) rfl
end
theorem Zt {B:Nat}{w0:World}:∀(u:Wt) {b:Nat} {w:World} {own:dQ} {at1:NN} {ns ns':List Nd} {e:Nat},kU B w0 u b->u.Ok->Below w0.heap.size w0 w->NodsX w own at1 ns->(∀n∈ns,∀a∈n.args,a<ns.length)->(∀k,k<w0.heap.size->own k=X)->Rf.of u ns=Y (ns',e)->
  Calls prog 87 #[.pointer (Y ⟨b,0,X⟩)] w λr w'=>∃y,r=.returned (.pointer (Y ⟨y,0,X⟩))/\wN w w' own at1 ns ns' e y
 |.fr p q,b,w,own,at1,ns,ns',e,hT,hO,g,T,U,ho,C=>by
  obtain⟨xs,tv,lv,⟨hb,_⟩,hx⟩:=hT;obtain⟨P,F,D⟩:=x8.1 C;cases D;obtain rfl:=Xh F;refine(aX2 ((g.block _ (bL hb)).trans hb) (pJ (On.below g) hx)).mono ?_;rintro r w'⟨y,rfl,W,kt,kr,kh,us,f,g1,c1,N⟩;refine⟨y,rfl,?_⟩
  have a3:∀x∈xs,lW own X x:=λx az=>by
   have:=Ol hx x az;unfold Nr at this;unfold lW;split
   .exact ho _ this
   .trivial
  obtain⟨r1,r2⟩:=(T.up f).add U N (n:=Rf.fresh (decide (0<=p)) [(p,q)] []) (ts:=xs) (A4 ⟨by simp[Rf.fresh],kt,rfl,c1,⟨pJ (On.below (g.trans (f.mono g.size))) hx,a3⟩,T.new kt g1⟩) ⟨Or.inl ⟨rfl,rfl⟩,trivial⟩ rfl (by simp[Rf.fresh]) rfl rfl rfl rfl rfl rfl rfl ⟨λe=>(by cases e),rfl⟩ (Or.inl ⟨rfl,rfl⟩);exact .mk1 r1 (λk o=>r2 k (p5 o f.size)) (f.trans (N.below.mono f.size)) U (by simp[Rf.fresh])
 |.fE op ts,b,w,own,at1,ns,ns',e,hT,hO,g,T,U,ho,C=>by
  obtain⟨xs,lv,to,tn,tc,hb,ht⟩:=hT;obtain⟨P,F,D⟩:=x8.1 C;cases D;obtain rfl:=Xh F;refine(aW2 (nm:=Da op) (to:=to) (tn:=tn) (tc:=tc) ?_ (λW f=>?_)).mono ?_
  .rcases hO with rfl|rfl|⟨rfl,_⟩<;>simp[Da]
  .have:=hb.cell (g.trans (f.mono g.size));exact⟨this.1,this.2.1⟩
  rintro r w'⟨y,rfl,kh,bq,ys,us,N⟩;refine⟨y,rfl,?_⟩
  have TX:sO w own ts (.slice to tn tc):=by
   rcases ht with h|⟨k,z,S,F,D,_,h3⟩
   .exact Or.inl h
   .exact A4 ⟨k,z,S,F,(g.block _ (bL D)).trans D,ho k (bL D),h3⟩
  obtain⟨r1,r2⟩:=T.add U N (n:={ Rf.fresh I [] []with op:=op,terms:=ts}) (ts:=[]) (Or.inl ⟨rfl,rfl⟩) ⟨Or.inl ⟨rfl,rfl⟩,trivial⟩ rfl (by simp[Rf.fresh]) rfl rfl rfl rfl rfl rfl rfl ⟨λ_=>rfl,rfl⟩ TX;exact .mk1 r1 r2 N.below U (by simp[Rf.fresh])
 |.neg t,b,w,own,at1,ns,ns',e,hT,hO,g,T,U,ho,C=>by
  obtain⟨xs,tv,lv,c,hb,⟨k,z,S,rfl,_,o⟩,ht⟩:=hT;obtain⟨⟨P,e1⟩,F,D⟩:=y8.1 C;obtain⟨L,h3,h4⟩:=x8.1 D;cases h4;obtain rfl:=Xh h3;refine(aW3 (lb:=k) (c:=c) (cap:=z) (R:=λW b1 W'=>wN W W' own at1 ns P e1 b1) (λW f=>?_) (λW f=>?_)).mono ?_
  .have l:=g.trans (f.mono g.size);have:=hb.cell l;exact⟨this.1,this.2.2,aB ((l.block _ (bL o)).trans o) rfl⟩
  .refine(Zt t ht hO (g.trans (f.mono g.size)) (T.up f) U ho F).mono ?_;rintro r W'⟨b1,rfl,h⟩;exact⟨b1,rfl,h.below,h⟩
  rintro r w'⟨y,W0,W1,b1,rfl,d0,A,d1,M⟩;obtain⟨an,at2,k1,k2,k3,k4⟩:=A.ex;obtain⟨j,m1,m2,m3⟩:=k1.made A.args M (ar:=[e1]) (λk F D=>by rw[k2 k D];exact T.new k F) E4 E4 (by simpa using A.lt) (by simp[k4]);exact⟨y,rfl,(A.from d0).then (λk o=>k2 k (p5 o d0.size)) k3 (.mk1 m1 m2 m3 A.args (by simpa[Rf.fresh]using A.lt))⟩
 |.two kd s t,b,w,own,at1,ns,ns',e,hT,hO,g,T,U,ho,C=>by
  obtain⟨xs,tv,lv,c,d,hb,⟨k,z,S,rfl,_,o⟩,hs,ht⟩:=hT;obtain⟨⟨P,e1⟩,F,D⟩:=y8.1 C;obtain⟨⟨L,e2⟩,h3,h4⟩:=y8.1 D;obtain⟨nx,ai,h5⟩:=y8.1 h4;obtain⟨ny,aj,h6⟩:=y8.1 h5;obtain⟨bo,h7,h8⟩:=x8.1 h6;cases h8;obtain rfl:=Xh h7;simp only at h3 ai aj h7;refine(aW5 (nm:=qI kd) (lb:=k) (c:=c) (d:=d) (cap:=z) (R1:=λb1 W=>wN w W own at1 ns P e1 b1) (R2:=λb1 b2 W=>∃j at2,NodsX W j at2 L/\at2 e1=b1/\at2 e2=b2/\gU w own j/\(∀i,i<ns.length->at2 i=at1 i)/\wN w W own at1 ns L e2 b2/\e1<L.length) (R:=λv W=>∃y,v=.pointer (Y ⟨y,0,X⟩)/\wN w W own at1 ns (L++[Rf.two kd nx.pos ny.pos e1 e2]) L.length y) (by cases kd<;>simp[qI]) (λW f=>?_) (λW f=>?_) (λb1 W f A=>?_) λb1 b2 W f A=>?_).mono ?_
  .have l:=g.trans (f.mono g.size);have:=hb.cell l;exact⟨this.1,this.2.2,aB ((l.block _ (bL o)).trans o) rfl,aB ((l.block _ (bL o)).trans o) rfl⟩
  .refine(Zt s hs hO.1 (g.trans (f.mono g.size)) (T.up f) U ho F).mono ?_;rintro r W'⟨b1,rfl,h⟩;exact⟨b1,rfl,f.trans (h.below.mono f.size),h.from f⟩
  .obtain⟨an,at2,k1,k2,k3,k4⟩:=A.ex;refine(Zt t ht hO.2 (g.trans (f.mono g.size)) k1 A.args (λk o=>(k2 k (p5 o g.size)).trans (ho k o)) h3).mono ?_;rintro r W'⟨b2,rfl,h⟩;obtain⟨j,av,j1,j2,j3,j4⟩:=h.ex;exact⟨b2,rfl,f.trans (h.below.mono f.size),j,av,j1,(j3 e1 A.lt).trans k4,j4,λk o=>(j2 k (p5 o f.size)).trans (k2 k o),λi hi=>(j3 i (p5 hi A.le)).trans (k3 i hi),A.then k2 k3 h,p5 A.lt h.le⟩
  .obtain⟨j,at2,k1,rfl,rfl,k4,k5,k6,k7⟩:=A;refine(aQE (kd:=kd) (pa:=nx.pos) (pb:=ny.pos) λW' l=>⟨k1.cell0 ai l,k1.cell0 aj l⟩).mono ?_;rintro r w'⟨y,rfl,M⟩;obtain⟨bc,m1,m2,m3⟩:=k1.made k6.args M (ar:=[e1,e2]) (λk F D=>absurd F O) (by cases kd<;>simp[Rf.Kind.tE]) E4 (by simpa using ⟨k7,k6.lt⟩) E4;exact⟨_,rfl,f.trans (m3.mono f.size),y,rfl,k6.then k4 k5 (.mk1 m1 m2 m3 k6.args (by simpa[Rf.two,Rf.fresh]using ⟨k7,k6.lt⟩))⟩
  rintro r w'⟨v,rfl,y,rfl,h⟩;exact⟨y,rfl,h⟩
open Rf (Wt)
theorem aRu {w:Nat}{x b:Int}(d:Bits w x)(e:Bits k b):Bits (max w (max k 0)) (aN x b):=by
 have a:Bits (max w (max k 0)) x:=eJ d O;have c:Bits (max w (max k 0)) b:=eJ e O;show((Nat.gcd x.natAbs b.natAbs:Nat):Int).natAbs<2^(10000000*max w (max k 0))
 rcases Nat.eq_zero_or_pos x.natAbs with h|h
 .rw[h,Nat.gcd_zero_left];exact c
 .exact p8 (Nat.gcd_le_left _ h) a
theorem aUq:bD Z 101 (fI J (f2 aN) aS (λns=>ns.foldr max 0) [40,40]):=
 Ix cW (aZ func101 rfl rfl).en (λx y n m e f=>aRu e f) (λw x y u v a b c d=>aOG w x y u v (10000000*40) a b c d E3)
def fFl:List G->Option RG
 | [.ns [x],.ns [y]]=>Y (.one (.ns [x/y]))
 |_=>X
theorem aRq:bD Z 71 (fI J fFl xN (λns=>ns.headD 0) [90,90]):=by
 refine Ex (aZ func71 rfl rfl).en ?_ ?_
 .intro i ns out a d g k;unfold fFl at a;split at a
  .rename_i x y;cases a
   match ns,g with
   | [n,m],⟨b,c,_⟩=>
    intro z h;simp at h;subst h;exact Bg (b x E4) (Kk d.one) E4
  .cases a
 .intro i out a d g w p f;unfold fFl at a;split at a
  .rename_i x y;cases a;obtain⟨u,v,rfl,b,c⟩:=Sc f;refine(Wo w x y u v (10000000*90) (Rp b).1 (Rp c).1 (Rp b).2 (Rp c).2 E3 d.one).mono ?_;rintro e q⟨r,rfl,o,j⟩;exact⟨r,rfl,λm l=>Et o m (l _ E4),j⟩
  .cases a
noncomputable def uT:List (FuncId×TE):=(101,fI J (f2 aN) aS (λns=>ns.foldr max 0) [40,40])::(71,fI J fFl xN (λns=>ns.headD 0) [90,90])::uN
theorem aXw:cK Z uT:=⟨aUq,aRq,Pd⟩
def n4 (z:Int):VT:=.agg [.num J z 4]
def Ld (ν:LV):Option bH->Option (List Int)
 |some ⟨[.lit (.string s),a,b,c,d,.lit (.slice X 0 0),.lit (.slice X 0 0)],ty,I,J,J⟩=>bif s.data.toList==[113]&&ty==49 then numOf J ν [a,b,c,d]else X
 |_=>X
def Nc:AT->AS->Option (List Int)
 |.val (.one (.ptr b 0)),s=>bif clean s then Ld s.nums (look s.boxes b)else X
 |_,_=>X
def Dd:Tr->Option (List Int×List Prop)
 |.ret r s=>(Nc r s).map λl=>(l,[])
 |.need p t=>(Dd t).map λx=>(x.1,p++x.2)
 |.br t a b=>(Dd a).bind λx=>(Dd b).map λy=>(bif t then x.1 else y.1,bif t then x.2 else y.2)
 |_=>X
def FrR (w a:World)(p q:Int)(b:Nat):Prop:=w.heap.size<=b/\Below w.heap.size w a/\∃xs,TreeB a b ⟨#[113]⟩ xs nilR nilR/\aP J a [p,q] xs
def isT (f:LB)(r:AT)(s:AS):Prop:=clean s=I/\∃b a c d e,r=.val (.one (.ptr b 0))/\look s.boxes b=Y ⟨[.lit (.string ⟨#[113]⟩),a,c,d,e,.lit nilR,.lit nilR],49,I,J,J⟩/\numOf J s.nums [a,c,d,e]=Y f
variable {ν:LV}{x:LB}
theorem aTU {B:Option bH}(h:Ld ν B=Y x):∃a c d e,B=Y ⟨[.lit (.string ⟨#[113]⟩),a,c,d,e,.lit nilR,.lit nilR],49,I,J,J⟩/\numOf J ν [a,c,d,e]=Y x:=by
 unfold Ld at h;split at h
 .rename_i s a b c d ty
  cases hc:(s.data.toList==[113]&&ty==49)with
  |false=>rw[hc]at h;cases h
  |true=>
   rw[hc]at h;simp only[Bool.and_eq_true,beq_iff_eq]at hc;obtain⟨f,rfl⟩:=hc
   have:s=⟨#[113]⟩:=by
    obtain⟨⟨l⟩⟩:=s;simp only at f;subst f;rfl
   subst this;exact⟨a,b,c,d,rfl,h⟩
 .cases h
theorem aVl {r:AT}{s:AS}(h:Nc r s=Y x):isT x r s:=by
 unfold Nc at h;split at h
 .rename_i b
  cases hc:clean s with
  |false=>rw[hc]at h;cases h
  |true=>
   rw[hc]at h;obtain⟨a,c,d,e,f,g⟩:=aTU h;exact⟨hc,b,a,c,d,e,rfl,f,g⟩
 .cases h
theorem Ym:∀{k:Tr} {i:LB} {g:List Prop},Dd k=Y (i,g)->Holds g->k.ok (isT i) λ_ _=>False
 |.ret r s,i,g,h,_=>by
  obtain⟨l,c,d⟩:=bI h;cases d;exact aVl c
 |.need p t,i,g,h,f=>by
  obtain⟨⟨z,q⟩,c,d⟩:=bI h;cases d;exact⟨λx j=>f x (by simp[j]),Ym c λx j=>f x (by simp[j])⟩
 |.br t a b,i,g,h,f=>by
  obtain⟨x,c,d⟩:=aK h;obtain⟨y,m,n⟩:=bI d;cases n
  cases t with
  |true=>exact⟨λ_=>Ym c f,λe=>by cases e⟩
  |false=>exact⟨λe=>(by cases e),λ_=>Ym m f⟩
 |.stop _ _,_,_,h,_=>by cases h
variable {φ:LI}
theorem aUz {a b c d:AC}(h:aD (relC Z φ ν v) [.lit (.string ⟨#[113]⟩),a,b,c,d,.lit nilR,.lit nilR] f)(o:numOf J ν [a,b,c,d]=Y x):∃e,f=.string ⟨#[113]⟩::e++[nilR,nilR]/\e.length=4/\aP J v x e:=by
 match f,h with
 | [t,p,q,r,s,u,y],⟨g,i,j,k,l,m,n,_⟩=>
  exact⟨[p,q,r,s],by rw[g.1,m.1,n.1];rfl,rfl,Xk _ _ _ o ⟨i,j,k,l,trivial⟩⟩
noncomputable def Dq (b:Spec)(a:Func)(c:List VT):Option (List Int×List Prop):=(run Z b (λ_=>X) (aL Z b) (λ_=>J) 400 [.code (aG a),.top a] (start a c)).bind Dd
variable {p:Int}
theorem aLL {u:Spec}{W:FuncId}{k:Func}(F:Fn W k)(l:SpecOk Z v (λ_=>X) u){j:List VT}{xs:PH}{t:List Prop}(h:Dq u k j=Y (x,t))(N:Holds t)(P:aD (iH Z v) j xs)(S:x=[p,q]):
  Calls prog W xs.toArray v λe z=>∃b,e=.returned (.pointer (Y ⟨b,0,X⟩))/\FrR v z p q b:=by
 obtain⟨tr,B,C⟩:=aK h;subst S
 have D:At (eB 0 j).2 0 (eB 0 j).2:=λi y R=>by rw[Nat.zero_add];exact R
 refine pZ (φ:=λ_=>X) F l bO rfl (Fv j 0 xs D P) (Kq k j v) B (isT [p,q]) (Ym C N) ?_;rintro r s φ g z⟨hc,b,a,c,d,e,rfl,L,M⟩ hrel n;obtain⟨m,ys,k1,k2,T,U⟩:=Kr n L rfl rfl;obtain⟨us,rfl,e2,A⟩:=aUz T M;refine⟨m,?_,U,RepF.below n hc,us,⟨k2,e2⟩,A⟩;obtain⟨k',o',o,rfl⟩:=hrel;rw[k1]at o;cases o;rfl
theorem aJC (q:Int):decide (Nm.cmp q 0<0)=decide (q<0):=by
 unfold Nm.cmp;grind
theorem aO6 (h:q≠0):(bif decide (Nm.cmp q 0<0)then [-p/aN p q,-q/aN p q]else [p/aN p q,q/aN p q])=[eZ p q,eP p q]:=by
 have:(Nm.cmp q 0==0)=J:=by unfold Nm.cmp;grind
 unfold eZ eP;rw[aJC,this]
 by_cases a:q<0<;>simp[a]
theorem aXO (p q:Int):Dq (aE uT) f118 [n4 p,n4 q]=Y (bif decide (Nm.cmp q 0<0)then [-p/aN p q,-q/aN p q]else [p/aN p q,q/aN p q],bif decide (Nm.cmp q 0<0)then [0<aN p q,0<aN p q]else [0<aN p q,0<aN p q]):=E0
theorem aFN {c:Value}(h:NumAt v p z)(i:NumAt v q c)(d:Bits 4 p)(f:Bits 4 q)(a:q≠0):Calls prog 118 #[z,c] v λe k=>∃b,e=.returned (.pointer (Y ⟨b,0,X⟩))/\FrR v k (eZ p q) (eP p q) b:=by
 refine aLL (xs:=[z,c]) (aZ func118 rfl rfl) (dX aXw) (aXO p q) (λx j=>?_) ⟨Et h 4 d,Et i 4 f,trivial⟩ (aO6 a);have g:=Ka (t:=p) a
 have:x=(0<aN p q):=by
  cases hd:decide (Nm.cmp q 0<0)<;>simpa[hd]using j
 rw[this];exact g
def Hf (ν:LV):AV->Option Int
 |.agg [.sg i,.dg J j]=>bif i==j then(ν[i]?).bind λx=>bif q8 x.2 4 then Y x.1 else X else X
 |_=>X
def trB (l:Nat):bH:=⟨[.lit (.string ⟨#[113]⟩),.sg l,.dg J l,.sg (l+1),.dg J (l+1),.lit nilR,.lit nilR],49,I,J,J⟩
noncomputable def spF:Spec:=λf d ν id e c=>bif f==118 then (match c with
  | [a,b]=>(Hf ν a).bind λp=>(Hf ν b).map λq=>([(eZ p q,4),(eP p q,4)],.val (.one (.ptr id 0)),[q≠0],Y (trB ν.length))
  |_=>X)else aE uT f d ν id e c
theorem aPp {F:LV}(e:∀(i:Nat) (x:Int×Nat),ν[i]?=Y x->F[i]?=Y x){a:AV}{n:Int}{x:Value}(h:Hf ν a=Y n)(r:dJ Z φ F v a x):NumAt v n x/\Bits 4 n:=by
 unfold Hf at h;split at h
 .rename_i i j
  cases b:(i==j)with
  |false=>rw[b]at h;cases h
  |true=>
   rw[b]at h
   have b:i=j:=by simpa using b
   subst b;obtain⟨⟨q,o⟩,m,c⟩:=aK h
   cases d:q8 o 4 with
   |false=>simp only[d]at c;cases c
   |true=>
    simp only[d]at c;cases c;obtain⟨p,rfl,r⟩:=r
    match p,r with
    | [x,y],⟨⟨s,n1,e1,e2⟩,⟨t,n2,f1,⟨f,g,k,l⟩,f3⟩,_⟩=>
     rw[e _ _ m]at e1 f1;cases e1;cases f1;exact⟨⟨f,y,by rw[e2],g,k,l⟩,eJ f3 (Nat.le_of_ble_eq_true d)⟩
 .cases h
theorem aXj {q:LI}:SpecOk Z v q spF:=by
 intro f d ν id C vs n r p m h;unfold spF at h
 cases k:f==118 with
 |false=>
  rw[k]at h;exact dX aXw f d ν id C vs n r p m h
 |true=>
  have:f=118:=by simpa using k
  subst this;rw[k]at h;simp only[cond_true]at h;split at h
  .obtain⟨x,F,L⟩:=aK h;obtain⟨y,M,N⟩:=bI L;cases N;refine⟨(aZ func118 rfl rfl).en,λP μ g φ w xs _ _ _ _ l=>?_⟩;have j:y≠0:=P _ E4
   have c:∀(i:Nat) (x:Int×Nat),ν[i]?=Y x->μ[i]?=Y x:=λi x hi=>g i x (by rw[r7 (r8.1 hi).1];exact hi)
   have s:=g ν.length _ (by rw[r9 (j8 _),j9];rfl);have z:=g (ν.length+1) _ (by rw[r9 O,Nat.add_sub_cancel_left];rfl);obtain⟨u,a,rfl,r1,r2⟩:=aSw l;obtain⟨n1,b1⟩:=aPp c F r1;obtain⟨n2,o⟩:=aPp c M r2;obtain⟨U,W⟩:=Rz (Ka (t:=x) j);have A:Bits 4 (eZ x y):=Bg b1 U (j8 _);have B:Bits 4 (eP x y):=Bg o W (j8 _);refine(aFN n1 n2 b1 o j).mono ?_;rintro e w'⟨b,rfl,k1,k2,us,⟨R,S⟩,T⟩;refine⟨_,rfl,k2,rfl,(λe=>by cases e),b,0,[],_,[],k1,by rw[List.append_nil];exact R,rfl,?_,⟨b,0,by simp[oS],rfl⟩,λ_=>⟨rfl,rfl⟩⟩
   match us,S,T with
   | [y0,y1,y2,y3],_,⟨e0,g0,e1,D,_⟩=>
    exact⟨⟨rfl,rfl⟩,⟨_,_,s,e0⟩,⟨_,_,s,g0,Eh A⟩,⟨_,_,z,e1⟩,⟨_,_,z,D,Eh B⟩,⟨rfl,rfl⟩,⟨rfl,rfl⟩,trivial⟩
  .cases h
def n1 (z:Int):VT:=.agg [.num J z 1]
def tY (kd:Rf.Kind)(p q r s:Int):Int×Int:=match kd with
 |.add=>(p*s+r*q,q*s)
 |.sub=>(p*s-r*q,q*s)
 |.mul=>(p*r,q*s)
 |.div=>(p*s,r*q)
theorem bCx (kd:Rf.Kind)(p q r s:Int):Dq spF f117 [.one (.lit (.string (qI kd))),n1 p,n1 q,n1 r,n1 s]=Y ([eZ (tY kd p q r s).1 (tY kd p q r s).2,eP (tY kd p q r s).1 (tY kd p q r s).2],[(tY kd p q r s).2≠0]):=by
 cases kd<;>kernel_rfl
theorem aSv (kd:Rf.Kind){r s:Int}{c x C:Value}(g:NumAt v p z)(i:NumAt v q c)(j:NumAt v r x)(k:NumAt v s C)(a:Bits 1 p)(d:Bits 1 q)(br:Bits 1 r)(bs:Bits 1 s)(f:(tY kd p q r s).2≠0):Calls prog 117 #[.string (qI kd),z,c,x,C] v λe m=>∃b,e=.returned (.pointer (Y ⟨b,0,X⟩))/\FrR v m (eZ (tY kd p q r s).1 (tY kd p q r s).2) (eP (tY kd p q r s).1 (tY kd p q r s).2) b:=
 aLL (xs:=[.string (qI kd),z,c,x,C]) (aZ func117 rfl rfl) aXj (bCx kd p q r s) (λx l=>by cases l with|head=>exact f|tail _ h=>cases h) ⟨⟨rfl,rfl,rfl⟩,Et g 1 a,Et i 1 d,Et j 1 br,Et k 1 bs,trivial⟩ rfl
end Ab
variable {w k:Nat}{n:Int}
theorem aVe (h:Bits w n)(a:w<=k):Bits k n:=eJ h a
theorem Zl (h:Bits w n):Bits w (-n):=yU h
variable {b:Int}
theorem Ew {x:Int}(h:Bits w x)(a:Bits k b):Bits (w+k) (x*b):=gG h a
theorem aTk {x:Int}(h:Bits w x)(a:Bits w b):Bits (w+1) (x+b):=mY h a
namespace Ab
open Rf (Nd Inv cC Wt)
def Fi (n:Nat)(u:Wt):Prop:=u.Ok/\∀p q,u=.fr p q->0<q/\RB n p/\RB n q
theorem aTl (h:Rd.cW n):RB 30 n:=by
 have a:=h.1;have b:=h.2;show n.natAbs<2^30;omega
theorem sX (h:RB w n)(a:w<=k):RB k n:=aVe h a
theorem aPv {p q:Int}(d:0<q)(b:RB w p)(c:RB w q)(a:w<=6100):Fi w (.fr p q):=by
 refine⟨⟨d,sX b a,sX c a⟩,?_⟩;grind
variable {A:Wt}
theorem Ow (h:A.Ok)(a:∀p q,A≠.fr p q):Fi w A:=⟨h,λp q e=>absurd e (a p q)⟩
theorem aUW {m:Nat}(h:Fi w A)(c:w<=m)(i:m<=6100):Fi m (wA A):=by
 cases A with
 |fr p q=>
  obtain⟨d,f,g⟩:=h.2 p q rfl;exact aPv d (sX (Zl f) c) (sX g c) i
 |fE op j=>exact Ow (h.1) (λ_ _ e=>by cases e)
 |neg t=>exact Ow (h.1) (λ_ _ e=>by cases e)
 |two k a b=>exact Ow (h.1) (λ_ _ e=>by cases e)
theorem aVP {h:Rf.Kind}{p q a:Int}(f:RB w p)(c:RB w q)(g:RB k a)(d:RB k b):RB (w+k+1) (Np (cV h) p q a b)/\RB (w+k+1) (Hv (cV h) p q a b):=by
 have s:w+k<=w+k+1:=O
 have e:k+w=w+k:=O
 cases h with
 |add=>exact⟨aTk (Ew f d) (e▸Ew g c),sX (Ew c d) s⟩
 |sub=>exact⟨aTk (Ew f d) (e▸Ew (Zl g) c),sX (Ew c d) s⟩
 |mul=>exact⟨sX (Ew f g) s,sX (Ew c d) s⟩
 |div=>exact⟨sX (Ew f d) s,sX (Ew c g) s⟩
theorem aW7 {l:Nat}{d:Rf.Kind}{v x:Wt}(h:Fi w A)(g:Fi k v)(o:w+k+1<=l)(C:l<=6100)(c:pC d A v=Y x):Fi l x:=by
 have f:∀{t s:Wt},t.Ok->s.Ok->Fi l (.two d t s):=λD j=>Ow ⟨D,j⟩ (λ_ _ e=>by cases e)
 by_cases hv:∃a b,v=.fr a b
 .obtain⟨a,b,rfl⟩:=hv;obtain⟨y,z,B⟩:=g.2 a b rfl
  by_cases r:∃p q,A=.fr p q
  .obtain⟨p,q,rfl⟩:=r;obtain⟨f1,f2,f3⟩:=h.2 p q rfl;simp only[pC]at c;split at c
   .cases c
   .rename_i i;cases c;have hne:=Zx (p:=p) f1 y i;obtain⟨M,N⟩:=aVP f2 f3 z B;obtain⟨F,L⟩:=Rz (Ka hne);refine aPv (aRD hne) (sX (p8 F M) o) (sX (p8 L N) o) C
  .have:pC d A (.fr a b)=if d=.div/\a=0 then X else Y (.two d A (.fr a b)):=by
    cases A with
    |fr p q=>exact absurd ⟨p,q,rfl⟩ r
    |_=>rfl
   rw[this]at c;split at c
   .cases c
   .cases c;exact f h.1 g.1
 .have:pC d A v=Y (.two d A v):=by
   cases v with
   |fr p q=>exact absurd ⟨p,q,rfl⟩ hv
   |_=>cases A<;>rfl
  rw[this]at c;cases c;exact f h.1 g.1
theorem Iq:∀(t:Rd.Tr) (u:Wt),Rd.Wf t->32*Rd.iS t<=6100->dG t=Y u->Fi (32*Rd.iS t) u:=by
 intro t
 induction t with
 |nil=>intro u h;exact h.elim
 |node n1 n2 a l r d m=>
  intro u h hc b;have o:Rd.iS (.node n1 n2 a l r)=Rd.iS l+Rd.iS r+1:=rfl;rw[dG]at b
  rcases h with⟨hk,p,_,rfl,rfl⟩|⟨hk,_,_,rfl,rfl⟩|⟨hk,i,n,w,_,rfl,rfl⟩|⟨hk,c,_,rfl⟩|⟨hk,c,k,_⟩
  .rw[if_pos hk]at b;cases b;exact aPv E3 (sX (aTl p) O) (Rf.mN O) hc
  .rw[if_neg O,if_pos O]at b;cases b;refine Ow ?_ (λ_ _ e=>by cases e)
   rcases hk with hk|hk<;>rw[hk]
   .exact Or.inl rfl
   .exact A4 (Or.inl rfl)
  .rw[if_neg O,if_pos O]at b;cases b;refine Ow ?_ (λ_ _ e=>by cases e);rw[hk];exact A4 (A4 ⟨rfl,n,λx q=>sX (aTl (i x q)) E3⟩)
  .rw[if_neg O,if_neg O]at b
   rcases hk with hk|hk
   .rw[if_pos hk]at b;obtain⟨v,hv,rfl⟩:=x8.1 b;exact aUW (d v c O hv) O hc
   .rw[if_neg O,if_neg O]at b;cases b
  .rw[if_neg O,if_neg O,if_neg O,if_pos O]at b;obtain⟨v,hv,f⟩:=y8.1 b;obtain⟨s,j,g⟩:=y8.1 f;exact aW7 (d v c O hv) (m s k O j) O hc g
theorem aXQ (p:Int):aN p 1=1:=by simp[aN]
theorem aRT:∀(t:Rd.Tr) (p q:Int),Rd.Wf t->32*Rd.iS t<=6100->dG t=Y (.fr p q)->aN p q=1:=by
 intro t
 induction t with
 |nil=>intro p q h;exact h.elim
 |node n1 n2 a l r k o=>
  intro p q h hc c;have m:Rd.iS (.node n1 n2 a l r)=Rd.iS l+Rd.iS r+1:=rfl;rw[dG]at c
  rcases h with⟨hk,z,_,rfl,rfl⟩|⟨hk,_,_,rfl,rfl⟩|⟨hk,n,x,y,_,rfl,rfl⟩|⟨hk,d,_,rfl⟩|⟨hk,d,j,_⟩
  .rw[if_pos hk]at c;cases c;exact aXQ _
  .rw[if_neg O,if_pos O]at c;cases c
  .rw[if_neg O,if_pos O]at c;cases c
  .rw[if_neg O,if_neg O]at c
   rcases hk with hk|hk
   .rw[if_pos hk]at c;obtain⟨v,hv,e⟩:=x8.1 c
    cases v with
    |fr a b=>
     cases e;have:=k a q d O hv;unfold aN at*
     rwa[Int.natAbs_neg]
    |_=>cases e
   .rw[if_neg O,if_neg O]at c;cases c
  .rw[if_neg O,if_neg O,if_neg O,if_pos O]at c;obtain⟨v,hv,f⟩:=y8.1 c;obtain⟨w,i,e⟩:=y8.1 f;have o1:=Iq _ _ d O hv;have o2:=Iq _ _ j O i
   cases w with
   |fr a b=>
    cases v with
    |fr s u=>
     simp only[pC]at e;split at e
     .cases e
     .rename_i g;cases e;exact aUJ (Zx (o1.2 s u rfl).1 (o2.2 a b rfl).1 g)
    |_=>simp only[pC]at e;split at e<;>cases e
   |_=>cases v<;>cases e
open Rf (Wt)
def kL (w:World)(o:Option Wt)(e:Ending)(a:World):Prop:=Below w.heap.size w a/\match o with
 |none=>e=.returned (.pointer X)
 |some u=>∃b,e=.returned (.pointer (Y ⟨b,0,X⟩))/\kU w.heap.size a u b
def Fg (p q:Int):Prop:=0<q/\aN p q=1/\Bits 1 p/\Bits 1 q
theorem aNw {v:World}{b:Nat}(h:v.cell? ⟨b,6,X⟩=Y (.slice X 0 0)):Calls prog 78 #[.pointer (Y ⟨b,0,X⟩)] v λe a=>e=.returned (.pointer (Y ⟨b,0,X⟩))/\a=v:=by
 go_in
 go_wp2_with fail
 go_ret
 exact⟨rfl,rfl⟩
theorem Jh:(prog.info? 26).map (λi=>(i.zero,i.size,i.bytes))=Y (Y (.pointer X),1,8):=E0
def Fe:Wt->ByteArray
 |.fr _ _=>⟨#[113]⟩
 |.fE op _=>Da op
 |.neg _=>⟨#[110,101,103]⟩
 |.two k _ _=>qI k
theorem kU.cell {w:Nat}{v:World}:∀{u:Wt} {b:Nat},kU w v u b->∀W,Below v.heap.size v W->W.cell? ⟨b,0,X⟩=Y (.string (Fe u))
 |.fr _ _,b,⟨d,e,c,h,_⟩,W,a=>(h.cell a).1
 |.fE _ _,b,⟨d,c,_,_,_,h,_⟩,W,a=>(h.cell a).1
 |.neg _,b,⟨d,e,c,_,h,_⟩,W,a=>(h.cell a).1
 |.two _ _ _,b,⟨d,e,c,_,_,h,_⟩,W,a=>(h.cell a).1
variable {s:World}
theorem lY.up {a:World}{y:NU}{v:Value}(h:lY w a y v)(g:Below a.heap.size a s):lY w s y v:=by
 obtain⟨k,c,b,e,f,d⟩:=h;exact⟨k,c,b,e,f,(g.block _ (bL d)).trans d⟩
variable {v:World}{c:Value}
theorem TreeB.up {b:Nat}{S:ByteArray}{a:PH}{z:Value}(h:TreeB v b S a z c)(d:Below v.heap.size v s):TreeB s b S a z c:=⟨(d.block _ (bL h.1)).trans h.1,h.2⟩
theorem kU.up {w:Nat}{v s:World}(a:Below v.heap.size v s):∀{u:Wt} {b:Nat},kU w v u b->kU w s u b
 |.fr _ _,b,⟨g,l,f,h,e⟩=>⟨g,l,f,h.up a,pJ (On.below a) e⟩
 |.fE _ _,b,⟨g,f,to,q,p,h,e⟩=>⟨g,f,to,q,p,h.up a,e.elim Or.inl λ⟨k,m,j,n,e,i⟩=>A4 ⟨k,m,j,n,(a.block _ (bL e)).trans e,i⟩⟩
 |.neg _,b,⟨g,l,f,c,h,e,i⟩=>⟨g,l,f,c,h.up a,e.up a,kU.up a i⟩
 |.two _ _ _,b,⟨g,l,f,c,d,h,e,i,o⟩=>⟨g,l,f,c,d,h.up a,e.up a,kU.up a i,kU.up a o⟩
theorem Xp {z:Value}{ps:NU}(h:v.ownsRow w 26 1 z k (ps.map λp=>Value.pointer (Y ⟨p,0,X⟩)))(j:k=ps.length)(l:ps≠[]):lY w v ps z:=by
 subst j
 rcases h.2 with⟨_,d⟩|⟨g,a,b,e,i,f,_,_,_,c⟩
 .exact absurd (s7.1 d) l
 .refine⟨g,a,b.toList.drop ps.length,e,i,?_⟩;rw[f];rw[Nat.mul_one]at c;rw[<-c,List.take_append_drop]
theorem vW (h:v.grownBy s X):Below v.heap.size v s:=⟨h.os,h.tape,h.output,h.size,λk a=>h.block k a E4⟩
@[reducible] def C2 (k:Nat) (x y:Value) (W:World):Prop:=W.cell? ⟨k,0,X⟩=Y x/\W.cell? ⟨k,1,X⟩=Y y
theorem Kw {x:Value}{d:TypeId}(h:v.heap[k]?=Y (.cells #[x,c] d (0,0)))(a:Below v.heap.size v s):C2 k x c s:=by
 have h:=(a.block _ (bL h)).trans h;exact⟨aB h rfl,aB h rfl⟩
theorem Qx {x u C:Value}(h:aP J v [n,b] [x,c,u,C]):NumAt v b (.agg #[u,C]):=Fy (show aP J v [b] [u,C]from h.2.2)
theorem aTG {u:Wt}(h:∀p q,u≠.fr p q):((Fe u).toList==[113])=J:=by
 cases u with
 |fr p q=>exact absurd rfl (h p q)
 |fE op _=>show((Da op).toList==[113])=J;cases op<;>kernel_rfl
 |neg _=>kernel_rfl
 |two k _ _=>show((qI k).toList==[113])=J;cases k<;>kernel_rfl
theorem aQR {b lb c cap:Nat}{o:Option Wt}(hS:∀W,Below v.heap.size v W->W.cell? ⟨b,0,X⟩=Y (.string ⟨#[110,101,103]⟩)/\W.cell? ⟨b,6,X⟩=Y (.slice (Y ⟨lb,0,X⟩) 1 cap)/\W.cell? ⟨lb,0,X⟩=Y (.pointer (Y ⟨c,0,X⟩)))
  (hC:∀W,Below v.heap.size v W->Calls prog 78 #[.pointer (Y ⟨c,0,X⟩)] W (kL W o)) (hq:∀p q,o=Y (.fr p q)->Fg p q):Calls prog 78 #[.pointer (Y ⟨b,0,X⟩)] v (kL v (o.map wA)):=by
 obtain⟨q0,q1,q2⟩:=hS v (Below.refl _ _);obtain⟨iT,F,N,L,D⟩:=info_parts Jh;have HS:=hid hS;have HC:=hid hC;have HQ:=hid hq;clear hS hC hq
 go_in
 go_wp2_with fail
 refine wp_loop_rounds 3 ?_;rw[rounds_succ]
 go_wp2_with fail
 refine(HC.out v (Below.refl _ _)).mono ?_;rintro e s⟨l,h1⟩
 cases o with
 |none=>
  cases h1
  go_wp2_with fail
  exact bodyPost_ret (v:=.pointer X) (by simp[results,results78,go_sem]) rfl ⟨l,rfl⟩
 |some u=>
  obtain⟨b1,rfl,z⟩:=h1;have u0:=z.cell s (Below.refl _ _)
  by_cases hf:∃p q,u=.fr p q
  .obtain⟨p,q,rfl⟩:=hf;have x:=hid (HQ.out p q rfl);obtain⟨xs,tv,lv,hT,hH⟩:=z;obtain⟨t,r,c0,x1,A,c1,rfl⟩:=jA hH;simp only[Fe]at u0
   go_wp2_with (at_builtin;refine wpList_append_own_at _ rfl _ _ 47 rfl v.heap.size 26 iT (.pointer X) 1 8 underlying47 F N L D rfl E3 _ 0 [] rfl (A0 _ _ _ _) ⟨s.heap.size,0,X⟩ 1 1 [.pointer (Y ⟨b1,0,X⟩)] rfl rfl (cell_one_new _ _ _) (λu M=>by simp at M;subst M;rfl) (by unfold maxLen;omega) O (o9 l.size E4) ?_;intro v' f g d h n)
   have B:=(Below.refl s.heap.size s).alloc (j8 _) (.cells #[.pointer (Y ⟨b1,0,X⟩)] 26 (0,0));have m:=B.trans ((vW d).mono B.size);have j:=l.trans (m.mono l.size);have T:=Xp (ps:=[b1]) g rfl E4;have y:=hT.up m;obtain⟨k,cp,P,rfl,ah,U⟩:=id T;obtain⟨r0,r1,r2⟩:=HS.out f j;clear q0 q1 q2 g d h n u0;have k0:f.cell? ⟨k,0,X⟩=Y (.pointer (Y ⟨b1,0,X⟩)):=aB U rfl;have t1:f.cell? ⟨b1,1,X⟩=Y (.bool (decide (p<0))):=aB y.1 rfl;have t2:f.cell? ⟨b1,2,X⟩=Y (.slice t r c0):=aB y.1 rfl;have i:=(Below.refl f.heap.size f).alloc (j8 _) (.cells #[.bool (decide (p<0)),.slice t r c0] 46 (0,0));have a5:=(Below.refl (f.alloc (.cells #[.bool (decide (p<0)),.slice t r c0] 46 (0,0))).heap.size _).alloc (j8 _) (.cells #[.bool (decide (q<0)),.slice x1 A c1] 46 (0,0));have k5:=iJ (f.alloc (.cells #[.bool (decide (p<0)),.slice t r c0] 46 (0,0))) (.cells #[.bool (decide (q<0)),.slice x1 A c1] 46 (0,0));rw[z8]at k5;have k4:=(a5.block _ E4).trans (iJ f (.cells #[.bool (decide (p<0)),.slice t r c0] 46 (0,0)));have aj:=aB (o:=0) ((i.block _ (bL U)).trans U) rfl;have t3:=aB (o:=3) (y.up i).1 rfl;have t4:=aB (o:=4) (y.up i).1 rfl;have e5:=i.trans (a5.mono i.size);obtain⟨s0,_⟩:=HS.out _ (j.trans (e5.mono j.size));rw[rounds_succ]
   go_wp2_with fail
   clear k0 aj t1 t2 t3 t4 s0 r0 r1 r2;have d5:=j.trans (e5.mono j.size);have C:=pJ (On.below (m.trans (e5.mono m.size))) hH;generalize (f.alloc _).alloc _=w5 at*
   have R:∀W,Below w5.heap.size w5 W->C2 f.heap.size (.bool (decide (p<0))) (.slice t r c0) W/\C2 (f.heap.size+1) (.bool (decide (q<0))) (.slice x1 A c1) W:=λW z=>⟨Kw k4 z,Kw k5 z⟩
   refine mX (λW=>C2 f.heap.size (.bool (decide (p<0))) (.slice t r c0) W/\C2 (f.heap.size+1) (.bool (decide (q<0))) (.slice x1 A c1) W) (λ_=>I) E0 ?_
   iterate 2 refine cH [0,2] 4 (R _ (bB w5)) ?_
   refine aW 1 (aFX _ p _ (10000000*1) ((Fy C).below (bB w5)) x.out.2.2.1 E3) ?_;rintro e w6⟨a,rfl,n6,B6⟩;have S:=aX B6;refine⟨_,rfl,λ_=>R _ S,?_⟩;refine aW 3 (aFN n6 ((Qx C).below S) (eJ (yU x.out.2.2.1) E3) (eJ x.out.2.2.2 E3) (Int.ne_of_gt x.out.1)) ?_;rintro e w7⟨b',rfl,g1,g2,g3⟩;have d7:=S.trans (g2.mono S.size);refine⟨_,rfl,λ_=>R _ d7,?_⟩;refine bK 4 (λ_=>R _ d7) ?_;refine kC E0 ?_ _
   go_wp2_with fail
   obtain⟨A,l2⟩:=aWL x.out.1 x.out.2.1;rw[A,l2]at g3;obtain⟨ys,g4,g5⟩:=g3;exact bodyPost_ret (v:=.pointer (Y ⟨b',0,X⟩)) (by simp[results,results78,go_sem]) rfl ⟨d5.trans (d7.mono d5.size),_,rfl,ys,_,_,g4,g5⟩
  .have hne:=aTG (u:=u) λp q e=>hf ⟨p,q,e⟩
   go_wp2_with (at_builtin;refine wpList_append_own_at _ rfl _ _ 47 rfl v.heap.size 26 iT (.pointer X) 1 8 underlying47 F N L D rfl E3 _ 0 [] rfl (A0 _ _ _ _) ⟨s.heap.size,0,X⟩ 1 1 [.pointer (Y ⟨b1,0,X⟩)] rfl rfl (cell_one_new _ _ _) (λu M=>by simp at M;subst M;rfl) (by unfold maxLen;omega) O (o9 l.size E4) ?_;intro v' f g d h n)
   have B:=(Below.refl s.heap.size s).alloc (j8 _) (.cells #[.pointer (Y ⟨b1,0,X⟩)] 26 (0,0));have m:=B.trans ((vW d).mono B.size);have j:=l.trans (m.mono l.size);have T:=Xp (ps:=[b1]) g rfl E4;have y:=z.up m;obtain⟨k,cp,P,rfl,ah,U⟩:=id T;obtain⟨r0,r1,r2⟩:=HS.out f j;clear q0 q1 q2 g d h n u0;rw[rounds_succ]
   go_wp2_with fail
   have i:=(Below.refl f.heap.size f).alloc (j8 _) (.cells #[.string ⟨#[110,101,103]⟩,.bool J,nilR,.bool J,nilR,nilR,.slice (Y ⟨k,0,X⟩) 1 cp] 49 (0,0))
   have e:(Y u).map wA=Y (.neg u):=by
    cases u with
    |fr p q=>exact absurd ⟨p,q,rfl⟩ hf
    |_=>rfl
   rw[e];exact bodyPost_ret (v:=.pointer (Y ⟨f.heap.size,0,X⟩)) (by simp[results,results78,go_sem]) rfl ⟨j.trans (i.mono j.size),_,rfl,[.bool J,nilR,.bool J,nilR],nilR,_,b1,⟨iJ _ _,rfl⟩,T.up i,y.up i⟩
end Ab
open Ab
abbrev yY (b a d c:Nat)(k f:Int)(W:World):Prop:=W.cell? ⟨b,0,X⟩=Y (.pointer (Y ⟨d,0,X⟩))/\W.cell? ⟨b,1,X⟩=Y (.pointer (Y ⟨c,0,X⟩))/\W.cell? ⟨a,1,X⟩=Y (.int .i64 k)/\W.cell? ⟨a,2,X⟩=Y (.int .i64 f)
variable {S:ByteArray}
theorem aNR {a:World}{g p:Nat}{k t:Int}(c1:a.cell? ⟨w,1,X⟩=Y (.int .i64 k))(c2:a.cell? ⟨w,2,X⟩=Y (.int .i64 b))
  (q:∀W,Below a.heap.size a W->Calls prog 31 #[.pointer (Y ⟨g,0,X⟩),.int .i64 k,.int .i64 b] W λe i=>e=.returned (.tuple #[.string S,.int .i64 t])/\Below W.heap.size W i) (r:∀W,Below a.heap.size a W->Calls prog 32 #[.pointer (Y ⟨p,0,X⟩),.int .i64 k,.int .i64 b] W λe i=>e=.returned (.tuple #[.string S,.int .i64 t])/\Below W.heap.size W i):
  Calls prog 25 #[.pointer (Y ⟨w,0,X⟩),.int .i64 4,.agg #[.pointer (Y ⟨g,0,X⟩),.pointer (Y ⟨p,0,X⟩)]] a λe i=>e=.returned (.bool I)/\Below a.heap.size a i:=by
 have u:=hid q;have x:=hid r;have a1:=(Below.refl a.heap.size a).alloc (j8 _) (.cells #[.pointer (Y ⟨g,0,X⟩),.pointer (Y ⟨p,0,X⟩)] 66 (0,0));have k1:=iJ a (.cells #[.pointer (Y ⟨g,0,X⟩),.pointer (Y ⟨p,0,X⟩)] 66 (0,0));have b1:=(a1.cell (kV c1)).trans c1;have o:=(a1.cell (kV c2)).trans c2;clear q r
 go_in
 go_wp2_with fail
 generalize a.alloc _=l at*
 have c:∀W,Below l.heap.size l W->(yY a.heap.size w g p k b) W:=λW j=>⟨aB ((j.block _ (bL k1)).trans k1) rfl,aB ((j.block _ (bL k1)).trans k1) rfl,(j.cell (kV b1)).trans b1,(j.cell (kV o)).trans o⟩
 refine mX (yY a.heap.size w g p k b) (λ_=>I) E0 ?_
 iterate 10 refine cH [0,1,2,3,4,5,6,7,8,9] 15 (c _ (bB l)) ?_
 refine aW 10 (u.out _ (a1.trans ((bB l).mono a1.size))) ?_;rintro e s⟨rfl,m⟩;have d:=aX m;refine⟨_,rfl,λ_=>c _ d,?_⟩
 iterate 3 refine cH [11,12,13] 4 (c _ d) ?_
 refine bK 14 (λ_=>c _ d) ?_;refine bK 15 (λ_=>c _ d) ?_;refine kC E0 ?_ _
 go_wp2_with fail
 refine mX (yY a.heap.size w g p k b) (λ_=>I) E0 ?_
 iterate 10 refine cH [0,1,2,3,4,5,6,7,8,9] 15 (c _ (d.trans ((bB s).mono d.size))) ?_
 refine aW 10 (x.out _ (a1.trans ((d.trans ((bB s).mono d.size)).mono a1.size))) ?_;rintro e y⟨rfl,n⟩;have h:=d.trans ((aX n).mono d.size);refine⟨_,rfl,λ_=>c _ h,?_⟩
 iterate 3 refine cH [11,12,13] 4 (c _ h) ?_
 refine bK 14 (λ_=>c _ h) ?_;refine bK 15 (λ_=>c _ h) ?_;refine kC E0 ?_ _
 go_wp2_with fail
 exact bodyPost_ret (v:=.bool I) (by simp[results,results25,go_sem]) rfl ⟨rfl,a1.trans (h.mono a1.size)⟩
theorem aNS {a:World}{g p:Nat}{k t:Int}{T:ByteArray}(c1:a.cell? ⟨w,1,X⟩=Y (.int .i64 k))(c2:a.cell? ⟨w,2,X⟩=Y (.int .i64 b))
  (q:∀W,Below a.heap.size a W->Calls prog 33 #[.pointer (Y ⟨g,0,X⟩),.int .i64 k,.int .i64 b] W λe i=>e=.returned (.tuple #[.string S,.string T,.int .i64 t])/\Below W.heap.size W i) (r:∀W,Below a.heap.size a W->Calls prog 34 #[.pointer (Y ⟨p,0,X⟩),.int .i64 k,.int .i64 b] W λe i=>e=.returned (.tuple #[.string S,.string T,.int .i64 t])/\Below W.heap.size W i):
  Calls prog 25 #[.pointer (Y ⟨w,0,X⟩),.int .i64 5,.agg #[.pointer (Y ⟨g,0,X⟩),.pointer (Y ⟨p,0,X⟩)]] a λe i=>e=.returned (.bool I)/\Below a.heap.size a i:=by
 have u:=hid q;have x:=hid r;have a1:=(Below.refl a.heap.size a).alloc (j8 _) (.cells #[.pointer (Y ⟨g,0,X⟩),.pointer (Y ⟨p,0,X⟩)] 66 (0,0));have k1:=iJ a (.cells #[.pointer (Y ⟨g,0,X⟩),.pointer (Y ⟨p,0,X⟩)] 66 (0,0));have b1:=(a1.cell (kV c1)).trans c1;have o:=(a1.cell (kV c2)).trans c2;clear q r
 go_in
 go_wp2_with fail
 generalize a.alloc _=l at*
 have c:∀W,Below l.heap.size l W->(yY a.heap.size w g p k b) W:=λW j=>⟨aB ((j.block _ (bL k1)).trans k1) rfl,aB ((j.block _ (bL k1)).trans k1) rfl,(j.cell (kV b1)).trans b1,(j.cell (kV o)).trans o⟩
 refine mX (yY a.heap.size w g p k b) (λ_=>I) E0 ?_
 iterate 10 refine cH [0,1,2,3,4,5,6,7,8,9] 17 (c _ (bB l)) ?_
 refine aW 10 (u.out _ (a1.trans ((bB l).mono a1.size))) ?_;rintro e s⟨rfl,m⟩;have d:=aX m;refine⟨_,rfl,λ_=>c _ d,?_⟩
 iterate 4 refine cH [11,12,13,14] 6 (c _ d) ?_
 refine bK 15 (λ_=>c _ d) ?_;refine bK 16 (λ_=>c _ d) ?_;refine bK 17 (λ_=>c _ d) ?_;refine kC E0 ?_ _
 go_wp2_with fail
 refine mX (yY a.heap.size w g p k b) (λ_=>I) E0 ?_
 iterate 10 refine cH [0,1,2,3,4,5,6,7,8,9] 17 (c _ (d.trans ((bB s).mono d.size))) ?_
 refine aW 10 (x.out _ (a1.trans ((d.trans ((bB s).mono d.size)).mono a1.size))) ?_;rintro e y⟨rfl,n⟩;have h:=d.trans ((aX n).mono d.size);refine⟨_,rfl,λ_=>c _ h,?_⟩
 iterate 4 refine cH [11,12,13,14] 6 (c _ h) ?_
 refine bK 15 (λ_=>c _ h) ?_;refine bK 16 (λ_=>c _ h) ?_;refine bK 17 (λ_=>c _ h) ?_;refine kC E0 ?_ _
 go_wp2_with fail
 exact bodyPost_ret (v:=.bool I) (by simp[results,results25,go_sem]) rfl ⟨rfl,a1.trans (h.mono a1.size)⟩
open Go.Deep (BT)
def pickI (c:Int)(n:Nat):Nat:=if c<0 then((-(c+1))%(n:Int)).toNat else(c%(n:Int)).toNat
theorem aLB (c:Int)(n:Nat)(a:0<n):pickI c n<n:=by
 unfold pickI;split
 .have:=A5 (-(c+1)) (show(0:Int)<n by omega);omega
 .have:=A5 c (show(0:Int)<n by omega);omega
theorem aLC (c:Int)(n:Nat)(w:World)(d:-9223372036854775808<=c)(f:c<=9223372036854775807)(h:0<n)(g:n<=4000000):
  Calls prog 23 #[.int .i64 c,.int .i64 n] w λe b=>e=.returned (.int .i64 (pickI c n))/\w=b:=by
 by_cases hc:c<0
 .have e1:-(c+1).tmod (n:Int)=(pickI c n:Int):=by
   rw[pickI,if_pos hc,<-Int.neg_tmod,Int.tmod_eq_emod_of_nonneg O,A6 (A7 _ O)]
  have a:=cA e1;clear e1
  go_in
  go_wp2_with fail
  go_ret
  exact⟨Iu a.out,rfl⟩
 .have e1:c%(n:Int)=(pickI c n:Int):=by
   rw[pickI,if_neg hc,A6 (A7 _ O)]
  have a:=cA e1;clear e1
  go_in
  go_wp2_with fail
  go_ret
  exact⟨Iu a.out,rfl⟩
theorem aQh (f w:World)(g:Nat)(d:List Pr)(a b:Int)(s:ByteArray)(k:s.size<=maxLen)(i:WInv f w g d)(j:mI f)(l:d.length<=4000000)(m:yH s):
  Calls prog 20 #[.pointer (Y ⟨g,0,X⟩),.agg #[.int .i64 1,.int .i64 a,.int .i64 b,.string s]] w (kZ f g d.length):=by
 have L:=aH (aO7 f _ g d s k (i.below ((Below.refl w.heap.size w).alloc (j8 _) (.cells #[.int .i64 1,.int .i64 a,.int .i64 b,.string s] 25))) j l m);clear i j k l m
 go_in
 go_wp2_with fail
 refine(L.out).mono ?_;rintro e n⟨rfl,h⟩;have c:=aH h;clear h
 go_wp2_with fail
 go_ret
 exact⟨rfl,c.out⟩
theorem WInv.ask {v s:World}{o:Nat}{l:List Pr}(h:WInv v s w l)(a:Int)(x:o=1\/o=2):WInv v (s.setCell ⟨w,o,X⟩ (.int .i64 a)) w l:=by
 obtain⟨c,k,f,i,t⟩:=h.blk;have d:=lX.aTf (o:=o) i (.int .i64 a)
 have b:(s.setCell ⟨w,o,X⟩ (.int .i64 a)).ownsRow v.heap.size 66 2 c l.length (fA l):=by
  refine⟨t.1,?_⟩
  rcases t.2 with e|⟨g,m,n,e,q,j,r⟩
  .exact Or.inl e
  .refine A4 ⟨g,m,n,e,q,?_,r⟩;rw[Below.heap_setCell]
   .exact j
   .simp only;intro u;subst u;rw[i]at j;simp only[Option.some.injEq,Obj.cells.injEq]at j;exact absurd j.2.1 E3
 refine⟨?_,h.lo,λp y=>(h.all p y).oth d,h.bel.setCell h.lo _⟩
 rcases x with rfl|rfl
 .exact⟨c,a,f,by rw[nQ i];rfl,b⟩
 .exact⟨c,k,a,by rw[nQ i];rfl,b⟩
theorem aSg (h w:World)(c:Nat)(g:List Pr)(a b:Int)(s:ByteArray)(e:WInv h w c g):
  Calls prog 20 #[.pointer (Y ⟨c,0,X⟩),.agg #[.int .i64 3,.int .i64 a,.int .i64 b,.string s]] w (kZ h c g.length):=by
 obtain⟨i,k,f,d,j⟩:=e.blk;have c1:w.cell? ⟨c,1,X⟩=Y (.int .i64 k):=aB d rfl;have c2:w.cell? ⟨c,2,X⟩=Y (.int .i64 f):=aB d rfl;have f1:w.frozen? ⟨c,1,X⟩=J:=dP d;have f2:w.frozen? ⟨c,2,X⟩=J:=dP d;have l:=cZ d;have R:=aH (((e.ask a (Or.inl rfl)).ask b (A4 rfl)).below ((Below.refl _ _).alloc (j8 _) (.cells #[.int .i64 3,.int .i64 a,.int .i64 b,.string s] 25)));clear d j e
 go_in
 go_wp2_with fail
 go_ret
 exact⟨rfl,g,R.out,O⟩
theorem aQg (m w:World)(d:Nat)(kd a b:Int)(s:ByteArray)(p:kd=4\/kd=5)(i:WInv m w d []):
  Calls prog 20 #[.pointer (Y ⟨d,0,X⟩),.agg #[.int .i64 kd,.int .i64 a,.int .i64 b,.string s]] w (kZ m d 0):=by
 obtain⟨c,k,f,h,l⟩:=i.blk;have c0:w.cell? ⟨d,0,X⟩=Y c:=aB h rfl
 obtain⟨j,cp,rfl⟩:∃j cp,c=.slice j 0 cp:=by
  rcases l.2 with⟨e,_⟩|⟨g,n,o,e,_⟩
  .exact⟨_,_,e⟩
  .exact⟨_,_,e⟩
 have R:=aH (i.below ((Below.refl w.heap.size w).alloc (j8 _) (.cells #[.int .i64 kd,.int .i64 a,.int .i64 b,.string s] 25)));have q:=cZ h;clear h l i
 rcases p with rfl|rfl
 all_goals
  go_in
  go_wp2_with fail
  go_ret
  exact⟨rfl,[],R.out,E4⟩
theorem WInv.pair {v s:World}{b:List Pr}(h:WInv v s w b)(n:Nat)(q:n<b.length):
  ∃g a m l t,s.cell? ⟨w,0,X⟩=Y (.slice (Y ⟨g,0,X⟩) b.length a)/\s.cell? ⟨g,n*2,X⟩=Y (.pointer (Y ⟨m,0,X⟩))/\s.cell? ⟨g,n*2+1,X⟩=Y (.pointer (Y ⟨l,0,X⟩))/\
   iD s t (.pointer (Y ⟨m,0,X⟩)) (.pointer (Y ⟨l,0,X⟩)):=by
 obtain⟨r,k,f,x,y⟩:=h.blk;have d:=h.all b[n] (List.getElem_mem q);obtain⟨m,l,C,B⟩:=d.bB8;obtain⟨a0,a1⟩:=aPK b n q;rw[C]at a0 d;rw[B]at a1 d
 rcases y.2 with⟨_,e⟩|⟨g,a,o,e,_,p,_,_,_,z⟩
 .omega
 .subst e
  have c:∀(j:Nat) (u:Value),(fA b)[j]?=Y u->o[j]?=Y u:=by
   intro j u i;rw[<-z]at i;have A:=(r8.1 i).1;rw[List.getElem?_take_of_lt (by simp at A;omega)]at i
   simpa using i
  exact⟨g,a,m,l,_,aB x rfl,aB p (c _ _ a0),aB p (c _ _ a1),d⟩
def aYS (w:World)(d c:Nat)(k f:Int):Prop:=
 (∃S a,∀W,Below w.heap.size w W->(Calls prog 31 #[.pointer (Y ⟨d,0,X⟩),.int .i64 k,.int .i64 f] W λe b=>e=.returned (.tuple #[.string S,.int .i64 a])/\Below W.heap.size W b)/\Calls prog 32 #[.pointer (Y ⟨c,0,X⟩),.int .i64 k,.int .i64 f] W λe b=>e=.returned (.tuple #[.string S,.int .i64 a])/\Below W.heap.size W b)/\
 ∃S T a,∀W,Below w.heap.size w W->(Calls prog 33 #[.pointer (Y ⟨d,0,X⟩),.int .i64 k,.int .i64 f] W λe b=>e=.returned (.tuple #[.string S,.string T,.int .i64 a])/\Below W.heap.size W b)/\Calls prog 34 #[.pointer (Y ⟨c,0,X⟩),.int .i64 k,.int .i64 f] W λe b=>e=.returned (.tuple #[.string S,.string T,.int .i64 a])/\Below W.heap.size W b
def kA:Prop:=∀(w:World) (t:Rd.Tr) (b a:Nat) (k f:Int),iD w t (.pointer (Y ⟨b,0,X⟩)) (.pointer (Y ⟨a,0,X⟩))->mI w->aYS w b a k f
theorem aSh (M:kA)(C w:World)(l:Nat)(i:List Pr)(a b:Int)(s:ByteArray)(r:WInv C w l i)(R:mI C)(P:0<i.length)(hn:i.length<=3000000)(v:-9223372036854775808<=a)(x:a<=9223372036854775807):
  Calls prog 20 #[.pointer (Y ⟨l,0,X⟩),.agg #[.int .i64 4,.int .i64 a,.int .i64 b,.string s]] w (kZ C l i.length):=by
 have z:=aLB a i.length P;obtain⟨g,n,D,B,t,c0,p0,p1,S⟩:=r.pair (pickI a i.length) z;have PK:=aH (λj=>aLC a i.length j v x P O);generalize pickI a i.length=q at*
 have p:Below w.heap.size w ((w.alloc (.cells #[.int .i64 4,.int .i64 a,.int .i64 b,.string s] 25)).alloc (.cells #[.pointer (Y ⟨D,0,X⟩),.pointer (Y ⟨B,0,X⟩)] 66)).drew:=
  (((Below.refl w.heap.size w).alloc (j8 _) _).alloc E4 _).trans ((Vy _).mono (by simp;omega))
 have HP:=aH (S.oth (lX.cQ p));have m:=aH (r.below p);clear p;have HT:=aH R;have A:=kV c0;have y:=kV p0;simp only at A y;have hne:((i.length:Int)==0)=J:=beq_eq_false_iff_ne.2 O;have KK:=aH M;clear S r R M
 go_in
 go_wp2_with fail
 go_region_held3 (λj=>j.cell? ⟨l,0,X⟩=Y (.slice (Y ⟨g,0,X⟩) i.length n)/\j.cell? ⟨g,q*2,X⟩=Y (.pointer (Y ⟨D,0,X⟩))/\j.cell? ⟨g,q*2+1,X⟩=Y (.pointer (Y ⟨B,0,X⟩))/\j.cell? ⟨w.heap.size,1,X⟩=Y (.int .i64 a)) (go_keep)
  ((go_at_call 23;refine(PK.out _).mono ?_;rintro e w2⟨rfl,rfl⟩))
 all_goals
  go_wp2_with fail
  obtain⟨af,k,f,d,_⟩:=m.out.blk;have T:=aB (o:=1) d rfl;have U:=aB (o:=2) d rfl;have N:=aH (KK.out _ t D B k f HP.out (m.out.tab HT.out));clear d;obtain⟨S1,E1,F⟩:=N.out.1;have L:=aH (aNR T U (λW u=>(F W u).1) (λW u=>(F W u).2));clear F T U;refine L.out.mono ?_;rintro e w5⟨rfl,h⟩;have c:=aH (m.out.below h);clear h L N
  go_wp2_with fail
  go_ret
  exact⟨rfl,i,c.out,O⟩
theorem aSi (M:kA)(C w:World)(l:Nat)(i:List Pr)(a b:Int)(s:ByteArray)(r:WInv C w l i)(R:mI C)(P:0<i.length)(hn:i.length<=3000000)(v:-9223372036854775808<=a)(x:a<=9223372036854775807):
  Calls prog 20 #[.pointer (Y ⟨l,0,X⟩),.agg #[.int .i64 5,.int .i64 a,.int .i64 b,.string s]] w (kZ C l i.length):=by
 have z:=aLB a i.length P;obtain⟨g,n,D,B,t,c0,p0,p1,S⟩:=r.pair (pickI a i.length) z;have PK:=aH (λj=>aLC a i.length j v x P O);generalize pickI a i.length=q at*
 have p:Below w.heap.size w ((w.alloc (.cells #[.int .i64 5,.int .i64 a,.int .i64 b,.string s] 25)).alloc (.cells #[.pointer (Y ⟨D,0,X⟩),.pointer (Y ⟨B,0,X⟩)] 66)).drew:=
  (((Below.refl w.heap.size w).alloc (j8 _) _).alloc E4 _).trans ((Vy _).mono (by simp;omega))
 have HP:=aH (S.oth (lX.cQ p));have m:=aH (r.below p);clear p;have HT:=aH R;have A:=kV c0;have y:=kV p0;simp only at A y;have hne:((i.length:Int)==0)=J:=beq_eq_false_iff_ne.2 O;have KK:=aH M;clear S r R M
 go_in
 go_wp2_with fail
 go_region_held3 (λj=>j.cell? ⟨l,0,X⟩=Y (.slice (Y ⟨g,0,X⟩) i.length n)/\j.cell? ⟨g,q*2,X⟩=Y (.pointer (Y ⟨D,0,X⟩))/\j.cell? ⟨g,q*2+1,X⟩=Y (.pointer (Y ⟨B,0,X⟩))/\j.cell? ⟨w.heap.size,1,X⟩=Y (.int .i64 a)) (go_keep)
  ((go_at_call 23;refine(PK.out _).mono ?_;rintro e w2⟨rfl,rfl⟩))
 all_goals
  go_wp2_with fail
  obtain⟨af,k,f,d,_⟩:=m.out.blk;have T:=aB (o:=1) d rfl;have U:=aB (o:=2) d rfl;have N:=aH (KK.out _ t D B k f HP.out (m.out.tab HT.out));clear d;obtain⟨S1,T1,E1,F⟩:=N.out.2;have L:=aH (aNS T U (λW u=>(F W u).1) (λW u=>(F W u).2));clear F T U;refine L.out.mono ?_;rintro e w5⟨rfl,h⟩;have c:=aH (m.out.below h);clear h L N
  go_wp2_with fail
  go_ret
  exact⟨rfl,i,c.out,O⟩
theorem aSf (j:kA)(c w:World)(d:Nat)(e:List Pr)(x:Step)(f:WInv c w d e)(i:mI c)(l:e.length<=3000000)(g:iV x)(m:kJ x):
  Calls prog 20 #[.pointer (Y ⟨d,0,X⟩),.agg #[.int .i64 x.1,.int .i64 x.2.1,.int .i64 x.2.2.1,.string x.2.2.2]] w (kZ c d e.length):=by
 obtain⟨k,a,b,s⟩:=x
 rcases m with⟨h,n⟩|h|h
 .simp only at h;subst h;exact aQh c w d e a b s g.s f i O n
 .simp only at h;subst h;exact aSg c w d e a b s f
 .cases e with
  |nil=>exact aQg c w d k a b s h f
  |cons p r=>
   rcases h with h|h<;>(simp only at h;subst h)
   .exact aSh j c w d (p::r) a b s f i E4 l g.a0 g.a1
   .exact aSi j c w d (p::r) a b s f i E4 l g.a0 g.a1
end Go.Proofs.YtnlddnbfoehboaaGreatDoor
