import Derived.Test.YtnlddnbfoehboaaGreatDoorCPl05
set_option linter.all false
set_option maxRecDepth 100000
set_option maxHeartbeats 2000000
namespace Go.Proofs.YtnlddnbfoehboaaGreatDoor
open Option renaming some->Y,none->X
open Bool renaming true->I,false->J
open Int renaming lt_or_gt_of_ne->j8,mul_neg_of_pos_of_neg->j9,mul_pos->o9,natAbs_mul->p5,add_mul_ediv_right->p6,emod_add_mul_ediv->p8,emod_nonneg->q8,emod_lt_of_pos->q9,ediv_nonneg->r5,ediv_lt_of_lt_mul->r7,mul_comm->r8,mul_nonneg->r9,mul_le_mul_of_nonneg_left->s7,pow_add->s8,ediv_eq_zero_of_lt->u5,pow_mul->u6,ediv_ediv_of_nonneg->u7,le_of_lt->u9,zero_mul->x8,add_zero->y8,pow_succ->z8,mul_le_mul_of_nonneg_right->A0,mul_assoc->A4,dvd_natAbs->A5,le_ediv_of_mul_le->A6,ediv_le_self->A7,lt_or_le->A8,lt_or_eq_of_le->A9,mul_sub->B7,mul_one->B8,mul_neg->B9,le_ediv_iff_mul_le->C0
open Nat renaming min_eq_left->C3,zero_le->C4,le_refl->C5,lt_or_ge->C6,eq_zero_or_pos->C7,gcd->C8,gcd_comm->C9
open Go.World renaming size_alloc->D0
open List renaming length_take->D1,length_drop->D3,replicate->D4,take_length->D5
open Go.IntKind renaming wrap_i64->D6
open Nm (iQ jQ gW bZ nF oY vC sP Ii wQ wR uZ yQ Ik Xy Ev wU zY aEI Ov)
open Go.Proofs.Tryz
open Go.RowKit
theorem Qz (w:World)(a:LB)(v:Value)(c:Lims w a v):Calls prog 190 #[v] w λe i=>e=.returned (.bool (decide (a=[1])))/\i=w:=by
 obtain⟨j,f,rfl,d⟩:=c.shape
 by_cases b:a.length=1
 .obtain⟨x,rfl⟩:∃x,a=[x]:=by
   match a,b with
   | [x],_=>exact⟨x,rfl⟩
  obtain⟨g,rfl,hc⟩:=c.place E4
  have e2:decide ([x]=[(1:Int)])=(x==1):=by
   grind
  rw[e2]
  go_in
  go_wp2_with fail
  go_ret
  first|exact⟨rfl,rfl⟩|trace_state
 .have e2:decide (a=[(1:Int)])=J:=decide_eq_false (λh=>b (by rw[h];rfl));rw[e2]
  go_in
  go_wp2_with fail
  go_ret
  first|exact⟨rfl,rfl⟩|trace_state
theorem aKC (w:World)(g h:Bool)(d f:Option Addr)(la c b a:Nat)(z:Int)(P:List Int->Prop)(N:((la:Int)==0)=J)(R:((c:Int)==0)=J)
  (A:∀W,Below w.heap.size w W->Calls prog 190 #[.slice d la b] W λe s=>e=.returned (.bool J)/\s=W)
  (B:∀W,Below w.heap.size w W->Calls prog 190 #[.slice f c a] W λe s=>e=.returned (.bool J)/\s=W)
  (C:∀W,Below w.heap.size w W->Calls prog 191 #[.slice d la b,.slice f c a] W (dA W P))
  (D:∀W m v,P m->Lims W m v->WhoAt W z (.agg #[.bool (!(g==h)),v])):
  Calls prog 138 #[.agg #[.bool g,.slice d la b],.agg #[.bool h,.slice f c a]] w (cN w z):=by
 have t:=hid (A _ (oX w (.bool g) (.slice d la b) (.bool h) (.slice f c a)));have u:=hid (B _ (oX w (.bool g) (.slice d la b) (.bool h) (.slice f c a)));have x:=hid (C _ (oX w (.bool g) (.slice d la b) (.bool h) (.slice f c a)));have L:=hid D;clear C D A B
 go_in
 go_wp2_with fail
 refine(t.out).mono ?_;rintro e w0⟨rfl,y⟩;have b0:=Qw w (.bool g) (.slice d la b) (.bool h) (.slice f c a);have b1:=Nz w (.bool g) (.slice d la b) (.bool h) (.slice f c a);have o:=Em w (.bool g) (.slice d la b) (.bool h) (.slice f c a);have p:=zW w (.bool g) (.slice d la b) (.bool h) (.slice f c a);have k:=oX w (.bool g) (.slice d la b) (.bool h) (.slice f c a);have n:=Em w (.bool g) (.slice d la b) (.bool h) (.slice f c a);rw[<-y]at b0 b1 o u x p k n;clear y t;obtain⟨x0,x1⟩:=fD b0 rfl rfl;obtain⟨x2,x3⟩:=fD b1 rfl rfl;obtain⟨U,u1⟩:=qF o;obtain⟨v0,r⟩:=fD o rfl rfl;clear b0 b1 o;have k:=hid k;have n:=hid n
 go_wp2_with fail
 refine(u.out).mono ?_;rintro e ad⟨rfl,rfl⟩
 go_wp2_with fail
 refine(x.out).mono ?_;rintro e w1⟨v1,m,rfl,S,l,j⟩;have q:=j.size;rw[p]at q;obtain⟨o1,c1,rfl,_⟩:=l.shape;have i:=cY (by rw[p];omega) n.out j;have M:=L.out _ m _ S (l.cJ O);have T:=k.out.trans (j.mono k.out.size);have F:=vU i M T O;obtain⟨r0,r1⟩:=qF i;clear x0 x1 x2 x3 U u1 v0 r;obtain⟨s0,s1⟩:=fD i rfl rfl
 go_wp2_with fail
 refine bodyPost_ret (v:=.agg #[.bool (!(g==h)),.slice o1 m.length c1]) (by simp[results,results138,go_sem,F.c0,F.c1]) rfl ⟨_,rfl,(hid F.num).out,(hid F.below).out⟩
theorem aNA (w:World)(f g:Bool)(h d:Option Addr)(la c b a:Nat)(z:Int)(r:((la:Int)==0)=J)(s:((c:Int)==0)=J)
  (o:∀W,Below w.heap.size w W->Calls prog 190 #[.slice h la b] W λe u=>e=.returned (.bool I)/\u=W)
  (j:∀W,Below w.heap.size w W->WhoAt W z (.agg #[.bool (!(f==g)),.slice d c a])):
  Calls prog 138 #[.agg #[.bool f,.slice h la b],.agg #[.bool g,.slice d c a]] w (cN w z):=by
 have m:=hid (o _ (oX w (.bool f) (.slice h la b) (.bool g) (.slice d c a)));have x:=hid j;have F:=vU (Em w (.bool f) (.slice h la b) (.bool g) (.slice d c a)) (j _ (oX w _ _ _ _)) (oX w _ _ _ _) O;have p:=F.c0;have q:=F.c1;have l:=hid F.num;have k:=hid F.below;clear j o F
 go_in
 go_wp2_with fail
 refine(m.out).mono ?_;rintro e C⟨rfl,n⟩;have b0:=Qw w (.bool f) (.slice h la b) (.bool g) (.slice d c a);have b1:=Nz w (.bool f) (.slice h la b) (.bool g) (.slice d c a);have i:=Em w (.bool f) (.slice h la b) (.bool g) (.slice d c a);rw[<-n]at b0 b1 i p q l k;clear n m;obtain⟨D,L⟩:=fD b1 rfl rfl;obtain⟨y,A⟩:=qF i;obtain⟨B,t⟩:=fD i rfl rfl
 go_wp2_with fail
 refine bodyPost_ret (v:=.agg #[.bool (!(f==g)),.slice d c a]) (by simp[results,go_sem,p,q]) rfl ⟨_,rfl,l.out,k.out⟩
theorem aNB (w:World)(f g:Bool)(c h:Option Addr)(la d a b:Nat)(z:Int)(u:((la:Int)==0)=J)(x:((d:Int)==0)=J)
  (p:∀W,Below w.heap.size w W->Calls prog 190 #[.slice c la a] W λe j=>e=.returned (.bool J)/\j=W)
  (q:∀W,Below w.heap.size w W->Calls prog 190 #[.slice h d b] W λe j=>e=.returned (.bool I)/\j=W)
  (r:∀W,Below w.heap.size w W->WhoAt W z (.agg #[.bool (!(f==g)),.slice c la a])):
  Calls prog 138 #[.agg #[.bool f,.slice c la a],.agg #[.bool g,.slice h d b]] w (cN w z):=by
 have m:=hid (p _ (oX w (.bool f) (.slice c la a) (.bool g) (.slice h d b)));have n:=hid (q _ (oX w (.bool f) (.slice c la a) (.bool g) (.slice h d b)));have F:=vU (Em w (.bool f) (.slice c la a) (.bool g) (.slice h d b)) (r _ (oX w _ _ _ _)) (oX w _ _ _ _) O;have s:=F.c0;have t:=F.c1;have l:=hid F.num;have k:=hid F.below;clear r p q F
 go_in
 go_wp2_with fail
 refine(m.out).mono ?_;rintro e L⟨rfl,o⟩;have b0:=Qw w (.bool f) (.slice c la a) (.bool g) (.slice h d b);have b1:=Nz w (.bool f) (.slice c la a) (.bool g) (.slice h d b);have i:=Em w (.bool f) (.slice c la a) (.bool g) (.slice h d b);rw[<-o]at b0 b1 i n s t l k;clear o m;obtain⟨M,N⟩:=fD b0 rfl rfl;obtain⟨P,R⟩:=fD b1 rfl rfl;obtain⟨B,C⟩:=qF i;obtain⟨D,y⟩:=fD i rfl rfl
 go_wp2_with fail
 refine(n.out).mono ?_;rintro e A⟨rfl,rfl⟩
 go_wp2_with fail
 refine bodyPost_ret (v:=.agg #[.bool (!(f==g)),.slice c la a]) (by simp[results,go_sem,s,t]) rfl ⟨_,rfl,l.out,k.out⟩
theorem aKD (w:World)(g i:Bool)(d e:Option Addr)(la c b a:Nat)(h:la=0\/(¬la=0/\c=0)):
  Calls prog 138 #[.agg #[.bool g,.slice d la b],.agg #[.bool i,.slice e c a]] w (cN w 0):=by
 rcases h with rfl|⟨f,rfl⟩
 .go_in
  go_wp2_with fail
  refine bodyPost_ret (by simp[results,go_sem]) rfl ⟨_,rfl,Yj _,oX w _ _ _ _⟩
 .have j:((la:Int)==0)=J:=by simpa using f
  go_in
  go_wp2_with fail
  refine bodyPost_ret (v:=.agg #[.bool J,.slice X 0 0]) (by simp[results,go_sem]) rfl ⟨_,rfl,Yj _,oX w _ _ _ _⟩
theorem aNz (w:World)(x y:Int)(u v:Value)(n:Nat)(N:WhoAt w x u)(P:WhoAt w y v)(L:x.natAbs<2^n)(D:y.natAbs<2^n)(hn:n<=1000000000):Calls prog 138 #[u,v] w (cN w (x*y)):=by
 obtain⟨a,U,M,rfl,l,t,hv⟩:=N.open;obtain⟨b,bo,F,rfl,s,z,m⟩:=P.open;have hl:=yV t hv L;have hk:=yV z m D;have S:=Rn t hv;have T:=Rn z m
 by_cases B:a.length=0\/(¬a.length=0/\b.length=0)
 .have e:x*y=0:=by
   grind
  rw[e];exact aKD w _ _ _ _ _ _ _ _ B
 .have k:=λh=>B (Or.inl h)
  have q:=λh=>B (Or.inr ⟨k,h⟩)
  have o:=λh=>q (by rw[T.2 h];rfl)
  have sg:(!(decide (x<0)==decide (y<0)))=decide (x*y<0):=by
   rcases j8 (λh=>k (by rw[S.2 h];rfl))with hx1|hx1
   .rcases j8 o with hy1|hy1
    .have:=Int.mul_pos_of_neg_of_neg hx1 hy1;simp[hx1,hy1];omega
    .have:=Int.mul_neg_of_neg_of_pos hx1 hy1;grind
   .rcases j8 o with hy1|hy1
    .have:=j9 hx1 hy1;simp[show¬x<0 by omega];omega
    .have:=o9 hx1 hy1;simp[show¬y<0 by omega];omega
  have j:∀W (p:LB) r,Nm.Good 4294967296 p->Nm.val 4294967296 p=((x*y).natAbs:Int)->Lims W p r->WhoAt W (x*y) (.agg #[.bool (!(decide (x<0)==decide (y<0))),r]):=λW p r d f C=>uL C d f sg
  by_cases g:a=[1]
  .have hx1:(x.natAbs:Int)=1:=by rw[<-hv,g];rfl
   exact aNA w _ _ _ _ _ _ _ _ (x*y) (by simpa using k) (by simpa using q) (λW c=>(Qz W a _ (l.below c)).mono λe A ⟨d,f⟩=>⟨by rw[d,decide_eq_true g],f⟩) λW c=>j W b _ z (by rw[m,p5];simp[show x.natAbs=1 by omega]) (s.below c)
  .by_cases i:b=[1]
   .have hy1:(y.natAbs:Int)=1:=by rw[<-m,i];rfl
    exact aNB w _ _ _ _ _ _ _ _ (x*y) (by simpa using k) (by simpa using q) (λW c=>(Qz W a _ (l.below c)).mono λe A ⟨d,f⟩=>⟨by rw[d,decide_eq_false g],f⟩) (λW c=>(Qz W b _ (s.below c)).mono λe A ⟨d,f⟩=>⟨by rw[d,decide_eq_true i],f⟩) λW c=>j W a _ t (by rw[hv,p5];simp[show y.natAbs=1 by omega]) (l.below c)
   .refine aKC w _ _ _ _ _ _ _ _ (x*y) _ (by simpa using k) (by simpa using q) (λW c=>(Qz W a _ (l.below c)).mono λe A ⟨d,f⟩=>⟨by rw[d,decide_eq_false g],f⟩) (λW c=>(Qz W b _ (s.below c)).mono λe A ⟨d,f⟩=>⟨by rw[d,decide_eq_false i],f⟩) (λW c=>aB2 W a b _ _ (l.below c) (s.below c) O O t.cP z.cP) ?_;rintro W R r⟨d,f⟩ C;exact j W R r d (by rw[f,hv,m,p5];simp) C
theorem aKA (w:World)(s t:Bool)(i k:Option Addr)(la q d c:Nat)(y z:Int)
  (u:∀W,Below w.heap.size w W->Calls prog 141 #[.agg #[.bool t,.slice k q c]] W (cN W y))
  (A:∀W v,Below w.heap.size w W->WhoAt W y v->Calls prog 139 #[.agg #[.bool s,.slice i la d],v] W (cN W z)):
  Calls prog 197 #[.agg #[.bool s,.slice i la d],.agg #[.bool t,.slice k q c]] w (cN w z):=by
 have D:=hid u;have F:=hid A;clear u A
 have R:¬(w.heap.size=w.heap.size+1+1):=O
 have S:¬(w.heap.size+1+1=w.heap.size):=O
 go_in
 go_wp2_with fail
 go_region_held3 (λg=>g.cell? ⟨w.heap.size,0,X⟩=Y (.bool s)/\g.cell? ⟨w.heap.size,1,X⟩=Y (.slice i la d)/\g.cell? ⟨w.heap.size+1,0,X⟩=Y (.bool t)/\g.cell? ⟨w.heap.size+1,1,X⟩=Y (.slice k q c)) (go_keep) (first
  | (go_at_call 141
     refine(D.out _ (Oc w _ _ _ _)).mono ?_;rintro e w1⟨v1,rfl,m,a⟩;have n:=a.size;rw[Be]at n;have L:=cY (by rw[Be];omega) (aGY _ _ _ _ _) a;have x0:=aB (o:=0) (cY (by rw[Be];omega) (Qq _ _ _ _ _) a) rfl;have x1:=aB (o:=1) (cY (by rw[Be];omega) (Qq _ _ _ _ _) a) rfl;have x2:=aB (o:=0) (cY (by rw[Be];omega) (Wl _ _ _ _ _) a) rfl;have x3:=aB (o:=1) (cY (by rw[Be];omega) (Wl _ _ _ _ _) a) rfl
     have M:w.heap.size+1<w1.heap.size:=O
     have h:=hid ((Oc w _ _ _ _).trans (a.mono (Oc w _ _ _ _).size))
     clear a)
  | (go_at_call 139
     refine(F.out _ _ h.out m).mono ?_;rintro e w2⟨r,rfl,x,b⟩;have N:=b.size;have y0:=(b.cell (by simp only;omega)).trans x0;have y1:=(b.cell (p:=⟨w.heap.size,1,X⟩) (by simp only;omega)).trans x1;have y2:=(b.cell (p:=⟨w.heap.size+1,0,X⟩) (by simp only;omega)).trans x2;have y3:=(b.cell (p:=⟨w.heap.size+1,1,X⟩) (by simp only;omega)).trans x3;obtain⟨l,j,f,rfl,_⟩:=x.open;obtain⟨r0,r1,s0,s1,T,U,C,B⟩:=Cf (cY O L b) x (h.out.trans (b.mono h.out.size)) O
     generalize decide (z<0)=P at *))
 all_goals
  go_wp2_with fail
  refine bodyPost_ret (v:=.agg #[.bool P,.slice j l.length f]) (by simp[results,results197,go_sem,T,U]) rfl ⟨_,rfl,C.out,B.out⟩
theorem aNv (w:World)(x y:Int)(u v:Value)(n:Nat)(d:WhoAt w x u)(e:WhoAt w y v)(g:x.natAbs<2^n)(l:y.natAbs<2^n)(i:n<=1000000000):Calls prog 197 #[u,v] w (cN w (x-y)):=by
 obtain⟨a,k,h,rfl,_⟩:=d.open;obtain⟨b,m,f,rfl,_⟩:=e.open;exact aKA w _ _ _ _ _ _ _ _ (-y) (x-y) (λW c=>aMd W y _ (e.below c)) (λW r c j=>aJu W x (-y) _ _ n (d.below c) j g (by rwa[Int.natAbs_neg]) i)
theorem aJo (w:World)(x y:Int)(u v:Value)(n:Nat)(B:WhoAt w x u)(C:WhoAt w y v)(A:x.natAbs<2^n)(z:y.natAbs<2^n)(U:n<=1000000000):Calls prog 162 #[u,v] w λe P=>e=.returned (.int .i64 (Nm.cmp x y))/\Below w.heap.size w P:=by
 obtain⟨a,S,L,rfl,r,l,hv⟩:=B.open;obtain⟨b,T,F,rfl,s,m,t⟩:=C.open;have N:=yV l hv A;have M:=yV m t z
 have k:∀o D,Below w.heap.size w ((w.alloc o).alloc D):=λo D=>aU (aU (Below.refl _ _) O _) E4 _
 have p:=hid (λW j=>Qe W a b _ _ (r.below j) (s.below j) O l m);have q:=hid (λW j=>Qe W b a _ _ (s.below j) (r.below j) O m l);rw[hv,t]at p q;have d:=hid k;clear r s l m hv t B C A z k N M
 by_cases g:x<0
 .by_cases f:y<0
  .have e:Nm.cmp ((y.natAbs:Nat):Int) ((x.natAbs:Nat):Int)=Nm.cmp x y:=by
    rcases Int.lt_trichotomy x y with h|h|h
    .rw[iQ h,iQ O]
    .rw[jQ h,jQ O]
    .rw[gW h,gW O]
   rw[e]at q;rw[decide_eq_true g,decide_eq_true f];clear e;generalize Nm.cmp x y=c at*
   go_in
   go_wp2_with fail
   refine(q.out _ (d.out _ _)).mono ?_;rintro e R⟨rfl,i⟩
   go_wp2_with fail
   go_ret
   exact⟨rfl,(d.out _ _).trans (i.mono (d.out _ _).size)⟩
  .rw[decide_eq_true g,decide_eq_false f,iQ (show x<y by omega)]
   go_in
   go_wp2_with fail
   go_ret
   exact⟨rfl,d.out _ _⟩
 .by_cases f:y<0
  .rw[decide_eq_false g,decide_eq_true f,gW (show y<x by omega)]
   go_in
   go_wp2_with fail
   go_ret
   exact⟨rfl,d.out _ _⟩
  .rw[show((x.natAbs:Nat):Int)=x by omega,show((y.natAbs:Nat):Int)=y by omega]at p;rw[decide_eq_false g,decide_eq_false f];generalize Nm.cmp x y=c at*
   go_in
   go_wp2_with fail
   refine(p.out _ (d.out _ _)).mono ?_;rintro e R⟨rfl,i⟩
   go_wp2_with fail
   go_ret
   exact⟨rfl,(d.out _ _).trans (i.mono (d.out _ _).size)⟩
def Nm.dn (a:LB)(b p t:Nat):Int:=((Nm.at' a (t+b)+Nm.at' a (t+b+1)*4294967296)/2^p)%4294967296
theorem Nm.aWb:∀{a b:LB},a.length=b.length->(∀t,t<a.length->Nm.at' a t=Nm.at' b t)->a=b:=by
 intro a b d h;refine List.ext_getElem d ?_;intro t c e;have:=h t c;unfold Nm.at' at this;grind
theorem Nm.aNU (a:LB)(n t:Nat):Nm.at' (a.drop n) t=Nm.at' a (t+n):=by
 unfold Nm.at';simp[Nat.add_comm]
def Nm.dl (p:Nat):List Int->List Int
 | []=>[]
 |x::r=>((x+Nm.at' r 0*4294967296)/2^p)%4294967296::Nm.dl p r
theorem Nm.aWs (p:Nat):∀l,(Nm.dl p l).length=l.length:=by
 intro l
 induction l with
 |nil=>rfl
 |cons x r a=>simp[Nm.dl,a]
theorem Nm.aXN (p:Nat):∀l t,t<l.length->Nm.at' (Nm.dl p l) t=((Nm.at' l t+Nm.at' l (t+1)*4294967296)/2^p)%4294967296:=by
 intro l
 induction l with
 |nil=>intro t h;simp at h
 |cons x r a=>
  intro t h
  cases t with
  |zero=>rfl
  |succ t=>exact a t (by simpa using h)
theorem Nm.aQd {l:LB}(b:bZ 4294967296 l):∃a,Nm.val 4294967296 l=Nm.at' l 0+4294967296*a:=by
 cases l with
 |nil=>exact⟨0,rfl⟩
 |cons x r=>exact⟨Nm.val 4294967296 r,rfl⟩
variable {x b:Int}
theorem Nm.aUh {t l h:Int}(e:0<l)(s:0<h)(c:l*h=4294967296)(n:0<=x)(o:x<4294967296):
  (x+b*4294967296)/l%4294967296+4294967296*((b+4294967296*t)/l)=(x+4294967296*(b+4294967296*t))/l:=by
 have e1:(x+b*4294967296)/l=x/l+h*b:=by
  rw[show b*4294967296=(h*b)*l by rw[<-c];grind,p6 _ _ O]
 have e2:(x+4294967296*(b+4294967296*t))/l=x/l+h*(b+4294967296*t):=by
  rw[show 4294967296*(b+4294967296*t)=(h*(b+4294967296*t))*l by rw[<-c];grind,p6 _ _ O]
 have i:(b+4294967296*t)/l=b/l+h*t:=by
  rw[show 4294967296*t=(h*t)*l by rw[<-c];grind,p6 _ _ O]
 rw[e1,e2,i];have j:=p8 b l;have k:=q8 b (show l≠0 by omega);have r:=q9 b e;have d:0<=x/l:=r5 n O;have m:=r7 e (by rw[r8,c];exact o);generalize b%l=a at*;generalize b/l=g at*;generalize x/l=q at*
 have p:(q+h*b)%4294967296=q+h*a:=by
  have:q+h*b=(q+h*a)+g*4294967296:=by rw[<-j,<-c];grind
  rw[this,Int.add_mul_emod_self_right];refine Int.emod_eq_of_lt (Int.add_nonneg d (r9 O k)) ?_;have:h*(a+1)<=h*l:=s7 O O;grind
 grind
variable {p:Nat}
theorem Nm.aWt (k:p<32):∀l,bZ 4294967296 l->Nm.val 4294967296 (Nm.dl p l)=Nm.val 4294967296 l/2^p:=by
 have c:(0:Int)<2^p:=nF E3 p;have e:(0:Int)<2^(32-p):=nF E3 _
 have g:(2:Int)^p*2^(32-p)=4294967296:=by rw[<-s8,show p+(32-p)=32 by omega];rfl
 intro l
 induction l with
 |nil=>intro _;simp[Nm.dl,Nm.val]
 |cons x r i=>
  intro h
  have a:=λd hd=>h d (List.mem_cons_of_mem _ hd)
  have b:=h x List.mem_cons_self;obtain⟨j,f⟩:=Nm.aQd a;rw[Nm.dl,Nm.val,i a,Nm.val,f];exact Nm.aUh c e g b.1 b.2
variable {n:Int}
theorem Nm.aJn (b:0<n)(l:LB)(h:bZ n l)(a:Nat):Nm.val n (l.drop a)=Nm.val n l/n^a:=by
 by_cases d:a<=l.length
 .have e:Nm.val n l=Nm.val n (l.take a)+Nm.val n (l.drop a)*n^a:=by
   conv=>lhs;rw[<-List.take_append_drop a l,Nm.Wh,D1,C3 d]
   rw[r8]
  have f:=oY b (h.take a);have c:=vC b (h.take a);rw[D1,C3 d]at c;rw[e,p6 _ _ O,u5 f c];omega
 .rw[List.drop_eq_nil_of_le O];have c:=vC b h;have g:=sP (B:=n) O (show l.length<=a by omega);rw[u5 (oY b h) O];rfl
variable {a:LB}{w:Nat}
theorem Nm.aRh {out:LB}(g:p<32)(c:bZ 4294967296 a)(f:out.length=a.length-w)(h:∀t,t<a.length-w->Nm.at' out t=Nm.dn a w p t):Nm.val 4294967296 out=Nm.val 4294967296 a/2^(32*w+p):=by
 have e:out=Nm.dl p (a.drop w):=by
  refine Nm.aWb (by rw[Nm.aWs,D3];exact f) ?_;intro t i;rw[Nm.aXN p _ t (by rw[D3];omega),h t O,Nm.aNU,Nm.aNU];unfold Nm.dn;grind
 have b:bZ 4294967296 (a.drop w):=λd hd=>c d (List.mem_of_mem_drop hd)
 rw[e,Nm.aWt g _ b,Nm.aJn E3 a c,s8,u6,show(2:Int)^32=4294967296 from rfl,u7 (u9 (nF E3 _))]
def xE (w:World)(a:LB)(b p:Nat)(i:Value)(wr:World):Prop:=
 ∃(k:Nat) (out:LB),i=.int .i64 k/\k<=a.length-b/\dI wr w.heap.size out/\out.length=a.length-b/\bZ 4294967296 out/\Below w.heap.size w wr/\∀t,t<k->Nm.at' out t=Nm.dn a b p t
theorem aGq (w:World)(a:LB)(P:Option Addr)(v c p:Nat)(S:Lims w a (.slice P a.length v))(aa:a.length<=10000000000)(R:bZ 4294967296 a)(hp:p<32)(ag:c<a.length)(bits:Int)(hb:bits=32*c+p):
  Calls prog 202 #[.slice P a.length v,.int .i64 bits] w (dA w λL=>Nm.Good 4294967296 L/\Nm.val 4294967296 L=Nm.val 4294967296 a/2^(32*c+p)):=by
 have C:=run_make_row' 123 192 (.int .u32 0) 4 underlying123 kE rfl .i64 .i64 (a.length-c) O O;rw[show((a.length-c:Nat):Int)=(a.length:Int)-c by omega]at C;have A:=hid S;have z:=hid R
 have e1:bits/32=c:=O
 have e2:bits%32=p:=O
 have e3:¬bits<0:=O
 have e4:¬(a.length:Int)<=c:=O
 have e5:0<=bits:=O
 have e6:bits<=400000000000:=O
 clear S R hb
 go_in
 go_wp2_with fail
 go_loopw [8] (λi wr=>xE w a c p i wr) (λi _=>a.length-c-(intOf i).toNat)
 case atStart=>exact⟨0,D4 (a.length-c) 0,rfl,C4 _,dI.made w _,E4,bZ.jO E3 _,aU (Below.refl _ _) O _,λt h=>by omega⟩
 case round=>
  obtain⟨k,out,rfl,hk,d,f,l,j,m⟩:=hrel;obtain⟨g,rfl,_⟩:=A.out.place O
  by_cases ad:(k:Int)<(a.length:Int)-c
  .have k1:=d.cell k O;have k2:=d.frozen k;have x1:=(A.out.below j).jJ (k+c) O
   have i1:(k:Int)+c<(a.length:Int):=O
   have i0:(0:Int)<=(k:Int)+c:=O
   have i2:((k:Int)+c).toNat=k+c:=O
   have a0:=z.out.at' E3 (k+c);have b0:=z.out.at' E3 (k+c+1)
   have u:Hid (∀b,b=Nm.dn a c p k->xE w a c p (.int .i64 ((k:Int)+1)) (wr.setCell ⟨w.heap.size,k,X⟩ (.int .u32 b))):=by
    rintro b rfl;refine⟨k+1,out.set k (Nm.dn a c p k),E4,O,d.set _ _,by simpa using f,l.set _ (by unfold Nm.dn;omega) (by unfold Nm.dn;omega),j.setCell E4 _,?_⟩;intro t ht
    by_cases F:t=k
    .subst F;unfold Nm.at';simp[List.getD,show t<out.length by omega]
    .rw[Nm.Qs O];exact m t O
   have q:Hid (Nm.dn a c p k=((Nm.at' a (k+c)+Nm.at' a (k+c+1)*4294967296)/2^p)%4294967296):=rfl
   by_cases hl:(k:Int)+c+1<a.length
   .have x2:=(A.out.below j).jJ (k+c+1) O
    have i3:((k:Int)+c+1).toNat=k+c+1:=O
    clear d f l j m;generalize Nm.at' a (k+c)=x at*;generalize Nm.at' a (k+c+1)=y at*;generalize Nm.at' out k=o at*;obtain⟨a1,W⟩:=a0;obtain⟨b1,b2⟩:=b0
    go_wp2_with fail
    go_roundw
    case rel=>exact u.out _ q.out.symm
    case measure=>simp[intOf];omega
   .have e0:=Ii (xs:=a) (i:=k+c+1) O;rw[e0]at q
    have s:Hid (Nm.dn a c p k=Nm.at' a (k+c)/2^p%4294967296):=by show _=_;rw[q.out,x8,y8]
    clear d f l j m e0 b0 q;generalize Nm.at' a (k+c)=x at*;generalize Nm.at' out k=o at*;obtain⟨a1,W⟩:=a0
    go_wp2_with fail
    go_roundw
    case rel=>exact u.out _ s.out.symm
    case measure=>simp[intOf];omega
  .obtain rfl:k=a.length-c:=O
   have U:=hid (Nm.aRh hp z.out f m);have N:=hid (Ek wr out _ 0 (d.rR O) O);rw[f]at N;have D:=wQ out;rw[f]at D;have M:=hid (d.used (B:=w.heap.size) O O);rw[f]at M;have T:=hid l;have r:=hid j;clear m f l j d;generalize hn:(Nm.strip out).length=n at*;clear hn
   go_wp2_with fail
   refine(N.out).mono ?_;rintro e w1⟨rfl,rfl⟩
   go_wp2_with fail
   go_ret
   exact⟨_,Nm.strip out,rfl,⟨wR T.out,by rw[uZ,U.out]⟩,M.out,r.out⟩
theorem aGr (w:World)(n:Nat)(b:Option Addr)(a:Nat)(bits:Int)(e:0<=bits)(f:bits<=1000000000000)(g:(n:Int)<=bits/32):
  Calls prog 202 #[.slice b n a,.int .i64 bits] w (dA w λc=>c=[]):=by
 have d:¬bits<0:=O
 go_in
 go_wp2_with fail
 go_ret
 exact⟨_,[],rfl,rfl,⟨rfl,Or.inr ⟨w.heap.size,0,#[],rfl,C5 _,yR _ _,C5 _,E3,rfl,rfl⟩⟩,aU (Below.refl _ _) O _⟩
theorem aEs (w:World)(a:LB)(v:Value)(bits:Nat)(i:Lims w a v)(d:a.length<=10000000000)(c:bZ 4294967296 a)(l:bits<=1000000000000):
  Calls prog 202 #[v,.int .i64 bits] w (dA w λf=>Nm.Good 4294967296 f/\Nm.val 4294967296 f=Nm.val 4294967296 a/2^bits):=by
 obtain⟨g,b,rfl,_⟩:=i.shape
 by_cases h:bits/32<a.length
 .have:=aGq w a g b (bits/32) (bits%32) i d c O h bits O;grind
 .refine(aGr w a.length g b bits O O O).mono ?_;rintro e o⟨v,f,rfl,rfl,j,k⟩;refine⟨v,[],rfl,⟨Nm.Good.nil _,?_⟩,j,k⟩;have m:=vC E3 c
  have n:(4294967296:Int)^a.length<=2^bits:=by
   rw[show(4294967296:Int)=2^32 from rfl,<-u6];exact sP E3 O
  rw[u5 (oY E3 c) O];rfl
def Nm.half (z:Int)(n:Nat):Int:=if z<0 then -((z.natAbs:Int)/2^n)else(z.natAbs:Int)/2^n
theorem aJX (w:World)(j:Bool)(n:Option Addr)(la f:Nat)(z:Int)(P:List Int->Prop)(times:Int)(R:1<=times)
  (u:∀W,Below w.heap.size w W->Calls prog 202 #[.slice n la f,.int .i64 times] W (dA W P))
  (x:∀W d v,P d->Lims W d v->WhoAt W z (.agg #[.bool (j&&decide (0<d.length)),v])):
  Calls prog 252 #[.agg #[.bool j,.slice n la f],.int .i64 times] w (cN w z):=by
 have L:=hid u;have M:=hid x;have h:Below w.heap.size w ((w.alloc (.cells #[.bool j,.slice n la f] 125)).alloc (.cells #[.bool J,.slice X 0 0] 125)):=aU (aU (Below.refl _ _) O _) E4 _;have D:=hid (L.out _ h);have i:=hid h
 have e1:¬times<1:=O
 clear u x h
 go_in
 go_wp2_with fail
 refine(D.out).mono ?_;rintro e N⟨T,d,rfl,r,g,b⟩;have s:=b.size;rw[D0,D0]at s;obtain⟨o1,c1,rfl,_⟩:=g.shape
 have a:N.heap[w.heap.size+1]?=Y (.cells #[.bool J,.slice X 0 0] 125 (0,0)):=by
  have:=cY E4 (yR (w.alloc (.cells #[.bool j,.slice n la f] 125)) (.cells #[.bool J,.slice X 0 0] 125)) b;rw[D0]at this;exact this
 have b0:=cY (by rw[D0,D0];omega) (yS _ (yR w _)) b;have U:=aB (o:=0) b0 rfl;have p:=M.out _ d _ r (g.cJ O);have q:=i.out.trans (b.mono i.out.size);clear b0;cases j
 .have F:=vU a p q O;rw[Bool.false_and]at F;obtain⟨y,A⟩:=qF a;obtain⟨B,C⟩:=fD a rfl rfl;have k:=F.c0;have t:=F.c1;have m:=hid F.num;have l:=hid F.below;clear F p q a b g r
  go_wp2_with fail
  refine bodyPost_ret (v:=.agg #[.bool J,.slice o1 d.length c1]) (by simp[results,results252,go_sem,k,t]) rfl ⟨_,rfl,m.out,l.out⟩
 .have F:=vU a p q O
  by_cases S:(0:Int)<d.length
  .rw[decide_eq_true (show 0<d.length by omega),Bool.true_and]at F;obtain⟨y,A⟩:=qF a;obtain⟨B,C⟩:=fD a rfl rfl;have k:=F.c0;have t:=F.c1;have m:=hid F.num;have l:=hid F.below
   have c:0<d.length:=O
   clear F p q a b g r
   go_wp2_with fail
   refine bodyPost_ret (v:=.agg #[.bool I,.slice o1 d.length c1]) (by simp[results,results252,go_sem,k,t,c]) rfl ⟨_,rfl,?_,?_⟩
   .first|exact m.out|simpa[c]using m.out
   .first|exact l.out|simpa[c]using l.out
  .have c:d.length=0:=O
   rw[c]at F;rw[c];obtain⟨y,A⟩:=qF a;obtain⟨B,C⟩:=fD a rfl rfl;rw[show(I&&decide (0<0))=J from rfl]at F;have k:=F.c0
   go_wp2_with fail
   refine bodyPost_ret (v:=.agg #[.bool J,.slice o1 0 c1]) (by simp[results,results252,go_sem,k,F.c1]) rfl ⟨_,rfl,(hid F.num).out,(hid F.below).out⟩
theorem aMG (w:World)(z:Int)(v:Value)(times n:Nat)(h:WhoAt w z v)(f:z.natAbs<2^n)(p:n<=1000000000)(s:1<=times)(m:times<=1000000000):Calls prog 252 #[v,.int .i64 times] w (cN w (Nm.half z times)):=by
 obtain⟨g,e,a,rfl,j,d,hv⟩:=h.open;have o:=yV d hv f;refine aJX w _ e _ a _ _ times O (λW k=>aEs W g _ times (j.below k) O d.cP O) ?_;rintro W t r⟨c,b⟩ l;rw[hv]at b;have q:0<=((z.natAbs:Nat):Int)/2^times:=r5 O (u9 (nF E3 _));have i:=yQ E3 c;rw[b]at i;refine uL l c (by rw[b];unfold Nm.half<;>omega) ?_;unfold Nm.half;grind
theorem Nm.aHl:∀(l:LB) (k:Nat),(∀t,t<k->Nm.at' l t=0)->Nm.val 4294967296 l=4294967296^k*Nm.val 4294967296 (l.drop k):=by
 intro l k
 induction k generalizing l with
 |zero=>intro _;simp
 |succ k b=>
  intro h
  cases l with
  |nil=>simp[Nm.val]
  |cons x r=>
   have a:x=0:=h 0 O;have:=b r (λt c=>h (t+1) O);rw[List.drop_succ_cons,Nm.val,this,a,z8];grind
variable {l:LB}{k c:Nat}
theorem Nm.aSy {L:Int}(d:k<l.length)(h:∀t,t<k->Nm.at' l t=0)(a:1<=L)(i:Nm.at' l k<4294967296)(b:Nm.at' l k=L*2^c):(2:Int)^(32*k+c) ∣ Nm.val 4294967296 l:=by
 have hc:c<32:=by
  rcases C6 c 32 with h1|h1
  .exact h1
  .have e:(2:Int)^32<=2^c:=sP E3 h1;have f:1*(2:Int)^c<=L*2^c:=A0 a O;omega
 have g:(4294967296:Int)=2^c*2^(32-c):=by rw[<-s8,show c+(32-c)=32 by omega];rfl
 rw[Nm.aHl l k h,Ik _ l k d,b,s8,u6,show(2:Int)^32=4294967296 from rfl];refine Int.mul_dvd_mul (Int.dvd_refl _) ?_;refine Int.dvd_add ⟨L,by rw[r8]⟩ ⟨2^(32-c)*Nm.val 4294967296 (l.drop (k+1)),?_⟩;grind
noncomputable def Nm.tz (z:Int):Nat:=open Classical in if h:∃t:Nat,(2:Int)^t ∣ z/\¬(2:Int)^(t+1) ∣ z then h.choose else 0
theorem Nm.aVI {t:Nat}(c:(2:Int)^t ∣ n)(d:¬(2:Int)^(t+1) ∣ n):Nm.tz n=t:=by
 have h:∃t:Nat,(2:Int)^t ∣ n/\¬(2:Int)^(t+1) ∣ n:=⟨t,c,d⟩
 unfold Nm.tz;rw[dif_pos h];obtain⟨i,j⟩:=h.choose_spec;generalize h.choose=s at*
 have g:∀{a b:Nat},a<b->(2:Int)^b ∣ n->(2:Int)^(a+1) ∣ n:=λ{a b} e f=>Int.dvd_trans ⟨2^(b-(a+1)),by rw[<-s8];congr 1;omega⟩ f
 grind
theorem Nm.aVJ:Nm.tz 0=0:=by
 unfold Nm.tz
 simp_all
theorem Nm.aTE (z:Int):(2:Int)^Nm.tz z ∣ z:=by
 unfold Nm.tz;split
 .omega
 .simp
theorem Nm.aYe (c:n≠0)(h:n.natAbs<2^w):Nm.tz n<w:=by
 have a:=Nat.le_of_dvd O (Int.natAbs_dvd_natAbs.2 (Nm.aTE n));rw[Int.natAbs_pow]at a
 have b:2^Nm.tz n<2^w:=by
  grind
 exact(Nat.pow_lt_pow_iff_right E3).1 b
theorem Nm.aSz {L:Int}(d:k<l.length)(h:∀t,t<k->Nm.at' l t=0)(a:1<=L)(m:¬L%2=0)(n:Nm.at' l k<4294967296)(b:Nm.at' l k=L*2^c):¬(2:Int)^(32*k+c+1) ∣ Nm.val 4294967296 l:=by
 have hc:c<32:=by
  rcases C6 c 32 with h1|h1
  .exact h1
  .have g:(2:Int)^32<=2^c:=sP E3 h1;have i:1*(2:Int)^c<=L*2^c:=A0 a O;omega
 have j:(4294967296:Int)=2^c*(2*2^(31-c)):=by rw[r8 2,<-z8,<-s8,show c+(31-c+1)=32 by omega];rfl
 rw[Nm.aHl l k h,Ik _ l k d,b];generalize Nm.val 4294967296 (l.drop (k+1))=R
 have e1:(4294967296:Int)^k*(L*2^c+4294967296*R)=2^(32*k+c)*(L+2*(2^(31-c)*R)):=by
  rw[s8,u6,show(2:Int)^32=4294967296 from rfl];grind
 rw[e1,z8];rintro⟨q,f⟩
 have e:(2:Int)^(32*k+c)≠0:=by have:=nF (B:=2) E3 (32*k+c);omega
 have:L+2*(2^(31-c)*R)=2*q:=Int.eq_of_mul_eq_mul_left e (by rw[f,A4]);omega
def Ht (W:World)(l:LB)(i:Value)(wr:World):Prop:=∃k:Nat,i=.int .i64 k/\k<=l.length/\(∀t,t<k->Nm.at' l t=0)/\wr=W
def Nn (W:World)(k:Nat)(x:Int)(a b:Value)(wr:World):Prop:=∃(c:Nat) (L:Int),a=.int .i64 ((32*k+c:Nat):Int)/\b=.int .u32 L/\1<=L/\L<4294967296/\x=L*2^c/\c<=40/\L<2^(40-c)/\wr=W
theorem aQH (b:1<=n)(d:n%2=0)(e:x=n*2^c)(a:n<2^(40-c)):x=n/2*2^(c+1)/\n/2<2^(40-(c+1))/\c+1<=40:=by
 have hc:c<40:=by
  grind
 refine⟨?_,?_,O⟩
 .grind
 .rw[show 40-c=(40-(c+1))+1 by omega,z8]at a;omega
theorem aQG (w:World)(m:Bool)(a:LB)(j:Option Addr)(b:Nat)(z:Lims w a (.slice j a.length b))(W:a.length<=10000000000)(v:Nm.Good 4294967296 a):
  Calls prog 265 #[.agg #[.bool m,.slice j a.length b]] w λe w'=>e=.returned (.int .i64 (Nm.tz (Nm.val 4294967296 a)))/\Below w.heap.size w w':=by
 have P:=hid (z.alloc (.cells #[.bool m,.slice j a.length b] 125));have N:=hid v;have q:Hid (Below w.heap.size w (w.alloc (.cells #[.bool m,.slice j a.length b] 125))):=aU (Below.refl _ _) O _;clear z v
 go_in
 go_wp2_with fail
 go_loopw [3] (λi wr=>Ht (w.alloc (.cells #[.bool m,.slice j a.length b] 125)) a i wr) (λi _=>a.length-(intOf i).toNat)
 case atStart=>exact⟨0,rfl,C4 _,λt h=>by omega,rfl⟩
 case round=>
  obtain⟨k,rfl,hk,C,rfl⟩:=hrel;have n:=hid C;clear C
  by_cases ab:(k:Int)<a.length
  .obtain⟨g,rfl,hc⟩:=P.out.place O;have x1:=hc k O;have a0:=N.out.cP.at' E3 k;clear hc
   by_cases o:Nm.at' a k=0
   .rw[o]at x1
    go_wp2_with fail
    go_roundw
    case rel=>
     refine⟨k+1,E4,O,?_,rfl⟩;intro t ht
     by_cases e:t=k
     .rw[e];exact o
     .exact n.out t O
    case measure=>simp[intOf];omega
   .have h1:(Nm.at' a k==0)=J:=by simpa using o
    have S:=hid (λ(c:Nat) (L:Int) (y:1<=L) (ho:¬L%2=0) f=>Nm.aVI (Nm.aSy (c:=c) (L:=L) (show k<a.length by omega) n.out y a0.2 f) (Nm.aSz (show k<a.length by omega) n.out y ho a0.2 f));generalize Nm.at' a k=x at*;obtain⟨a1,T⟩:=a0
    go_wp2_with fail
    go_loopw [4,5] (λc l wr=>Nn (w.alloc (.cells #[.bool m,.slice (Y ⟨g,0,X⟩) a.length b] 125)) k x c l wr) (λ_ l _=>(intOf l).toNat)
    case atStart=>exact⟨0,x,E4,rfl,O,T,E4,O,by simp;omega,rfl⟩
    case round=>
     obtain⟨c,L,rfl,rfl,D,l2,B,A,d,rfl⟩:=hrel;have r:=hid B;have R:=hid d;clear B d
     by_cases f:L%2=0
     .obtain⟨s,u,U⟩:=aQH D f r.out R.out;have F:=hid s;have M:=hid u;clear s u
      go_wp2_with fail
      go_roundw
      case rel=>exact⟨c+1,L/2,by simp;omega,rfl,O,O,F.out,U,M.out,rfl⟩
      case measure=>simp[intOf];omega
     .have aa:(L%2==0)=J:=by simpa using f
      go_wp2_with fail
      go_ret
      exact⟨by rw[S.out c L D f r.out];rfl,q.out⟩
  .obtain rfl:k=a.length:=O
   go_wp2_with fail
   have p:Nm.val 4294967296 a=0:=by
    have:=Nm.aHl a a.length n.out;rw[this];simp[Nm.val]
   go_ret
   exact⟨by rw[p,Nm.aVJ];rfl,q.out⟩
theorem Nm.aXs (z:Int):Nm.tz (z.natAbs:Int)=Nm.tz z:=by
 by_cases h:∃t:Nat,(2:Int)^t ∣ z/\¬(2:Int)^(t+1) ∣ z
 .obtain⟨t,a,b⟩:=h;rw[Nm.aVI a b,Nm.aVI (A5.2 a) (λg=>b (A5.1 g))]
 .unfold Nm.tz;rw[dif_neg h,dif_neg];rintro⟨t,a,b⟩;exact h ⟨t,A5.1 a,λg=>b (A5.2 g)⟩
theorem aSx (w:World)(z:Int)(v:Value)(n:Nat)(h:WhoAt w z v)(f:z.natAbs<2^n)(l:n<=1000000000):
  Calls prog 265 #[v] w λe c=>e=.returned (.int .i64 (Nm.tz z))/\Below w.heap.size w c:=by
 obtain⟨g,d,a,rfl,i,b,hv⟩:=h.open;have k:=yV b hv f;refine(aQG w _ g d a i O b).mono ?_;rintro e c⟨rfl,j⟩;rw[hv,Nm.aXs]
 simp_all
theorem aGU (w:World)(a:LB)(v:Value)(b:Lims w a v)(k:a.length<=10000000000)(n:0<a.length)(i:bZ 4294967296 a):
  Calls prog 198 #[v] w λe q=>∃c:Nat,e=.returned (.int .i64 ((32*(a.length-1)+c:Nat):Int))/\c<=32/\w=q:=by
 obtain⟨r,j,rfl,_⟩:=b.shape;obtain⟨g,rfl,hc⟩:=b.place n;have A:=hc (a.length-1) O;have a0:=i.at' E3 (a.length-1);have u:((a.length:Int)==0)=J:=beq_eq_false_iff_ne.2 O
 have s:((a.length:Int)-1).toNat=a.length-1:=O
 clear b hc i;generalize Nm.at' a (a.length-1)=x at*;obtain⟨a1,f⟩:=a0
 go_in
 go_wp2_with fail
 go_loop [3,4] (λl t=>∃(c:Nat) (T:Int),l=.int .i64 ((32*(a.length-1)+c:Nat):Int)/\t=.int .u32 T/\0<=T/\T<4294967296/\T<2^(32-c)/\c<=32) (λ_ t=>(intOf t).toNat)
 case atStart=>exact⟨0,x,by simp;omega,rfl,a1,f,by simpa using f,O⟩
 case round=>
  obtain⟨c,T,rfl,rfl,y,z,p,hc⟩:=hrel;have d:=hid p
  by_cases h:0<T
  .have m:c<32:=by
    rcases C6 c 32 with h1|h1
    .exact h1
    .have:=d.out;rw[show 32-c=0 by omega]at this;omega
   have o:Hid (T/2<2^(32-(c+1))):=by
    have:=d.out;rw[show 32-c=(32-(c+1))+1 by omega,z8]at this;show _<_;omega
   go_wp2_with fail
   go_round
   case rel=>exact⟨c+1,T/2,by simp;omega,rfl,O,O,o.out,O⟩
   case measure=>simp[intOf];omega
  .go_wp2_with fail
   go_ret
   exact⟨c,rfl,hc,rfl⟩
def Js (w:World)(a:LB)(d p:Nat)(c i:Value)(wr:World):Prop:=
 ∃(k:Nat) (b:Int) (out:LB),i=.int .i64 k/\c=.int .u64 b/\0<=b/\b<2^p/\k<=a.length/\dI wr w.heap.size out/\out.length=a.length+d+1/\bZ 4294967296 out/\Below w.heap.size w wr/\
  Nm.val 4294967296 (out.take (k+d))+b*4294967296^(k+d)=Nm.val 4294967296 (a.take k)*2^p*4294967296^d
theorem aSC {t:Int}(d:0<t)(c0:0<=n)(c1:n<t)(a:0<=x)(e:x<4294967296):0<=(n+x*t)/4294967296/\(n+x*t)/4294967296<t:=by
 have b:0<=x*t:=r9 a O;have c:x*t<=4294967295*t:=A0 O O;omega
theorem aVL {out:LB}(c:k+w<out.length)(h:Nm.val 4294967296 (out.take (k+w))+n*4294967296^(k+w)=Nm.val 4294967296 (a.take k)*b*4294967296^w):
  Nm.val 4294967296 ((out.set (k+w) ((n+Nm.at' a k*b)%4294967296)).take (k+1+w))+(n+Nm.at' a k*b)/4294967296*4294967296^(k+1+w)=Nm.val 4294967296 (a.take (k+1))*b*4294967296^w:=by
 rw[show k+1+w=(k+w)+1 by omega,Xy c,Ev,D1,C3 O,wU,z8];grind
theorem aXy {out:LB}(c:out.length=a.length+w+1)(h:Nm.val 4294967296 (out.take (a.length+w))+n*4294967296^(a.length+w)=Nm.val 4294967296 (a.take a.length)*b*4294967296^w):
  Nm.val 4294967296 (out.set (a.length+w) n)=Nm.val 4294967296 a*b*4294967296^w:=by
 rw[D5]at h;rw[<-h,<-zY 4294967296 (out.set (a.length+w) n) (i:=a.length+w+1) (by simp;omega),Xy O,Ev,D1,C3 O]
theorem aI3 (w:World)(a:LB)(ao:Option Addr)(C d p:Nat)(ha:Lims w a (.slice ao a.length C))(ak:a.length<=10000000000)(ga:bZ 4294967296 a)(hp:p<32)(ap:d<=10000000000)(bits:Int)(hb:bits=32*d+p):
  Calls prog 199 #[.slice ao a.length C,.int .i64 bits] w (dA w λxs=>Nm.Good 4294967296 xs/\Nm.val 4294967296 xs=Nm.val 4294967296 a*2^(32*d+p)):=by
 have R:=run_make_row' 123 192 (.int .u32 0) 4 underlying123 kE rfl .i64 .i64 (a.length+d+1) O O;rw[show((a.length+d+1:Nat):Int)=(a.length:Int)+d+1 by omega]at R;have HA:=hid ha;have GA:=hid ga
 have e1:bits/32=d:=O
 have e2:bits%32=p:=O
 have e3:¬bits<0:=O
 have e5:0<=bits:=O
 have e6:bits<=400000000000:=O
 have hD:(0:Int)<2^p:=nF E3 p
 have P:(2:Int)^p<=2147483648:=by have:=sP (B:=2) E3 (show p<=31 by omega);exact this
 clear ha ga hb
 go_in
 go_wp2_with fail
 go_loopw [8,9] (λc i wr=>Js w a d p c i wr) (λ_ i _=>a.length-(intOf i).toNat)
 case atStart=>
  refine⟨0,0,D4 (a.length+d+1) 0,rfl,rfl,O,hD,C4 _,dI.made w _,E4,bZ.jO E3 _,aU (Below.refl _ _) O _,?_⟩;rw[List.take_replicate,Nm.Xc];simp[Nm.val]
 case round=>
  obtain⟨k,u,out,rfl,rfl,c0,c1,hk,f,j,l,h,m⟩:=hrel
  by_cases am:(k:Int)<a.length
  .obtain⟨g,rfl,D⟩:=(HA.out.below h).place O;have x1:=D k O;have k1:=f.cell (k+d) O;have k2:=f.frozen (k+d)
   have i1:(k:Int)+d<(a.length:Int)+d+1:=O
   have i0:(0:Int)<=(k:Int)+d:=O
   have i2:((k:Int)+d).toNat=k+d:=O
   have i3:IntKind.i64.wrap ((k:Int)+d)=(k:Int)+d:=by rw[D6];omega
   have a0:=GA.out.at' E3 k;have s:=aSC hD c0 c1 a0.1 a0.2
   have L:Hid (∀b,b=u+Nm.at' a k*2^p->Js w a d p (.int .u64 (b/4294967296)) (.int .i64 ((k:Int)+1)) (wr.setCell ⟨w.heap.size,k+d,X⟩ (.int .u32 (b%4294967296)))):=by
    rintro b rfl;exact⟨k+1,_,out.set (k+d) ((u+Nm.at' a k*2^p)%4294967296),E4,rfl,s.1,s.2,O,f.set _ _,by simpa using j,l.set _ O O,h.setCell E4 _,aVL O m⟩
   have m0:0<=Nm.at' a k*2^p:=r9 a0.1 O;have m1:Nm.at' a k*2^p<=4294967295*2147483648:=Int.mul_le_mul O P O O;have ai:=hid c1
   have N:u<2147483648:=O
   clear D m j l h f s c1;generalize Nm.at' a k=x at*;generalize Nm.at' out (k+d)=o at*;obtain⟨a1,a2⟩:=a0
   go_wp2_with fail
   go_roundw
   case rel=>exact L.out _ rfl
   case measure=>simp[intOf];omega
  .obtain rfl:k=a.length:=O
   have k1:=f.cell (a.length+d) O;have k2:=f.frozen (a.length+d)
   have i1:(a.length:Int)+d<(a.length:Int)+d+1:=O
   have i0:(0:Int)<=(a.length:Int)+d:=O
   have i2:((a.length:Int)+d).toNat=a.length+d:=O
   have i3:IntKind.i64.wrap ((a.length:Int)+d)=(a.length:Int)+d:=by rw[D6];omega
   have N:u<2147483648:=O
   have T:=hid (aXy j m);have q:=f.set (a.length+d) u;have y:=l.set (a.length+d) (x:=u) c0 O
   have t:(out.set (a.length+d) u).length=a.length+d+1:=by simpa using j
   have r:Below w.heap.size w (wr.setCell ⟨w.heap.size,a.length+d,X⟩ (.int .u32 u)):=h.setCell E4 _
   obtain⟨o2,F⟩:∃o2,o2=out.set (a.length+d) u:=⟨_,rfl⟩
   rw[<-F]at T q y t
   obtain⟨M,v⟩:∃M,M=wr.setCell ⟨w.heap.size,a.length+d,X⟩ (.int .u32 u):=⟨_,rfl⟩
   rw[<-v]at q r;have W:=hid (Ek M o2 _ 0 (q.rR O) O);rw[t]at W;have S:=wQ o2;rw[t]at S;have U:=hid (q.used (B:=w.heap.size) O O);rw[t]at U;have HD:=hid y;have z:=hid r;have A:=hid v;clear m j l h f q y t r v F c1;generalize hn:(Nm.strip o2).length=n at*;clear hn;generalize Nm.at' out (a.length+d)=o at*
   go_wp2_with fail
   rw[<-A.out];clear A;refine(W.out).mono ?_;rintro e w1⟨rfl,rfl⟩
   go_wp2_with fail
   go_ret
   refine⟨_,Nm.strip o2,rfl,⟨wR HD.out,?_⟩,U.out,z.out⟩;rw[uZ,T.out,s8,u6,show(2:Int)^32=4294967296 from rfl,A4,r8 (2^p)]
theorem aDU (w:World)(a:LB)(v:Value)(bits:Nat)(d:Lims w a v)(c:a.length<=10000000000)(g:bZ 4294967296 a)(h:bits<=300000000000):
  Calls prog 199 #[v,.int .i64 bits] w (dA w λe=>Nm.Good 4294967296 e/\Nm.val 4294967296 e=Nm.val 4294967296 a*2^bits):=by
 obtain⟨f,b,rfl,_⟩:=d.shape;have:=aI3 w a f b (bits/32) (bits%32) d c g O O bits O;grind
variable {v:World}
theorem cG.used {B:Nat}{x:LB}{r:Nat}(h:cG B v x (.slice (Y ⟨k,0,X⟩) p r)):cG B v (Nm.strip x) (.slice (Y ⟨k,0,X⟩) (Nm.strip x).length r):=by
 have f:=wQ x
 rcases h.2 with⟨b,_⟩|⟨m,c,a,b,d,e,hc,i,j,l⟩
 .cases b
 .cases b;refine⟨E4,Or.inr ⟨k,r,a,rfl,d,e,O,i,j,?_⟩⟩
  conv=>rhs;rw[(Nm.aEQ x)]
  rw[List.map_take,<-l,List.take_take];congr 1;omega
def Mf (w:World)(x:Int)(a:LB)(o i:Value)(wr:World):Prop:=
 ∃(k:Nat) (g b:Nat),i=.int .i64 k/\k<=a.length/\o=.slice (Y ⟨g,0,X⟩) (k+1) b/\wr.ownsRow w.heap.size 192 1 o (k+1) ((x::a.take k).map (Value.int .u32))/\Below w.heap.size w wr
theorem aGs (w:World)(a:LB)(v:Value)(x:Int)(A:Lims w a v)(ae:a.length<=10000000000)(N:bZ 4294967296 a)(x0:0<=x)(x1:x<4294967296):
  Calls prog 200 #[v,.int .u32 x] w (dA w λM=>Nm.Good 4294967296 M/\Nm.val 4294967296 M=x+4294967296*Nm.val 4294967296 a/\M.length<=a.length+1):=by
 obtain⟨ti,hi,hz,l,B⟩:=info_parts kE;obtain⟨ao,ad,rfl,P⟩:=A.shape;have U:=hid A;have T:=hid N;clear A N
 go_in
 go_wp2_with fail
 go_loopw [5,6] (λo i wr=>Mf w x a o i wr) (λ_ i _=>a.length-(intOf i).toNat)
 case atStart=>exact⟨0,w.heap.size,1,rfl,C4 _,rfl,World.ownsRow_lit w #[.int .u32 x] 1 O E3 rfl,aU (Below.refl _ _) O _⟩
 case round=>
  obtain⟨k,g,c,rfl,hk,rfl,b,d⟩:=hrel;have hs:=d.size;have f:=hid d
  by_cases ag:(k:Int)<a.length
  .obtain⟨g2,rfl,hc⟩:=(U.out.below d).place O;have x2:=hc k O
   have r:Hid (a.take (k+1)=a.take k++[Nm.at' a k]):=by
    show _=_;rw[List.take_succ_eq_append_getElem O];unfold Nm.at';rw[List.getD_eq_getElem?_getD,List.getElem?_eq_getElem (show k<a.length by omega)];rfl
   clear hc d;generalize Nm.at' a k=y at*
   go_wp2_with (at_builtin;refine wpList_append_own _ rfl _ _ 123 rfl _ 192 ti (.int .u32 0) 1 4 underlying123 hi hz l B rfl E3 _ _ _ rfl (b.alloc _) ⟨wr.heap.size,0,X⟩ 1 1 [.int .u32 y] rfl rfl (cell_one_new _ _ _) (λu S=>by simp at S;subst S;rfl) (by unfold maxLen;omega) O (by simp;omega) ?_;intro v' w3 h j D)
   have F:∃p m,v'=.slice (Y ⟨p,0,X⟩) (k+1+1) m:=by
    rcases h.2 with⟨_,R⟩|⟨p,m,s,t,_⟩
    .omega
    .exact⟨p,m,t⟩
   obtain⟨p,m,L⟩:=F
   go_roundw
   case rel=>
    refine⟨k+1,p,m,E4,O,L,?_,qT b f.out f.out.size _ j⟩;rw[r.out]
    simpa using h
   case measure=>simp[intOf];omega
  .obtain rfl:k=a.length:=O
   rw[D5]at b;have W:Hid (bZ 4294967296 (x::a)):=bZ.cons x0 x1 T.out;have z:cG w.heap.size wr (x::a) (.slice (Y ⟨g,0,X⟩) (a.length+1) c):=b;have US:=hid (Ek wr (x::a) _ w.heap.size z (by simp;omega));have HL:=hid z.used;have q:=wQ (x::a);simp at q
   have af:a.length+1<=c:=by
    rcases b.2 with⟨R,_⟩|⟨p,m,s,t,_,_,C,_⟩
    .cases R
    .cases t;exact C
   clear b z d;generalize hn:(Nm.strip (x::a)).length=n at*
   go_wp2_with fail
   refine(US.out).mono ?_;rintro e w1⟨rfl,rfl⟩
   go_wp2_with fail
   go_ret
   exact⟨_,Nm.strip (x::a),rfl,⟨wR W.out,by rw[uZ];rfl,by rw[(hid hn).out];exact q⟩,HL.out,f.out⟩
variable {d:LB}
theorem aIA (gd:Nm.Good 4294967296 d)(a:d.length=w+1):1<=Nm.at' d w:=by
 rcases aEI gd with rfl|⟨r,e,rfl,_,b,_⟩
 .simp at a
 .have:r.length=w:=by simpa using a
  unfold Nm.at';grind
variable {r:LB}
theorem aME (g:d.length=w+1)(c:bZ 4294967296 r)(gd:Nm.Good 4294967296 d)(b:Nm.val 4294967296 r<4294967296*Nm.val 4294967296 d)(j:r.length<=w+2):
  Nm.val 4294967296 r/Nm.val 4294967296 d<=(Nm.at' r w+Nm.at' r (w+1)*4294967296)/Nm.at' d w/\Nm.val 4294967296 r/Nm.val 4294967296 d<=4294967295/\0<=Nm.val 4294967296 r/Nm.val 4294967296 d:=by
 have p:=nF (B:=(4294967296:Int)) E3 w;have s:=aIA gd g
 have e1:Nm.val 4294967296 d=Nm.val 4294967296 (d.take w)+Nm.at' d w*4294967296^w:=by
  rw[<-wU,zY _ d O]
 have e2:Nm.val 4294967296 r=Nm.val 4294967296 (r.take w)+Nm.at' r w*4294967296^w+Nm.at' r (w+1)*4294967296^(w+1):=by
  rw[<-wU,<-wU,zY _ r O]
 have k:=oY E3 (gd.cP.take w);have l:=vC E3 (c.take w);have m:(4294967296:Int)^(r.take w).length<=4294967296^w:=sP E3 (by rw[D1];omega);have e:=oY E3 c
 have hd:0<Nm.val 4294967296 d:=O
 have a:0<=Nm.val 4294967296 r/Nm.val 4294967296 d:=r5 e O;have h:=r7 hd b;have i:=Int.ediv_mul_le (Nm.val 4294967296 r) (show Nm.val 4294967296 d≠0 by omega);refine⟨?_,O,a⟩;generalize t:Nm.val 4294967296 r/Nm.val 4294967296 d=q at*;refine A6 O ?_;have o:q*(Nm.at' d w*4294967296^w)<=q*Nm.val 4294967296 d:=s7 O a
 have f:q*Nm.at' d w*4294967296^w<(Nm.at' r w+Nm.at' r (w+1)*4294967296+1)*4294967296^w:=by
  rw[z8]at e2;grind
 have:=Int.lt_of_mul_lt_mul_right f O;omega
theorem aOK (i:d.length=w+1)(a:Nm.Good 4294967296 r)(gd:bZ 4294967296 d)(b:Nm.val 4294967296 r<4294967296*Nm.val 4294967296 d):r.length<=w+2:=by
 rcases C6 (w+2) r.length with h|h
 .have c:=Ov E3 a (by intro e;rw[e]at h;simp at h);have f:=vC E3 gd;have g:(4294967296:Int)^(w+2)<=4294967296^(r.length-1):=sP E3 O;grind
 .exact h
theorem aJV (b:d.length=w+1)(a:bZ 4294967296 r)(gd:Nm.Good 4294967296 d)(h:r.length<w+1):Nm.val 4294967296 r/Nm.val 4294967296 d=0:=
 u5 (oY E3 a) (Nm.Kb E3 a gd O)
theorem aOJ (w:World)(r d:LB)(u v:Value)(k:Lims w r u)(hd:Lims w d v)(M:r.length<=10000000000)(h:Nm.Good 4294967296 r)(gd:Nm.Good 4294967296 d)(L:0<d.length)(a:Nm.val 4294967296 r<4294967296*Nm.val 4294967296 d):
  Calls prog 201 #[u,v] w λe N=>∃G:Int,e=.returned (.int .u32 G)/\0<=G/\G<4294967296/\Nm.val 4294967296 r/Nm.val 4294967296 d<=G/\w=N:=by
 obtain⟨n,j⟩:∃n,d.length=n+1:=⟨d.length-1,O⟩
 have W:=aIA gd j;have F:=(gd.cP.at' E3 n).2;obtain⟨p,s,t⟩:=aME j h.cP gd a (aOK j h gd.cP a);have o:=hid (aJV j h.cP gd);obtain⟨ro,rc,rfl,_⟩:=k.shape;obtain⟨D,T,rfl,_⟩:=hd.shape;rw[j];have l0:(((n:Int)+1)==0)=J:=beq_eq_false_iff_ne.2 O;have m:=hid p;have x:=hid s;have z:=hid t;obtain⟨U,rfl,c⟩:=hd.place L;have P:=c n O;have a0:=h.cP.at' E3 n;have a1:=h.cP.at' E3 (n+1)
 by_cases c1:(r.length:Int)<(n:Int)+1
 .have y:=hid (o.out O);clear c p s t m x z k hd h gd a P o
  go_in
  go_wp2_with fail
  go_ret
  exact⟨0,rfl,O,O,by rw[y.out];exact Int.le_refl _,rfl⟩
 .obtain⟨g,rfl,hc⟩:=k.place O;have x1:=hc n O
  by_cases c2:(n:Int)+1<r.length
  .have x2:=hc (n+1) O;clear hc c p s t k hd h gd a o;generalize Nm.val 4294967296 r/Nm.val 4294967296 d=q at*;generalize Nm.at' r n=b at*;generalize Nm.at' r (n+1)=l at*;generalize Nm.at' d n=f at*;obtain⟨A,B⟩:=a0;obtain⟨R,S⟩:=a1;have f0:(f==0)=J:=beq_eq_false_iff_ne.2 O;have d0:0<=(b+l*4294967296)/f:=r5 O O;have C:(b+l*4294967296)/f<=b+l*4294967296:=A7 _ O
   by_cases c3:4294967295<(b+l*4294967296)/f
   .go_in
    go_wp2_with fail
    go_ret
    exact⟨4294967295,rfl,O,O,x.out,rfl⟩
   .go_in
    go_wp2_with fail
    go_ret
    exact⟨(b+l*4294967296)/f,rfl,d0,O,m.out,rfl⟩
  .have e1:=Ii (xs:=r) (i:=n+1) O;rw[e1,x8,y8]at m;clear hc c p s t k hd h gd a o a1 e1;generalize Nm.val 4294967296 r/Nm.val 4294967296 d=q at*;generalize Nm.at' r n=b at*;generalize Nm.at' d n=f at*;obtain⟨A,B⟩:=a0;have f0:(f==0)=J:=beq_eq_false_iff_ne.2 O;have d0:0<=b/f:=r5 O O;have C:b/f<=b:=A7 _ O
   go_in
   go_wp2_with fail
   go_ret
   exact⟨b/f,rfl,d0,O,m.out,rfl⟩
def vM (W1:World)(A:LB)(D:Int)(a i:Value)(wr:World):Prop:=
 ∃(k:Nat) (q R:LB),i=.int .i64 ((k:Int)-1)/\k<=A.length/\cG (W1.heap.size+1) wr R a/\Nm.Good 4294967296 R/\dI wr W1.heap.size q/\q.length=A.length/\bZ 4294967296 q/\Below W1.heap.size W1 wr/\
  Nm.val 4294967296 (A.drop k)=Nm.val 4294967296 (q.drop k)*D+Nm.val 4294967296 R/\Nm.val 4294967296 R<D
def Tc (W1 a:World)(D d:Int)(b c:Value)(wr:World):Prop:=
 ∃(g:Int) (P:LB),b=.int .u32 g/\0<=g/\g<4294967296/\d<=g/\cG (W1.heap.size+1) wr P c/\Nm.Good 4294967296 P/\Nm.val 4294967296 P=D*g/\Below a.heap.size a wr
theorem aKY {t Q h c l:Int}(a:t=Q*b+h)(d:c=x+4294967296*h):x+4294967296*t=(l+4294967296*Q)*b+(c-b*l):=by
 grind
theorem aGk {q:LB}(h:k<q.length):Nm.val 4294967296 ((q.set k x).drop k)=x+4294967296*Nm.val 4294967296 (q.drop (k+1)):=by
 rw[Ik 4294967296 _ k (by simpa using h)];congr 1
 .unfold Nm.at';simp[h]
 .rw[List.drop_set_of_lt O]
def Ff (w:World)(x y:Int):EW:=λe a=>∃b c Q R,e=.returned (.tuple #[b,c])/\Lims a Q b/\Lims a R c/\Nm.Good 4294967296 Q/\Nm.Good 4294967296 R/\Nm.val 4294967296 Q=x/y/\Nm.val 4294967296 R=x%y/\Below w.heap.size w a
theorem aI4 {a s Q R A D:Int}(i:0<b)(j:0<s)(f:A=a*s)(g:D=b*s)(h:A=Q*D+R)(m:0<=R)(k:R<D):Q=a/b/\R/s=a%b:=by
 subst f g
 have e:R=s*(a-Q*b):=by grind
 have l:R/s=a-Q*b:=by rw[e];exact Int.mul_ediv_cancel_left _ O
 have c:0<=a-Q*b:=by
  rcases A8 (a-Q*b) 0 with h'|h'
  .have:=j9 j h';omega
  .exact h'
 have d:a-Q*b<b:=by
  have:s*(a-Q*b)<s*b:=by rw[<-e,r8 s b];exact k
  simp_all
 have:=Nm.Qi i (show a=Q*b+(a-Q*b) by omega) c d;omega
variable {s:Nat}
theorem aS6 {b:LB}(c:bZ 4294967296 a)(d:Nm.Good 4294967296 b)(hv:Nm.val 4294967296 b=Nm.val 4294967296 a*2^s)(g:s<=32):b.length<=a.length+1:=by
 rcases C6 (a.length+1) b.length with h|h
 .exfalso;have i:=Ov E3 d (by intro e;rw[e]at h;simp at h);have j:=vC E3 c;have k:(4294967296:Int)^(a.length+1)<=4294967296^(b.length-1):=sP E3 O;have f:(2:Int)^s<=2^32:=sP E3 g;have l:=s7 f (oY E3 c);omega
 .exact h
theorem aKy {x:LB}(h:0<Nm.val 4294967296 x):0<x.length:=by
 cases x with
 |nil=>simp[Nm.val]at h
 |cons _ _=>simp
theorem aFI (w:World)(a b:LB)(u v:Value)(ha:Lims w a u)(hb:Lims w b v)(e3:a.length<=4000000000)(e4:b.length<=4000000000)(ga:Nm.Good 4294967296 a)(gb:Nm.Good 4294967296 b)(hp:0<b.length):
  Calls prog 158 #[u,v] w (Ff w (Nm.val 4294967296 a) (Nm.val 4294967296 b)):=by
 have HA:=hid ha;have HB:=hid hb;have GA:=hid ga;have GB:=hid gb;obtain⟨ao,ac,rfl,_⟩:=ha.shape;obtain⟨bo,bc,rfl,_⟩:=hb.shape;have BL:=hid (aGU w b _ hb O hp gb.cP)
 have b4:0<Nm.val 4294967296 b:=by
  have h1:=oY E3 gb.cP;have h2:=yQ E3 gb
  rcases A9 h1 with h|h
  .exact h
  .have:=h2.1 h.symm;rw[this]at hp;simp at hp
 clear ha hb ga gb
 go_in
 go_wp2_with fail
 refine(BL.out).mono ?_;rintro e w0⟨c,rfl,hc,rfl⟩
 obtain⟨s,hs⟩:∃s:Nat,(32:Int)*b.length-((32*(b.length-1)+c:Nat):Int)=s:=⟨32-c,O⟩
 have cc:s<=32:=O
 have b5:((32*(b.length-1)+c:Nat):Int)=32*b.length-s:=O
 rw[b5];have bt:=hid (aDU w b _ s HB.out O GB.out.cP O)
 have di:IntKind.i64.wrap (32*(b.length:Int)-(32*b.length-s))=s:=by rw[D6];omega
 have dj:IntKind.i64.wrap (32*(b.length:Int))=32*b.length:=by rw[D6];omega
 clear hs b5 hc
 go_wp2_with fail
 refine(bt.out).mono ?_;rintro e w1⟨dv,dl,rfl,⟨bd,ar⟩,a8,ab⟩;have e7:=aS6 GB.out.cP bd ar cc;have bu:=hid (aDU w1 a _ s (HA.out.below ab) O GA.out.cP O);obtain⟨ez,dc,rfl,_⟩:=a8.shape
 go_wp2_with fail
 refine(bu.out).mono ?_;rintro e W1⟨av,T,rfl,⟨be,bf⟩,a9,an⟩;have e6:=aS6 GA.out.cP be bf cc;obtain⟨ey,ex,rfl,_⟩:=a9.shape;have fb:=ab.size;have fc:=an.size;have BW:=hid (ab.trans (an.mono ab.size));have hD:(0:Int)<2^s:=nF E3 s
 have C:0<Nm.val 4294967296 dl:=by rw[ar];exact o9 b4 hD
 have db:=aKy C;have a2:=hid (λQ R h r0 r1=>aI4 (Q:=Q) (R:=R) b4 hD bf ar h r0 r1);have DL:=hid (a8.below an);have AL:=hid a9;have GD:=hid bd;have ck:=hid be;have e8:=run_make_row' (P:=prog) 123 192 (.int .u32 0) 4 underlying123 kE rfl .i64 .i64 T.length O O;clear a8 a9 ab an ar bf bd be bt bu hD di dj HA HB BL
 go_wp2_with fail
 go_loopw [10,11] (λr i wr=>vM W1 T (Nm.val 4294967296 dl) r i wr) (λ_ i _=>(intOf i+1).toNat)
 case atStart=>
  refine⟨T.length,D4 T.length 0,[],rfl,C5 _,?_,Nm.Good.nil _,?_,E4,bZ.jO E3 _,aU (aU (Below.refl _ _) O _) E4 _,by simp[Nm.val],C⟩
  .exact⟨rfl,Or.inr ⟨W1.heap.size+1,0,#[],E4,C5 _,by have:=yR (W1.alloc (.cells (madeCells #[.int .u32 0] T.length) 192)) (.cells #[] 192);rw[D0]at this;exact this,C5 _,E3,rfl,rfl⟩⟩
  .exact(dI.made W1 T.length).below (aU (Below.refl _ _) (C5 _) _)
 case round=>
  obtain⟨k,q,R,rfl,hk,hR,am,ae,az,ay,ax,a1,c9⟩:=hrel;have HV:=hid a1;have d:=hid az;have W:=hid ay;have U:=hid ax;have M:=hid ae;have br:=hid am;have c7:=oY E3 am.cP;have fh:=ae.lt;have c8:=Iv am GD.out O;obtain⟨ro,rc,rfl,_⟩:=hR.shape;have HR:=hid hR;clear a1 az ay ax ae am hR
  cases k with
  |zero=>
   have hA:Nm.val 4294967296 T=Nm.val 4294967296 q*Nm.val 4294967296 dl+Nm.val 4294967296 R:=by have:=HV.out;simpa using this
   have FQ:=hid (a2.out _ _ hA c7 c9);have US:=hid (Ek wr.drew q _ 0 (M.out.drew.rR (by rw[d.out];omega)) (by rw[d.out];omega));have SD:=hid (aEs wr.drew R _ s ((HR.out.below (Bs _)).cJ (C4 _)) O br.out.cP O);have dh:=wQ q;have HL:=hid (M.out.used (B:=0) (by rw[d.out];omega) (C4 _));rw[d.out]at US dh HL;have co:=hid (wR W.out);have cu:=hid (uZ 4294967296 q);generalize hn:(Nm.strip q).length=n at*;clear hA hn
   go_wp2_with fail
   go_region_with (first
    |(go_at_call 157;refine(US.out).mono ?_;rintro e w6⟨rfl,rfl⟩)
    |(go_at_call 202;refine(SD.out).mono ?_;rintro e w7⟨sv,S,rfl,⟨gS,vS⟩,ba,au⟩;have b3:=xW au;clear au;obtain⟨so,sc,rfl,_⟩:=ba.shape;have cr:=hid (ba.cJ (C4 _));have bq:=hid b3;have GS:=hid gS;have VS:=hid vS;clear ba b3 gS vS))
   all_goals
    go_wp2_with fail
    refine bodyPost_ret (v:=.tuple #[.slice (Y ⟨W1.heap.size,0,X⟩) n T.length,.slice so S.length sc]) (by simp[results,results158,go_sem]) rfl ⟨_,_,Nm.strip q,S,rfl,HL.out.below bq.out,cr.out,co.out,GS.out,by rw[cu.out];exact FQ.out.1,by rw[VS.out];exact FQ.out.2,?_⟩;exact BW.out.trans ((U.out.trans (bq.out.mono O)).mono O)
  |succ k=>
   obtain⟨g,rfl,_⟩:=AL.out.place O;have x1:=(AL.out.below U.out).jJ k O;have a0:=ck.out.cP.at' E3 k;generalize hx:Nm.at' T k=x at*;have HX:=hid hx;clear hx;have WL:=hid (aGs wr R _ x (HR.out.cJ (C4 _)) O br.out.cP a0.1 a0.2)
   go_wp2_with fail
   refine(WL.out).mono ?_;rintro e w3⟨rv,f,rfl,⟨g3,v3,l3⟩,ak,ap⟩;obtain⟨fo,fn,rfl,_⟩:=ak.shape;have fd:=ap.size
   have b9:Nm.val 4294967296 f<4294967296*Nm.val 4294967296 dl:=O
   have b7:=oY E3 g3.cP;have B3:=hid (U.out.trans (ap.mono (show W1.heap.size<=wr.heap.size by omega)));have GU:=hid (aOJ w3 f dl _ _ (ak.cJ (C4 _)) ((DL.out.below B3.out).cJ (C4 _)) O g3 GD.out db b9);have a4:=hid (ak.cJ (show W1.heap.size+1<=wr.heap.size by omega));have H3:=hid ap;have G3:=hid g3;have V3:=hid v3;clear ak g3 ap WL
   go_wp2_with fail
   refine(GU.out).mono ?_;rintro e ft⟨G,rfl,G0,G1,cb,rfl⟩;have LO:=hid (Vr G w3 G0 O)
   go_wp2_with fail
   refine(LO.out).mono ?_;rintro e w4⟨lv,L,rfl,⟨gL,vL,lL⟩,b0,ad⟩;have fe:=ad.size;have ML:=hid (aB2 w4 dl L _ _ (((DL.out.below B3.out).below ad).cJ (C4 _)) (b0.cJ (C4 _)) O O GD.out.cP gL.cP);rw[vL]at ML
   go_wp2_with fail
   refine(ML.out).mono ?_;rintro e w5⟨pv,P,rfl,⟨gP,vP⟩,b1,bb⟩;have ff:=bb.size;have cs:=hid cb;have cq:=hid (b1.cJ (show W1.heap.size+1<=w4.heap.size by omega));have GP:=hid gP;have VP:=hid vP;have cm:=hid (ad.trans (bb.mono ad.size));clear b1 gP vP ad bb gL vL b0 cb ML LO GU
   obtain⟨wo,dk⟩:∃wo:World,wo=wr:=⟨_,rfl⟩
   subst dk
   go_wp2_with fail
   go_loopw [12,13] (λl p wr=>Tc W1 w5 (Nm.val 4294967296 dl) (Nm.val 4294967296 f/Nm.val 4294967296 dl) l p wr) (λl _ _=>(intOf l).toNat)
   case atStart=>exact⟨G,P,rfl,G0,G1,cs.out,cq.out,GP.out,VP.out,Below.refl _ _⟩
   case round=>
    obtain⟨o,P',rfl,h0,h1,hq,hI,hg,hv,aq⟩:=hrel;have fi:=aq.size;have ai:=hid (cm.out.trans (aq.mono (show w3.heap.size<=w5.heap.size by omega)));obtain⟨po,pc,rfl,_⟩:=hI.shape;have N:=hid hI;have HG:=hid hg;have m:=hid hv;have cn:=hid aq
    have e2:P'.length<=9000000000:=by
     have h2:=vC E3 GD.out.cP
     rcases C6 (dl.length+1) P'.length with h|h
     .exfalso;have h3:=Ov E3 hg (by intro e;rw[e]at h;simp at h);have h4:(4294967296:Int)^(dl.length+1)<=4294967296^(P'.length-1):=sP E3 O;have h5:Nm.val 4294967296 dl*o<=Nm.val 4294967296 dl*4294967296:=s7 O O;rw[z8]at h4;omega
     .omega
    clear hI hg hv aq
    by_cases e5:0<o
    .have aj:=hid (Qe wr P' f _ _ (N.out.cJ (C4 _)) ((a4.out.below ai.out).cJ (C4 _)) O HG.out G3.out);rw[m.out]at aj
     by_cases A:Nm.val 4294967296 dl*o<=Nm.val 4294967296 f
     .have hc:¬0<Nm.cmp (Nm.val 4294967296 dl*o) (Nm.val 4294967296 f):=by
       rcases A9 A with h|h
       .rw[iQ h];decide
       .rw[jQ h];decide
      generalize Nm.cmp (Nm.val 4294967296 dl*o) (Nm.val 4294967296 f)=cv at*
      go_wp2_with fail
      refine(aj.out).mono ?_;rintro e w6⟨rfl,y⟩;have dg:=y.size;have BX:=hid (ai.out.trans (y.mono (show w3.heap.size<=wr.heap.size by omega)));have a5:=hid (N.out.below y);clear y
      have af:Nm.val 4294967296 f/Nm.val 4294967296 dl=o:=by
       have:=A6 C (show o*Nm.val 4294967296 dl<=Nm.val 4294967296 f by rw[r8];exact A);omega
      have ag:=q9 (Nm.val 4294967296 f) C;have j:=p8 (Nm.val 4294967296 f) (Nm.val 4294967296 dl);rw[af]at j;have SB:=hid (Ns w6 f P' _ _ ((a4.out.below BX.out).cJ (C4 _)) (a5.out.cJ (C4 _)) O (Iv HG.out G3.out (by rw[m.out];exact A)) G3.out.cP HG.out.cP (by rw[m.out];exact A));rw[m.out]at SB
      have aa:Hid (Nm.val 4294967296 f-Nm.val 4294967296 dl*o<Nm.val 4294967296 dl):=by show _<_;omega
      have ci:=hid (B3.out.trans (BX.out.mono (show W1.heap.size<=w3.heap.size by omega)));have cg:=hid ((M.out.below H3.out).below BX.out);clear ag j af
      go_wp2_with fail
      refine(SB.out).mono ?_;rintro e w8⟨dm,R8,rfl,⟨g8,v8⟩,D,z⟩;obtain⟨bh,bg,rfl,_⟩:=D.shape;have df:=z.size;have t:=cg.out.below z
      have F:k<q.length:=by rw[d.out];omega
      have k1:=t.cell k F;have k2:=t.frozen k
      have a7:Hid (vM W1 T (Nm.val 4294967296 dl) (.slice bh R8.length bg) (.int .i64 ((k:Int)-1)) (w8.setCell ⟨W1.heap.size,k,X⟩ (.int .u32 o))):=by
       refine⟨k,q.set k o,R8,E4,O,(D.cJ (show W1.heap.size+1<=w6.heap.size by omega)).rS O _,g8,t.set _ _,by simpa using d.out,W.out.set _ h0 h1,(ci.out.trans (z.mono (show W1.heap.size<=w6.heap.size by omega))).setCell E4 _,?_,by rw[v8];exact aa.out⟩;rw[Ik 4294967296 T k O,aGk F,HX.out,v8];exact aKY HV.out V3.out
      clear D g8 v8 z t F;generalize Nm.at' q k=oq at*
      go_wp2_with fail
      go_roundw
      case rel=>exact a7.out
      case measure=>simp[intOf]
     .have b8:Nm.val 4294967296 f<Nm.val 4294967296 dl*o:=O
      have hc:Nm.cmp (Nm.val 4294967296 dl*o) (Nm.val 4294967296 f)=1:=gW b8;rw[hc]at aj;have ef:Nm.val 4294967296 f/Nm.val 4294967296 dl<o:=r7 C (by rw[r8];exact b8)
      have b6:Nm.val 4294967296 dl<=Nm.val 4294967296 dl*o:=by
       have:=s7 (show 1<=o by omega) (show 0<=Nm.val 4294967296 dl by omega);omega
      have ca:Nm.val 4294967296 dl*o-Nm.val 4294967296 dl=Nm.val 4294967296 dl*(o-1):=by rw[B7,B8]
      go_wp2_with fail
      refine(aj.out).mono ?_;rintro e w6⟨rfl,y⟩;have dg:=y.size;have BX:=hid (ai.out.trans (y.mono (show w3.heap.size<=wr.heap.size by omega)));have SB:=hid (Ns w6 P' dl _ _ ((N.out.below y).cJ (C4 _)) (((DL.out.below B3.out).below BX.out).cJ (C4 _)) O (Iv GD.out HG.out (by rw[m.out];exact b6)) HG.out.cP GD.out.cP (by rw[m.out];exact b6));rw[m.out,ca]at SB
      go_wp2_with fail
      refine(SB.out).mono ?_;rintro e w7⟨fk,P7,rfl,⟨g7,v7⟩,c5,b2⟩;have fg:=b2.size
      go_wp2_with fail
      go_roundw
      case rel=>exact⟨o-1,P7,rfl,O,O,O,c5.cJ O,g7,v7,(cn.out.trans (y.mono O)).trans (b2.mono O)⟩
      case measure=>simp[intOf];omega
    .obtain rfl:o=0:=O
     have A:Nm.val 4294967296 dl*0<=Nm.val 4294967296 f:=by rw[Int.mul_zero];exact b7
     have BX:=ai;have a5:=N
     have af:Nm.val 4294967296 f/Nm.val 4294967296 dl=0:=by
      have:=A6 C (show 0*Nm.val 4294967296 dl<=Nm.val 4294967296 f by rw[r8];exact A);omega
     have ag:=q9 (Nm.val 4294967296 f) C;have j:=p8 (Nm.val 4294967296 f) (Nm.val 4294967296 dl);rw[af]at j;have SB:=hid (Ns wr f P' _ _ ((a4.out.below BX.out).cJ (C4 _)) (a5.out.cJ (C4 _)) O (Iv HG.out G3.out (by rw[m.out];exact A)) G3.out.cP HG.out.cP (by rw[m.out];exact A));rw[m.out]at SB
     have aa:Hid (Nm.val 4294967296 f-Nm.val 4294967296 dl*0<Nm.val 4294967296 dl):=by show _<_;omega
     have ch:=hid (B3.out.trans (BX.out.mono (show W1.heap.size<=w3.heap.size by omega)));clear ag j af
     go_wp2_with fail
     refine(SB.out).mono ?_;rintro e w8⟨dm,R8,rfl,⟨g8,v8⟩,D,z⟩;obtain⟨bh,bg,rfl,_⟩:=D.shape;have df:=z.size;have t:=(hid ((M.out.below H3.out).below BX.out)).out.below z
     have F:k<q.length:=by rw[d.out];omega
     have k1:=t.cell k F;have k2:=t.frozen k
     have a7:Hid (vM W1 T (Nm.val 4294967296 dl) (.slice bh R8.length bg) (.int .i64 ((k:Int)-1)) (w8.setCell ⟨W1.heap.size,k,X⟩ (.int .u32 0))):=by
      refine⟨k,q.set k 0,R8,E4,O,(D.cJ (show W1.heap.size+1<=wr.heap.size by omega)).rS O _,g8,t.set _ _,by simpa using d.out,W.out.set _ h0 h1,(ch.out.trans (z.mono (show W1.heap.size<=wr.heap.size by omega))).setCell E4 _,?_,by rw[v8];exact aa.out⟩;rw[Ik 4294967296 T k O,aGk F,HX.out,v8];exact aKY HV.out V3.out
     clear D g8 v8 z t F;generalize Nm.at' q k=oq at*
     go_wp2_with fail
     go_roundw
     case rel=>exact a7.out
     case measure=>simp[intOf]
structure aY1 (W U:World) (s:Nat) (p q:Value):Prop where
 blk:U.heap[s]?=Y (.cells #[p,q] 125 (0,0))
 oth:∀k,k≠s->U.heap[k]?=W.heap[k]?
 size:U.heap.size=W.heap.size
 num:∀z v,WhoAt W z v->WhoAt U z v
 below:∀B w0,Below B w0 W->B<=s->Below B w0 U
theorem Hp {U:World}{x c p q:Value}(e:U=(v.setCell ⟨s,0,X⟩ p).setCell ⟨s,1,X⟩ q)(k:v.heap[s]?=Y (.cells #[x,c] 125 (0,0))):aY1 v U s p q:=by
 subst e;refine⟨?_,?_,E4,λz a h=>(h.other k E3 _).other (nQ k _) E3 _,λB f h b=>(h.setCell b _).setCell b _⟩
 .rw[nQ (nQ k p) q];rfl
 .intro j d;rw[Below.heap_setCell _ _ _ _ d,Below.heap_setCell _ _ _ _ d]
def vI (w:World)(a b c d:Value):World:=(kO w a b c d).alloc (.cells #[.bool J,.slice X 0 0] 125)
theorem Ob (w:World)(a b c d:Value):Below w.heap.size w (vI w a b c d):=aU (oX w a b c d) (oX w a b c d).size _
theorem El (w:World)(a b c d:Value):(vI w a b c d).heap.size=w.heap.size+4:=by rw[vI,D0,zW]
theorem aKP (w:World)(a b c d:Value):(vI w a b c d).heap[w.heap.size]?=Y (.cells #[a,b] 125 (0,0)):=yS _ (Qw w a b c d)
theorem aKQ (w:World)(a b c d:Value):(vI w a b c d).heap[w.heap.size+1]?=Y (.cells #[c,d] 125 (0,0)):=yS _ (Nz w a b c d)
theorem aKR (w:World)(a b c d:Value):(vI w a b c d).heap[w.heap.size+2]?=Y (.cells #[.bool J,.slice X 0 0] 125 (0,0)):=yS _ (Em w a b c d)
theorem aKS (w:World)(a b c d:Value):(vI w a b c d).heap[w.heap.size+3]?=Y (.cells #[.bool J,.slice X 0 0] 125 (0,0)):=by
 have:=yR (kO w a b c d) (.cells #[.bool J,.slice X 0 0] 125);rw[zW]at this;exact this
structure aYW (w U:World) (s:Nat) (x y:Int) (p q r t:Value):Prop where
 c0:((((U.setCell ⟨s,0,X⟩ p).setCell ⟨s,1,X⟩ q).setCell ⟨s+1,0,X⟩ r).setCell ⟨s+1,1,X⟩ t).cell? ⟨s,0,X⟩=Y p
 c1:((((U.setCell ⟨s,0,X⟩ p).setCell ⟨s,1,X⟩ q).setCell ⟨s+1,0,X⟩ r).setCell ⟨s+1,1,X⟩ t).cell? ⟨s,1,X⟩=Y q
 c2:((((U.setCell ⟨s,0,X⟩ p).setCell ⟨s,1,X⟩ q).setCell ⟨s+1,0,X⟩ r).setCell ⟨s+1,1,X⟩ t).cell? ⟨s+1,0,X⟩=Y r
 c3:((((U.setCell ⟨s,0,X⟩ p).setCell ⟨s,1,X⟩ q).setCell ⟨s+1,0,X⟩ r).setCell ⟨s+1,1,X⟩ t).cell? ⟨s+1,1,X⟩=Y t
 f0:U.frozen? ⟨s,0,X⟩=J
 f1:U.frozen? ⟨s,1,X⟩=J
 f2:U.frozen? ⟨s+1,0,X⟩=J
 f3:U.frozen? ⟨s+1,1,X⟩=J
 d0:∃v,U.cell? ⟨s,0,X⟩=Y v
 a:WhoAt ((((U.setCell ⟨s,0,X⟩ p).setCell ⟨s,1,X⟩ q).setCell ⟨s+1,0,X⟩ r).setCell ⟨s+1,1,X⟩ t) x (.agg #[p,q])
 b:WhoAt ((((U.setCell ⟨s,0,X⟩ p).setCell ⟨s,1,X⟩ q).setCell ⟨s+1,0,X⟩ r).setCell ⟨s+1,1,X⟩ t) y (.agg #[r,t])
 below:Below w.heap.size w ((((U.setCell ⟨s,0,X⟩ p).setCell ⟨s,1,X⟩ q).setCell ⟨s+1,0,X⟩ r).setCell ⟨s+1,1,X⟩ t)
theorem Lx {U:World}{p q r t m n h i:Value}(a:U.heap[s]?=Y (.cells #[m,n] 125 (0,0)))(c:U.heap[s+1]?=Y (.cells #[h,i] 125 (0,0)))(f:WhoAt U x (.agg #[p,q]))(g:WhoAt U b (.agg #[r,t]))(d:Below v.heap.size v U)(e:v.heap.size<=s):aYW v U s x b p q r t:=by
 have S:=Hp (U:=(U.setCell ⟨s,0,X⟩ p).setCell ⟨s,1,X⟩ q) rfl a;have T:=Hp (p:=r) (q:=t) rfl ((S.oth (s+1) O).trans c);have b0:=(T.oth s O).trans S.blk;exact⟨aB b0 rfl,aB b0 rfl,aB T.blk rfl,aB T.blk rfl,dP a,dP a,dP c,dP c,⟨_,aB a rfl⟩,T.num _ _ (S.num _ _ f),T.num _ _ (S.num _ _ g),T.below _ _ (S.below _ _ d e) O⟩
def Fk (w:World)(x y:Int):EW:=λe a=>∃b c,e=.returned (.tuple #[b,c])/\WhoAt a (x/y) b/\WhoAt a (x%y) c/\Below w.heap.size w a
theorem aFK (w:World)(x y:Int)(u v:Value)(n:Nat)(hx:WhoAt w x u)(hy:WhoAt w y v)(bx:x.natAbs<2^n)(bY:y.natAbs<2^n)(hn:n<=1000000000)(ai:0<y):Calls prog 114 #[u,v] w (Fk w x y):=by
 obtain⟨a,ao,dc,rfl,hI,hg,hv⟩:=hx.open;obtain⟨b,bo,db,rfl,hJ,hh,hu⟩:=hy.open;have hl:=yV hg hv bx;have hk:=yV hh hu bY
 have bk:0<b.length:=by
  have:=Rn hh hu
  rcases C7 b.length with h|h
  .have:=this.1 (List.eq_nil_of_length_eq_zero h);omega
  .exact h
 have SG:=hid (λW hW=>aGl W y _ (hy.below hW));rw[gW ai]at SG
 have ah:Nm.val 4294967296 b=y:=O
 have DL:=hid (λW hW=>aFI W a b _ _ (hI.below hW) (hJ.below hW) O O hg hh bk);rw[hv,ah]at DL;have HJ:=hid hJ;have HH:=hid hh;have HU:=hid ah;rw[decide_eq_false (show¬y<0 by omega)]at*;have BX:=hid bx;clear hI hJ hg hh hu ah hx hy bx bY
 by_cases az:x<0
 .rw[decide_eq_true az]
  go_in
  go_wp2_with fail
  refine(SG.out _ (Ob w _ _ _ _)).mono ?_;rintro e w1⟨rfl,f⟩;have ag:=f.size;rw[El]at ag;have B1:=(Ob w _ _ _ _).trans (f.mono (Ob w _ _ _ _).size);have k0:=cY (by rw[El];omega) (aKP _ _ _ _ _) f;have k1:=cY (by rw[El];omega) (aKQ _ _ _ _ _) f;have K2:=hid (cY (by rw[El];omega) (aKR _ _ _ _ _) f);have K3:=hid (cY (by rw[El];omega) (aKS _ _ _ _ _) f);obtain⟨y0,y1⟩:=fD k0 rfl rfl;obtain⟨y2,y3⟩:=fD k1 rfl rfl;have DD:=hid (DL.out w1 B1);have k:=hid B1;clear f SG
  go_wp2_with fail
  refine(DD.out).mono ?_;rintro e P⟨qv,rv,Q,R,rfl,A,hR,T,U,M,N,g⟩;have bp:=g.size;obtain⟨qo,qc,rfl,_⟩:=A.shape;obtain⟨ro,rc,rfl,_⟩:=hR.shape;have z0:=(g.cell (p:=⟨w.heap.size,0,X⟩) (by simp only;omega)).trans y0;have z3:=(g.cell (p:=⟨w.heap.size+1,1,X⟩) (by simp only;omega)).trans y3;have B2:=k.out.trans (g.mono k.out.size);have af:=yQ E3 U;have ay:=oY E3 U.cP;have t:=q9 ((x.natAbs:Nat):Int) ai;have s:=p8 ((x.natAbs:Nat):Int) y;have ax:0<=((x.natAbs:Nat):Int)/y:=r5 O O;have i:=Nm.aIy ai (show((x.natAbs:Nat):Int)=((x.natAbs:Nat):Int)/y*y+((x.natAbs:Nat):Int)%y by rw[r8];omega) O t;rw[show -((x.natAbs:Nat):Int)=x by omega]at i;have r:=p8 x y
  by_cases ae:R=[]
  .subst ae
   have e0:((x.natAbs:Nat):Int)%y=0:=by rw[<-N];rfl
   rw[if_pos e0]at i
   have bn:((x.natAbs:Nat):Int)/y≠0:=by intro e;rw[e]at s;omega
   have B:WhoAt P (x/y) (.agg #[.bool I,.slice qo Q.length qc]):=uL A T (by rw[M,i];omega) (by rw[i];symm;simp;omega)
   have C:WhoAt P (x%y) (.agg #[.bool J,.slice X 0 0]):=by
    have:x%y=0:=by rw[i,B9]at r;omega
    rw[this];exact Yj P
   have D:=B2;have j:=g;have c:=cY O K2.out j;have d:=cY O K3.out j;obtain⟨s0,s1⟩:=fD c rfl rfl;obtain⟨s2,s3⟩:=fD d rfl rfl;have F:=Lx c d B C D O;have r0:=F.f0;have r1:=F.f1;have r2:=F.f2;have r3:=F.f3;have q0:=F.c0;have q1:=F.c1;have q2:=F.c2;have q3:=F.c3;have FA:=hid F.a;have FY:=hid F.b;have FB:=hid F.below;clear F B C D c d j;clear bn i r s t ax ay af T U M N A hR B2 g e0
   go_wp2_with fail
   refine bodyPost_ret (v:=.tuple #[.agg #[.bool I,.slice qo Q.length qc],.agg #[.bool J,.slice X 0 0]]) (by simp[results,results114,go_sem,q0,q1,q2,q3]) rfl ⟨_,_,rfl,FA.out,FY.out,FB.out⟩
  .have df:((R.length:Int)==0)=J:=by
    have:=List.length_pos_iff.2 ae;exact beq_eq_false_iff_ne.2 O
   have e0:((x.natAbs:Nat):Int)%y≠0:=by rw[<-N];exact λh=>ae (af.1 h)
   rw[if_neg e0]at i;have LO:=hid (Vr 1 P E3 E3);have HQ:=hid A;have HR:=hid hR;have GQ:=hid T;have GR:=hid U;have VQ:=hid M;have VR:=hid N;have S:=hid i;have be:=hid r;have bg:=hid s;have ap:=hid t;have H2:=hid g;have an:=hid B2
   have de:Q.length<=n:=by
    have h1:=A7 y (show 0<=((x.natAbs:Nat):Int) by omega);have h2:=BX.out;exact yV (z:=((x.natAbs:Nat):Int)/y) T (by rw[M];omega) O
   clear A hR T U M N i r s t g B2 af
   go_wp2_with fail
   refine(LO.out).mono ?_;rintro e w3⟨lv,L,rfl,⟨gL,vL,lL⟩,ar,l⟩;have dg:=l.size;have AD:=hid (aEW w3 Q L _ _ (HQ.out.below l) (ar.cJ O) O O GQ.out.cP gL.cP);rw[vL,VQ.out]at AD;have bz:=(l.cell (p:=⟨w.heap.size+1,1,X⟩) (by simp only;omega)).trans z3;have H3:=hid l;clear l ar gL vL
   go_wp2_with fail
   refine(AD.out).mono ?_;rintro e w4⟨fv,FL,rfl,⟨gF,vF⟩,aa,q⟩;have dh:=q.size;obtain⟨fo,fc,rfl,_⟩:=aa.shape;have z4:=(q.cell (p:=⟨w.heap.size+1,1,X⟩) (by simp only;omega)).trans bz;have o:=hid (H3.out.trans (q.mono H3.out.size))
   have av:Nm.val 4294967296 R<=Nm.val 4294967296 b:=by rw[VR.out,HU.out];have:=ap.out;omega
   have SB:=hid (Ns w4 b R _ _ ((HJ.out.below an.out).below o.out) (HR.out.below o.out) O (Iv GR.out HH.out av) HH.out.cP GR.out.cP av);rw[VR.out,HU.out]at SB;have bf:=hid aa;have GF:=hid gF;have VF:=hid vF;clear aa gF vF q
   go_wp2_with fail
   refine(SB.out).mono ?_;rintro e w5⟨tv,TL,rfl,⟨gT,vT⟩,ab,m⟩;have di:=m.size;obtain⟨a6,tc,rfl,_⟩:=ab.shape;have B:WhoAt w5 (x/y) (.agg #[.bool I,.slice fo FL.length fc]):=uL ((bf.out.cJ (C4 _)).below m) GF.out (by rw[VF.out,S.out];omega) (by rw[S.out];symm;simp;omega)
   have C:WhoAt w5 (x%y) (.agg #[.bool J,.slice a6 TL.length tc]):=by
    have h1:=be.out;have h2:=bg.out;have h3:=ap.out;rw[S.out,B7,B9,B8]at h1;have h5:=VR.out;refine uL (ab.cJ (C4 _)) gT (by rw[vT];omega) (by symm;simp;omega)
   have j:=(H2.out.trans (o.out.mono H2.out.size)).trans (m.mono (show w1.heap.size<=w4.heap.size by omega));have D:=(an.out.trans (o.out.mono (show w.heap.size<=P.heap.size by omega))).trans (m.mono (show w.heap.size<=w4.heap.size by omega));have c:=cY O K2.out j;have d:=cY O K3.out j;obtain⟨s0,s1⟩:=fD c rfl rfl;obtain⟨s2,s3⟩:=fD d rfl rfl;have F:=Lx c d B C D O;have r0:=F.f0;have r1:=F.f1;have r2:=F.f2;have r3:=F.f3;have q0:=F.c0;have q1:=F.c1;have q2:=F.c2;have q3:=F.c3;have FA:=hid F.a;have FY:=hid F.b;have FB:=hid F.below;clear F B C D c d j;clear gT vT ab m
   go_wp2_with fail
   refine bodyPost_ret (v:=.tuple #[.agg #[.bool I,.slice fo FL.length fc],.agg #[.bool J,.slice a6 TL.length tc]]) (by simp[results,results114,go_sem,q0,q1,q2,q3]) rfl ⟨_,_,rfl,FA.out,FY.out,FB.out⟩
 .rw[decide_eq_false az]
  go_in
  go_wp2_with fail
  refine(SG.out _ (Ob w _ _ _ _)).mono ?_;rintro e w1⟨rfl,f⟩;have ag:=f.size;rw[El]at ag;have B1:=(Ob w _ _ _ _).trans (f.mono (Ob w _ _ _ _).size);have k0:=cY (by rw[El];omega) (aKP _ _ _ _ _) f;have k1:=cY (by rw[El];omega) (aKQ _ _ _ _ _) f;have K2:=hid (cY (by rw[El];omega) (aKR _ _ _ _ _) f);have K3:=hid (cY (by rw[El];omega) (aKS _ _ _ _ _) f);obtain⟨y0,y1⟩:=fD k0 rfl rfl;obtain⟨y2,y3⟩:=fD k1 rfl rfl;have DD:=hid (DL.out w1 B1);have k:=hid B1;clear f SG
  go_wp2_with fail
  refine(DD.out).mono ?_;rintro e P⟨qv,rv,Q,R,rfl,A,hR,T,U,M,N,g⟩;have bp:=g.size;obtain⟨qo,qc,rfl,_⟩:=A.shape;obtain⟨ro,rc,rfl,_⟩:=hR.shape;have z0:=(g.cell (p:=⟨w.heap.size,0,X⟩) (by simp only;omega)).trans y0;have D:=k.out.trans (g.mono k.out.size);have j:=g;rw[show((x.natAbs:Nat):Int)=x by omega]at M N;have ax:0<=x/y:=r5 O O;have ay:0<=x%y:=q8 _ O;have B:WhoAt P (x/y) (.agg #[.bool J,.slice qo Q.length qc]):=uL A T (by rw[M];omega) (by symm;simp;omega);have C:WhoAt P (x%y) (.agg #[.bool J,.slice ro R.length rc]):=uL hR U (by rw[N];omega) (by symm;simp;omega);have c:=cY O K2.out j;have d:=cY O K3.out j;obtain⟨s0,s1⟩:=fD c rfl rfl;obtain⟨s2,s3⟩:=fD d rfl rfl;have F:=Lx c d B C D O;have r0:=F.f0;have r1:=F.f1;have r2:=F.f2;have r3:=F.f3;have q0:=F.c0;have q1:=F.c1;have q2:=F.c2;have q3:=F.c3;have FA:=hid F.a;have FY:=hid F.b;have FB:=hid F.below;clear F B C D c d j
  go_wp2_with fail
  refine bodyPost_ret (v:=.tuple #[.agg #[.bool J,.slice qo Q.length qc],.agg #[.bool J,.slice ro R.length rc]]) (by simp[results,results114,go_sem,q0,q1,q2,q3]) rfl ⟨_,_,rfl,FA.out,FY.out,FB.out⟩
structure Av (w:World) (A B C p q:Nat):Prop where
 p:∃ao n c,w.heap[A]?=Y (.cells #[.bool J,.slice ao n c] 125 (0,0))/\WhoAt w p (.agg #[.bool J,.slice ao n c])
 q:∃ao n c,w.heap[B]?=Y (.cells #[.bool J,.slice ao n c] 125 (0,0))/\WhoAt w q (.agg #[.bool J,.slice ao n c])
 r:w.heap[C]?=Y (.cells #[.bool J,.slice X 0 0] 125 (0,0))
def nJ (w:World)(A B n x y a:Nat)(wr:World):Prop:=
 ∃p q:Nat,a=q/\Av wr A B (w.heap.size+2) p q/\C8 p q=C8 x y/\p<2^n/\q<2^n/\Below w.heap.size w wr
theorem Av.alloc {w:World}{A k C p q:Nat}(h:Av w A k C p q)(o:Obj):Av (w.alloc o) A k C p q:=by
 obtain⟨⟨d,c,b,k0,a⟩,⟨g,f,e,k1,n1⟩,k2⟩:=h;exact⟨⟨d,c,b,yS o k0,a.alloc o⟩,⟨g,f,e,yS o k1,n1.alloc o⟩,yS o k2⟩
variable {n:Nat}
theorem aEe {s:World}{r N a:Nat}(h:nJ v w k n r N a s)(o:Obj):nJ v w k n r N a (s.alloc o):=by
 obtain⟨p,q,c,d,e,f,g,b⟩:=h;exact⟨p,q,c,d.alloc o,e,f,g,aU b b.size o⟩
theorem aRt {s:World}{ax ay gk Q R:Nat}{x c:Value}{d ro:Option Addr}{b a rn e:Nat}(m:s.heap[w]?=Y (.cells #[.bool J,x] 125 (0,0)))(o:s.heap[k]?=Y (.cells #[.bool J,c] 125 (0,0)))(r:s.heap[v.heap.size+2]?=Y (.cells #[.bool J,.slice X 0 0] 125 (0,0)))
  (t:v.heap.size+2<w) (u:w<k) (j:WhoAt s Q (.agg #[.bool J,.slice d b a])) (l:WhoAt s R (.agg #[.bool J,.slice ro rn e])) (g:Below v.heap.size v s) (i:gk=R) (h:C8 Q R=C8 ax ay) (f:Q<2^n) (br:R<2^n):
  nJ v w k n ax ay gk ((((s.setCell ⟨w,0,X⟩ (.bool J)).setCell ⟨w,1,X⟩ (.slice d b a)).setCell ⟨k,0,X⟩ (.bool J)).setCell ⟨k,1,X⟩ (.slice ro rn e)):=by
 have S:=Hp (U:=(s.setCell ⟨w,0,X⟩ (.bool J)).setCell ⟨w,1,X⟩ (.slice d b a)) rfl m;have T:=Hp (p:=.bool J) (q:=.slice ro rn e) rfl ((S.oth k O).trans o);exact⟨Q,R,i,⟨⟨_,_,_,(T.oth _ O).trans S.blk,T.num _ _ (S.num _ _ j)⟩,⟨_,_,_,T.blk,T.num _ _ (S.num _ _ l)⟩,(T.oth _ O).trans ((S.oth _ O).trans r)⟩,h,f,br,T.below _ _ (S.below _ _ g O) O⟩
theorem aOH {q:Nat}{x N:Nat}(h:C8 p q=C8 x N)(b:0<q)(c:q<2^n):C8 q (p%q)=C8 x N/\p%q<2^n/\p%q<q:=by
 have a:=Nat.mod_lt p b;refine⟨?_,O,a⟩;rw[<-h,C9 q,<-Nat.gcd_rec,C9]
theorem aJF (w:World)(x y:Int)(na nb:Bool)(ao bo:Option Addr)(la lb z u n:Nat)(hx:WhoAt w x (.agg #[.bool na,.slice ao la z]))(hy:WhoAt w y (.agg #[.bool nb,.slice bo lb u]))(bx:x.natAbs<2^n)(bY:y.natAbs<2^n)(hn:n<=1000000000):
  Calls prog 140 #[.agg #[.bool na,.slice ao la z],.agg #[.bool nb,.slice bo lb u]] w (cN w (C8 x.natAbs y.natAbs:Nat)):=by
 have HY:=hid hy;have BX:=hid bx;have BY:=hid bY;have t:=oX w (.bool na) (.slice ao la z) (.bool nb) (.slice bo lb u);have A1:=hid (aGm _ x _ (hx.below t));have L:=hid t;clear hx hy bx bY t
 go_in
 go_wp2_with fail
 refine(A1.out).mono ?_;rintro e d⟨v1,rfl,A,h⟩;have aq:=h.size;rw[zW]at aq;have k1:=cY (by rw[zW];omega) (Nz _ _ _ _ _) h;have K2:=hid (cY (by rw[zW];omega) (Em _ _ _ _ _) h);obtain⟨S,o1,c1,rfl,_⟩:=A.open;rw[decide_eq_false (show¬((x.natAbs:Nat):Int)<0 by omega)]at*;obtain⟨z2,z3⟩:=fD k1 rfl rfl;have B1:=hid (L.out.trans (h.mono L.out.size));have P:=hid A
 have l1:w.heap.size+1<d.heap.size:=O
 have A2:=hid (aGm (d.alloc (.cells #[.bool J,.slice o1 S.length c1] 125)) y _ ((HY.out.below B1.out).alloc _));clear h k1 A A1
 go_wp2_with fail
 refine(A2.out).mono ?_;rintro e g⟨v3,rfl,B,f⟩;have ar:=f.size;rw[D0]at ar;obtain⟨d3,o3,c3,rfl,_⟩:=B.open;rw[decide_eq_false (show¬((y.natAbs:Nat):Int)<0 by omega)]at*;have KA:=hid (cY (by rw[D0];omega) (yR d (.cells #[.bool J,.slice o1 S.length c1] 125)) f);have KC:=hid (cY (by rw[D0];omega) (yS (.cells #[.bool J,.slice o1 S.length c1] 125) K2.out) f);have NA:=hid ((P.out.alloc (.cells #[.bool J,.slice o1 S.length c1] 125)).below f);have B3:=hid ((aU B1.out O (.cells #[.bool J,.slice o1 S.length c1] 125)).trans (f.mono (by rw[D0];omega)))
 have GA:Hid (Av (g.alloc (.cells #[.bool J,.slice o3 d3.length c3] 125)) d.heap.size g.heap.size (w.heap.size+2) x.natAbs y.natAbs):=⟨⟨_,_,_,yS _ KA.out,NA.out.alloc _⟩,⟨_,_,_,yR g _,B.alloc _⟩,yS _ KC.out⟩
 have B4:=hid (aU B3.out O (.cells #[.bool J,.slice o3 d3.length c3] 125))
 have ap:d.heap.size<g.heap.size:=O
 clear B f A2 KA KC NA P K2
 go_wp2_with fail
 go_loopg [] y.natAbs (λgk wr=>nJ w d.heap.size g.heap.size n x.natAbs y.natAbs gk wr)
 case atStart=>exact⟨x.natAbs,y.natAbs,rfl,GA.out,rfl,BX.out,BY.out,B4.out⟩
 case round=>
  obtain⟨p,q,T,hG,m,bp,bq,C⟩:=hrel;have ai:=hid T;clear T;obtain⟨⟨po,pn,pc,j,W⟩,⟨qo,qn,qc,k,D⟩,U⟩:=hG;have hs:=C.size;have be:=cZ j;have bf:=cZ k;obtain⟨x0,x1⟩:=fD j rfl rfl;obtain⟨x2,x3⟩:=fD k rfl rfl;have R:=hid (aGl wr q _ D);have r:=hid j;have N:=hid k;have s:=hid U;have HP:=hid W;have HQ:=hid D;have M:=hid C;clear j k U W D C GA B4
  by_cases hq:q=0
  .subst hq;have hc:Nm.cmp ((0:Nat):Int) 0=0:=jQ rfl;rw[hc]at R
   go_wp2_with fail
   refine(R.out).mono ?_;rintro e w5⟨rfl,a⟩;have au:=a.size;have k0:=cY O r.out a;have c:=cY O s.out a;obtain⟨u0,u1⟩:=fD k0 rfl rfl;have F:=vU c (HP.out.below a) (M.out.trans (a.mono M.out.size)) O;obtain⟨r0,r1⟩:=qF c;obtain⟨s0,s1⟩:=fD c rfl rfl;have q0:=F.c0;have q1:=F.c1;have FN:=hid F.num;have FB:=hid F.below;clear F k0 c a
   go_wp2_with fail
   refine bodyPost_ret (v:=.agg #[.bool J,.slice po pn pc]) (by simp[results,results140,go_sem,q0,q1]) rfl ⟨_,rfl,?_,FB.out⟩;rw[<-m,Nat.gcd_zero_right];exact FN.out
  .have hc:Nm.cmp (q:Int) 0=1:=gW O;rw[hc]at R;obtain⟨e1,e2,e3⟩:=aOH m O bq;have af:=hid e1;have ag:=hid e2;have ah:=hid e3;clear e1 e2 e3
   go_wp2_with fail
   refine(R.out).mono ?_;rintro e w5⟨rfl,a⟩;have au:=a.size;have k0:=cY O r.out a;have k1:=cY O N.out a;have k2:=cY O s.out a;obtain⟨u0,u1⟩:=fD k0 rfl rfl;obtain⟨u2,u3⟩:=fD k1 rfl rfl;have DV:=hid (aFK w5 p q _ _ n (HP.out.below a) (HQ.out.below a) (by simpa using bp) (by simpa using bq) hn O);have NQ:=hid (HQ.out.below a);have B5:=hid (M.out.trans (a.mono M.out.size));have K0:=hid k0;have K1:=hid k1;have K2:=hid k2;clear k0 k1 k2 a R r N s HP HQ M x0 x1 x2 x3
   go_wp2_with fail
   refine(DV.out).mono ?_;rintro e i⟨qv,rv,rfl,aa,l,b⟩;have b6:=b.size;obtain⟨d6,o6,c6,rfl,_⟩:=aa.open;obtain⟨d7,o7,c7,rfl,_⟩:=l.open
   have o:((p:Int)%(q:Int))=((p%q:Nat):Int):=by rw[Int.natCast_emod]
   rw[o]at l ⊢;rw[decide_eq_false (show¬(((p%q:Nat):Int))<0 by omega)]at*;have k0:=cY O K0.out b;have k1:=cY O K1.out b;have k2:=cY O K2.out b;obtain⟨t2,t3⟩:=fD k1 rfl rfl;obtain⟨t0,t1,f0,f1⟩:=cf2 k0 rfl rfl;obtain⟨f2,f3⟩:=qF k1
   have lA:d.heap.size<i.heap.size:=O
   have lB:g.heap.size<i.heap.size:=O
   have cd:¬(d.heap.size=g.heap.size):=O
   have cg:¬(g.heap.size=d.heap.size):=O
   have cb:¬(d.heap.size=i.heap.size):=O
   have cc:¬(d.heap.size=i.heap.size+1):=O
   have ce:¬(g.heap.size=i.heap.size):=O
   have cf:¬(g.heap.size=i.heap.size+1):=O
   have b7:¬(i.heap.size=d.heap.size):=O
   have b9:¬(i.heap.size+1=d.heap.size):=O
   have b8:¬(i.heap.size=g.heap.size):=O
   have ca:¬(i.heap.size+1=g.heap.size):=O
   have ae:=hid (λgk hk=>aRt (n:=n) (ax:=x.natAbs) (ay:=y.natAbs) (gk:=gk) k0 k1 k2 (show w.heap.size+2<d.heap.size by omega) ap (NQ.out.below b) l (B5.out.trans (b.mono O)) hk af.out bq ag.out);clear k0 k1 k2 b aa l o DV
   go_wp2_with fail
   go_roundg (p%q)
   case measure=>have:=ai.out;have:=ah.out;omega
   case rel=>exact aEe (aEe (ae.out _ rfl) _) _
theorem aMo (w:World)(x y:Int)(u v:Value)(n:Nat)(c:WhoAt w x u)(d:WhoAt w y v)(g:x.natAbs<2^n)(e:y.natAbs<2^n)(i:n<=1000000000):Calls prog 140 #[u,v] w (cN w (C8 x.natAbs y.natAbs:Nat)):=by
 obtain⟨a,j,h,rfl,_⟩:=c.open;obtain⟨b,k,f,rfl,_⟩:=d.open;exact aJF w x y _ _ _ _ _ _ _ _ n c d g e i
def Nm.bl (z:Int):Nat:=if z=0 then 0 else Nat.log2 z.natAbs+1
theorem Nm.aXH {n:Int}(g:1<=k)(e:(2:Int)^(k-1)<=n)(f:n<2^k):Nm.bl n=k:=by
 have h:(0:Int)<2^(k-1):=nF E3 _
 have b:n≠0:=O
 unfold Nm.bl;rw[if_neg b]
 have e1:2^(k-1)<=n.natAbs:=by
  grind
 have e2:n.natAbs<2^k:=by
  grind
 have a:n.natAbs≠0:=O
 have c:=(Nat.le_log2 a).2 e1;have d:=(Nat.log2_lt a).2 e2;omega
theorem aWe {d:Int}(a:bZ 4294967296 r)(hc:1<=c)(b:(2:Int)^(c-1)<=d)(f:d<2^c):Nm.bl (Nm.val 4294967296 (r++[d]))=32*r.length+c:=by
 have lo:=oY E3 a;have hi:=vC E3 a;rw[Ev]
 have e:(4294967296:Int)^r.length=2^(32*r.length):=by rw[u6];rfl
 rw[e]at hi ⊢;refine Nm.aXH O ?_ ?_
 .have:2^(c-1)*(2:Int)^(32*r.length)<=d*2^(32*r.length):=A0 b O;rw[<-s8]at this;grind
 .have:(d+1)*(2:Int)^(32*r.length)<=2^c*2^(32*r.length):=A0 O O;grind
theorem aOL (a:b=x/2^c):b/2=x/2^(c+1):=by
 rw[a,z8,u7 (u9 (nF E3 _))]
theorem aMj (w:World)(a:LB)(v:Value)(i:Lims w a v)(n:a.length<=10000000000)(m:Nm.Good 4294967296 a):
  Calls prog 198 #[v] w λe M=>e=.returned (.int .i64 (Nm.bl (Nm.val 4294967296 a)))/\M=w:=by
 obtain⟨P,z,rfl,_⟩:=i.shape
 rcases aEI m with rfl|⟨r,d,rfl,L,R,A⟩
 .have e:Nm.bl (Nm.val 4294967296 [])=0:=rfl;rw[e];clear i m;simp
  go_in
  go_wp2_with fail
  go_ret
  exact⟨rfl,rfl⟩
 .obtain⟨g,rfl,hc⟩:=i.place E4
  have q:(r++[d]).length=r.length+1:=E4
  have N:=hc r.length E4
  have e1:Nm.at' (r++[d]) r.length=d:=by unfold Nm.at';simp
  rw[e1]at N;rw[q]at n ⊢;have l0:(((r.length+1:Nat):Int)==0)=J:=beq_eq_false_iff_ne.2 O
  have U:(((r.length+1:Nat):Int)-1).toNat=r.length:=O
  have W:((r.length+1:Nat):Int)-1=r.length:=O
  have j:=hid (λ(c:Nat) (B:1<=c) h1 p=>aWe (d:=d) L B h1 p);clear i hc m q
  go_in
  go_wp2_with fail
  go_loop [3,4] (λl t=>∃(c:Nat) (T:Int),l=.int .i64 ((32*r.length+c:Nat):Int)/\t=.int .u32 T/\0<=T/\T<4294967296/\T=d/2^c/\(c=0\/(2:Int)^(c-1)<=d)/\c<=32) (λ_ t=>(intOf t).toNat)
  case atStart=>exact⟨0,d,by simp;try omega,rfl,O,A,E4,Or.inl rfl,O⟩
  case round=>
   obtain⟨c,T,rfl,rfl,t0,t3,s,u,hc⟩:=hrel;have k:=hid s;have y:=hid u;clear s u
   by_cases h:0<T
   .have f:(2:Int)^c<=d:=by
     have h1:1<=d/2^c:=by rw[<-k.out];omega
     have:=(C0 (nF E3 c)).1 h1;omega
    have D:c<32:=by
     rcases C6 c 32 with h1|h1
     .exact h1
     .have p:(2:Int)^32<=2^c:=sP E3 h1;have S:(2:Int)^32=4294967296:=rfl;omega
    have x:=hid f;clear f
    go_wp2_with fail
    go_round
    case rel=>exact⟨c+1,T/2,by simp;omega,rfl,O,O,aOL k.out,Or.inr (by simpa using x.out),O⟩
    case measure=>simp[intOf];omega
   .have C:d/2^c=0:=by rw[<-k.out];omega
    have hd:d<2^c:=by
     have F:(0:Int)<2^c:=nF E3 c
     rcases A8 d (2^c)with h1|h1
     .exact h1
     .have:(1:Int)<=d/2^c:=(C0 F).2 O;omega
    have o:1<=c:=by
     rcases C7 c with rfl|h1
     .simp at hd;omega
     .exact h1
    have b:(2:Int)^(c-1)<=d:=by
     rcases y.out with h1|h1
     .omega
     .exact h1
    go_wp2_with fail
    go_ret
    exact⟨by rw[(hid (j.out c o b hd)).out];rfl,rfl⟩
end Go.Proofs.YtnlddnbfoehboaaGreatDoor
