import Derived.Test.YtpdflaaamaokbaaGreatDoorCCh19
import Derived.Test.YtpdflaaamaokbaaGreatDoorCCh18
import Derived.Test.YtpdflaaamaokbaaGreatDoorCCh21
import Derived.Deep.Slices
import Derived.ChangeSame
import Derived.ProofKit
import Derived.OpenShut
set_option linter.all false
set_option maxRecDepth 100000
set_option maxHeartbeats 2000000
namespace Go.Proofs.YtpdflaaamaokbaaGreatDoor
open List renaming setIfInBounds_toArray->j8,set_cons_zero->j9,set_cons_succ->k8,length_cons->k9,length_nil->l4,length_append->l5,getElem?_eq_some_iff->l7,getElem_mem->l8,range->l9
open Nat renaming le_refl->n4,zero_add->n5,reduceAdd->n6,lt_of_lt_of_le->n7,zero_le->n8,add_assoc->n9
open Or renaming inr->o8
open Int renaming tdiv_mul_add_tmod->o9,tmod_lt_of_pos->p7,neg_tmod->p8,le_refl->p9,lt_or_le->q7
open Go.DataW renaming trod->q8,trod_int->q9
open Go.World renaming alloc->s4,ownsRow_nil->s8
open Go.Proofs.Tryz
open Go.RowKit
def Qn (w:World)(bl:NU)(i:Value)(wr:World):Prop:=∃j:Nat,j<=16/\i=.int .i64 j/\SW w.heap.size w bl wr
theorem aVz (x y z:Nat):[99,102,91]++Rd.dec (x:Int)++[59,32]++Rd.dec (y:Int)++[44,32]++Rd.dec (z:Int)++[93]=Rd.dZ [(x:Int),y,z]:=by
 show _=(([99,102,91]++([]++Rd.dec (x:Int)))++([59,32]++Rd.dec (y:Int)))++([44,32]++Rd.dec (z:Int))++[93];simp
def ConstTxt (l:ON):Prop:=l=[112,105]\/l=[101]\/∃x y z:Nat,x<5/\1<=y/\y<=6/\1<=z/\z<=9/\l=Rd.dZ [(x:Int),y,z]
theorem aGy (a b:Int)(w:World)(hn:pickI a 4=0\/pickI a 4=1)(u:-9223372036854775808<=a)(z:a<=9223372036854775807):
  Calls prog 17 #[.int .i64 a,.int .i64 b] w λe A=>∃l,ConstTxt l/\sB w l e A:=by
 have o:=aC (λw=>xG a 4 w u z (by decide) (by decide));have O:=aC (λx y w=>xJ x y w)
 rcases hn with hn|hn
 all_goals
  rw[hn]at o
  go_enter func17,ntmps17
  go_wp2_with fail
  refine(o.out _).mono ?_;rintro e I⟨rfl,rfl⟩
  go_wp2_with fail
  refine lK (λW=>Below w.heap.size w W/\W.heap[w.heap.size]?=some (cO 0 0 false)) ⟨(Below.refl _ _).alloc (n4 _) _,jN _ _⟩ ?_;rintro W⟨i,g⟩;refine((O.out _ _ _).mono (λ_ _ h=>cM.sp (by decide) h)).mono ?_;rintro e J⟨j,p1,k,rfl,n,p⟩;obtain⟨E,F,H,B,C,D,Q,d⟩:=iO i g p (n4 _) j p1 k;have f:=aC n;clear p i g
  go_wp2_with fail
  obtain⟨q,r,s⟩:=Q.out
 .exact bodyPost_ret (v:=.tuple #[.string ⟨#[112,105]⟩,sv j p1 k]) (by simp[results,results17,go_sem,q,r,s]) rfl ⟨_,Or.inl rfl,_,_,_,_,rfl,dH.mk' [112,105],f.out,d.out⟩
 .exact bodyPost_ret (v:=.tuple #[.string ⟨#[101]⟩,sv j p1 k]) (by simp[results,results17,go_sem,q,r,s]) rfl ⟨_,o8 (Or.inl rfl),_,_,_,_,rfl,dH.mk' [101],f.out,d.out⟩
theorem aFL (a b:Int)(w:World)(p:Nat)(S:pickI a 4=p)(hp:2<=p)(h0:-9223372036854775808<=a)(h1:a<=9223372036854775807)(h2:-9223372036854775808<=b)(h3:b<=9223372036854775807):
  Calls prog 17 #[.int .i64 a,.int .i64 b] w λe H=>∃x y z:Nat,x<5/\1<=y/\y<=6/\1<=z/\z<=9/\sB w (Rd.dZ [(x:Int),y,z]) e H:=by
 have E:=aC (λw=>xG a 4 w h0 h1 (by decide) (by decide));rw[S]at E;have hx:=yP b 5 (by decide);have J:=aC (λw=>xG b 5 w h2 h3 (by decide) (by decide));have hy:=yP (a.tdiv 4) 6 (by decide);have hz:=yP (b.tdiv 5) 9 (by decide)
 have l:-9223372036854775808<=a.tdiv 4/\a.tdiv 4<=9223372036854775807:=by
  have:=o9 a 4;have:=p7 a (show(0:Int)<4 by decide)
  have h4:-4<a.tmod 4:=by
   have:=p7 (-a) (show(0:Int)<4 by decide);rw[p8]at this;omega
  omega
 have o:-9223372036854775808<=b.tdiv 5/\b.tdiv 5<=9223372036854775807:=by
  have:=o9 b 5;have:=p7 b (show(0:Int)<5 by decide)
  have h4:-5<b.tmod 5:=by
   have:=p7 (-b) (show(0:Int)<5 by decide);rw[p8]at this;omega
  omega
 have L:=aC (λw=>xG (a.tdiv 4) 6 w l.1 l.2 (by decide) (by decide));have M:=aC (λw=>xG (b.tdiv 5) 9 w o.1 o.2 (by decide) (by decide));clear S;generalize pickI b 5=x at*;generalize pickI (a.tdiv 4) 6=y at*;generalize pickI (b.tdiv 5) 9=z at*;have O:=aC (λx y w=>xJ x y w);have l1:(Rd.dec (x:Int)).length<=9:=Rd.xA ⟨by omega,by omega⟩;have l2:(Rd.dec ((1+y:Nat):Int)).length<=9:=Rd.xA ⟨by omega,by omega⟩;have l3:(Rd.dec ((1+z:Nat):Int)).length<=9:=Rd.xA ⟨by omega,by omega⟩
 have p0:¬(p:Int)=0:=by omega
 have p1:¬(p:Int)=1:=by omega
 go_enter func17,ntmps17
 go_wp2_with fail
 refine(E.out _).mono ?_;rintro e I⟨rfl,rfl⟩
 go_wp2_with fail
 refine(J.out _).mono ?_;rintro e I⟨rfl,rfl⟩
 go_wp2_with fail
 refine(L.out _).mono ?_;rintro e I⟨rfl,rfl⟩
 go_wp2_with fail
 refine(M.out _).mono ?_;rintro e I⟨rfl,rfl⟩
 go_wp2_with fail
 refine lK (λW=>SW w.heap.size w [w.heap.size] W) (SW.new ⟨⟨n4 _,Below.refl _ _⟩,λb h=>by cases h⟩ false SpOk.zero) ?_;rintro W f;refine((O.out _ _ _).mono (λ_ _ h=>cM.sp (by decide) h)).mono ?_;rintro e w2⟨t0,t1,t2,rfl,T,k⟩
 go_wp2_with fail
 have g:=aC ((f.below k).new t2 T);clear f k T E J L M;generalize w2.alloc _=W2 at*;generalize w2.heap.size=bs at*;rw[show(1:Int)+(y:Int)=((1+y:Nat):Int) by omega,show(1:Int)+(z:Int)=((1+z:Nat):Int) by omega]
 have r:1<=1+y/\1+y<=6:=by omega
 have s:1<=1+z/\1+z<=9:=by omega
 generalize 1+y=Y at*;generalize 1+z=Z at*
 go_loopw [10] (λi wr=>Qn w [bs,w.heap.size] i wr) (λi _=>16-(intOf i).toNat)
 case atStart=>exact⟨0,by omega,rfl,g.out⟩
 case round=>
  obtain⟨j,hj,rfl,f⟩:=hrel;have C:=aC f;clear f g
  by_cases hl:j<16
  .have al:(j:Int)<16:=by omega
   go_wp2_with fail
   refine pW (B:=w.heap.size) (w0:=w) [.mv (.int .i64 (Y:Int)),.mv (.int .i64 (IntKind.i64.wrap ((Y:Int)*1048576))),.ca 15,.mv (.int .i64 (Z:Int)),.mv (.int .i64 (IntKind.i64.wrap ((Z:Int)*1048576))),.ca 15,.ld 9 bs,.ca 36,.ca 35,.ca 36,.ca 35,.st 9 bs] [bs,w.heap.size] C.out (by kernel_rfl) (by kernel_rfl) ?_ ?_
   .intro i h a H K A N
    match i,h with
    |0,_=>exact sS A N 7 rfl rfl rfl (by kernel_rfl) rfl
    |1,_=>exact Jn A N 0 rfl rfl rfl (by kernel_rfl) rfl
    |2,_=>exact bV A N [some 1] rfl rfl rfl rfl (by kernel_rfl) ePt (cPt _)
    |3,_=>exact sS A N 8 rfl rfl rfl (by kernel_rfl) rfl
    |4,_=>exact Jn A N 3 rfl rfl rfl (by kernel_rfl) rfl
    |5,_=>exact bV A N [some 4] rfl rfl rfl rfl (by kernel_rfl) ePt (cPt _)
    |6,_=>exact iQ A N 9 bs rfl rfl rfl (by kernel_rfl) rfl (by simp)
    |7,_=>exact bV A N [some 6] rfl rfl rfl rfl (by kernel_rfl) qC pZ
    |8,_=>exact bV A N [some 5,some 7] rfl rfl rfl rfl (by kernel_rfl) kJ kH
    |9,_=>exact bV A N [some 8] rfl rfl rfl rfl (by kernel_rfl) qC pZ
    |10,_=>exact bV A N [some 2,some 9] rfl rfl rfl rfl (by kernel_rfl) kJ kH
    |11,_=>exact jG A N 9 bs 44 10 rfl rfl rfl (by kernel_rfl) rfl (by simp) (by kernel_rfl) (λ_ h=>h)
    |n+12,h=>exact absurd h (by simp)
   .intro vs w6 d _;have D:=aC d;clear d C;simp only[cA,dl,j8,j9,k8,n5,n6]
    go_wp2_with fail
    go_roundw
    case rel=>exact⟨j+1,by omega,by go_num,D.out⟩
    case measure=>simp[intOf];omega
  .obtain rfl:j=16:=by omega
   go_wp2_with fail
   refine pW (B:=w.heap.size) (w0:=w) [.mv (.int .i64 (x:Int)),.tx (Rd.dec (x:Int)),.tx ([99,102,91]++Rd.dec (x:Int)),.tx ([99,102,91]++Rd.dec (x:Int)++[59,32]),.mv (.int .i64 (Y:Int)),.tx (Rd.dec (Y:Int)),.tx ([99,102,91]++Rd.dec (x:Int)++[59,32]++Rd.dec (Y:Int)),.tx ([99,102,91]++Rd.dec (x:Int)++[59,32]++Rd.dec (Y:Int)++[44,32]),.mv (.int .i64 (Z:Int)),.tx (Rd.dec (Z:Int)),.tx ([99,102,91]++Rd.dec (x:Int)++[59,32]++Rd.dec (Y:Int)++[44,32]++Rd.dec (Z:Int)),.tx ([99,102,91]++Rd.dec (x:Int)++[59,32]++Rd.dec (Y:Int)++[44,32]++Rd.dec (Z:Int)++[93]),.mv (.int .i64 (x:Int)),.mv (.int .i64 (IntKind.i64.wrap ((x:Int)*1048576))),.ca 15,.ld 9 bs,.ca 36,.ca 35,.tx ([99,102,91]++Rd.dec (x:Int)++[59,32]++Rd.dec (Y:Int)++[44,32]++Rd.dec (Z:Int)++[93]),.st 5 w.heap.size] [bs,w.heap.size] C.out (by kernel_rfl) (by kernel_rfl) ?_ ?_
   .intro i h a H K A N
    match i,h with
    |0,_=>exact sS A N 6 rfl rfl rfl (by kernel_rfl) rfl
    |1,_=>exact Jq A N 0 rfl rfl rfl (by kernel_rfl) rfl (by omega)
    |2,_=>exact lC A N rfl rfl (iM.c _) (iM.t 1 rfl (by kernel_rfl)) rfl (by simp;omega)
    |3,_=>exact lC A N rfl rfl (iM.t 2 rfl (by kernel_rfl)) (iM.c _) rfl (by simp;omega)
    |4,_=>exact sS A N 7 rfl rfl rfl (by kernel_rfl) rfl
    |5,_=>exact Jq A N 4 rfl rfl rfl (by kernel_rfl) rfl (by omega)
    |6,_=>exact lC A N rfl rfl (iM.t 3 rfl (by kernel_rfl)) (iM.t 5 rfl (by kernel_rfl)) rfl (by simp;omega)
    |7,_=>exact lC A N rfl rfl (iM.t 6 rfl (by kernel_rfl)) (iM.c _) rfl (by simp;omega)
    |8,_=>exact sS A N 8 rfl rfl rfl (by kernel_rfl) rfl
    |9,_=>exact Jq A N 8 rfl rfl rfl (by kernel_rfl) rfl (by omega)
    |10,_=>exact lC A N rfl rfl (iM.t 7 rfl (by kernel_rfl)) (iM.t 9 rfl (by kernel_rfl)) rfl (by simp;omega)
    |11,_=>exact lC A N rfl rfl (iM.t 10 rfl (by kernel_rfl)) (iM.c _) rfl (by simp;omega)
    |12,_=>exact sS A N 6 rfl rfl rfl (by kernel_rfl) rfl
    |13,_=>exact Jn A N 12 rfl rfl rfl (by kernel_rfl) rfl
    |14,_=>exact bV A N [some 13] rfl rfl rfl rfl (by kernel_rfl) ePt (cPt _)
    |15,_=>exact iQ A N 9 bs rfl rfl rfl (by kernel_rfl) rfl (by simp)
    |16,_=>exact bV A N [some 15] rfl rfl rfl rfl (by kernel_rfl) qC pZ
    |17,_=>exact bV A N [some 14,some 16] rfl rfl rfl rfl (by kernel_rfl) kJ kH
    |18,_=>exact Ei A N 11 rfl rfl rfl (by kernel_rfl) rfl
    |19,_=>exact jG A N 5 w.heap.size 62 17 rfl rfl rfl (by kernel_rfl) rfl (by simp) (by kernel_rfl) (λ_ h=>h)
    |n+20,h=>exact absurd h (by simp)
   .intro vs w6 d P;obtain⟨u,hu,q⟩:∃u,vs 18=.string u/\dH u _:=P 18 _ _ rfl rfl;simp only[cA,dl,j8,j9,k8,n5,n6,hu];obtain⟨_,U,X,r',F,R⟩:=d.2 w.heap.size (by simp);obtain⟨c0,c1,c2⟩:=qP R rfl rfl rfl;have HB:=aC d.1.2;have HU:=aC q;clear d R P q
    go_wp2_with fail
    refine bodyPost_ret (v:=.tuple #[.string u,sv U X r']) (by simp[results,results17,go_sem,c0,c1,c2]) rfl ?_;exact⟨x,Y,Z,hx,r.1,r.2,s.1,s.2,u,U,X,r',rfl,HU.out.to (aVz x Y Z),F,HB.out⟩
theorem aH9 (a b:Int)(w:World)(d:-9223372036854775808<=a)(f:a<=9223372036854775807)(h:-9223372036854775808<=b)(i:b<=9223372036854775807):
  Calls prog 17 #[.int .i64 a,.int .i64 b] w λe k=>∃l,ConstTxt l/\sB w l e k:=by
 have j:=yP a 4 (by decide)
 have hc:pickI a 4=0\/pickI a 4=1\/pickI a 4=2\/pickI a 4=3:=by omega
 rcases hc with hn|hn|hn|hn
 .exact aGy a b w (Or.inl hn) d f
 .exact aGy a b w (o8 hn) d f
 .exact(aFL a b w 2 hn (by decide) d f h i).mono (λ_ _ ⟨x,y,z,p1,g,p3,p4,p5,p6⟩=>⟨_,o8 (o8 ⟨x,y,z,p1,g,p3,p4,p5,rfl⟩),p6⟩)
 .exact(aFL a b w 3 hn (by decide) d f h i).mono (λ_ _ ⟨x,y,z,p1,g,p3,p4,p5,p6⟩=>⟨_,o8 (o8 ⟨x,y,z,p1,g,p3,p4,p5,rfl⟩),p6⟩)
def Iq (w:World)(bl:NU)(i:Value)(wr:World):Prop:=∃k:Nat,1<=k/\k<=10/\i=.int .i64 k/\SW w.heap.size w bl wr
def Ed (w:World)(bl:NU)(i:Value)(wr:World):Prop:=∃k:Nat,k<=4/\i=.int .i64 k/\SW w.heap.size w bl wr
theorem aIm (n:Int)(w:World)(h0:-7340032<=n)(h1:n<=7340032):Calls prog 56 #[.int .i64 n] w (aU w):=by
 have F:=aC (λw=>Oc n 16 w (by omega) (by omega) (by omega) (by omega));have G:=aC (λw=>Uu n 16 w (by omega) (by omega) (by omega) (by omega));have ae:=aC (Ht (a:=n) (b:=n) (c:=16) (by decide) (p9 _));have O:=aC (λx y w=>xJ x y w);have M:=aC (λa b k c d m w h h'=>aJO a b k c d m w h h');have AD:=aC (λa b k c d m w h h'=>aMP a b k c d m w h h')
 go_enter func56,ntmps56
 go_wp2_with fail
 refine lK (λW=>SW w.heap.size w [w.heap.size] W) (SW.new ⟨⟨n4 _,Below.refl _ _⟩,λb h=>by cases h⟩ false SpOk.zero) ?_;rintro W l;refine(F.out _).mono ?_;rintro e w1⟨rfl,rfl⟩
 go_wp2_with fail
 refine(G.out _).mono ?_;rintro e w1⟨rfl,rfl⟩
 go_wp2_with fail
 refine((O.out _ _ _).mono (λ_ _ h=>cM.sp ae.out h)).mono ?_;rintro e w1⟨x0,x1,x2,rfl,hx,R⟩
 go_wp2_with fail
 refine lK (λV=>SW w.heap.size w [w1.heap.size,w.heap.size] V) ((l.below R).new x2 hx) ?_;clear l;rintro V l;generalize w1.heap.size=I at*;refine((O.out _ _ _).mono (λ_ _ h=>cM.sp (by decide) h)).mono ?_;rintro e w2⟨t0,t1,Y,rfl,ht,S⟩;have L:=aC (show SW w.heap.size w [w2.heap.size+1,w2.heap.size,I,w.heap.size] ((w2.alloc (.cells #[.int .i64 t0,.int .i64 t1,.bool Y] 29)).alloc (.cells #[.int .i64 t0,.int .i64 t1,.bool Y] 29)) by simpa using ((l.below S).new Y ht).new Y ht)
 go_wp2_with fail
 clear l S R hx ht F G O;generalize s4 _ (.cells #[.int .i64 t0,.int .i64 t1,.bool Y] 29)=W2 at*;generalize w2.heap.size+1=bs at*;generalize w2.heap.size=bt at*
 go_loopw [6] (λi wr=>Iq w [bs,bt,I,w.heap.size] i wr) (λi _=>10-(intOf i).toNat)
 case atStart=>exact⟨1,by omega,by omega,rfl,L.out⟩
 case round=>
  obtain⟨k,au,av,rfl,l⟩:=hrel;have E:=aC l;clear l L
  by_cases hl:k<=9
  .have ah:(k:Int)<=9:=by omega
   go_wp2_with fail
   refine pW (B:=w.heap.size) (w0:=w) [.ld 4 bt,.ld 3 I,.mv (.int .i64 (k:Int)),.ca 16,.ca 38,.ca 38,.st 4 bt] [bs,bt,I,w.heap.size] E.out (by kernel_rfl) (by kernel_rfl) ?_ ?_
   .intro i h a w' K A N
    match i,h with
    |0,_=>exact iQ A N 4 bt rfl rfl rfl (by kernel_rfl) rfl (by simp)
    |1,_=>exact iQ A N 3 I rfl rfl rfl (by kernel_rfl) rfl (by simp)
    |2,_=>exact sS A N 6 rfl rfl rfl (by kernel_rfl) rfl
    |3,_=>exact bV A N [none,some 2] rfl rfl rfl rfl (by kernel_rfl) Rc (Qm 1 k (by decide) (by decide) (by omega) (by omega))
    |4,_=>exact bV A N [some 1,some 3] rfl rfl rfl rfl (by kernel_rfl) qQ qO
    |5,_=>exact bV A N [some 0,some 4] rfl rfl rfl rfl (by kernel_rfl) qQ qO
    |6,_=>exact jG A N 4 bt 24 5 rfl rfl rfl (by kernel_rfl) rfl (by simp) (by kernel_rfl) (λ_ h=>h)
    |n+7,h=>exact absurd h (by simp)
   .intro vs w5 o _;obtain⟨J,p,q,r,f,g⟩:=o.2 bs (by simp);obtain⟨_,p',q',r',X,P⟩:=o.2 bt (by simp);obtain⟨s0,s1,s2⟩:=qP g rfl rfl rfl;obtain⟨u0,u1,u2⟩:=qP P rfl rfl rfl;have z:=aC o;have j:=aC g;clear o E P g;simp only[cA,dl,j8,j9,k8,n5,n6]
    go_wp2_with fail
    refine(AD.out _ _ _ _ _ _ _ f X).mono ?_;rintro e v5⟨a5,b5,c5,rfl,C,u⟩;have s:=(u.block _ (fJ j.out)).trans j.out;obtain⟨s0,s1,s2,f0,f1,f2⟩:=Ea s rfl rfl rfl;have H:=aC ((z.out.below u).put (r:=c5) J ⟨_,_,_,f,s⟩ C);clear u s z j
    go_wp2_with fail
    go_roundw
    case rel=>exact⟨k+1,by omega,by omega,by go_num,H.out⟩
    case measure=>simp[intOf];omega
  .have T:(k:Int)=10:=by omega
   rw[T];clear T
   go_wp2_with fail
   refine pW (B:=w.heap.size) (w0:=w) [.ld 5 bs,.ca 32,.ca 35,.st 5 bs] [bs,bt,I,w.heap.size] E.out (by kernel_rfl) (by kernel_rfl) ?_ ?_
   .intro i h a w' K A N
    match i,h with
    |0,_=>exact iQ A N 5 bs rfl rfl rfl (by kernel_rfl) rfl (by simp)
    |1,_=>exact bV A N [none,none] rfl rfl rfl rfl (by kernel_rfl) Gy (Gv _ _ (by decide))
    |2,_=>exact bV A N [some 0,some 1] rfl rfl rfl rfl (by kernel_rfl) kJ kH
    |3,_=>exact jG A N 5 bs 30 2 rfl rfl rfl (by kernel_rfl) rfl (by simp) (by kernel_rfl) (λ_ h=>h)
    |n+4,h=>exact absurd h (by simp)
   .intro vs w5 o _;have z:=aC o;clear o E;simp only[cA,dl,j8,j9,k8,n5,n6]
    go_wp2_with fail
    go_loopw [7] (λi wr=>Ed w [bs,bt,I,w.heap.size] i wr) (λi _=>4-(intOf i).toNat)
    case atStart=>exact⟨0,by omega,rfl,z.out⟩
    case round=>
     obtain⟨k,hk,rfl,l⟩:=hrel;obtain⟨J,p,q,r,f,g⟩:=l.2 bs (by simp);obtain⟨s0,s1,s2⟩:=qP g rfl rfl rfl
     by_cases hl:k<4
     .have ah:(k:Int)<4:=by omega
      have E:=aC l;have j:=aC g;clear l g z
      go_wp2_with fail
      refine(M.out _ _ _ _ _ _ _ f f).mono ?_;rintro e v5⟨a5,b5,c5,rfl,C,u⟩;have s:=(u.block _ (fJ j.out)).trans j.out;obtain⟨s0,s1,s2,f0,f1,f2⟩:=Ea s rfl rfl rfl;have H:=aC ((E.out.below u).put (r:=c5) J ⟨_,_,_,f,s⟩ C);clear u s E j
      go_wp2_with fail
      go_roundw
      case rel=>exact⟨k+1,by omega,by go_num,H.out⟩
      case measure=>simp[intOf];omega
     .obtain rfl:k=4:=by omega
      obtain⟨hr,p',q',r',U,D⟩:=l.2 w.heap.size (by simp);obtain⟨r0,r1,r2,g0,g1,g2⟩:=Ea D rfl rfl rfl;have Q:=aC (tH D p q r);have ad:=aC (l.put (r:=r) hr ⟨_,_,_,U,D⟩ f).1.2;clear l g D z
      go_wp2_with fail
      obtain⟨q0,q1,q2⟩:=Q.out;refine bodyPost_ret (v:=sv p q r) (by simp[results,results56,go_sem,q0,q1,q2]) rfl ?_;exact⟨p,q,r,rfl,f,ad.out⟩
theorem aSW (a b:Int)(k:Bool)(w:World)(h:SpOk a b):Calls prog 40 #[sv a b k] w (aU w):=by
 have T:=aC (aRN w a b k);have H:=h.le;have C:gH 56:=sG func56 rfl rfl
 by_cases hc:k=true/\¬7340032<b/\¬a < -7340032
 case pos=>
  obtain⟨rfl,p1,J⟩:=hc
  go_enter func40,ntmps40
  go_wp2_with fail
  refine pW (B:=w.heap.size+1) (w0:=xZ w a b true) [.mv (.pointer (some ⟨w.heap.size,0,none⟩)),.mv (.int .i64 a),.ca 56,.mv (.pointer (some ⟨w.heap.size,1,none⟩)),.mv (.int .i64 b),.ca 56,.ca 55,.st 2 (w.heap.size+1)] [w.heap.size+1] T.out.s (by kernel_rfl) (by kernel_rfl) ?_ ?_
  .intro i hi P w' K A N
   match i,hi with
   |0,_=>exact Jo A N 1 rfl rfl (by kernel_rfl) rfl rfl
   |1,_=>exact xW A N 0 rfl rfl rfl (by kernel_rfl) rfl (by omega) T.out.x0
   |2,_=>exact bV A N [some 1] rfl rfl rfl rfl (by kernel_rfl) C (cI λw=>aIm a w (by omega) (by omega))
   |3,_=>exact Jp A N 1 rfl rfl (by kernel_rfl) rfl rfl
   |4,_=>exact xW A N 3 rfl rfl rfl (by kernel_rfl) rfl (by omega) T.out.x1
   |5,_=>exact bV A N [some 4] rfl rfl rfl rfl (by kernel_rfl) C (cI λw=>aIm b w (by omega) (by omega))
   |6,_=>exact bV A N [some 2,some 5] rfl rfl rfl rfl (by kernel_rfl) Ae zY
   |7,_=>exact jG A N 2 (w.heap.size+1) 23 6 rfl rfl rfl (by kernel_rfl) rfl (by simp) (by kernel_rfl) (λ_ h=>h)
   |n+8,hi=>exact absurd hi (by simp)
  .intro vs w6 f _;simp only[cA,dl,j8,j9,k8,n5,n6];obtain⟨_,u,y,z,p,D⟩:=f.2 (w.heap.size+1) (by simp);obtain⟨c0,c1,c2⟩:=qP D rfl rfl rfl;have F:=aC (T.out.be.trans (f.1.2.mono (by omega)));clear f D
   go_wp2_with fail
   refine bodyPost_ret (v:=sv u y z) (by simp[results,results40,go_sem,c0,c1,c2]) rfl ?_;exact⟨u,y,z,rfl,p,F.out⟩
 case neg=>
  have q:k=false\/(k=true/\7340032<b)\/(k=true/\¬7340032<b/\a < -7340032):=by
   cases k
   .exact Or.inl rfl
   .by_cases g:7340032<b
    .exact o8 (Or.inl ⟨rfl,g⟩)
    .exact o8 (o8 ⟨rfl,g,by
      rcases q7 a (-7340032)with x|x
      .exact x
      .exact absurd ⟨rfl,g,by omega⟩ hc⟩)
  clear hc h
  rcases q with rfl|⟨rfl,p1⟩|⟨rfl,p1,J⟩
  all_goals
   go_enter func40,ntmps40
   go_wp2_with fail
   refine(Dn _).mono ?_;rintro e w2⟨rfl,E⟩;have d:=T.out.s.below E;obtain⟨I,u,y,z,j,l⟩:=d.2 (w.heap.size+1) (by simp);obtain⟨W,X,Y,R,S,U⟩:=Ea l rfl rfl rfl;have Q:=aC (tH l 0 0 false);have o:=aC (T.out.be.trans (((d.put (r:=false) I ⟨_,_,_,j,l⟩ SpOk.zero).1.2).mono (by omega)));clear l E d
   go_wp2_with fail
   obtain⟨L,M,O⟩:=Q.out;refine bodyPost_ret (v:=sv 0 0 false) (by simp[results,results40,go_sem,L,M,O]) rfl ?_;exact⟨0,0,false,rfl,SpOk.zero,o.out⟩
def Ka (w:World)(bl:NU)(i:Value)(wr:World):Prop:=∃j:Nat,j<=12/\i=.int .i64 (3+2*j)/\SW w.heap.size w bl wr
theorem aTr (a b:Int)(k:Bool)(s:Int)(w:World)(h:SpOk a b):Calls prog 78 #[sv a b k,.int .i64 s] w (aU w):=by
 have M:=aC (λa b k c d m w h h'=>aJO a b k c d m w h h');have NG:=aC (λa b k w h=>Oy a b k w h);have S0:SW w.heap.size w [w.heap.size] (w.alloc (.cells #[.int .i64 a,.int .i64 b,.bool k] 29)):=SW.new ⟨⟨n4 _,Below.refl _ _⟩,λb h=>by cases h⟩ k h;have S1:=S0.new false SpOk.zero;rw[show(w.alloc (.cells #[.int .i64 a,.int .i64 b,.bool k] 29)).heap.size=w.heap.size+1 by simp]at S1;have J:=aC S1;clear S0 S1
 go_enter func78,ntmps78
 go_wp2_with fail
 refine lK (λW=>SW w.heap.size w [w.heap.size+1,w.heap.size] W/\W.heap[w.heap.size]?=some (cO a b k)) ⟨J.out,uD (jN _ _)⟩ ?_;rintro W⟨o,hA⟩;refine(M.out _ _ _ _ _ _ _ h h).mono ?_;rintro e f⟨x0,x1,x2,rfl,Y,u⟩;have S:=(o.below u).new x2 Y;have C:=(u.block _ (fJ hA)).trans hA;obtain⟨a0,a1,a2⟩:=qP C rfl rfl rfl;have a6:w.heap.size+1<f.heap.size:=n7 (o.2 (w.heap.size+1) (by simp)).2.lt u.size
 have a4:¬w.heap.size=f.heap.size:=by omega
 have a3:w.heap.size<f.heap.size:=by omega
 have y:=aC S;have I:=aC C;clear o hA u J S C
 by_cases hs:s<0
 case' pos=>
  go_wp2_with fail
  refine(NG.out x0 x1 x2 _ Y).mono ?_;rintro e H⟨rfl,l⟩;have R:=(l.block f.heap.size (by simp)).trans (jN f (.cells #[.int .i64 x0,.int .i64 x1,.bool x2] 29));have P:=(l.block w.heap.size (by simp;omega)).trans (uD I.out);obtain⟨b0,b1,b2,f0,f1,f2⟩:=Ea R rfl rfl rfl;obtain⟨a0,a1,a2⟩:=qP P rfl rfl rfl
  have aq:w.heap.size<H.heap.size:=by have:=l.size;simp at this;omega
  have ar:¬w.heap.size=H.heap.size:=by omega
  have D:=y.out.below l;have z:=aC (show SW w.heap.size w [H.heap.size+1,H.heap.size,f.heap.size,w.heap.size+1,w.heap.size] (((rA H f.heap.size (-x1) (-x0) x2).alloc (.cells #[.int .i64 a,.int .i64 b,.bool k] 29)).alloc (.cells #[.int .i64 a,.int .i64 b,.bool k] 29)) by simpa[rA]using ((D.put (r:=x2) (by omega) (D.2 f.heap.size (by simp)).2 Y.neg).new k h).new k h);clear R P D l
  go_wp2_with fail
  unfold rA at z;generalize s4 _ (.cells #[.int .i64 a,.int .i64 b,.bool k] 29)=V at*;generalize H.heap.size+1=bs at*;generalize H.heap.size=bt at*;generalize f.heap.size=O at*
 case' neg=>
  have z:=aC (show SW w.heap.size w [f.heap.size+1+1,f.heap.size+1,f.heap.size,w.heap.size+1,w.heap.size] (((f.alloc (.cells #[.int .i64 x0,.int .i64 x1,.bool x2] 29)).alloc (.cells #[.int .i64 a,.int .i64 b,.bool k] 29)).alloc (.cells #[.int .i64 a,.int .i64 b,.bool k] 29)) by simpa using (y.out.new k h).new k h)
  go_wp2_with fail
  generalize s4 _ (.cells #[.int .i64 a,.int .i64 b,.bool k] 29)=V at*;generalize f.heap.size+1+1=bs at*;generalize f.heap.size+1=bt at*;generalize f.heap.size=O at*
 all_goals
  clear a0 a1 a2 y I Y
  go_loopw [8] (λi wr=>Ka w [bs,bt,O,w.heap.size+1,w.heap.size] i wr) (λi _=>28-(intOf i).toNat)
  case atStart=>exact⟨0,by omega,rfl,z.out⟩
  case round=>
   obtain⟨j,hj,rfl,o⟩:=hrel
   by_cases hl:j<12
   .have az:3+2*(j:Int)<27:=by omega
    obtain⟨ag,p,q,r,x,hT⟩:=o.2 bt (by simp);obtain⟨_,p',q',r',U,hW⟩:=o.2 O (by simp);obtain⟨t0,t1,t2⟩:=qP hT rfl rfl rfl;obtain⟨u0,u1,u2⟩:=qP hW rfl rfl rfl;have X:=aC o;have HT:=aC hT;clear o hT hW
    go_wp2_with fail
    refine(M.out _ _ _ _ _ _ _ x U).mono ?_;rintro e v5⟨a5,b5,c5,rfl,T,F⟩;have E:=(F.block _ (fJ HT.out)).trans HT.out;obtain⟨t0,t1,t2,f0,f1,f2⟩:=Ea E rfl rfl rfl;have L:=aC ((X.out.below F).put (r:=c5) ag ⟨_,_,_,x,E⟩ T);clear F E X HT
    go_wp2_with fail
    refine pW (B:=w.heap.size) (w0:=w) [.ld 7 bs,.ld 6 bt,.mv (.int .i64 (3+2*j)),.ca 16,.ca 38,.ca 35,.st 7 bs] [bs,bt,O,w.heap.size+1,w.heap.size] L.out (by kernel_rfl) (by kernel_rfl) ?_ ?_
    .intro i h a w' K A N
     match i,h with
     |0,_=>exact iQ A N 7 bs rfl rfl rfl (by kernel_rfl) rfl (by simp)
     |1,_=>exact iQ A N 6 bt rfl rfl rfl (by kernel_rfl) rfl (by simp)
     |2,_=>exact sS A N 8 rfl rfl rfl (by kernel_rfl) rfl
     |3,_=>exact bV A N [none,some 2] rfl rfl rfl rfl (by kernel_rfl) Rc (Qm 1 (3+2*j) (by decide) (by decide) (by omega) (by omega))
     |4,_=>exact bV A N [some 1,some 3] rfl rfl rfl rfl (by kernel_rfl) qQ qO
     |5,_=>exact bV A N [some 0,some 4] rfl rfl rfl rfl (by kernel_rfl) kJ kH
     |6,_=>exact jG A N 7 bs 30 5 rfl rfl rfl (by kernel_rfl) rfl (by simp) (by kernel_rfl) (λ_ h=>h)
     |n+7,h=>exact absurd h (by simp)
    .intro vs w6 g _;have aa:=aC g;clear g L;simp only[cA,dl,j8,j9,k8,n5,n6]
     go_wp2_with fail
     go_roundw
     case rel=>exact⟨j+1,by omega,by simp;omega,aa.out⟩
     case measure=>simp[intOf];omega
   .obtain rfl:j=12:=by omega
    have X:=aC o;clear o
    go_wp2_with fail
    refine pW (B:=w.heap.size) (w0:=w) [.ld 7 bs,.ca 32,.ca 35,.st 4 (w.heap.size+1)] [bs,bt,O,w.heap.size+1,w.heap.size] X.out (by kernel_rfl) (by kernel_rfl) ?_ ?_
    .intro i h a w' K A N
     match i,h with
     |0,_=>exact iQ A N 7 bs rfl rfl rfl (by kernel_rfl) rfl (by simp)
     |1,_=>exact bV A N [none,none] rfl rfl rfl rfl (by kernel_rfl) Gy (Gv _ _ (by decide))
     |2,_=>exact bV A N [some 0,some 1] rfl rfl rfl rfl (by kernel_rfl) kJ kH
     |3,_=>exact jG A N 4 (w.heap.size+1) 33 2 rfl rfl rfl (by kernel_rfl) rfl (by simp) (by kernel_rfl) (λ_ h=>h)
     |n+4,h=>exact absurd h (by simp)
    .intro vs w6 g _;simp only[cA,dl,j8,j9,k8,n5,n6];obtain⟨_,p',q',r',ah,hL⟩:=g.2 (w.heap.size+1) (by simp);obtain⟨c0,c1,c2⟩:=qP hL rfl rfl rfl;have HB:=aC g.1.2;clear g hL
     go_wp2_with fail
     refine bodyPost_ret (v:=sv p' q' r') (by simp[results,results78,go_sem,c0,c1,c2]) rfl ?_;exact⟨p',q',r',rfl,ah,HB.out⟩
def Jk (w:World)(b:Nat):Nat:=match w.cell? ⟨b,1,none⟩with
 |some (.int _ q)=>q.toNat
 |_=>0
variable {n:World}{p q:Int}
theorem aNQ {b:Nat}{r:Bool}(h:n.heap[b]?=some (cO p q r)):Jk n b=q.toNat:=by
 unfold Jk;rw[aX (o:=1) h rfl];rfl
theorem aNN {y0 y1:Int}(f:1572864<q)(h:SpOk p q)(a:MP p q (1*1048576/2) (-((-(1*1048576))/2)) y1):(ofS (y0/1048576) (-(-y1/1048576))).2.1<q:=by
 have e:y1<=q*524288:=by
  have b:(1:Int)*1048576/2=524288:=by decide
  have d:-((-(1*1048576:Int))/2)=524288:=by decide
  rw[b,d]at a;have:=h.le
  rcases a with rfl|rfl|rfl|rfl<;>omega
 unfold ofS
 cases decide (y0/1048576 < -1073741824)||decide (1073741824 < -(-y1/1048576))with
 |true=>show(0:Int)<q;omega
 |false=>show -(-y1/1048576)<q;omega
theorem Ql (s:Int):∀d,Alls [SpV,λv=>v=.int .i64 s] d->∀w,Calls prog 78 d.toArray w (aU w):=cSI λa b k w h=>aTr a b k s w h
theorem Rb:gH 78:=sG func78 rfl rfl
theorem aKM (n:Int)(w:World):Calls prog 57 #[.int .i64 n] w (aU w):=by
 have PT:=aC (λw=>Uf n w);have O:=aC (λx y w=>xJ x y w);have MK:=aC (λa b c d w h h'=>aIy a b c d w h h');have RA:=aC (λp q w h0 h1 h2 h3=>Ug p q w h0 h1 h2 h3)
 go_enter func57,ntmps57
 go_wp2_with fail
 refine lK (λW=>SW w.heap.size w [w.heap.size] W) (SW.new ⟨⟨n4 _,Below.refl _ _⟩,λb h=>by cases h⟩ false SpOk.zero) ?_;rintro W J;refine((PT.out _).mono (λ_ _ h=>cM.sp (p9 _) h)).mono ?_;rintro e w1⟨x0,x1,x2,rfl,hx,P⟩
 go_wp2_with fail
 refine lK (λV=>SW w.heap.size w [w1.heap.size,w.heap.size] V) ((J.below P).new x2 hx) ?_;have b4:w.heap.size<w1.heap.size:=n7 (J.2 w.heap.size (by simp)).2.lt P.size;clear J;rintro V J;generalize w1.heap.size=f at*;refine((O.out _ _ _).mono (λ_ _ h=>cM.sp (by decide) h)).mono ?_;rintro e w2⟨t0,t1,t2,rfl,ht,R⟩
 go_wp2_with fail
 have a1:=aC ((J.below R).new t2 ht);have a5:f<w2.heap.size:=n7 (J.2 f (by simp)).2.lt R.size;clear J R P hx ht;generalize a2:w2.alloc _=W2 at*;generalize w2.heap.size=bs at*;clear a2
 go_loopw [] (λwr=>SW w.heap.size w [bs,f,w.heap.size] wr) (λwr=>Jk wr f)
 case atStart=>exact a1.out
 case round=>
  obtain⟨p,q,r,k,T⟩:=(hrel.2 f (by simp)).2;have g:=(hrel.2 f (by simp)).2;obtain⟨X,Y,aa⟩:=qP T rfl rfl rfl
  by_cases hc:r=true/\1572864<q
  .obtain⟨rfl,hq⟩:=hc
   go_wp2_with fail
   refine Za (λl:World=>l.cell? ⟨f,0,none⟩=some (.int .i64 p)/\l.cell? ⟨f,1,none⟩=some (.int .i64 q)/\l.cell? ⟨f,2,none⟩=some (.bool true)) (λi=>!(i==3)) (by kernel_rfl) ?_
   have aj:Shut ((λl:World=>l.cell? ⟨f,0,none⟩=some (.int .i64 p)/\l.cell? ⟨f,1,none⟩=some (.int .i64 q)/\l.cell? ⟨f,2,none⟩=some (.bool true)) wr.drew):=⟨X,Y,aa⟩
   refine uF (i:=0) (v:=?va0) rfl (by kernel_rfl) (by kernel_rfl) (by kernel_rfl) (by kernel_rfl) (λ_ _ _ h=>h) (Or.inl ⟨by rfl,?ya0⟩) aj.out ?ra0
   case ya0=>
    intro w hSw
    try dsimp only at hSw
    go_simp
    try with_reducible rfl
   try simp only[Act.put,j8,j9,k8]
   clear aj;refine zK (i:=1) (by kernel_rfl) rfl (λK D=>?_)
   go_simp
   refine((RA.out 1 2 _ (by decide) (by decide) (by decide) (by decide))).mono ?_;rintro e v1⟨rfl,am⟩;have C:=nV am;have s:=(C.block _ (fJ T)).trans T;obtain⟨ab,ad,ae⟩:=qP s rfl rfl rfl;clear am
   go_wp2_with fail
   refine D.out _ _ (λ_=>⟨ab,ad,ae⟩) ?_;clear D K
   try simp only[Act.put,j8,j9,k8]
   refine zK (i:=2) (by kernel_rfl) rfl (λK D=>?_)
   go_simp
   refine(MK.out _ _ _ _ _ k ⟨by decide,by decide,by decide⟩).mono ?_;rintro e v2⟨y0,y1,H,a6,ao,rfl,S⟩;have M:=(S.block _ (fJ s)).trans s;obtain⟨af,ag,ah,ay,az,a0⟩:=Ea M rfl rfl rfl;have E:=aNN (y0:=y0) hq k ao;have F:=aOs (Ht (c:=1048576) (by decide) H);generalize ofS (y0/1048576) (-(-y1/1048576))=z at*;obtain⟨z0,z1,z2⟩:=z
   go_wp2_with fail
   refine D.out _ _ (λ_=>⟨af,ag,ah⟩) ?_;clear D K
   try simp only[Act.put,j8,j9,k8]
   refine zK (i:=3) (by kernel_rfl) rfl (λK D=>?_)
   go_simp
   refine D.out _ _ (λh=>absurd h (by decide)) ?_;clear D K;refine Yz (by kernel_rfl) ?_ _
   obtain⟨U,u⟩:∃U,U=(((v2.setCell ⟨f,0,none⟩ (.int .i64 z0)).setCell ⟨f,1,none⟩ (.int .i64 z1)).setCell ⟨f,2,none⟩ (.bool z2)):=⟨_,rfl⟩
   rw[<-u];have HD:=aC (C.trans (S.mono C.size));have ai:SW w.heap.size w [bs,f,w.heap.size] U:=u▸ (hrel.below HD.out).put (by omega) (g.below HD.out) F;have ak:U.heap[f]?=some (cO z0 z1 z2):=u▸aIG M z0 z1 z2;have HZ:=aC (show(z1:Int)<q from E);have au:=aC (aNQ T);clear u HD C S s M F E a6 ao H ab ad ae af ag ah ay az a0 X Y aa T g hrel;have I:=aC ai;have av:=aC ak;clear ai ak
   go_wp2_with fail
   refine pW (B:=bs) (w0:=U) [.ld 4 bs,.ca 32,.ca 35,.st 4 bs] [bs] ⟨⟨Nat.le_of_lt (I.out.2 bs (by simp)).2.lt,Below.refl _ _⟩,λb hb=>by rw[List.mem_singleton.1 hb];exact⟨n4 _,(I.out.2 bs (by simp)).2⟩⟩ (by kernel_rfl) (by kernel_rfl) ?_ ?_
   .intro i h a l K A N
    match i,h with
    |0,_=>exact iQ A N 4 bs rfl rfl rfl (by kernel_rfl) rfl (by simp)
    |1,_=>exact bV A N [none,none] rfl rfl rfl rfl (by kernel_rfl) Gy (Gv _ _ (by decide))
    |2,_=>exact bV A N [some 0,some 1] rfl rfl rfl rfl (by kernel_rfl) kJ kH
    |3,_=>exact jG A N 4 bs 21 2 rfl rfl rfl (by kernel_rfl) rfl (by simp) (by kernel_rfl) (λ_ h=>h)
    |n+4,h=>exact absurd h (by simp)
   .intro vs w5 j _;have o:=aC j;clear j;simp only[cA,dl,j8,j9,k8]
    go_wp2_with fail
    go_roundw
    case rel=>exact I.out.join o.out (by omega) (by simp;omega)
    case measure=>
     have e:=aNQ (((o.out).1.2.block f a5).trans av.out);have:=HZ.out;rw[e,au.out];omega
  .have a4:r=false\/(r=true/\¬1572864<q):=by
    cases r
    .exact Or.inl rfl
    .exact o8 ⟨rfl,λh=>hc ⟨rfl,h⟩⟩
   have HR:=aC hrel;clear hrel hc g k T
   rcases a4 with rfl|⟨rfl,hq⟩
   all_goals
    go_wp2_with fail
    refine pW (B:=w.heap.size) (w0:=w) [.ld 3 f,.ca 32,.ca 35,.ld 3 f,.ca 32,.ca 35,.ca 36,.ca 38,.al,.sn 8] [bs,f,w.heap.size] HR.out (by kernel_rfl) (by kernel_rfl) ?_ ?_
    .intro i h a l K A N
     match i,h with
     |0,_=>exact iQ A N 3 f rfl rfl rfl (by kernel_rfl) rfl (by simp)
     |1,_=>exact bV A N [none,none] rfl rfl rfl rfl (by kernel_rfl) Gy (Gv _ _ (by decide))
     |2,_=>exact bV A N [some 0,some 1] rfl rfl rfl rfl (by kernel_rfl) kJ kH
     |3,_=>exact iQ A N 3 f rfl rfl rfl (by kernel_rfl) rfl (by simp)
     |4,_=>exact bV A N [none,none] rfl rfl rfl rfl (by kernel_rfl) Gy (Gv _ _ (by decide))
     |5,_=>exact bV A N [some 3,some 4] rfl rfl rfl rfl (by kernel_rfl) kJ kH
     |6,_=>exact bV A N [some 5] rfl rfl rfl rfl (by kernel_rfl) qC pZ
     |7,_=>exact bV A N [some 2,some 6] rfl rfl rfl rfl (by kernel_rfl) qQ qO
     |8,_=>exact aZ5 A N rfl rfl rfl
     |9,_=>exact aZ8 A N 5 8 29 7 rfl rfl rfl rfl (by kernel_rfl) (by kernel_rfl) (λ_ h=>h)
     |n+10,h=>exact absurd h (by simp)
    .intro vs w5 j hF;obtain⟨bz,hz,a7,ap⟩:∃b,vs 8=.pointer (some ⟨b,0,none⟩)/\w.heap.size<=b/\Loc w5 b:=hF 8 _ _ rfl rfl;have o:=aC (j.add a7 ap);clear j hF ap;simp only[cA,dl,j8,j9,k8,n5,n6,hz]
     go_wp2_with fail
     refine pW (B:=w.heap.size) (w0:=w) [.ld 4 bs,.ca 32,.ld 5 bz,.ca 78,.ca 38,.ca 35,.st 2 w.heap.size] [bz,bs,f,w.heap.size] o.out (by kernel_rfl) (by kernel_rfl) ?_ ?_
     .intro i h a l K A N
      match i,h with
      |0,_=>exact iQ A N 4 bs rfl rfl rfl (by kernel_rfl) rfl (by simp)
      |1,_=>exact bV A N [none,none] rfl rfl rfl rfl (by kernel_rfl) Gy (Gv _ _ (by decide))
      |2,_=>exact iQ A N 5 bz rfl rfl rfl (by kernel_rfl) rfl (by simp)
      |3,_=>exact bV A N [some 2,none] rfl rfl rfl rfl (by kernel_rfl) Rb (Ql _)
      |4,_=>exact bV A N [some 1,some 3] rfl rfl rfl rfl (by kernel_rfl) qQ qO
      |5,_=>exact bV A N [some 0,some 4] rfl rfl rfl rfl (by kernel_rfl) kJ kH
      |6,_=>exact jG A N 2 w.heap.size 35 5 rfl rfl rfl (by kernel_rfl) rfl (by simp) (by kernel_rfl) (λ_ h=>h)
      |n+7,h=>exact absurd h (by simp)
     .intro vs w6 L _;simp only[cA,dl,j8,j9,k8,n5,n6];obtain⟨_,p',q',r',a3,hL⟩:=L.2 w.heap.size (by simp);obtain⟨c0,c1,c2⟩:=qP hL rfl rfl rfl;have HB:=aC L.1.2;clear L hL
      go_wp2_with fail
      refine bodyPost_ret (v:=sv p' q' r') (by simp[results,results57,go_sem,c0,c1,c2]) rfl ?_;exact⟨p',q',r',rfl,a3,HB.out⟩
def Qh (w:World)(bl:NU)(i:Value)(wr:World):Prop:=∃j:Nat,j<=4/\i=.int .i64 j/\SW w.heap.size w bl wr
theorem aGw (n:Int)(w:World):Calls prog 58 #[.int .i64 n] w (aU w):=by
 have PT:=aC (λw=>Uf n w);have O:=aC (λx y w=>xJ x y w);have RA:=aC (λp q w h0 h1 h2 h3=>Ug p q w h0 h1 h2 h3)
 go_enter func58,ntmps58
 go_wp2_with fail
 refine lK (λW=>SW w.heap.size w [w.heap.size] W) (SW.new ⟨⟨n4 _,Below.refl _ _⟩,λb h=>by cases h⟩ false SpOk.zero) ?_;rintro W k;refine((PT.out _).mono (λ_ _ h=>cM.sp (p9 _) h)).mono ?_;rintro e w1⟨x0,x1,x2,rfl,Y,z⟩
 go_wp2_with fail
 refine lK (λV=>SW w.heap.size w [w1.heap.size,w.heap.size] V) ((k.below z).new x2 Y) ?_;clear k;rintro V k;generalize w1.heap.size=d at*;refine((O.out _ _ _).mono (λ_ _ h=>cM.sp (by decide) h)).mono ?_;rintro e w2⟨t0,t1,t2,rfl,X,C⟩
 go_wp2_with fail
 refine lK (λV=>SW w.heap.size w [w2.heap.size,d,w.heap.size] V) ((k.below C).new t2 X) ?_;clear k;rintro V2 k;generalize w2.heap.size=bs at*;refine((RA.out 1 2 _ (by decide) (by decide) (by decide) (by decide)).mono (λ_ _ h=>cM.sp (Ht (by omega) (p9 _)) h)).mono ?_;rintro e w3⟨y0,y1,y2,rfl,hy,D⟩
 go_wp2_with fail
 have s:=aC ((k.below D).new y2 hy);clear k D C z Y X hy;generalize w3.alloc _=W3 at*;generalize w3.heap.size=l at*
 go_loopw [6] (λi wr=>Qh w [l,bs,d,w.heap.size] i wr) (λi _=>4-(intOf i).toNat)
 case atStart=>exact⟨0,by omega,rfl,s.out⟩
 case round=>
  obtain⟨j,hj,rfl,k⟩:=hrel;obtain⟨_,p,q,r,U,T⟩:=k.2 d (by simp);obtain⟨I,J,L⟩:=qP T rfl rfl rfl;have F:=aC k;clear k s T
  by_cases hc:j<4/\r=true/\524288<q
  .obtain⟨E,rfl,hq⟩:=hc
   have M:(j:Int)<4:=by omega
   go_wp2_with fail
   refine pW (B:=w.heap.size) (w0:=w) [.ld 3 d,.ld 5 l,.ca 37,.ca 35,.ca 32,.ld 3 d,.ld 5 l,.ca 38,.ca 35,.ca 36,.ca 38,.st 3 d] [l,bs,d,w.heap.size] F.out (by kernel_rfl) (by kernel_rfl) ?_ ?_
   .intro i h a w' K A N
    match i,h with
    |0,_=>exact iQ A N 3 d rfl rfl rfl (by kernel_rfl) rfl (by simp)
    |1,_=>exact iQ A N 5 l rfl rfl rfl (by kernel_rfl) rfl (by simp)
    |2,_=>exact bV A N [some 1] rfl rfl rfl rfl (by kernel_rfl) Ra Qk
    |3,_=>exact bV A N [some 0,some 2] rfl rfl rfl rfl (by kernel_rfl) kJ kH
    |4,_=>exact bV A N [none,none] rfl rfl rfl rfl (by kernel_rfl) Gy (Gv _ _ (by decide))
    |5,_=>exact iQ A N 3 d rfl rfl rfl (by kernel_rfl) rfl (by simp)
    |6,_=>exact iQ A N 5 l rfl rfl rfl (by kernel_rfl) rfl (by simp)
    |7,_=>exact bV A N [some 5,some 6] rfl rfl rfl rfl (by kernel_rfl) qQ qO
    |8,_=>exact bV A N [some 4,some 7] rfl rfl rfl rfl (by kernel_rfl) kJ kH
    |9,_=>exact bV A N [some 8] rfl rfl rfl rfl (by kernel_rfl) qC pZ
    |10,_=>exact bV A N [some 3,some 9] rfl rfl rfl rfl (by kernel_rfl) qQ qO
    |11,_=>exact jG A N 3 d 34 10 rfl rfl rfl (by kernel_rfl) rfl (by simp) (by kernel_rfl) (λ_ h=>h)
    |n+12,h=>exact absurd h (by simp)
   .intro vs w5 u _;have o:=aC u;clear u F I J L;simp only[cA,dl,j8,j9,k8,n5,n6]
    go_wp2_with fail
    refine pW (B:=w.heap.size) (w0:=w) [.ld 4 bs,.ca 32,.ca 35,.st 4 bs] [l,bs,d,w.heap.size] o.out (by kernel_rfl) (by kernel_rfl) ?_ ?_
    .intro i h a w' K A N
     match i,h with
     |0,_=>exact iQ A N 4 bs rfl rfl rfl (by kernel_rfl) rfl (by simp)
     |1,_=>exact bV A N [none,none] rfl rfl rfl rfl (by kernel_rfl) Gy (Gv _ _ (by decide))
     |2,_=>exact bV A N [some 0,some 1] rfl rfl rfl rfl (by kernel_rfl) kJ kH
     |3,_=>exact jG A N 4 bs 37 2 rfl rfl rfl (by kernel_rfl) rfl (by simp) (by kernel_rfl) (λ_ h=>h)
     |n+4,h=>exact absurd h (by simp)
    .intro vs w6 f _;have H:=aC f;clear f o;simp only[cA,dl,j8,j9,k8,n5,n6]
     go_wp2_with fail
     go_roundw
     case rel=>exact⟨j+1,by omega,by go_num,H.out⟩
     case measure=>simp[intOf];omega
  .have R:j=4\/(j<4/\r=false)\/(j<4/\r=true/\¬524288<q):=by
    rcases Nat.lt_or_ge j 4 with g|g
    .cases r
     .exact o8 (Or.inl ⟨g,rfl⟩)
     .exact o8 (o8 ⟨g,rfl,λh=>hc ⟨g,rfl,h⟩⟩)
    .exact Or.inl (by omega)
   clear hc
   rcases R with rfl|⟨E,rfl⟩|⟨E,rfl,hq⟩
   all_goals
    try have M:(j:Int)<4:=by omega
    go_wp2_with fail
    refine pW (B:=w.heap.size) (w0:=w) [.ld 4 bs,.ld 3 d,.ca 78,.ca 35,.st 2 w.heap.size] [l,bs,d,w.heap.size] F.out (by kernel_rfl) (by kernel_rfl) ?_ ?_
    .intro i h a w' K A N
     match i,h with
     |0,_=>exact iQ A N 4 bs rfl rfl rfl (by kernel_rfl) rfl (by simp)
     |1,_=>exact iQ A N 3 d rfl rfl rfl (by kernel_rfl) rfl (by simp)
     |2,_=>exact bV A N [some 1,none] rfl rfl rfl rfl (by kernel_rfl) Rb (Ql _)
     |3,_=>exact bV A N [some 0,some 2] rfl rfl rfl rfl (by kernel_rfl) kJ kH
     |4,_=>exact jG A N 2 w.heap.size 41 3 rfl rfl rfl (by kernel_rfl) rfl (by simp) (by kernel_rfl) (λ_ h=>h)
     |n+5,h=>exact absurd h (by simp)
    .intro vs w6 f _;simp only[cA,dl,j8,j9,k8,n5,n6];obtain⟨_,p',q',r',P,S⟩:=f.2 w.heap.size (by simp);obtain⟨c0,c1,c2⟩:=qP S rfl rfl rfl;have HB:=aC f.1.2;clear f S
     go_wp2_with fail
     refine bodyPost_ret (v:=sv p' q' r') (by simp[results,results58,go_sem,c0,c1,c2]) rfl ?_;exact⟨p',q',r',rfl,P,HB.out⟩
theorem aRC (a b:Int)(k:Bool)(w:World)(h:SpOk a b):Calls prog 41 #[sv a b k] w (aU w)/\Calls prog 42 #[sv a b k] w (aU w):=by
 have T:=aC (aRN w a b k);have I:=h.le;have z:gH 57:=sG func57 rfl rfl;have C:gH 58:=sG func58 rfl rfl
 by_cases hc:k=true/\¬a<0
 case pos=>
  obtain⟨rfl,p1⟩:=hc;refine⟨?_,?_⟩
  go_enter func41,ntmps41
  go_wp2_with fail
  refine pW (B:=w.heap.size+1) (w0:=xZ w a b true) [.mv (.pointer (some ⟨w.heap.size,0,none⟩)),.mv (.int .i64 a),.mv (.int .i64 (IntKind.i64.wrap (a+1048576))),.ca 57,.mv (.pointer (some ⟨w.heap.size,1,none⟩)),.mv (.int .i64 b),.mv (.int .i64 (IntKind.i64.wrap (b+1048576))),.ca 57,.ca 55,.st 2 (w.heap.size+1)] [w.heap.size+1] T.out.s (by kernel_rfl) (by kernel_rfl) ?_ ?_
  .intro i hi H P K A N
   match i,hi with
   |0,_=>exact Jo A N 1 rfl rfl (by kernel_rfl) rfl rfl
   |1,_=>exact xW A N 0 rfl rfl rfl (by kernel_rfl) rfl (by omega) T.out.x0
   |2,_=>exact Rt A N 1 rfl rfl rfl (by kernel_rfl) rfl
   |3,_=>exact bV A N [some 2] rfl rfl rfl rfl (by kernel_rfl) z (cI λw=>aKM _ w)
   |4,_=>exact Jp A N 1 rfl rfl (by kernel_rfl) rfl rfl
   |5,_=>exact xW A N 4 rfl rfl rfl (by kernel_rfl) rfl (by omega) T.out.x1
   |6,_=>exact Rt A N 5 rfl rfl rfl (by kernel_rfl) rfl
   |7,_=>exact bV A N [some 6] rfl rfl rfl rfl (by kernel_rfl) z (cI λw=>aKM _ w)
   |8,_=>exact bV A N [some 3,some 7] rfl rfl rfl rfl (by kernel_rfl) Ae zY
   |9,_=>exact jG A N 2 (w.heap.size+1) 20 8 rfl rfl rfl (by kernel_rfl) rfl (by simp) (by kernel_rfl) (λ_ h=>h)
   |n+10,hi=>exact absurd hi (by simp)
  rotate_left
  go_enter func42,ntmps42
  go_wp2_with fail
  refine pW (B:=w.heap.size+1) (w0:=xZ w a b true) [.mv (.pointer (some ⟨w.heap.size,0,none⟩)),.mv (.int .i64 a),.ca 58,.mv (.pointer (some ⟨w.heap.size,1,none⟩)),.mv (.int .i64 b),.ca 58,.ca 55,.st 2 (w.heap.size+1)] [w.heap.size+1] T.out.s (by kernel_rfl) (by kernel_rfl) ?_ ?_
  .intro i hi H P K A N
   match i,hi with
   |0,_=>exact Jo A N 1 rfl rfl (by kernel_rfl) rfl rfl
   |1,_=>exact xW A N 0 rfl rfl rfl (by kernel_rfl) rfl (by omega) T.out.x0
   |2,_=>exact bV A N [some 1] rfl rfl rfl rfl (by kernel_rfl) C (cI λw=>aGw _ w)
   |3,_=>exact Jp A N 1 rfl rfl (by kernel_rfl) rfl rfl
   |4,_=>exact xW A N 3 rfl rfl rfl (by kernel_rfl) rfl (by omega) T.out.x1
   |5,_=>exact bV A N [some 4] rfl rfl rfl rfl (by kernel_rfl) C (cI λw=>aGw _ w)
   |6,_=>exact bV A N [some 2,some 5] rfl rfl rfl rfl (by kernel_rfl) Ae zY
   |7,_=>exact jG A N 2 (w.heap.size+1) 18 6 rfl rfl rfl (by kernel_rfl) rfl (by simp) (by kernel_rfl) (λ_ h=>h)
   |n+8,hi=>exact absurd hi (by simp)
  all_goals
   intro vs w6 f _;simp only[cA,dl,j8,j9,k8,n5,n6];obtain⟨_,q,u,y,o,D⟩:=f.2 (w.heap.size+1) (by simp);obtain⟨c0,c1,c2⟩:=qP D rfl rfl rfl;have F:=aC (T.out.be.trans (f.1.2.mono (by omega)));clear f D
   go_wp2_with fail
   refine bodyPost_ret (v:=sv q u y) (by simp[results,results41,results42,go_sem,c0,c1,c2]) rfl ?_;exact⟨q,u,y,rfl,o,F.out⟩
 case neg=>
  have p:k=false\/(k=true/\a<0):=by
   cases k
   .exact Or.inl rfl
   .exact o8 ⟨rfl,by
     rcases q7 a 0 with x|x
     .exact x
     .exact absurd ⟨rfl,by omega⟩ hc⟩
  clear hc h
  refine⟨?_,?_⟩<;>rcases p with rfl|⟨rfl,p1⟩
  all_goals
   first
   |go_enter func41,ntmps41
   |go_enter func42,ntmps42
   go_wp2_with fail
   refine(Dn _).mono ?_;rintro e w2⟨rfl,E⟩;have d:=T.out.s.below E;obtain⟨J,q,u,y,g,j⟩:=d.2 (w.heap.size+1) (by simp);obtain⟨W,X,Y,R,S,U⟩:=Ea j rfl rfl rfl;have Q:=aC (tH j 0 0 false);have l:=aC (T.out.be.trans (((d.put (r:=false) J ⟨_,_,_,g,j⟩ SpOk.zero).1.2).mono (by omega)));clear j E d
   go_wp2_with fail
   obtain⟨L,M,O⟩:=Q.out;refine bodyPost_ret (v:=sv 0 0 false) (by simp[results,results41,results42,go_sem,L,M,O]) rfl ?_;exact⟨0,0,false,rfl,SpOk.zero,l.out⟩
theorem aQf (a b:Int)(k:Bool)(w:World)(h:SpOk a b):Calls prog 41 #[sv a b k] w (aU w):=(aRC a b k w h).1
theorem aPG (a b:Int)(k:Bool)(w:World)(h:SpOk a b):Calls prog 42 #[sv a b k] w (aU w):=(aRC a b k w h).2
def Da (i:Nat):ON:=if i=0 then [45]else if i=1 then [115,113,114,116]else if i=2 then [101,120,112]else if i=3 then [108,110,49,112]else [97,116,97,110]
def Ms (f:FuncId):Prop:=∀a b k w,SpOk a b->Calls prog f #[sv a b k] w (aU w)
theorem aMr (xp:Value)(t:ByteArray)(lt:ON)(a b:Int)(k:Bool)(n:Int)(w:World)(h0:-9223372036854775808<=n)(h1:n<=9223372036854775807)(D:dH t lt)(ad:lt.length<=1000)(h:SpOk a b):
  Calls prog 19 #[itv xp t a b k,.int .i64 n] w λe w'=>∃i,i<5/\sB w (Da i++40::(lt++[41])) e w':=by
 have C:=yP n 5 (by decide)
 have hc:pickI n 5=0\/pickI n 5=1\/pickI n 5=2\/pickI n 5=3\/pickI n 5=4:=by omega
 have A:=aC (λw=>xG n 5 w h0 h1 (by decide) (by decide));obtain⟨y1,ag,y⟩:=yI (dH.mk' [40]) D (by simp;omega);obtain⟨y2,ah,d⟩:=yI y (dH.mk' [41]) (by simp;omega);obtain⟨E,a0,L⟩:=yI (dH.mk' [45]) d (by simp;omega);obtain⟨F,a1,M⟩:=yI (dH.mk' [115,113,114,116]) d (by simp;omega);obtain⟨H,a2,N⟩:=yI (dH.mk' [101,120,112]) d (by simp;omega);obtain⟨I,a3,O⟩:=yI (dH.mk' [108,110,49,112]) d (by simp;omega);obtain⟨J,a4,P⟩:=yI (dH.mk' [97,116,97,110]) d (by simp;omega);have T:=aC (And.intro L (And.intro M (And.intro N (And.intro O P))))
 have R:Hid (Ms 37):=λa b k w h=>(Oy a b k w h).mono λ_ _ x=>⟨_,_,_,x.1,h.neg,x.2⟩
 have S:Hid (Ms 39):=aQO;have U:Hid (Ms 40):=aSW;have X:Hid (Ms 41):=aQf;have Y:Hid (Ms 42):=aPG;clear y d L M N O P D
 rcases hc with hn|hn|hn|hn|hn
 all_goals
  rw[hn]at A
  go_enter func19,ntmps19
  go_wp2_with fail
  refine(A.out _).mono ?_;rintro e w1⟨rfl,rfl⟩
  go_wp2_with fail
  refine lK (tL 1 w) Mf ?_;rintro W⟨l,j⟩;refine(show Calls _ _ _ W (aU W)from by first|exact R.out _ _ _ _ h|exact S.out _ _ _ _ h|exact U.out _ _ _ _ h|exact X.out _ _ _ _ h|exact Y.out _ _ _ _ h).mono ?_;rintro e w2⟨p,q,r,rfl,z,B⟩;obtain⟨r0,r1,r2,g0,g1,g2,Q,f⟩:=iO l j B (by omega) p q r;have g:=aC z;clear B l j
  go_wp2_with fail
  obtain⟨o,s,u⟩:=Q.out
 .exact bodyPost_ret (v:=.tuple #[.string E,sv p q r]) (by simp[results,results19,go_sem,o,s,u]) rfl ⟨0,by decide,E,_,_,_,rfl,T.out.1.to (by simp[Da]),g.out,f.out⟩
 .exact bodyPost_ret (v:=.tuple #[.string F,sv p q r]) (by simp[results,results19,go_sem,o,s,u]) rfl ⟨1,by decide,F,_,_,_,rfl,T.out.2.1.to (by simp[Da]),g.out,f.out⟩
 .exact bodyPost_ret (v:=.tuple #[.string H,sv p q r]) (by simp[results,results19,go_sem,o,s,u]) rfl ⟨2,by decide,H,_,_,_,rfl,T.out.2.2.1.to (by simp[Da]),g.out,f.out⟩
 .exact bodyPost_ret (v:=.tuple #[.string I,sv p q r]) (by simp[results,results19,go_sem,o,s,u]) rfl ⟨3,by decide,I,_,_,_,rfl,T.out.2.2.2.1.to (by simp[Da]),g.out,f.out⟩
 .exact bodyPost_ret (v:=.tuple #[.string J,sv p q r]) (by simp[results,results19,go_sem,o,s,u]) rfl ⟨4,by decide,J,_,_,_,rfl,T.out.2.2.2.2.to (by simp[Da]),g.out,f.out⟩
def Wr (l:ON):Prop:=∃c,Rd.Good c/\Rd.toks l=Rd.tw c
open Rd in
theorem aWQ {v:Int}(hv:cL v):Wr (dec v):=⟨dM 1 v [],⟨rfl,rfl,Or.inl ⟨rfl,hv,rfl,rfl,rfl⟩⟩,Hy hv⟩
open Rd in
theorem aRi (a:cL p)(b:cL q):Wr (dec p++47::dec q):=by
 refine⟨jJ 9 (dM 1 p []) (dM 1 q []),⟨rfl,rfl,o8 (o8 (o8 (o8 (o8 (o8 ⟨o8 (o8 (o8 rfl)),rfl,⟨rfl,rfl,Or.inl ⟨rfl,a,rfl,rfl,rfl⟩⟩,⟨rfl,rfl,Or.inl ⟨rfl,b,rfl,rfl,rfl⟩⟩,?_,?_⟩)))))⟩,?_⟩
 .show(2:Int)<=4;decide
 .show(2:Int)+1<=4;decide
 .rw[uZ (by decide),Hy a,wW (by decide) (by decide),Hy b];rfl
variable {S:ON}
open Rd in
theorem aRh (h:ConstTxt S):Wr S:=by
 rcases h with rfl|rfl|⟨x,y,z,d,a,e,b,f,rfl⟩
 .exact⟨dM 2 0 [],⟨rfl,rfl,o8 (Or.inl ⟨Or.inl rfl,rfl,rfl,rfl⟩)⟩,rfl⟩
 .exact⟨dM 3 0 [],⟨rfl,rfl,o8 (Or.inl ⟨o8 rfl,rfl,rfl,rfl⟩)⟩,rfl⟩
 .have hc:Dc [(x:Int),y,z]:=by
   refine⟨x,[(y:Int),z],rfl,⟨by omega,by omega⟩,?_,by simp,by simp⟩;intro v hv;simp at hv
   rcases hv with rfl|rfl
   .exact⟨⟨by omega,by omega⟩,by omega⟩
   .exact⟨⟨by omega,by omega⟩,by omega⟩
  exact⟨dM 4 0 [(x:Int),y,z],⟨rfl,rfl,o8 (o8 (Or.inl ⟨rfl,rfl,hc,rfl,rfl⟩))⟩,aPj hc⟩
open Rd in
theorem Hw {c:Tr}(h:Rd.Good c):Rd.Good (fB 14 c):=Nf (b:=true) h
open Rd in
theorem aHO {c:Tr}(h:toks S=tw c)(r:ON):toks (40::(S++41::r))=tw (fB 14 c)++toks r:=by
 rw[wW (by decide) (by decide),uZ (by decide),h,wW (by decide) (by decide),Xe];simp
open Rd in
theorem aWR {lt f:ON}{s:UInt8}(p:s=43\/s=45\/s=42\/s=47)(h:Wr lt)(n:Wr f):Wr (40::(lt++[41,32,s,32,40]++f++[41])):=by
 obtain⟨c,hc,q⟩:=h;obtain⟨d,o,r⟩:=n
 have b:∃k:Int,(k=6\/k=7\/k=8\/k=9)/\sym k=[s]/\an s=false/\(s==32)=false/\aM k<=4/\aM k+1<=4:=by
  rcases p with rfl|rfl|rfl|rfl
  .exact⟨6,by decide,rfl,by decide,by decide,by decide,by decide⟩
  .exact⟨7,by decide,rfl,by decide,by decide,by decide,by decide⟩
  .exact⟨8,by decide,rfl,by decide,by decide,by decide,by decide⟩
  .exact⟨9,by decide,rfl,by decide,by decide,by decide,by decide⟩
 obtain⟨k,b,a,i,g,j,l⟩:=b;refine⟨jJ k (fB 14 c) (fB 14 d),⟨rfl,rfl,o8 (o8 (o8 (o8 (o8 (o8 ⟨b,rfl,Hw hc,Hw o,j,l⟩)))))⟩,?_⟩
 have e:40::(lt++[41,32,s,32,40]++f++[41])=40::(lt++41::(32::(s::(32::(40::(f++41::[])))))):=by simp
 rw[e,aHO q,Ks,wW i g,Ks,aHO r,Qg b,a,Kv];simp
open Rd in
theorem aPy {lt:ON}{i:Nat}(hi:i<5)(h:Wr lt):Wr (Da i++40::(lt++[41])):=by
 obtain⟨c,hc,d⟩:=h;have a:=aHO d [];rw[Kv,List.append_nil]at a
 have b:i=0\/i=1\/i=2\/i=3\/i=4:=by omega
 rcases b with rfl|rfl|rfl|rfl|rfl
 .refine⟨fB 5 (fB 14 c),⟨rfl,rfl,o8 (o8 (o8 (Or.inl ⟨rfl,rfl,Hw hc,by show(3:Int)<=4;decide,rfl⟩)))⟩,?_⟩;show toks (45::(40::(lt++[41])))=_;rw[wW (by decide) (by decide),a];rfl
 .refine⟨fB 10 (fB 14 c),⟨rfl,rfl,o8 (o8 (o8 (o8 (Or.inl ⟨Or.inl rfl,rfl,Hw hc,rfl,rfl⟩))))⟩,?_⟩;show toks ([115,113,114,116]++40::(lt++[41]))=_;rw[uZ (by decide),a];rfl
 .refine⟨fB 11 (fB 14 c),⟨rfl,rfl,o8 (o8 (o8 (o8 (Or.inl ⟨o8 (Or.inl rfl),rfl,Hw hc,rfl,rfl⟩))))⟩,?_⟩;show toks ([101,120,112]++40::(lt++[41]))=_;rw[uZ (by decide),a];rfl
 .refine⟨fB 12 (fB 14 c),⟨rfl,rfl,o8 (o8 (o8 (o8 (Or.inl ⟨o8 (o8 (Or.inl rfl)),rfl,Hw hc,rfl,rfl⟩))))⟩,?_⟩;show toks ([108,110,49,112]++40::(lt++[41]))=_;rw[uZ (by decide),a];rfl
 .refine⟨fB 13 (fB 14 c),⟨rfl,rfl,o8 (o8 (o8 (o8 (Or.inl ⟨o8 (o8 (o8 rfl)),rfl,Hw hc,rfl,rfl⟩))))⟩,?_⟩;show toks ([97,116,97,110]++40::(lt++[41]))=_;rw[uZ (by decide),a];rfl
open Go.Deep (BT)
theorem Pt (e w:World)(f:Nat)(d:List It)(t:ByteArray)(l:ON)(a b:Int)(k:Bool)(h:dH t l)(p:l.length<=1000000)(o:Wr l)(g:SpOk a b)(i:KInv e w f d)(j:mE e)(q:d.length<=3000000):
  Calls prog 13 #[.pointer (some ⟨f,0,none⟩),.string t,sv a b k] w (kL e f d.length):=by
 obtain⟨c,hc,n⟩:=o;exact aTE e w f d t c a b k hc (by rw[h.eq];exact n) g (by have:=h.size;unfold maxLen;omega) i j (by omega)
theorem aNg (h:ConstTxt S):S.length<=1000000:=by
 rcases h with rfl|rfl|⟨x,y,z,d,a,e,b,f,rfl⟩
 .decide
 .decide
 .have:=Rd.Yx (ts:=[(x:Int),y,z]) (by intro v hv;simp at hv;rcases hv with rfl|rfl|rfl<;>exact⟨by omega,by omega⟩) 3;unfold Rd.dZ;simp at this ⊢;omega
theorem Nv {a:Addr}{x:Value}(h:n.cell? a=some x):a.block<n.heap.size:=by
 unfold World.cell? at h
 by_cases b:a.block<n.heap.size
 .exact b
 .simp[Array.getElem?_eq_none (Nat.le_of_not_lt b)]at h
abbrev Sn (k a b c:Int):Value:=.agg #[.int .i64 k,.int .i64 a,.int .i64 b,.int .i64 c]
theorem aMw (i w:World)(j:Nat)(g:List It)(a b c:Int)(v:KInv i w j g)(x:mE i)(L:g.length<=3000000)(E:-9223372036854775808<=a)(F:a<=9223372036854775807)(I:-9223372036854775808<=b)(J:b<=9223372036854775807):
  Calls prog 7 #[.pointer (some ⟨j,0,none⟩),Sn 2 a b c] w (kL i j g.length):=by
 have z:=aO (λw=>aH9 a b w E F I J);have A:=aO (v.below ((Below.refl w.heap.size w).alloc (n4 _) (.cells #[.int .i64 2,.int .i64 a,.int .i64 b,.int .i64 c] 39)));have B:=aO x;clear v x
 go_enter func7,ntmps7
 go_wp2_with fail
 refine(z.out _).mono ?_;rintro e M⟨l,o,u,p,q,r,rfl,y,f,d⟩;have s:l.length<=1000000:=aNg o;have k:=aO (A.out.below d);have C:=aO y;have D:=aO (aRh o);have n:=aO f;clear d y o f
 go_wp2_with fail
 refine(Pt i _ j g u l p q r C.out s D.out n.out (k.out.below ((Below.refl _ _).alloc (n4 _) _)) B.out L).mono ?_;rintro e N⟨rfl,h⟩;have H:=aO h;clear h
 go_wp2_with fail
 go_ret
 exact⟨rfl,H.out⟩
theorem aQQ (A w:World)(B:Nat)(s:List It)(a b c:Int)(N:KInv A w B s)(O:mE A)(P:s.length<=3000000)(h0:-9223372036854775808<=a)(h1:a<=9223372036854775807)(h2:-9223372036854775808<=b)(h3:b<=9223372036854775807):
  Calls prog 7 #[.pointer (some ⟨B,0,none⟩),Sn 1 a b c] w (kL A B s.length):=by
 have hp:=yP a 40 (by decide);have hq:=yP b 12 (by decide);have U:=aO (λw=>xG a 40 w h0 h1 (by decide) (by decide));have W:=aO (λw=>xG b 12 w h2 h3 (by decide) (by decide));generalize pickI a 40=p at*;generalize pickI b 12=q at*;have J:=aO (N.below ((Below.refl w.heap.size w).alloc (n4 _) (.cells #[.int .i64 1,.int .i64 a,.int .i64 b,.int .i64 c] 39)));have L:=aO O;have M:=aO (λw=>Zj p w (by omega))
 have T:Hid (∀(v:Int) (w:World),v=((1+q:Nat):Int)->Calls prog 14 #[.int .i64 v] w (jX w (Rd.dec ((1+q:Nat):Int)))):=by
  rintro v w rfl;exact Zj (1+q) w (by omega)
 have PT:=aO (λn w=>Uf n w)
 have RT:Hid (∀(v:Int) (w:World),v=((1+q:Nat):Int)->Calls prog 16 #[.int .i64 p,.int .i64 v] w (aU w)):=by
  rintro v w rfl;exact(Ug p ((1+q:Nat):Int) w (by omega) (by omega) (by omega) (by omega)).mono (λ_ _ h=>cM.sp (Ht (by omega) (p9 _)) h)
 have l1:(Rd.dec (p:Int)).length<=9:=Rd.xA ⟨by omega,by omega⟩;have l2:(Rd.dec ((1+q:Nat):Int)).length<=9:=Rd.xA ⟨by omega,by omega⟩;have X:=aO (aWQ (v:=(p:Int)) ⟨by omega,by omega⟩);have Y:=aO (aRi (p:=(p:Int)) (q:=((1+q:Nat):Int)) ⟨by omega,by omega⟩ ⟨by omega,by omega⟩);clear N O
 go_enter func7,ntmps7
 go_wp2_with fail
 refine(U.out _).mono ?_;rintro e I⟨rfl,rfl⟩
 go_wp2_with fail
 refine(W.out _).mono ?_;rintro e I⟨rfl,rfl⟩
 by_cases F:q=0
 .subst F
  go_wp2_with fail
  refine(M.out _).mono ?_;rintro e I⟨u,rfl,o,d⟩;have i:=aO (J.out.below d);have R:=aO o;clear d o
  go_wp2_with fail
  refine((PT.out _ _).mono (λ_ _ h=>cM.sp (p9 _) h)).mono ?_;rintro e w2⟨x,y,z,rfl,g,f⟩;have j:=aO (i.out.below f);have k:=aO g;clear f g
  go_wp2_with fail
  refine(Pt A _ B s u _ x y z R.out (by omega) X.out k.out j.out L.out P).mono ?_;rintro e w4⟨rfl,h⟩;have H:=aO h;clear h
  go_wp2_with fail
  go_ret
  exact⟨rfl,H.out⟩
 .have af:((1:Int)+q==1)=false:=beq_eq_false_iff_ne.2 (by omega)
  go_wp2_with fail
  refine(M.out _).mono ?_;rintro e I⟨u,rfl,o,d⟩;have i:=aO (J.out.below d);obtain⟨y1,ai,C⟩:=yI o (dH.mk' [47]) (by simp only[k9,l4];omega);clear d o
  go_wp2_with fail
  refine(T.out _ _ (by first|rfl|omega)).mono ?_;rintro e w2⟨u2,rfl,r,f⟩;have j:=aO (i.out.below f);obtain⟨y2,aj,D⟩:=yI C r (by simp only[l5,k9,l4];omega);have S:=aO D;clear f r C D
  go_wp2_with fail
  refine(RT.out _ _ (by first|rfl|omega)).mono ?_;rintro e w3⟨x,y,z,rfl,g,l⟩;have E:=aO (j.out.below l);have k:=aO g;clear l g
  go_wp2_with fail
  refine(Pt A _ B s y2 _ x y z (S.out.to (by simp)) (by simp only[l5,k9];omega) Y.out k.out E.out L.out P).mono ?_;rintro e w4⟨rfl,h⟩;have H:=aO h;clear h
  go_wp2_with fail
  go_ret
  exact⟨rfl,H.out⟩
theorem aO6 (n w:World)(d:Nat)(k a b c:Int)(q:k≠1)(i:k≠2)(h:KInv n w d []):
  Calls prog 7 #[.pointer (some ⟨d,0,none⟩),Sn k a b c] w (kL n d 0):=by
 obtain⟨v,f,l⟩:=h.bS;have c0:w.cell? ⟨d,0,none⟩=some v:=aX f rfl
 obtain⟨j,cp,rfl⟩:∃j cp,v=.slice j 0 cp:=by
  rcases l.2 with⟨e,_⟩|⟨g,o,p,e,_⟩
  .exact⟨_,_,e⟩
  .exact⟨_,_,e⟩
 have R:=aO (h.below ((Below.refl w.heap.size w).alloc (n4 _) (.cells #[.int .i64 k,.int .i64 a,.int .i64 b,.int .i64 c] 39)));have r:=fJ f
 have s:(k==1)=false:=by simpa using q
 have u:(k==2)=false:=by simpa using i
 clear f l h
 go_enter func7,ntmps7
 go_wp2_with fail
 go_ret
 exact⟨rfl,[],R.out,by simp⟩
theorem KInv.item {b:World}{w:Nat}{f:List It}(h:KInv n b w f)(a:Nat)(B:a<f.length):
  ∃g i,b.cell? ⟨w,0,none⟩=some (.slice (some ⟨g,0,none⟩) f.length i)/\(∀(m:Nat) (p:m<f.length),b.cell? ⟨g,m*5,none⟩=some (.pointer (some ⟨f[m].1,0,none⟩))/\b.cell? ⟨g,m*5+1,none⟩=some (.string f[m].2.1)/\b.cell? ⟨g,m*5+2,none⟩=some (.int .i64 f[m].2.2.1)/\b.cell? ⟨g,m*5+3,none⟩=some (.int .i64 f[m].2.2.2.1)/\b.cell? ⟨g,m*5+4,none⟩=some (.bool f[m].2.2.2.2)):=by
 obtain⟨v,x,y⟩:=h.bS
 rcases y.2 with⟨_,e⟩|⟨g,i,o,e,_,k,_,_,_,z⟩
 .omega
 .subst e
  have d:∀(j:Nat) (u:Value),(dI f)[j]?=some u->o[j]?=some u:=by
   intro j u l;rw[<-z]at l;have A:=(l7.1 l).1;rw[List.getElem?_take_of_lt (by simp at A;omega)]at l
   simpa using l
  refine⟨g,i,aX x rfl,λm p=>?_⟩;obtain⟨a0,a1,q,r,s⟩:=aIr f m p;exact⟨aX k (d _ _ a0),aX k (d _ _ a1),aX k (d _ _ q),aX k (d _ _ r),aX k (d _ _ s)⟩
theorem Lt {p:It}(h:ItOk p):p.2.1.data.toList.length<=1000:=by
 have:=h.len;have e:p.2.1.data.toList.length=p.2.1.size:=Array.length_toList;omega
theorem aUf {lt a:ON}(h:lt.length<=1000)(b:a.length<=1000)(s:UInt8):(40::(lt++[41,32,s,32,40]++a++[41])).length<=1000000:=by
 simp;omega
theorem aTt {lt:ON}(h:lt.length<=1000)(i:Nat):(Da i++40::(lt++[41])).length<=1000000:=by
 have:(Da i).length<=4:=by unfold Da;split;simp;split;simp;split;simp;split<;>simp
 simp;omega
theorem aO5 (w0 w:World)(s:Nat)(f:List It)(k a b c:Int)(k1:k≠1)(k2:k≠2)(P:KInv w0 w s f)(hT:mE w0)(hp:0<f.length)(hn:f.length<=3000000)(h0:-9223372036854775808<=a)(h1:a<=9223372036854775807)(h2:-9223372036854775808<=b)(h3:b<=9223372036854775807)(h4:-9223372036854775808<=c)(h5:c<=9223372036854775807):
  Calls prog 7 #[.pointer (some ⟨s,0,none⟩),Sn k a b c] w (kL w0 s f.length):=by
 have hx:=yP a f.length hp;have hy:=yP b f.length hp;have PA:=aO (λw=>xG a f.length w h0 h1 hp (by omega));have PB:=aO (λw=>xG b f.length w h2 h3 hp (by omega));generalize pickI a f.length=x at*;generalize pickI b f.length=y at*;obtain⟨g,S,c0,hc⟩:=P.item x hx;have IX:=P.all f[x] (l8 hx);have IY:=P.all f[y] (l8 hy);obtain⟨d0,d1,d2,d3,d4⟩:=hc x hx;obtain⟨e0,e1,e2,e3,e4⟩:=hc y hy;generalize f[x]=X at*;generalize f[y]=Y at*;obtain⟨xb,O,xa,xo,xk⟩:=X;obtain⟨yb,yt,ya,yo,yk⟩:=Y;simp only at d0 d1 d2 d3 d4 e0 e1 e2 e3 e4;have HI:=aO P;have HT:=aO hT;have j:=aO IX;have D:=aO IY;have aa:=fJ (P.bS.choose_spec.1);have l:=Nv d0;simp only at l
 have bx:¬s=w.heap.size:=by omega
 have bz:¬s=w.heap.size+1:=by omega
 have b0:¬s=w.heap.size+1+1:=by omega
 have b1:¬s=w.heap.size+2:=by omega
 have b2:¬g=w.heap.size:=by omega
 have b3:¬g=w.heap.size+1:=by omega
 have b4:¬g=w.heap.size+1+1:=by omega
 have b6:¬g=w.heap.size+2:=by omega
 have bu:((f.length:Int)==0)=false:=beq_eq_false_iff_ne.2 (by omega)
 have f1:(k==1)=false:=by simpa using k1
 have f2:(k==2)=false:=by simpa using k2
 clear P hT IX IY hc k1 k2
 go_enter func7,ntmps7
 go_wp2_with fail
 go_region_held3 (λn=>n.cell? ⟨s,0,none⟩=some (.slice (some ⟨g,0,none⟩) f.length S)/\n.cell? ⟨g,x*5,none⟩=some (.pointer (some ⟨xb,0,none⟩))/\n.cell? ⟨g,x*5+1,none⟩=some (.string O)/\n.cell? ⟨g,x*5+2,none⟩=some (.int .i64 xa)/\n.cell? ⟨g,x*5+3,none⟩=some (.int .i64 xo)/\n.cell? ⟨g,x*5+4,none⟩=some (.bool xk)/\n.cell? ⟨w.heap.size,1,none⟩=some (.int .i64 a)) (go_keep)
  ((go_at_call 6;refine(PA.out _).mono ?_;rintro e w2⟨rfl,rfl⟩))
 all_goals
  go_wp2_with fail
  obtain⟨V,T⟩:∃V,V=((w.alloc (.cells #[.int .i64 k,.int .i64 a,.int .i64 b,.int .i64 c] 39)).alloc (.cells #[.pointer (some ⟨xb,0,none⟩),.string O,.int .i64 xa,.int .i64 xo,.bool xk] 31)).drew:=⟨_,rfl⟩
  rw[<-T]
  have d:Below w.heap.size w V:=by rw[T];exact(((Below.refl w.heap.size w).alloc (n4 _) _).alloc (by simp) _).trans ((Gx _).mono (by simp;omega))
  have v:V.heap[w.heap.size]?=some (.cells #[.int .i64 k,.int .i64 a,.int .i64 b,.int .i64 c] 39 (0,0)):=by rw[T];exact uD (jN _ _)
  have E:V.heap[w.heap.size+1]?=some (.cells #[.pointer (some ⟨xb,0,none⟩),.string O,.int .i64 xa,.int .i64 xo,.bool xk] 31 (0,0)):=by rw[T];exact Ds (by simp)
  have R:=aO (HI.out.below d);have az:=(d.cell (p:=⟨s,0,none⟩) aa).trans c0;have a0:=(d.cell (p:=⟨g,y*5,none⟩) l).trans e0;have a1:=(d.cell (p:=⟨g,y*5+1,none⟩) l).trans e1;have a2:=(d.cell (p:=⟨g,y*5+2,none⟩) l).trans e2;have a3:=(d.cell (p:=⟨g,y*5+3,none⟩) l).trans e3;have a4:=(d.cell (p:=⟨g,y*5+4,none⟩) l).trans e4;have o0:=aX (o:=0) v rfl;have o2:=aX (o:=2) v rfl;have o3:=aX (o:=3) v rfl;obtain⟨x0,x1,x2,x3⟩:=cl4 E rfl rfl rfl rfl;have x4:=aX (o:=4) E rfl;have ab:=fJ v;have C:=fJ E;have b8:=n7 aa d.size;have b9:=n7 l d.size;clear T d v E c0 d0 d1 d2 d3 d4 e0 e1 e2 e3 e4 PA
  go_region_held3 (λn=>n.cell? ⟨s,0,none⟩=some (.slice (some ⟨g,0,none⟩) f.length S)/\n.cell? ⟨g,y*5,none⟩=some (.pointer (some ⟨yb,0,none⟩))/\n.cell? ⟨g,y*5+1,none⟩=some (.string yt)/\n.cell? ⟨g,y*5+2,none⟩=some (.int .i64 ya)/\n.cell? ⟨g,y*5+3,none⟩=some (.int .i64 yo)/\n.cell? ⟨g,y*5+4,none⟩=some (.bool yk)/\n.cell? ⟨w.heap.size,2,none⟩=some (.int .i64 b)) (go_keep)
   ((go_at_call 6;refine(PB.out _).mono ?_;rintro e w2⟨rfl,rfl⟩))
  all_goals
   obtain⟨U,hU⟩:∃U,U=(V.alloc (.cells #[.pointer (some ⟨yb,0,none⟩),.string yt,.int .i64 ya,.int .i64 yo,.bool yk] 31)).drew:=⟨_,rfl⟩
   rw[<-hU]
   have i:Below V.heap.size V U:=by rw[hU];exact((Below.refl V.heap.size V).alloc (n4 _) _).trans ((Gx _).mono (by simp))
   have M:U.heap[V.heap.size]?=some (.cells #[.pointer (some ⟨yb,0,none⟩),.string yt,.int .i64 ya,.int .i64 yo,.bool yk] 31 (0,0)):=by rw[hU];exact jN _ _
   have I:=aO (R.out.below i);have p0:=(i.cell (p:=⟨w.heap.size,0,none⟩) ab).trans o0;have p3:=(i.cell (p:=⟨w.heap.size,3,none⟩) ab).trans o3;have u0:=(i.cell (p:=⟨w.heap.size+1,0,none⟩) C).trans x0;have u1:=(i.cell (p:=⟨w.heap.size+1,1,none⟩) C).trans x1;have u2:=(i.cell (p:=⟨w.heap.size+1,2,none⟩) C).trans x2;have u3:=(i.cell (p:=⟨w.heap.size+1,3,none⟩) C).trans x3;have u4:=(i.cell (p:=⟨w.heap.size+1,4,none⟩) C).trans x4;obtain⟨y0,y1,y2,y3⟩:=cl4 M rfl rfl rfl rfl;have y4:=aX (o:=4) M rfl;clear hU i M o0 o2 o3 x0 x1 x2 x3 x4 az a0 a1 a2 a3 a4 PB HI R;generalize V.heap.size=yy at*
   by_cases k3:k=3
   .subst k3
    go_wp2_with fail
    refine(aUe _ _ O yt O.data.toList yt.data.toList xa xo xk ya yo yk c _ h4 h5 ⟨rfl⟩ ⟨rfl⟩ (Lt j.out) (Lt D.out) j.out.sp D.out.sp).mono ?_;rintro e v1⟨sg,N,u,p,q,r,rfl,W,B,z⟩;have HW:=aO (aWR N j.out.txt D.out.txt);have A:=aUf (Lt j.out) (Lt D.out) sg;have J:=aO A;have F:=aO (I.out.below z);have HU:=aO W;have L:=aO B;clear z W B A
    go_wp2_with fail
    refine(Pt w0 _ s f u _ p q r HU.out J.out HW.out L.out (F.out.below ((Below.refl _ _).alloc (n4 _) _)) HT.out hn).mono ?_;rintro e w2⟨rfl,h⟩;have H:=aO h;clear h
    go_wp2_with fail
    go_ret
    exact⟨rfl,H.out⟩
   by_cases k4:k=4
   .subst k4
    go_wp2_with fail
    refine(aMr _ O O.data.toList xa xo xk c _ h4 h5 ⟨rfl⟩ (Lt j.out) j.out.sp).mono ?_;rintro e v1⟨sg,N,u,p,q,r,rfl,W,B,z⟩;have HW:=aO (aPy N j.out.txt);have A:=aTt (Lt j.out) sg;have J:=aO A;have F:=aO (I.out.below z);have HU:=aO W;have L:=aO B;clear z W B A
    go_wp2_with fail
    refine(Pt w0 _ s f u _ p q r HU.out J.out HW.out L.out (F.out.below ((Below.refl _ _).alloc (n4 _) _)) HT.out hn).mono ?_;rintro e w2⟨rfl,h⟩;have H:=aO h;clear h
    go_wp2_with fail
    go_ret
    exact⟨rfl,H.out⟩
   have f3:(k==3)=false:=by simpa using k3
   have f4:(k==4)=false:=by simpa using k4
   go_wp2_with fail
   go_ret
   exact⟨rfl,f,I.out,by omega⟩
theorem aN1 (d w:World)(e:Nat)(f:List It)(k a b c:Int)(g:KInv d w e f)(n:mE d)(o:f.length<=3000000)(h:-9223372036854775808<=a)(i:a<=9223372036854775807)(j:-9223372036854775808<=b)(l:b<=9223372036854775807)(s:-9223372036854775808<=c)(u:c<=9223372036854775807):
  Calls prog 7 #[.pointer (some ⟨e,0,none⟩),Sn k a b c] w (kL d e f.length):=by
 by_cases k1:k=1
 .subst k1;exact aQQ d w e f a b c g n o h i j l
 by_cases q:k=2
 .subst q;exact aMw d w e f a b c g n o h i j l
 cases f with
 |nil=>exact aO6 d w e k a b c k1 q g
 |cons p r=>
  exact aO5 d w e (p::r) k a b c k1 q g n (by simp) o h i j l s u
open Go.ChangeShapes Go.WideShapes Go.RowKit
open Go.Deep (open_slice choose_lt add_add)
abbrev Ho:=Int×Int×Int×Int
structure Yp (x:Ho):Prop where
 k0:-9223372036854775808<=x.1
 k1:x.1<=9223372036854775807
 a0:-9223372036854775808<=x.2.1
 a1:x.2.1<=9223372036854775807
 b0:-9223372036854775808<=x.2.2.1
 b1:x.2.2.1<=9223372036854775807
 c0:-9223372036854775808<=x.2.2.2
 c1:x.2.2.2<=9223372036854775807
structure ScrK (w:World) (v:Value) (l:List Ho):Prop where
 sl:∃ ao cap,v=.slice ao l.length cap/\l.length<=cap/\cap<=maxLen/\(l=[]\/∃ b off,ao=some ⟨b,off,none⟩/\∀ (i:Nat) (h:i<l.length),
  w.cell? ⟨b,off+i*4,none⟩=some (.int .i64 l[i].1)/\w.cell? ⟨b,off+i*4+1,none⟩=some (.int .i64 l[i].2.1)/\w.cell? ⟨b,off+i*4+2,none⟩=some (.int .i64 l[i].2.2.1)/\w.cell? ⟨b,off+i*4+3,none⟩=some (.int .i64 l[i].2.2.2))
 ok:∀x∈l,Yp x
theorem Bm:(prog.underlying 39).map (λt=>match t with|.struct a=>a.toList.map (λf=>(f.offset,f.type))|_=>[])=some [(0,3),(1,3),(2,3),(3,3)]:=by kernel_rfl
theorem wE:prog.cellsOf 39=4:=by kernel_rfl
theorem lV:prog.cellsOf 3=1:=by kernel_rfl
theorem Bn:∃a,prog.underlying 39=some (.struct a)/\a.toList.map (λf=>(f.offset,f.type))=[(0,3),(1,3),(2,3),(3,3)]:=by
 have h:=Bm
 cases e:prog.underlying 39 with
 |none=>rw[e]at h;simp at h
 |some t=>
  rw[e]at h
  cases t<;>simp at h
  exact⟨_,rfl,h⟩
section
variable {H:Type} {enc:TypeId×Value->H} {w:World} {base:Nat} {spare:Nat->Bool} {held:Bool}
theorem aTv {n:Nat}{cs:LB}{x:DataW H×List MemPlace}(h:q8 enc prog w base spare held n 39 cs=some x):
  ∃s:Ho,cs=[.int .i64 s.1,.int .i64 s.2.1,.int .i64 s.2.2.1,.int .i64 s.2.2.2]/\Yp s:=by
 obtain⟨C,T,g⟩:=Bn;obtain⟨F,k,_,_,e,W,i⟩:=DataW.trod_struct T h;rw[wE]at e
 match cs,e with
 | [v0,v1,v2,v3],_=>
  have U:C.size=4:=by
   have:=congrArg List.length g
   simpa using this
  have d:∀(j:Nat) (o:Nat) (t:TypeId),[(0,3),(1,3),(2,3),(3,3)][j]?=some (o,t)->∃f,C[j]?=some f/\f.offset=o/\f.type=t:=by
   intro j o t l;rw[<-g]at l;simp only[List.getElem?_map,Option.map_eq_some_iff]at l;obtain⟨f,S,p⟩:=l;simp only[Prod.mk.injEq]at p;exact⟨f,by simpa using S,p.1,p.2⟩
  have val:∀j:Nat,j<4->∃y,F[j]?=some y:=λj l=>⟨F[j],List.getElem?_eq_getElem (by omega)⟩
  obtain⟨f0,N,X,Y⟩:=d 0 0 3 rfl;obtain⟨f1,O,o1,t1⟩:=d 1 1 3 rfl;obtain⟨f2,P,o2,t2⟩:=d 2 2 3 rfl;obtain⟨f3,R,o3,t3⟩:=d 3 3 3 rfl;obtain⟨y0,I⟩:=val 0 (by omega);obtain⟨y1,J⟩:=val 1 (by omega);obtain⟨y2,L⟩:=val 2 (by omega);obtain⟨y3,M⟩:=val 3 (by omega);have k0:=i 0 f0 N;have k1:=i 1 f1 O;have D:=i 2 f2 P;have E:=i 3 f3 R;rw[X,Y,lV,I]at k0;rw[o1,t1,lV,J]at k1;rw[o2,t2,lV,L]at D;rw[o3,t3,lV,M]at E;obtain⟨a,v,_,wa⟩:=q9 underlying3 k0;obtain⟨b,z,_,wb⟩:=q9 underlying3 k1;obtain⟨c,A,_,wc⟩:=q9 underlying3 D;obtain⟨s,B,_,ws⟩:=q9 underlying3 E;simp at v z A B;subst v z A B;have q:=bounds_i64 wa;have r:=bounds_i64 wb;have u:=bounds_i64 wc;have bs:=bounds_i64 ws;exact⟨(a,b,c,s),rfl,⟨q.1,q.2,r.1,r.2,u.1,u.2,bs.1,bs.2⟩⟩
theorem aQr {n:Nat}{v:Value}{x:DataW H×List MemPlace}(h:q8 enc prog w base spare held n 22 [v]=some x):∃l,ScrK w v l:=by
 rcases open_slice underlying22 h with⟨e,_⟩|⟨a,len,y,m,k,D,T,e,U,O,R,B,_,E⟩
 .simp only[List.cons.injEq,and_true]at e;subst e;exact⟨[],⟨none,0,rfl,n4 _,n8 _,Or.inl rfl⟩,λx E=>by cases E⟩
 .simp only[List.cons.injEq,and_true]at e;subst e
  have P:len<=m:=by rw[B];split<;>omega
  have p:∀i,i<len->∃s:Ho,Yp s/\∀j u,[Value.int .i64 s.1,.int .i64 s.2.1,.int .i64 s.2.2.1,.int .i64 s.2.2.2][j]?=some u->w.cell? (a.add (i*4+j))=some u:=by
   intro i hi;obtain⟨L,I,M⟩:=E i (by omega);rw[wE]at I;obtain⟨_,d,g⟩:=World.cells?_some I;obtain⟨s,rfl,C⟩:=aTv M;refine⟨s,C,λj u J=>?_⟩;have A:j<4:=(l7.1 J).1;rw[<-add_add,g j A];exact J
  obtain⟨f,z⟩:=choose_lt p
  have d:((l9 len).map f).length=len:=by simp
  refine⟨(l9 len).map f,⟨some a,y,by rw[d],by rw[d];exact O,R,?_⟩,?_⟩
  .rcases Nat.eq_zero_or_pos len with h0|h0
   .exact Or.inl (by rw[h0];rfl)
   .right;obtain⟨b,F,r⟩:=a;have c0:=(z 0 h0).2 0 _ rfl
    have o:r=none:=by simpa[Addr.add]using World.cell?_spot c0
    subst o;refine⟨b,F,rfl,λi hi=>?_⟩;rw[d]at hi
    have N:((l9 len).map f)[i]'(by rw[d];exact hi)=f i:=by simp
    rw[N];have q:=(z i hi).2;refine⟨?_,?_,?_,?_⟩
    .simpa[add_plain,n9]using q 0 _ rfl
    .simpa[add_plain,n9]using q 1 _ rfl
    .simpa[add_plain,n9]using q 2 _ rfl
    .simpa[add_plain,n9]using q 3 _ rfl
  .intro s S;obtain⟨i,hi,rfl⟩:=List.mem_map.1 S;exact(z i (List.mem_range.1 hi)).1
end
theorem KInv.start (w:World):KInv w (w.alloc (.cells #[.slice none 0 0] 36)) w.heap.size []:=
 ⟨⟨_,jN _ _,s8 _ _ _ _⟩,n4 _,(λp a=>by cases a),(Below.refl _ _).alloc (n4 _) _,(λp a=>by cases a)⟩
def Ej (w:World)(l:List Ho)(i:Value)(wr:World):Prop:=
 ∃(k:Nat) (a:List It),k<=l.length/\i=.int .i64 k/\a.length<=k/\KInv w wr w.heap.size a
def zG (w:World)(e:Ending)(b:World):Prop:=∃v,e=.returned (.tuple #[v,.bool true])/\Below w.heap.size w b/\∃a:List It,b.ownsRow w.heap.size 31 5 v a.length (dI a)/\a.length<=1048576/\(∀p∈a,ItOk p)/\∀p∈a,iU b p.1
theorem aQh (w:World)(v:Value)(l:List Ho)(h:ScrK w v l)(D:mE w):Calls prog 4 #[v] w (zG w):=by
 obtain⟨P,L,rfl,R,S,o⟩:=h.sl;have J:=aO D;clear D
 by_cases r:(l.length:Int)>1048576
 .have T:(1048576<(l.length:Int))=True:=eq_true r
  go_enter func4,ntmps4
  go_wp2_with fail
  refine bodyPost_ret (v:=.tuple #[.slice none 0 0,.bool true]) (by simp[results,results4,go_sem]) rfl ?_;exact⟨_,rfl,(Below.refl _ _).alloc (n4 _) _,[],s8 _ _ _ _,by decide,(λp u=>by cases u),(λp u=>by cases u)⟩
 .have W:l.length<=1048576:=by omega
  go_enter func4,ntmps4
  go_wp2_with fail
  go_loopw [13] (λi wr=>Ej w l i wr) (λi _=>l.length-(intOf i).toNat)
  case atStart=>exact⟨0,[],n8 _,rfl,n4 _,KInv.start w⟩
  case round=>
   obtain⟨k,n,U,rfl,M,d⟩:=hrel
   by_cases f:k<l.length
   .rcases o with o|⟨b,O,rfl,o⟩
    .rw[o]at f;simp at f
    have a:=aO (h.ok l[k] (l8 f));obtain⟨c0,c1,c2,c3⟩:=o k f;generalize l[k]=x at*;obtain⟨N,A,B,C⟩:=x;simp only at c0 c1 c2 c3;have d0:=(d.zV.cell (Nv c0)).trans c0;have d1:=(d.zV.cell (Nv c1)).trans c1;have d2:=(d.zV.cell (Nv c2)).trans c2;have d3:=(d.zV.cell (Nv c3)).trans c3;have H:=aO d;clear o c0 c1 c2 c3 d
    go_wp2_with fail
    refine(aN1 w _ w.heap.size n N A B C H.out J.out (by omega) a.out.a0 a.out.a1 a.out.b0 a.out.b1 a.out.c0 a.out.c1).mono ?_;rintro e X⟨rfl,z,q,E⟩;have s:=aO q;clear q d0 d1 d2 d3
    go_wp2_with fail
    go_roundw
    case rel=>exact⟨k+1,z,by omega,by simp,by omega,s.out⟩
    case measure=>simp[intOf];omega
   .obtain rfl:k=l.length:=by omega
    obtain⟨y,g,j⟩:=d.bS;have c0:wr.cell? ⟨w.heap.size,0,none⟩=some y:=aX g rfl;have F:=aO d.zV;have I:=aO (show∃n:List It,wr.ownsRow w.heap.size 31 5 y n.length (dI n)/\n.length<=1048576/\(∀p∈n,ItOk p)/\∀p∈n,iU wr p.1 from⟨n,j,by omega,d.all,d.ex⟩);clear d g j
    go_wp2_with fail
    refine bodyPost_ret (v:=.tuple #[y,.bool true]) (by simp[results,results4,go_sem]) rfl ?_;exact⟨_,rfl,F.out,I.out⟩
end Go.Proofs.YtpdflaaamaokbaaGreatDoor
