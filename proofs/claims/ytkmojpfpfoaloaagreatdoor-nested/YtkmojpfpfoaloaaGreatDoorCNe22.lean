import Derived.Test.YtkmojpfpfoaloaaGreatDoorCNe21
import Derived.Test.YtkmojpfpfoaloaaGreatDoorCNe17
import Derived.Test.YtkmojpfpfoaloaaGreatDoorCNe18
import Derived.Test.YtkmojpfpfoaloaaGreatDoorCards
import Derived.Test.YtkmojpfpfoaloaaGreatDoorTie
import Derived.Deep.Slices
import Derived.ChangeSame
import Derived.ProofKit
import Derived.OpenShut
import Derived.WalkKit
import Derived.Carry
import Derived.Deep.DeepHandedRow
import Derived.Lib.LaidTab
import Derived.Stop.LaidErr
set_option linter.all false
set_option maxRecDepth 100000
set_option maxHeartbeats 2000000
namespace Go.Proofs.YtkmojpfpfoaloaaGreatDoor
open Go.Proofs.Tryz
open Go.RowKit
open Go.Deep (BT)
theorem Ox (e w:World)(f:Nat)(d:List It)(t:ByteArray)(l:List UInt8)(a b:Int)(k:Bool)(h:eC t l)(p:l.length<=1000000)(o:Wr l)(g:SpOk a b)(i:KInv e w f d)(j:oU e)(q:d.length<=3000000):
  Calls prog 9 #[.pointer (some ⟨f,0,none⟩),.string t,sv a b k] w (iY e f d.length):=by
 obtain⟨c,hc,n⟩:=o;exact aSH e w f d t c a b k hc (by rw[h.eq];exact n) g (by have:=h.size;unfold maxLen;omega) i j (by omega)
theorem aMP {A:List UInt8}(h:ConstTxt A):A.length<=1000000:=by
 rcases h with rfl|rfl|⟨x,y,z,d,a,e,b,f,rfl⟩
 ·decide
 ·decide
 ·have:=Rd.Xe (ts:=[(x:Int),y,z]) (by intro v hv;simp at hv;rcases hv with rfl|rfl|rfl<;>exact⟨by omega,by omega⟩) 3;unfold Rd.dX;simp at this ⊢;omega
theorem He {n:World}{a:Addr}{z:Value}(h:n.cell? a=some z):a.block<n.heap.size:=by
 unfold World.cell? at h
 by_cases b:a.block<n.heap.size
 ·exact b
 ·simp[Array.getElem?_eq_none (Nat.le_of_not_lt b)]at h
abbrev Jk (k a b c:Int):Value:=.agg #[.int .i64 k,.int .i64 a,.int .i64 b,.int .i64 c]
theorem aL6 (i w:World)(j:Nat)(g:List It)(a b c:Int)(v:KInv i w j g)(x:oU i)(L:g.length<=3000000)(E:-9223372036854775808<=a)(F:a<=9223372036854775807)(I:-9223372036854775808<=b)(J:b<=9223372036854775807):
  Calls prog 7 #[.pointer (some ⟨j,0,none⟩),Jk 2 a b c] w (iY i j g.length):=by
 have z:=aL (fun w=>aHV a b w E F I J);have A:=aL (v.below ((Below.refl w.heap.size w).alloc (Nat.le_refl _) (.cells #[.int .i64 2,.int .i64 a,.int .i64 b,.int .i64 c] 39)));have B:=aL x;clear v x
 go_enter func7,ntmps7
 go_wp2_with fail
 refine(z.out _).mono ?_;rintro e M⟨l,o,u,p,q,r,rfl,y,f,d⟩;have s:l.length<=1000000:=aMP o;have k:=aL (A.out.below d);have C:=aL y;have D:=aL (aQC o);have n:=aL f;clear d y o f
 go_wp2_with fail
 refine(Ox i _ j g u l p q r C.out s D.out n.out (k.out.below ((Below.refl _ _).alloc (Nat.le_refl _) _)) B.out L).mono ?_;rintro e N⟨rfl,h⟩;have H:=aL h;clear h
 go_wp2_with fail
 go_ret
 exact⟨rfl,H.out⟩
theorem aP7 (A w:World)(B:Nat)(s:List It)(a b c:Int)(N:KInv A w B s)(O:oU A)(P:s.length<=3000000)(h0:-9223372036854775808<=a)(h1:a<=9223372036854775807)(h2:-9223372036854775808<=b)(h3:b<=9223372036854775807):
  Calls prog 7 #[.pointer (some ⟨B,0,none⟩),Jk 1 a b c] w (iY A B s.length):=by
 have hp:=tJ a 40 (by decide);have hq:=tJ b 12 (by decide);have U:=aL (fun w=>pB a 40 w h0 h1 (by decide) (by decide));have W:=aL (fun w=>pB b 12 w h2 h3 (by decide) (by decide));generalize pickI a 40=p at*;generalize pickI b 12=q at*;have J:=aL (N.below ((Below.refl w.heap.size w).alloc (Nat.le_refl _) (.cells #[.int .i64 1,.int .i64 a,.int .i64 b,.int .i64 c] 39)));have L:=aL O;have M:=aL (fun w=>Xi p w (by omega))
 have T:Hid (∀(v:Int) (w:World),v=((1+q:Nat):Int)->Calls prog 10 #[.int .i64 v] w (jY w (Rd.dec ((1+q:Nat):Int)))):=by
  rintro v w rfl;exact Xi (1+q) w (by omega)
 have X:=aL (fun n w=>Sb n w)
 have RT:Hid (∀(v:Int) (w:World),v=((1+q:Nat):Int)->Calls prog 12 #[.int .i64 p,.int .i64 v] w (bE w)):=by
  rintro v w rfl;exact(Sc p ((1+q:Nat):Int) w (by omega) (by omega) (by omega) (by omega)).mono (fun _ _ h=>cM.sp (Gy (by omega) (Int.le_refl _)) h)
 have l1:(Rd.dec (p:Int)).length<=9:=Rd.Cd ⟨by omega,by omega⟩;have l2:(Rd.dec ((1+q:Nat):Int)).length<=9:=Rd.Cd ⟨by omega,by omega⟩;have Y:=aL (aVL (v:=(p:Int)) ⟨by omega,by omega⟩);have WR:=aL (aQD (p:=(p:Int)) (q:=((1+q:Nat):Int)) ⟨by omega,by omega⟩ ⟨by omega,by omega⟩);clear N O
 go_enter func7,ntmps7
 go_wp2_with fail
 refine(U.out _).mono ?_;rintro e I⟨rfl,rfl⟩
 go_wp2_with fail
 refine(W.out _).mono ?_;rintro e I⟨rfl,rfl⟩
 by_cases F:q=0
 ·subst F
  go_wp2_with fail
  refine(M.out _).mono ?_;rintro e I⟨u,rfl,o,d⟩;have i:=aL (J.out.below d);have R:=aL o;clear d o
  go_wp2_with fail
  refine((X.out _ _).mono (fun _ _ h=>cM.sp (Int.le_refl _) h)).mono ?_;rintro e w2⟨x,y,z,rfl,g,f⟩;have j:=aL (i.out.below f);have k:=aL g;clear f g
  go_wp2_with fail
  refine(Ox A _ B s u _ x y z R.out (by omega) Y.out k.out j.out L.out P).mono ?_;rintro e w4⟨rfl,h⟩;have H:=aL h;clear h
  go_wp2_with fail
  go_ret
  exact⟨rfl,H.out⟩
 ·have ag:((1:Int)+q==1)=false:=beq_eq_false_iff_ne.2 (by omega)
  go_wp2_with fail
  refine(M.out _).mono ?_;rintro e I⟨u,rfl,o,d⟩;have i:=aL (J.out.below d);obtain⟨y1,aj,C⟩:=yC o (eC.mk' [47]) (by simp only[List.length_cons,List.length_nil];omega);clear d o
  go_wp2_with fail
  refine(T.out _ _ (by first|rfl|omega)).mono ?_;rintro e w2⟨u2,rfl,r,f⟩;have j:=aL (i.out.below f);obtain⟨y2,ak,D⟩:=yC C r (by simp only[List.length_append,List.length_cons,List.length_nil];omega);have S:=aL D;clear f r C D
  go_wp2_with fail
  refine(RT.out _ _ (by first|rfl|omega)).mono ?_;rintro e w3⟨x,y,z,rfl,g,l⟩;have E:=aL (j.out.below l);have k:=aL g;clear l g
  go_wp2_with fail
  refine(Ox A _ B s y2 _ x y z (S.out.to (by simp)) (by simp only[List.length_append,List.length_cons];omega) WR.out k.out E.out L.out P).mono ?_;rintro e w4⟨rfl,h⟩;have H:=aL h;clear h
  go_wp2_with fail
  go_ret
  exact⟨rfl,H.out⟩
theorem aOu (n w:World)(d:Nat)(k a b c:Int)(q:k≠1)(i:k≠2)(h:KInv n w d []):
  Calls prog 7 #[.pointer (some ⟨d,0,none⟩),Jk k a b c] w (iY n d 0):=by
 obtain⟨v,f,l⟩:=h.cD;have c0:w.cell? ⟨d,0,none⟩=some v:=bK f rfl
 obtain⟨j,cp,rfl⟩:∃j cp,v=.slice j 0 cp:=by
  rcases l.2 with⟨e,_⟩|⟨g,o,p,e,_⟩
  ·exact⟨_,_,e⟩
  ·exact⟨_,_,e⟩
 have R:=aL (h.below ((Below.refl w.heap.size w).alloc (Nat.le_refl _) (.cells #[.int .i64 k,.int .i64 a,.int .i64 b,.int .i64 c] 39)));have r:=eZ f
 have s:(k==1)=false:=by simpa using q
 have u:(k==2)=false:=by simpa using i
 clear f l h
 go_enter func7,ntmps7
 go_wp2_with fail
 go_ret
 exact⟨rfl,[],R.out,by simp⟩
theorem KInv.item {n b:World}{w:Nat}{f:List It}(h:KInv n b w f)(a:Nat)(B:a<f.length):
  ∃g i,b.cell? ⟨w,0,none⟩=some (.slice (some ⟨g,0,none⟩) f.length i)/\(∀(m:Nat) (p:m<f.length),b.cell? ⟨g,m*5,none⟩=some (.pointer (some ⟨f[m].1,0,none⟩))/\b.cell? ⟨g,m*5+1,none⟩=some (.string f[m].2.1)/\b.cell? ⟨g,m*5+2,none⟩=some (.int .i64 f[m].2.2.1)/\b.cell? ⟨g,m*5+3,none⟩=some (.int .i64 f[m].2.2.2.1)/\b.cell? ⟨g,m*5+4,none⟩=some (.bool f[m].2.2.2.2)):=by
 obtain⟨v,x,y⟩:=h.cD
 rcases y.2 with⟨_,e⟩|⟨g,i,o,e,_,k,_,_,_,z⟩
 ·omega
 ·subst e
  have d:∀(j:Nat) (u:Value),(dE f)[j]?=some u->o[j]?=some u:=by
   intro j u l;rw[<-z]at l;have A:=(List.getElem?_eq_some_iff.1 l).1;rw[List.getElem?_take_of_lt (by simp at A;omega)]at l
   simpa using l
  refine⟨g,i,bK x rfl,fun m p=>?_⟩;obtain⟨a0,a1,q,r,s⟩:=aIc f m p;exact⟨bK k (d _ _ a0),bK k (d _ _ a1),bK k (d _ _ q),bK k (d _ _ r),bK k (d _ _ s)⟩
theorem Kx {p:It}(h:ItOk p):p.2.1.data.toList.length<=1000:=by
 have:=h.len;have e:p.2.1.data.toList.length=p.2.1.size:=Array.length_toList;omega
theorem aTf {lt a:List UInt8}(h:lt.length<=1000)(b:a.length<=1000)(s:UInt8):(40::(lt++[41,32,s,32,40]++a++[41])).length<=1000000:=by
 simp;omega
theorem aSx {lt:List UInt8}(h:lt.length<=1000)(i:Nat):(Cn i++40::(lt++[41])).length<=1000000:=by
 have:(Cn i).length<=4:=by unfold Cn;split;simp;split;simp;split;simp;split<;>simp
 simp;omega
theorem aP9 (T w:World)(s:Nat)(i:List It)(a b c:Int)(C:KInv T w s i)(hT:oU T)(S:0<i.length)(hn:i.length<=3000000)(h0:-9223372036854775808<=a)(h1:a<=9223372036854775807)(h2:-9223372036854775808<=b)(h3:b<=9223372036854775807)(h4:-9223372036854775808<=c)(h5:c<=9223372036854775807):
  Calls prog 7 #[.pointer (some ⟨s,0,none⟩),Jk 3 a b c] w (iY T s i.length):=by
 have hx:=tJ a i.length S;have hy:=tJ b i.length S;have PA:=aL (fun w=>pB a i.length w h0 h1 S (by omega));have PB:=aL (fun w=>pB b i.length w h2 h3 S (by omega));generalize pickI a i.length=x at*;generalize pickI b i.length=y at*;obtain⟨g,E,c0,hc⟩:=C.item x hx;have IX:=C.all i[x] (List.getElem_mem hx);have IY:=C.all i[y] (List.getElem_mem hy);obtain⟨d0,d1,d2,d3,d4⟩:=hc x hx;obtain⟨e0,e1,e2,e3,e4⟩:=hc y hy;generalize i[x]=X at*;generalize i[y]=Y at*;obtain⟨xb,O,W,xo,xk⟩:=X;obtain⟨yb,P,ya,yo,yk⟩:=Y;simp only at d0 d1 d2 d3 d4 e0 e1 e2 e3 e4;have HI:=aL C;have HT:=aL hT;have v:=aL IX;have z:=aL IY;have M:=eZ (C.cD.choose_spec.1);have j:=He d0;simp only at j
 have br:¬s=w.heap.size:=by omega
 have bs:¬s=w.heap.size+1:=by omega
 have bt:¬s=w.heap.size+1+1:=by omega
 have bu:¬s=w.heap.size+2:=by omega
 have bx:¬g=w.heap.size:=by omega
 have bz:¬g=w.heap.size+1:=by omega
 have b0:¬g=w.heap.size+1+1:=by omega
 have b1:¬g=w.heap.size+2:=by omega
 have bq:((i.length:Int)==0)=false:=beq_eq_false_iff_ne.2 (by omega);clear C hT IX IY hc
 go_enter func7,ntmps7
 go_wp2_with fail
 go_region_held3 (fun k=>k.cell? ⟨s,0,none⟩=some (.slice (some ⟨g,0,none⟩) i.length E)/\k.cell? ⟨g,x*5,none⟩=some (.pointer (some ⟨xb,0,none⟩))/\k.cell? ⟨g,x*5+1,none⟩=some (.string O)/\k.cell? ⟨g,x*5+2,none⟩=some (.int .i64 W)/\k.cell? ⟨g,x*5+3,none⟩=some (.int .i64 xo)/\k.cell? ⟨g,x*5+4,none⟩=some (.bool xk)/\k.cell? ⟨w.heap.size,1,none⟩=some (.int .i64 a)) (go_keep)
  ((go_at_call 6;refine(PA.out _).mono ?_;rintro e w2⟨rfl,rfl⟩))
 all_goals
  go_wp2_with fail
  obtain⟨V,F⟩:∃V,V=((w.alloc (.cells #[.int .i64 3,.int .i64 a,.int .i64 b,.int .i64 c] 39)).alloc (.cells #[.pointer (some ⟨xb,0,none⟩),.string O,.int .i64 W,.int .i64 xo,.bool xk] 31)).drew:=⟨_,rfl⟩
  rw[<-F]
  have d:Below w.heap.size w V:=by rw[F];exact(((Below.refl w.heap.size w).alloc (Nat.le_refl _) _).alloc (by simp) _).trans ((pT _).mono (by simp;omega))
  have l:V.heap[w.heap.size]?=some (.cells #[.int .i64 3,.int .i64 a,.int .i64 b,.int .i64 c] 39 (0,0)):=by rw[F];exact rS (jC _ _)
  have A:V.heap[w.heap.size+1]?=some (.cells #[.pointer (some ⟨xb,0,none⟩),.string O,.int .i64 W,.int .i64 xo,.bool xk] 31 (0,0)):=by rw[F];exact zC (by simp)
  have D:=aL (HI.out.below d);have au:=(d.cell (p:=⟨s,0,none⟩) M).trans c0;have av:=(d.cell (p:=⟨g,y*5,none⟩) j).trans e0;have ax:=(d.cell (p:=⟨g,y*5+1,none⟩) j).trans e1;have ay:=(d.cell (p:=⟨g,y*5+2,none⟩) j).trans e2;have az:=(d.cell (p:=⟨g,y*5+3,none⟩) j).trans e3;have a0:=(d.cell (p:=⟨g,y*5+4,none⟩) j).trans e4;have o0:=bK (o:=0) l rfl;have o2:=bK (o:=2) l rfl;have o3:=bK (o:=3) l rfl;obtain⟨x0,x1,x2,x3⟩:=Lj A rfl rfl rfl rfl;have x4:=bK (o:=4) A rfl;have N:=eZ l;have n:=eZ A;have b2:=Nat.lt_of_lt_of_le M d.size;have b3:=Nat.lt_of_lt_of_le j d.size;clear F d l A c0 d0 d1 d2 d3 d4 e0 e1 e2 e3 e4 PA
  go_region_held3 (fun k=>k.cell? ⟨s,0,none⟩=some (.slice (some ⟨g,0,none⟩) i.length E)/\k.cell? ⟨g,y*5,none⟩=some (.pointer (some ⟨yb,0,none⟩))/\k.cell? ⟨g,y*5+1,none⟩=some (.string P)/\k.cell? ⟨g,y*5+2,none⟩=some (.int .i64 ya)/\k.cell? ⟨g,y*5+3,none⟩=some (.int .i64 yo)/\k.cell? ⟨g,y*5+4,none⟩=some (.bool yk)/\k.cell? ⟨w.heap.size,2,none⟩=some (.int .i64 b)) (go_keep)
   ((go_at_call 6;refine(PB.out _).mono ?_;rintro e w2⟨rfl,rfl⟩))
  all_goals
   obtain⟨U,R⟩:∃U,U=(V.alloc (.cells #[.pointer (some ⟨yb,0,none⟩),.string P,.int .i64 ya,.int .i64 yo,.bool yk] 31)).drew:=⟨_,rfl⟩
   rw[<-R]
   have f:Below V.heap.size V U:=by rw[R];exact((Below.refl V.heap.size V).alloc (Nat.le_refl _) _).trans ((pT _).mono (by simp))
   have B:U.heap[V.heap.size]?=some (.cells #[.pointer (some ⟨yb,0,none⟩),.string P,.int .i64 ya,.int .i64 yo,.bool yk] 31 (0,0)):=by rw[R];exact jC _ _
   have ah:=aL (D.out.below f);have p0:=(f.cell (p:=⟨w.heap.size,0,none⟩) N).trans o0;have p3:=(f.cell (p:=⟨w.heap.size,3,none⟩) N).trans o3;have u0:=(f.cell (p:=⟨w.heap.size+1,0,none⟩) n).trans x0;have u1:=(f.cell (p:=⟨w.heap.size+1,1,none⟩) n).trans x1;have u2:=(f.cell (p:=⟨w.heap.size+1,2,none⟩) n).trans x2;have u3:=(f.cell (p:=⟨w.heap.size+1,3,none⟩) n).trans x3;have u4:=(f.cell (p:=⟨w.heap.size+1,4,none⟩) n).trans x4;obtain⟨y0,y1,y2,y3⟩:=Lj B rfl rfl rfl rfl;have y4:=bK (o:=4) B rfl;clear R f B o0 o2 o3 x0 x1 x2 x3 x4 au av ax ay az a0 PB HI D;generalize V.heap.size=yy at*
   go_wp2_with fail
   refine(aTe _ _ O P O.data.toList P.data.toList W xo xk ya yo yk c _ h4 h5 ⟨rfl⟩ ⟨rfl⟩ (Kx v.out) (Kx z.out) v.out.sp z.out.sp).mono ?_;rintro e v1⟨sg,aq,u,p,q,r,rfl,hu,L,I⟩;have HW:=aL (aVM aq v.out.txt z.out.txt);have J:=aTf (Kx v.out) (Kx z.out) sg;have ai:=aL J;have ag:=aL (ah.out.below I);have HU:=aL hu;have aj:=aL L;clear I hu L J
   go_wp2_with fail
   refine(Ox T _ s i u _ p q r HU.out ai.out HW.out aj.out (ag.out.below ((Below.refl _ _).alloc (Nat.le_refl _) _)) HT.out hn).mono ?_;rintro e w2⟨rfl,h⟩;have H:=aL h;clear h
   go_wp2_with fail
   go_ret
   exact⟨rfl,H.out⟩
theorem aP8 (R w:World)(s:Nat)(i:List It)(a b c:Int)(B:KInv R w s i)(hT:oU R)(P:0<i.length)(hn:i.length<=3000000)(h0:-9223372036854775808<=a)(h1:a<=9223372036854775807)(h2:-9223372036854775808<=b)(h3:b<=9223372036854775807)(h4:-9223372036854775808<=c)(h5:c<=9223372036854775807):
  Calls prog 7 #[.pointer (some ⟨s,0,none⟩),Jk 4 a b c] w (iY R s i.length):=by
 have hx:=tJ a i.length P;have hy:=tJ b i.length P;have PA:=aL (fun w=>pB a i.length w h0 h1 P (by omega));have PB:=aL (fun w=>pB b i.length w h2 h3 P (by omega));generalize pickI a i.length=x at*;generalize pickI b i.length=y at*;obtain⟨g,D,c0,hc⟩:=B.item x hx;have IX:=B.all i[x] (List.getElem_mem hx);have IY:=B.all i[y] (List.getElem_mem hy);obtain⟨d0,d1,d2,d3,d4⟩:=hc x hx;obtain⟨e0,e1,e2,e3,e4⟩:=hc y hy;generalize i[x]=X at*;generalize i[y]=Y at*;obtain⟨xb,N,S,W,T⟩:=X;obtain⟨yb,yt,ya,yo,yk⟩:=Y;simp only at d0 d1 d2 d3 d4 e0 e1 e2 e3 e4;have HI:=aL B;have HT:=aL hT;have v:=aL IX;have be:=aL IY;have L:=eZ (B.cD.choose_spec.1);have j:=He d0;simp only at j
 have br:¬s=w.heap.size:=by omega
 have bs:¬s=w.heap.size+1:=by omega
 have bt:¬s=w.heap.size+1+1:=by omega
 have bu:¬s=w.heap.size+2:=by omega
 have bx:¬g=w.heap.size:=by omega
 have bz:¬g=w.heap.size+1:=by omega
 have b0:¬g=w.heap.size+1+1:=by omega
 have b1:¬g=w.heap.size+2:=by omega
 have bq:((i.length:Int)==0)=false:=beq_eq_false_iff_ne.2 (by omega);clear B hT IX IY hc
 go_enter func7,ntmps7
 go_wp2_with fail
 go_region_held3 (fun k=>k.cell? ⟨s,0,none⟩=some (.slice (some ⟨g,0,none⟩) i.length D)/\k.cell? ⟨g,x*5,none⟩=some (.pointer (some ⟨xb,0,none⟩))/\k.cell? ⟨g,x*5+1,none⟩=some (.string N)/\k.cell? ⟨g,x*5+2,none⟩=some (.int .i64 S)/\k.cell? ⟨g,x*5+3,none⟩=some (.int .i64 W)/\k.cell? ⟨g,x*5+4,none⟩=some (.bool T)/\k.cell? ⟨w.heap.size,1,none⟩=some (.int .i64 a)) (go_keep)
  ((go_at_call 6;refine(PA.out _).mono ?_;rintro e w2⟨rfl,rfl⟩))
 all_goals
  go_wp2_with fail
  obtain⟨V,E⟩:∃V,V=((w.alloc (.cells #[.int .i64 4,.int .i64 a,.int .i64 b,.int .i64 c] 39)).alloc (.cells #[.pointer (some ⟨xb,0,none⟩),.string N,.int .i64 S,.int .i64 W,.bool T] 31)).drew:=⟨_,rfl⟩
  rw[<-E]
  have d:Below w.heap.size w V:=by rw[E];exact(((Below.refl w.heap.size w).alloc (Nat.le_refl _) _).alloc (by simp) _).trans ((pT _).mono (by simp;omega))
  have l:V.heap[w.heap.size]?=some (.cells #[.int .i64 4,.int .i64 a,.int .i64 b,.int .i64 c] 39 (0,0)):=by rw[E];exact rS (jC _ _)
  have z:V.heap[w.heap.size+1]?=some (.cells #[.pointer (some ⟨xb,0,none⟩),.string N,.int .i64 S,.int .i64 W,.bool T] 31 (0,0)):=by rw[E];exact zC (by simp)
  have C:=aL (HI.out.below d);have am:=(d.cell (p:=⟨s,0,none⟩) L).trans c0;have ao:=(d.cell (p:=⟨g,y*5,none⟩) j).trans e0;have ap:=(d.cell (p:=⟨g,y*5+1,none⟩) j).trans e1;have aq:=(d.cell (p:=⟨g,y*5+2,none⟩) j).trans e2;have ar:=(d.cell (p:=⟨g,y*5+3,none⟩) j).trans e3;have au:=(d.cell (p:=⟨g,y*5+4,none⟩) j).trans e4;have o0:=bK (o:=0) l rfl;have o2:=bK (o:=2) l rfl;have o3:=bK (o:=3) l rfl;obtain⟨x0,x1,x2,x3⟩:=Lj z rfl rfl rfl rfl;have x4:=bK (o:=4) z rfl;have M:=eZ l;have n:=eZ z;have b2:=Nat.lt_of_lt_of_le L d.size;have b3:=Nat.lt_of_lt_of_le j d.size;clear E d l z c0 d0 d1 d2 d3 d4 e0 e1 e2 e3 e4 PA
  go_region_held3 (fun k=>k.cell? ⟨s,0,none⟩=some (.slice (some ⟨g,0,none⟩) i.length D)/\k.cell? ⟨g,y*5,none⟩=some (.pointer (some ⟨yb,0,none⟩))/\k.cell? ⟨g,y*5+1,none⟩=some (.string yt)/\k.cell? ⟨g,y*5+2,none⟩=some (.int .i64 ya)/\k.cell? ⟨g,y*5+3,none⟩=some (.int .i64 yo)/\k.cell? ⟨g,y*5+4,none⟩=some (.bool yk)/\k.cell? ⟨w.heap.size,2,none⟩=some (.int .i64 b)) (go_keep)
   ((go_at_call 6;refine(PB.out _).mono ?_;rintro e w2⟨rfl,rfl⟩))
  all_goals
   obtain⟨U,O⟩:∃U,U=(V.alloc (.cells #[.pointer (some ⟨yb,0,none⟩),.string yt,.int .i64 ya,.int .i64 yo,.bool yk] 31)).drew:=⟨_,rfl⟩
   rw[<-O]
   have f:Below V.heap.size V U:=by rw[O];exact((Below.refl V.heap.size V).alloc (Nat.le_refl _) _).trans ((pT _).mono (by simp))
   have A:U.heap[V.heap.size]?=some (.cells #[.pointer (some ⟨yb,0,none⟩),.string yt,.int .i64 ya,.int .i64 yo,.bool yk] 31 (0,0)):=by rw[O];exact jC _ _
   have ab:=aL (C.out.below f);have p0:=(f.cell (p:=⟨w.heap.size,0,none⟩) M).trans o0;have p3:=(f.cell (p:=⟨w.heap.size,3,none⟩) M).trans o3;have u0:=(f.cell (p:=⟨w.heap.size+1,0,none⟩) n).trans x0;have u1:=(f.cell (p:=⟨w.heap.size+1,1,none⟩) n).trans x1;have u2:=(f.cell (p:=⟨w.heap.size+1,2,none⟩) n).trans x2;have u3:=(f.cell (p:=⟨w.heap.size+1,3,none⟩) n).trans x3;have u4:=(f.cell (p:=⟨w.heap.size+1,4,none⟩) n).trans x4;obtain⟨y0,y1,y2,y3⟩:=Lj A rfl rfl rfl rfl;have y4:=bK (o:=4) A rfl;clear O f A o0 o2 o3 x0 x1 x2 x3 x4 am ao ap aq ar au PB HI C;generalize V.heap.size=yy at*
   go_wp2_with fail
   refine(aL2 _ N N.data.toList S W T c _ h4 h5 ⟨rfl⟩ (Kx v.out) v.out.sp).mono ?_;rintro e v1⟨sg,ak,u,p,q,r,rfl,hu,J,F⟩;have HW:=aL (aOS ak v.out.txt);have I:=aSx (Kx v.out) sg;have ad:=aL I;have aa:=aL (ab.out.below F);have HU:=aL hu;have ae:=aL J;clear F hu J I
   go_wp2_with fail
   refine(Ox R _ s i u _ p q r HU.out ad.out HW.out ae.out (aa.out.below ((Below.refl _ _).alloc (Nat.le_refl _) _)) HT.out hn).mono ?_;rintro e w2⟨rfl,h⟩;have H:=aL h;clear h
   go_wp2_with fail
   go_ret
   exact⟨rfl,H.out⟩
theorem aL7 (w0 w:World)(q:Nat)(h:List It)(k a b c:Int)(k1:k≠1)(k2:k≠2)(k3:k≠3)(k4:k≠4)(u:KInv w0 w q h)(E:0<h.length)(hn:h.length<=3000000)(h0:-9223372036854775808<=a)(h1:a<=9223372036854775807)(h2:-9223372036854775808<=b)(h3:b<=9223372036854775807):
  Calls prog 7 #[.pointer (some ⟨q,0,none⟩),Jk k a b c] w (iY w0 q h.length):=by
 have N:=tJ a h.length E;have hy:=tJ b h.length E;have PA:=aL (fun w=>pB a h.length w h0 h1 E (by omega));have PB:=aL (fun w=>pB b h.length w h2 h3 E (by omega));generalize pickI a h.length=x at*;generalize pickI b h.length=y at*;obtain⟨g,z,c0,hc⟩:=u.item x N;have IX:=u.all h[x] (List.getElem_mem N);have IY:=u.all h[y] (List.getElem_mem hy);obtain⟨d0,d1,d2,d3,d4⟩:=hc x N;obtain⟨H,I,J,L,M⟩:=hc y hy;generalize h[x]=X at*;generalize h[y]=Y at*;obtain⟨xb,xt,xa,xo,xk⟩:=X;obtain⟨yb,yt,ya,yo,yk⟩:=Y;simp only at d0 d1 d2 d3 d4 H I J L M;have HI:=aL u;have B:=eZ (u.cD.choose_spec.1);have i:=He d0;simp only at i
 have a6:¬q=w.heap.size:=by omega
 have a7:¬q=w.heap.size+1:=by omega
 have a8:¬q=w.heap.size+1+1:=by omega
 have a9:¬q=w.heap.size+2:=by omega
 have ba:¬g=w.heap.size:=by omega
 have bb:¬g=w.heap.size+1:=by omega
 have bc:¬g=w.heap.size+1+1:=by omega
 have be:¬g=w.heap.size+2:=by omega
 have a5:((h.length:Int)==0)=false:=beq_eq_false_iff_ne.2 (by omega)
 have f1:(k==1)=false:=by simpa using k1
 have f2:(k==2)=false:=by simpa using k2
 have f3:(k==3)=false:=by simpa using k3
 have f4:(k==4)=false:=by simpa using k4
 clear u IX IY hc k1 k2 k3 k4
 go_enter func7,ntmps7
 go_wp2_with fail
 go_region_held3 (fun j=>j.cell? ⟨q,0,none⟩=some (.slice (some ⟨g,0,none⟩) h.length z)/\j.cell? ⟨g,x*5,none⟩=some (.pointer (some ⟨xb,0,none⟩))/\j.cell? ⟨g,x*5+1,none⟩=some (.string xt)/\j.cell? ⟨g,x*5+2,none⟩=some (.int .i64 xa)/\j.cell? ⟨g,x*5+3,none⟩=some (.int .i64 xo)/\j.cell? ⟨g,x*5+4,none⟩=some (.bool xk)/\j.cell? ⟨w.heap.size,1,none⟩=some (.int .i64 a)) (go_keep)
  ((go_at_call 6;refine(PA.out _).mono ?_;rintro e w2⟨rfl,rfl⟩))
 all_goals
  go_wp2_with fail
  obtain⟨V,A⟩:∃V,V=((w.alloc (.cells #[.int .i64 k,.int .i64 a,.int .i64 b,.int .i64 c] 39)).alloc (.cells #[.pointer (some ⟨xb,0,none⟩),.string xt,.int .i64 xa,.int .i64 xo,.bool xk] 31)).drew:=⟨_,rfl⟩
  rw[<-A]
  have d:Below w.heap.size w V:=by rw[A];exact(((Below.refl w.heap.size w).alloc (Nat.le_refl _) _).alloc (by simp) _).trans ((pT _).mono (by simp;omega))
  have l:V.heap[w.heap.size]?=some (.cells #[.int .i64 k,.int .i64 a,.int .i64 b,.int .i64 c] 39 (0,0)):=by rw[A];exact rS (jC _ _)
  have r:V.heap[w.heap.size+1]?=some (.cells #[.pointer (some ⟨xb,0,none⟩),.string xt,.int .i64 xa,.int .i64 xo,.bool xk] 31 (0,0)):=by rw[A];exact zC (by simp)
  have v:=aL (HI.out.below d);have O:=(d.cell (p:=⟨q,0,none⟩) B).trans c0;have P:=(d.cell (p:=⟨g,y*5,none⟩) i).trans H;have R:=(d.cell (p:=⟨g,y*5+1,none⟩) i).trans I;have S:=(d.cell (p:=⟨g,y*5+2,none⟩) i).trans J;have T:=(d.cell (p:=⟨g,y*5+3,none⟩) i).trans L;have W:=(d.cell (p:=⟨g,y*5+4,none⟩) i).trans M;have o0:=bK (o:=0) l rfl;have o2:=bK (o:=2) l rfl;have o3:=bK (o:=3) l rfl;obtain⟨x0,x1,x2,x3⟩:=Lj r rfl rfl rfl rfl;have x4:=bK (o:=4) r rfl;have C:=eZ l;have n:=eZ r;have bf:=Nat.lt_of_lt_of_le B d.size;have bg:=Nat.lt_of_lt_of_le i d.size;clear A d l r c0 d0 d1 d2 d3 d4 H I J L M PA
  go_region_held3 (fun j=>j.cell? ⟨q,0,none⟩=some (.slice (some ⟨g,0,none⟩) h.length z)/\j.cell? ⟨g,y*5,none⟩=some (.pointer (some ⟨yb,0,none⟩))/\j.cell? ⟨g,y*5+1,none⟩=some (.string yt)/\j.cell? ⟨g,y*5+2,none⟩=some (.int .i64 ya)/\j.cell? ⟨g,y*5+3,none⟩=some (.int .i64 yo)/\j.cell? ⟨g,y*5+4,none⟩=some (.bool yk)/\j.cell? ⟨w.heap.size,2,none⟩=some (.int .i64 b)) (go_keep)
   ((go_at_call 6;refine(PB.out _).mono ?_;rintro e w2⟨rfl,rfl⟩))
  all_goals
   obtain⟨U,D⟩:∃U,U=(V.alloc (.cells #[.pointer (some ⟨yb,0,none⟩),.string yt,.int .i64 ya,.int .i64 yo,.bool yk] 31)).drew:=⟨_,rfl⟩
   rw[<-D]
   have f:Below V.heap.size V U:=by rw[D];exact((Below.refl V.heap.size V).alloc (Nat.le_refl _) _).trans ((pT _).mono (by simp))
   have s:U.heap[V.heap.size]?=some (.cells #[.pointer (some ⟨yb,0,none⟩),.string yt,.int .i64 ya,.int .i64 yo,.bool yk] 31 (0,0)):=by rw[D];exact jC _ _
   have F:=aL (v.out.below f);have p0:=(f.cell (p:=⟨w.heap.size,0,none⟩) C).trans o0;have p3:=(f.cell (p:=⟨w.heap.size,3,none⟩) C).trans o3;have u0:=(f.cell (p:=⟨w.heap.size+1,0,none⟩) n).trans x0;have u1:=(f.cell (p:=⟨w.heap.size+1,1,none⟩) n).trans x1;have u2:=(f.cell (p:=⟨w.heap.size+1,2,none⟩) n).trans x2;have u3:=(f.cell (p:=⟨w.heap.size+1,3,none⟩) n).trans x3;have u4:=(f.cell (p:=⟨w.heap.size+1,4,none⟩) n).trans x4;obtain⟨y0,y1,y2,y3⟩:=Lj s rfl rfl rfl rfl;have y4:=bK (o:=4) s rfl;clear D f s o0 o2 o3 x0 x1 x2 x3 x4 O P R S T W PB HI v;generalize V.heap.size=yy at*
   go_wp2_with fail
   go_ret
   exact⟨rfl,h,F.out,by omega⟩
theorem aNv (d w:World)(e:Nat)(g:List It)(k a b c:Int)(f:KInv d w e g)(o:oU d)(n:g.length<=3000000)(h:-9223372036854775808<=a)(i:a<=9223372036854775807)(j:-9223372036854775808<=b)(l:b<=9223372036854775807)(s:-9223372036854775808<=c)(u:c<=9223372036854775807):
  Calls prog 7 #[.pointer (some ⟨e,0,none⟩),Jk k a b c] w (iY d e g.length):=by
 by_cases k1:k=1
 ·subst k1;exact aP7 d w e g a b c f o n h i j l
 by_cases q:k=2
 ·subst q;exact aL6 d w e g a b c f o n h i j l
 cases g with
 |nil=>exact aOu d w e k a b c k1 q f
 |cons p r=>
  by_cases v:k=3
  ·subst v;exact aP9 d w e (p::r) a b c f o (by simp) n h i j l s u
  by_cases x:k=4
  ·subst x;exact aP8 d w e (p::r) a b c f o (by simp) n h i j l s u
  exact aL7 d w e (p::r) k a b c k1 q v x f (by simp) n h i j l
open Go.ChangeShapes Go.WideShapes Go.RowKit
open Go.Deep (open_slice choose_lt add_add)
abbrev Gu:=Int×Int×Int×Int
structure Wx (x:Gu):Prop where
 k0:-9223372036854775808<=x.1
 k1:x.1<=9223372036854775807
 a0:-9223372036854775808<=x.2.1
 a1:x.2.1<=9223372036854775807
 b0:-9223372036854775808<=x.2.2.1
 b1:x.2.2.1<=9223372036854775807
 c0:-9223372036854775808<=x.2.2.2
 c1:x.2.2.2<=9223372036854775807
structure ScrK (w:World) (v:Value) (l:List Gu):Prop where
 sl:∃ ao cap,v=.slice ao l.length cap/\l.length<=cap/\cap<=maxLen/\(l=[]\/∃ b off,ao=some ⟨b,off,none⟩/\∀ (i:Nat) (h:i<l.length),
  w.cell? ⟨b,off+i*4,none⟩=some (.int .i64 l[i].1)/\w.cell? ⟨b,off+i*4+1,none⟩=some (.int .i64 l[i].2.1)/\w.cell? ⟨b,off+i*4+2,none⟩=some (.int .i64 l[i].2.2.1)/\w.cell? ⟨b,off+i*4+3,none⟩=some (.int .i64 l[i].2.2.2))
 ok:∀x∈l,Wx x
theorem Ba:(prog.underlying 39).map (fun t=>match t with|.struct a=>a.toList.map (fun f=>(f.offset,f.type))|_=>[])=some [(0,3),(1,3),(2,3),(3,3)]:=by kernel_rfl
theorem wD:prog.cellsOf 39=4:=by kernel_rfl
theorem lT:prog.cellsOf 3=1:=by kernel_rfl
theorem Bb:∃a,prog.underlying 39=some (.struct a)/\a.toList.map (fun f=>(f.offset,f.type))=[(0,3),(1,3),(2,3),(3,3)]:=by
 have h:=Ba
 cases e:prog.underlying 39 with
 |none=>rw[e]at h;simp at h
 |some t=>
  rw[e]at h
  cases t<;>simp at h
  exact⟨_,rfl,h⟩
section
variable {H:Type} {enc:TypeId×Value->H} {w:World} {base:Nat} {spare:Nat->Bool} {held:Bool}
theorem aSy {n:Nat}{cs:List Value}{x:DataW H×List MemPlace}(h:DataW.trod enc prog w base spare held n 39 cs=some x):
  ∃s:Gu,cs=[.int .i64 s.1,.int .i64 s.2.1,.int .i64 s.2.2.1,.int .i64 s.2.2.2]/\Wx s:=by
 obtain⟨C,T,g⟩:=Bb;obtain⟨F,k,_,_,e,W,i⟩:=DataW.trod_struct T h;rw[wD]at e
 match cs,e with
 | [v0,v1,v2,v3],_=>
  have U:C.size=4:=by
   have:=congrArg List.length g
   simpa using this
  have d:∀(j:Nat) (o:Nat) (t:TypeId),[(0,3),(1,3),(2,3),(3,3)][j]?=some (o,t)->∃f,C[j]?=some f/\f.offset=o/\f.type=t:=by
   intro j o t l;rw[<-g]at l;simp only[List.getElem?_map,Option.map_eq_some_iff]at l;obtain⟨f,S,p⟩:=l;simp only[Prod.mk.injEq]at p;exact⟨f,by simpa using S,p.1,p.2⟩
  have val:∀j:Nat,j<4->∃y,F[j]?=some y:=fun j l=>⟨F[j],List.getElem?_eq_getElem (by omega)⟩
  obtain⟨f0,N,X,Y⟩:=d 0 0 3 rfl;obtain⟨f1,O,o1,t1⟩:=d 1 1 3 rfl;obtain⟨f2,P,o2,t2⟩:=d 2 2 3 rfl;obtain⟨f3,R,o3,t3⟩:=d 3 3 3 rfl;obtain⟨y0,I⟩:=val 0 (by omega);obtain⟨y1,J⟩:=val 1 (by omega);obtain⟨y2,L⟩:=val 2 (by omega);obtain⟨y3,M⟩:=val 3 (by omega);have k0:=i 0 f0 N;have k1:=i 1 f1 O;have D:=i 2 f2 P;have E:=i 3 f3 R;rw[X,Y,lT,I]at k0;rw[o1,t1,lT,J]at k1;rw[o2,t2,lT,L]at D;rw[o3,t3,lT,M]at E;obtain⟨a,v,_,wa⟩:=DataW.trod_int underlying3 k0;obtain⟨b,z,_,wb⟩:=DataW.trod_int underlying3 k1;obtain⟨c,A,_,wc⟩:=DataW.trod_int underlying3 D;obtain⟨s,B,_,ws⟩:=DataW.trod_int underlying3 E;simp at v z A B;subst v z A B;have q:=bounds_i64 wa;have r:=bounds_i64 wb;have u:=bounds_i64 wc;have bs:=bounds_i64 ws;exact⟨(a,b,c,s),rfl,⟨q.1,q.2,r.1,r.2,u.1,u.2,bs.1,bs.2⟩⟩
theorem aPI {n:Nat}{v:Value}{x:DataW H×List MemPlace}(h:DataW.trod enc prog w base spare held n 22 [v]=some x):∃l,ScrK w v l:=by
 rcases open_slice underlying22 h with⟨e,_⟩|⟨a,len,y,m,k,D,T,e,U,O,R,B,_,E⟩
 ·simp only[List.cons.injEq,and_true]at e;subst e;exact⟨[],⟨none,0,rfl,Nat.le_refl _,Nat.zero_le _,Or.inl rfl⟩,fun x E=>by cases E⟩
 ·simp only[List.cons.injEq,and_true]at e;subst e
  have P:len<=m:=by rw[B];split<;>omega
  have p:∀i,i<len->∃s:Gu,Wx s/\∀j u,[Value.int .i64 s.1,.int .i64 s.2.1,.int .i64 s.2.2.1,.int .i64 s.2.2.2][j]?=some u->w.cell? (a.add (i*4+j))=some u:=by
   intro i hi;obtain⟨L,I,M⟩:=E i (by omega);rw[wD]at I;obtain⟨_,d,g⟩:=World.cells?_some I;obtain⟨s,rfl,C⟩:=aSy M;refine⟨s,C,fun j u J=>?_⟩;have A:j<4:=(List.getElem?_eq_some_iff.1 J).1;rw[<-add_add,g j A];exact J
  obtain⟨f,z⟩:=choose_lt p
  have d:((List.range len).map f).length=len:=by simp
  refine⟨(List.range len).map f,⟨some a,y,by rw[d],by rw[d];exact O,R,?_⟩,?_⟩
  ·rcases Nat.eq_zero_or_pos len with h0|h0
   ·exact Or.inl (by rw[h0];rfl)
   ·right;obtain⟨b,F,r⟩:=a;have c0:=(z 0 h0).2 0 _ rfl
    have o:r=none:=by simpa[Addr.add]using World.cell?_spot c0
    subst o;refine⟨b,F,rfl,fun i hi=>?_⟩;rw[d]at hi
    have N:((List.range len).map f)[i]'(by rw[d];exact hi)=f i:=by simp
    rw[N];have q:=(z i hi).2;refine⟨?_,?_,?_,?_⟩
    ·simpa[add_plain,Nat.add_assoc]using q 0 _ rfl
    ·simpa[add_plain,Nat.add_assoc]using q 1 _ rfl
    ·simpa[add_plain,Nat.add_assoc]using q 2 _ rfl
    ·simpa[add_plain,Nat.add_assoc]using q 3 _ rfl
  ·intro s S;obtain⟨i,hi,rfl⟩:=List.mem_map.1 S;exact(z i (List.mem_range.1 hi)).1
end
theorem KInv.start (w:World):KInv w (w.alloc (.cells #[.slice none 0 0] 36)) w.heap.size []:=
 ⟨⟨_,jC _ _,World.ownsRow_nil _ _ _ _⟩,Nat.le_refl _,(fun p a=>by cases a),(Below.refl _ _).alloc (Nat.le_refl _) _,(fun p a=>by cases a)⟩
def Ds (w:World)(l:List Gu)(i:Value)(wr:World):Prop:=
 ∃(k:Nat) (a:List It),k<=l.length/\i=.int .i64 k/\a.length<=k/\KInv w wr w.heap.size a
def yY (w:World)(e:Ending)(b:World):Prop:=∃v,e=.returned (.tuple #[v,.bool true])/\Below w.heap.size w b/\∃a:List It,b.ownsRow w.heap.size 31 5 v a.length (dE a)/\a.length<=1048576/\(∀p∈a,ItOk p)/\∀p∈a,iO b p.1
theorem aPy (w:World)(v:Value)(l:List Gu)(h:ScrK w v l)(D:oU w):Calls prog 4 #[v] w (yY w):=by
 obtain⟨P,L,rfl,R,S,o⟩:=h.sl;have J:=aL D;clear D
 by_cases r:(l.length:Int)>1048576
 ·have T:(1048576<(l.length:Int))=True:=eq_true r
  go_enter func4,ntmps4
  go_wp2_with fail
  refine bodyPost_ret (v:=.tuple #[.slice none 0 0,.bool true]) (by simp[results,results4,go_sem]) rfl ?_;exact⟨_,rfl,(Below.refl _ _).alloc (Nat.le_refl _) _,[],World.ownsRow_nil _ _ _ _,by decide,(fun p u=>by cases u),(fun p u=>by cases u)⟩
 ·have W:l.length<=1048576:=by omega
  go_enter func4,ntmps4
  go_wp2_with fail
  go_loopw [13] (fun i wr=>Ds w l i wr) (fun i _=>l.length-(intOf i).toNat)
  case atStart=>exact⟨0,[],Nat.zero_le _,rfl,Nat.le_refl _,KInv.start w⟩
  case round=>
   obtain⟨k,n,U,rfl,M,d⟩:=hrel
   by_cases f:k<l.length
   ·rcases o with o|⟨b,O,rfl,o⟩
    ·rw[o]at f;simp at f
    have a:=aL (h.ok l[k] (List.getElem_mem f));obtain⟨c0,c1,c2,c3⟩:=o k f;generalize l[k]=x at*;obtain⟨N,A,B,C⟩:=x;simp only at c0 c1 c2 c3;have d0:=(d.zK.cell (He c0)).trans c0;have d1:=(d.zK.cell (He c1)).trans c1;have d2:=(d.zK.cell (He c2)).trans c2;have d3:=(d.zK.cell (He c3)).trans c3;have H:=aL d;clear o c0 c1 c2 c3 d
    go_wp2_with fail
    refine(aNv w _ w.heap.size n N A B C H.out J.out (by omega) a.out.a0 a.out.a1 a.out.b0 a.out.b1 a.out.c0 a.out.c1).mono ?_;rintro e X⟨rfl,z,q,E⟩;have s:=aL q;clear q d0 d1 d2 d3
    go_wp2_with fail
    go_roundw
    case rel=>exact⟨k+1,z,by omega,by simp,by omega,s.out⟩
    case measure=>simp[intOf];omega
   ·obtain rfl:k=l.length:=by omega
    obtain⟨y,g,j⟩:=d.cD;have c0:wr.cell? ⟨w.heap.size,0,none⟩=some y:=bK g rfl;have F:=aL d.zK;have I:=aL (show∃n:List It,wr.ownsRow w.heap.size 31 5 y n.length (dE n)/\n.length<=1048576/\(∀p∈n,ItOk p)/\∀p∈n,iO wr p.1 from⟨n,j,by omega,d.all,d.ex⟩);clear d g j
    go_wp2_with fail
    refine bodyPost_ret (v:=.tuple #[y,.bool true]) (by simp[results,results4,go_sem]) rfl ?_;exact⟨_,rfl,F.out,I.out⟩
open Ab
variable {n:World}
theorem iO.ex {b:Nat}(h:iO n b):∃T,ExAt n b T:=by
 obtain⟨T,a,d,i,k,j,e,_,_,f,g⟩:=h;cases e;exact⟨T,⟨i,j,f,g.2⟩,a,d⟩
theorem aPM {w:Nat}{z:Value}{b:List It}(h:n.ownsRow w 31 5 z b.length (dE b))(i:Nat)(hi:i<b.length):∃g d,z=.slice (some ⟨g,0,none⟩) b.length d/\n.cell? ⟨g,i*5,none⟩=some (.pointer (some ⟨b[i].1,0,none⟩))/\n.cell? ⟨g,i*5+1,none⟩=some (.string b[i].2.1)/\n.cell? ⟨g,i*5+2,none⟩=some (.int .i64 b[i].2.2.1)/\n.cell? ⟨g,i*5+3,none⟩=some (.int .i64 b[i].2.2.2.1)/\n.cell? ⟨g,i*5+4,none⟩=some (.bool b[i].2.2.2.2):=by
 have q:=h
 rcases h.2 with⟨_,e⟩|⟨g,d,p,rfl,_⟩
 ·omega
 ·obtain⟨a0,a1,k,l,o⟩:=aIc b i hi
  have a:∀j u,(dE b)[j]?=some u->n.cell? ⟨g,j,none⟩=some u:=fun j u r=>by
   have:=q.cells (g:=g) rfl j u r
   by_cases f:j=0
   ·subst f
    simpa[Addr.add]using this
   ·simpa[Addr.add,f]using this
  exact⟨g,d,rfl,a _ _ a0,a _ _ a1,a _ _ k,a _ _ l,a _ _ o⟩
theorem aLM (w:World)(v:Value)(l:List Gu)(h:ScrK w v l)(z:oU w)(a k:Int)(L:-9223372036854775808<=a)(M:a<=9223372036854775807)(N:-9223372036854775808<=k)(O:k<=9223372036854775807):
  Calls prog 3 #[v,.int .i64 a,.int .i64 k] w fun e X=>e=.returned (.bool true)/\Below w.heap.size w X:=by
 have D:=hid (aPy w v l h z);obtain⟨ao,q,rfl,_⟩:=h.sl;clear h z
 go_enter func3,ntmps3
 go_wp2_with fail
 refine(D.out).mono ?_;rintro e w2⟨lv,rfl,A,d,b,P,s,f⟩;have x:=hid A;clear A s
 by_cases S:d.length=0
 ·obtain⟨F,u,H,rfl⟩:=aGt b
  have r:u=0:=by
   rcases b.2 with⟨e,_⟩|⟨g,q,I,e,_⟩
   ·cases e;rfl
   ·cases e;exact S
  subst r;clear b f
  go_wp2_with fail
  go_ret
  exact⟨rfl,x.out⟩
 ·have E:=hid (fun w=>pB a d.length w L M (by omega) (by omega));have n:=tJ a d.length (by omega);generalize pickI a d.length=i at*;obtain⟨g,y,rfl,d0,d1,d2,d3,J⟩:=aPM b i n;obtain⟨T,B⟩:=(f d[i] (List.getElem_mem n)).ex;have C:=hid B;clear b f B;generalize d[i]=p at*;obtain⟨Y,t,lo,hi,W⟩:=p;simp only at d0 d1 d2 d3 J
  have U:¬(d.length:Int)=0:=by omega
  have R:(i:Int)<d.length:=by omega
  go_wp2_with fail
  refine(E.out _).mono ?_;rintro e w3⟨rfl,rfl⟩
  go_wp2_with fail
  refine(aJy _ Y T t lo hi k W C.out N O).mono ?_;rintro e w4⟨rfl,j⟩;have o:=hid j;clear j
  go_wp2_with fail
  go_ret
  exact⟨rfl,Mw x.out o.out⟩
open Go.ChangeShapes Go.WideShapes Go.ChangeAt Go.RowKit
theorem own:ownKnob prog.godebug=none:=by kernel_rfl
theorem laidOut:laidOutB prog=true:=by kernel_rfl
theorem aXY:prog.globalNamed "internal/strconv.uint64pow10"=some 0:=by kernel_rfl
theorem Af:(prog.globals[0]?).map (·.type)=some 181:=by kernel_rfl
theorem Bm:prog.underlying 181=some (.array 20 153):=by kernel_rfl
theorem Bl:prog.cellsOf 181=20:=by kernel_rfl
theorem Bq:prog.cellsOf 153=1:=by kernel_rfl
theorem Br:prog.underlying 153=some (.int .u64):=by kernel_rfl
theorem tE (h:laidMetH prog Rows.nestedRow.laid n):oU n:=
 Lib.tabIs_of_head (rest:=[]) aXY Af Bm Br Bq Bl (laidMet.tail (laidMet.tail h))
theorem nV (H:Type)(d:TypeId×Value->H)(W:World)(base:Nat)(args:Array Value)(u F:List (DataW H))(b:List MemPlace)
  (a:∀(j:Nat) t v,Tryz.f3.params[j]?=some t->args[j]?=some v->Value.okWide prog W .any base t v)
  (z:DataW.Whole d prog Tryz.f3.params.toList Rows.nestedSpec.vars false W args.toList u F b) (I:laidMetH prog Rows.nestedRow.laid W):
  Calls prog 3 args W fun e s=>∃v,e=.returned v/\Rows.nestedSpec.post d prog Tryz.f3 false true false false W args v s:=by
 have f:=z;obtain⟨p,q,g,J,rfl,N,P⟩:=z;have y:DataW.TrodAll d prog W 0 (fun _=>true) true Tryz.f3.params.toList args.toList u p:=g;rw[params3]at y a;obtain⟨X,Y,v2,d0,d1,d2,U,p1,p2,rfl,rfl,rfl,w,D,E⟩:=trodAll_three y;obtain⟨rfl,rfl⟩:=trodVars_none J;obtain⟨a0,len,n,rfl⟩:=okWide_slice underlying22 (a 0 22 X rfl rfl);obtain⟨S,rfl,rfl,rfl,B⟩:=open_int underlying3 (a 1 3 Y rfl rfl) D;obtain⟨T,rfl,rfl,rfl,C⟩:=open_int underlying3 (a 2 3 v2 rfl rfl) E;have o:=w;obtain⟨fuel,M⟩:=w;clear g;simp only[List.append_nil]at f
 have r:∀x∈U,x.block<W.heap.size:=fun x R=>by simpa using f.lt x R
 obtain⟨l,O⟩:=aPI (v:=.slice a0 len n) M;obtain⟨b1,i⟩:=bounds_i64 B;obtain⟨b2,k⟩:=bounds_i64 C
 refine(aLM W _ l O (tE I) S T b1 i b2 k).mono fun e s ⟨L,A⟩=>?_
 subst L;exact⟨_,rfl,_,_,_,[],_,[],f,trodAll_mk1 (shut_bool underlying4 _),trodAll_mk3 (Below.trod laidOut (by kernel_rfl) (of_decide_eq_true (by kernel_rfl)) o A r) (shut_int underlying3 B) (shut_int underlying3 C),rfl,A.frame _,fun h=>by cases h⟩
def putCells (a:Array Value):Obj->Obj
 |.cells _ t f=>.cells a t f
 |o=>o
def qR (w:World):World:=
 {w with heap:=((w.heap.modify 0 (putCells #[.int .u64 1,.int .u64 10,.int .u64 100,.int .u64 1000,.int .u64 10000,.int .u64 100000,.int .u64 1000000,.int .u64 10000000,.int .u64 100000000,.int .u64 1000000000,.int .u64 10000000000,.int .u64 100000000000,.int .u64 1000000000000,.int .u64 10000000000000,.int .u64 100000000000000,.int .u64 1000000000000000,.int .u64 10000000000000000,.int .u64 100000000000000000,.int .u64 1000000000000000000,.int .u64 10000000000000000000])).modify 1 (putCells #[.int .u8 0,.int .u8 1,.int .u8 28,.int .u8 2,.int .u8 29,.int .u8 14,.int .u8 24,.int .u8 3,.int .u8 30,.int .u8 22,.int .u8 20,.int .u8 15,.int .u8 25,.int .u8 17,.int .u8 4,.int .u8 8,.int .u8 31,.int .u8 27,.int .u8 13,.int .u8 23,.int .u8 21,.int .u8 19,.int .u8 16,.int .u8 7,.int .u8 26,.int .u8 12,.int .u8 18,.int .u8 6,.int .u8 11,.int .u8 5,.int .u8 10,.int .u8 9])).modify 2 (putCells #[.int .u8 0,.int .u8 1,.int .u8 56,.int .u8 2,.int .u8 57,.int .u8 49,.int .u8 28,.int .u8 3,.int .u8 61,.int .u8 58,.int .u8 42,.int .u8 50,.int .u8 38,.int .u8 29,.int .u8 17,.int .u8 4,.int .u8 62,.int .u8 47,.int .u8 59,.int .u8 36,.int .u8 45,.int .u8 43,.int .u8 51,.int .u8 22,.int .u8 53,.int .u8 39,.int .u8 33,.int .u8 30,.int .u8 24,.int .u8 18,.int .u8 12,.int .u8 5,.int .u8 63,.int .u8 55,.int .u8 48,.int .u8 27,.int .u8 60,.int .u8 41,.int .u8 37,.int .u8 16,.int .u8 46,.int .u8 35,.int .u8 44,.int .u8 21,.int .u8 52,.int .u8 32,.int .u8 23,.int .u8 11,.int .u8 54,.int .u8 26,.int .u8 40,.int .u8 15,.int .u8 34,.int .u8 20,.int .u8 31,.int .u8 10,.int .u8 25,.int .u8 14,.int .u8 19,.int .u8 9,.int .u8 13,.int .u8 8,.int .u8 7,.int .u8 6])}
theorem pH (os:Os):laidMet prog Rows.nestedRow.laid ((qR (World.holding prog os ⟨#[],#[],[]⟩)).forCall (fun _ _=>0) ⟨#[],#[.slice none 0 0,.int .i64 0,.int .i64 0],[]⟩).memory:=
 laidMet_of_run' 8 (by kernel_rfl) (by kernel_rfl)
theorem tB (os:Os){H:Type}(b:TypeId×Value->H):∃a,DataW.whole b prog ((qR (World.holding prog os ⟨#[],#[],[]⟩)).forCall (fun _ _=>0) ⟨#[],#[.slice none 0 0,.int .i64 0,.int .i64 0],[]⟩).memory Tryz.f3.params.toList Rows.nestedSpec.vars false #[Value.slice none 0 0,Value.int .i64 0,Value.int .i64 0].toList 8=some ([.nil,.lit (.int .i64 0),.lit (.int .i64 0)],[],a):=
 ⟨[],by kernel_rfl⟩
theorem qS (os:Os)(b:os.Started)(H:Type)(a:TypeId×Value->H)(F:Stop.Interp):
  ReturnsInHanded {} Tryz.checked os 3 .any ((OpenSpec.ofChange Rows.nestedSpec).preRow a prog Tryz.f3 Rows.nestedRow.domain false Rows.nestedRow.laid) (((OpenSpec.ofChange Rows.nestedSpec).at F).post a prog Tryz.f3 false true false false):=by
 obtain⟨f,n⟩:=tB os a
 refine returnsInHanded_of_row (C:=Tryz.checked) (s:=OpenSpec.ofChange Rows.nestedSpec) own b (by kernel_rfl) func3
  (witness_row_at (enc:=a) (C:=Tryz.checked) false (qR (World.holding prog os ⟨#[],#[],[]⟩)) #[.slice none 0 0,.int .i64 0,.int .i64 0] rfl (by kernel_rfl) (by kernel_rfl) (by kernel_rfl)
   (OpenSpec.preRow_of_cond 8 n (by kernel_rfl) (fun k l=>by cases l) (by kernel_rfl) (pH os))) ?_
 intro W base args g h d e j _ _ _ i _ _;exact nV H a W base args g h d e j i
theorem uR:Rows.NestedSaid:=
 OpenClaim.holds_of_cond 3 Tryz.f3 rfl rfl rfl rfl rfl rfl rfl ⟨rfl,rfl,rfl,rfl,rfl⟩ rfl rfl rfl rfl rfl (by kernel_rfl) func3 (by kernel_rfl)
  (of_decide_eq_true (by kernel_rfl)) (by unfold Func.isWrapper;first|(rw[if_pos (by decide +kernel)];kernel_rfl)|(rw[if_neg (by decide +kernel)];exact⟨rfl,rfl⟩))
  (fun os a H b _ F=>by rw[OpenClaim.pre_eq_preRow];exact qS os a H b F)
theorem sX (f:FuncId)(fn:Func)(hf:Tryz.pinned.checked.prog.funcNamed "reals/realskeep.Nested"=some f)(hfn:Tryz.pinned.checked.prog.funcs[f]?=some fn):
  false=Tryz.pinned.checked.prog.looks []/\∀(j:Nat) t,fn.params[j]?=some t->Tryz.pinned.checked.prog.wantsStandIn t=false:=by
 obtain rfl:f=3:=Option.some.inj ((show prog.funcNamed "reals/realskeep.Nested"=some 3 by kernel_rfl).symm.trans hf) |>.symm
 obtain rfl:fn=Tryz.f3:=(Option.some.inj (func3.symm.trans hfn)).symm;refine⟨by kernel_rfl,fun j t ht=>?_⟩;rw[params3]at ht
 have hm:t=22\/t=3:=by have:=Array.mem_of_getElem? ht;simp at this;rcases this with h|h<;>simp[h]
 rcases hm with rfl|rfl
 ·exact(show prog.wantsStandIn 22=false by kernel_rfl)
 ·exact(show prog.wantsStandIn 3=false by kernel_rfl)
theorem nested_holds:Rows.NestedCardSaid:=
 Claim7.holds_tied_plain_at .later [] _ _ _ _ uR (fun _ h=>by cases h) (by kernel_rfl) (fun _ h=>by cases h) nested_row_tie rfl ⟨rfl,rfl⟩ (by kernel_rfl) rfl sX (by kernel_rfl)
end Go.Proofs.YtkmojpfpfoaloaaGreatDoor
